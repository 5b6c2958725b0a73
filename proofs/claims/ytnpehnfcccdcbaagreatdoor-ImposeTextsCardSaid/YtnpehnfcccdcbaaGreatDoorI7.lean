/-
  The law on turned sheets: its walk.
-/
import Derived.Test.YtnpehnfcccdcbaaGreatDoorKB
import Derived.Test.YtnpehnfcccdcbaaGreatDoorIW
import Derived.Test.YtnpehnfcccdcbaaGreatDoorKD
namespace Go.Proofs.YtnpehnfcccdcbaaGreatDoor
open Go.RowKit

theorem pile_n (C R : Int) (a : Option Addr) (n : Nat) (L : List Fold) (c : Nat) (w : World) (hn : n = L.length) (hL : RowsAt 2 Fold.l w a L) (hl : L.length ≤ maxLen) (hI : ∀ x ∈ L, OkI x.c) :
    Calls Tryz.prog 32 #[.agg #[.int .i64 C, .int .i64 R], .slice a n c] w (PilePost w C R L) := by
  subst hn; exact pile_any C R a L c w hL hl hI
theorem new_fold (w : World) (x : Fold) : OwnR 2 98 Fold.l (w.alloc (.cells #[.int .i64 x.k, .int .i64 x.c] 98)) w.heap.size (.slice (some ⟨w.heap.size, 0, none⟩) 1 1) [x] :=
  ⟨rfl, Or.inr ⟨w.heap.size, 1, _, rfl, Nat.le_refl _, heap_alloc_new w _, Nat.le_refl _, by unfold maxLen; decide, rfl, rfl⟩⟩
/-- The folds of the sheet turned round, as far as they are made. -/
def roundTo (L : List Fold) (j : Nat) : List Fold := Fold.mk 6 0 :: (L.take j).map swapK
theorem roundTo_len (L : List Fold) {j : Nat} (hj : j ≤ L.length) : (roundTo L j).length = j + 1 := by unfold roundTo; simp; omega
theorem roundTo_succ {L : List Fold} {j : Nat} (hj : j < L.length) : roundTo L j ++ [swapK L[j]] = roundTo L (j + 1) := by
  unfold roundTo
  rw [List.take_succ_eq_append_getElem hj, List.map_append]; rfl
theorem roundTo_end {L : List Fold} {j : Nat} (hj : ¬ j < L.length) : roundTo L j ++ [Fold.mk 6 0] = ⟨6, 0⟩ :: L.map swapK ++ [⟨6, 0⟩] := by
  unfold roundTo
  rw [List.take_of_length_le (by omega)]
theorem roundTo_ok {L : List Fold} {j : Nat} (h : ∀ z ∈ L, OkI z.c) : ∀ z ∈ roundTo L j ++ [Fold.mk 6 0], OkI z.c := by
  have h0 : OkI 0 := (by decide : (Lit.int .i64 0).wf = true)
  intro z hz
  rcases List.mem_append.1 hz with hz | hz
  · rcases List.mem_cons.1 hz with rfl | hz
    · exact h0
    · obtain ⟨u, hu, rfl⟩ := List.mem_map.1 hz
      exact h u (List.mem_of_mem_take hu)
  · rw [List.mem_singleton.1 hz]; exact h0
theorem wpList_appH {α : Type} {n by_ : Nat} {ST E : TypeId} {z : Value} {g : α → List Int} (T : ElT n by_ ST E z) (hg : ∀ x, (g x).length = n) {ops : Array Oper} {rest : List Oper} {o : Oper} {a : Act} {Q : Exit → Act → World → Prop} (w0 : World) (x : α) (cs : Array Value) (hcs : cs = (vals (g x)).toArray) (hgd : o.guard = none) (s xo : Operand)
    (ho : o.op = .call { callee := .builtin .append, args := #[s, xo], argTypes := #[ST, ST] }) (B : Nat) (v : Value) (L : List α) (hs : a.eval s = v) (hown : OwnR n E g w0 B v L) (H : Nat) (hH : w0.heap.size = H)
    (hx : a.eval xo = .slice (some ⟨H, 0, none⟩) 1 1) (hl : L.length ≤ 1000000) (hB : B ≤ w0.heap.size)
    (h : ∀ gg c w', OwnR n E g w' B (.slice (some ⟨gg, 0, none⟩) (L.length + 1) c) (L ++ [x]) → w0.grownBy w' v.ownBlock → Below B w0 w' → wpList Tryz.prog ops Q rest (a.put o.dst (.slice (some ⟨gg, 0, none⟩) (L.length + 1) c)) w') :
    wpList Tryz.prog ops Q (o :: rest) a (w0.alloc (.cells cs E)) := by
  subst hH
  exact wpList_appX T hg w0 x cs hcs hgd s xo ho B v L hs hown hx hl hB h
end Go.Proofs.YtnpehnfcccdcbaaGreatDoor
