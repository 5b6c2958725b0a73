/-
  Package impose: turned pages; copies and reversals of leaves; leaves that are turned.
-/
import Derived.Test.YtnpehnfcccdcbaaGreatDoorIE
namespace Go.Proofs.YtnpehnfcccdcbaaGreatDoor
open Go.RowKit

def xr (a b : Int) : Int := if a = b then 0 else 1
def Bit (a : Int) : Prop := a = 0 ∨ a = 1
theorem xr_bit (a b : Int) : Bit (xr a b) := by unfold xr Bit; split <;> omega
theorem bits_xor {a b : Int} (ha : Bit a) (hb : Bit b) : bits BinOp.xor IntKind.i64 a b = xr a b := by
  rcases ha with rfl | rfl <;> rcases hb with rfl | rfl <;> decide +kernel
/-- A copy of a slice. -/
def ClonePost {α : Type} (n : Nat) (E : TypeId) (g : α → List Int) (w : World) (L : List α) (e : Ending) (w' : World) : Prop := ∃ v, e = .returned v ∧ OwnR n E g w' w.heap.size v L ∧ Below w.heap.size w w'
set_option maxRecDepth 100000 in
set_option maxHeartbeats 1000000 in
theorem cloneLeaf_any (a : Option Addr) (L : List Leaf) (c : Nat) (w : World) (hL : RowsAt 4 Leaf.l w a L) (hl : L.length ≤ 1000000) (hn : a = none → c = 0) :
    Calls Tryz.prog 84 #[.slice a L.length c] w (ClonePost 4 93 Leaf.l w L) := by
  cases a with
  | none =>
    have hL0 := hL.drop_none
    subst hL0
    have hc := hn rfl
    subst hc
    have q : ∀ (w : World) (a : Option Addr) (n c n' c' : Nat), (binOp .eql 85 (.slice a n c) (.slice none n' c')).run Tryz.prog w = .ok (.bool a.isNone) w := fun w a n c n' c' => Lib.run_eql_slice_nil w 85 93 a n c n' c' Tryz.underlying85
    go_enter Tryz.func84, Tryz.ntmps84
    go_wp2
    go_ret
    exact ⟨_, rfl, OwnR.nil _ _, Below.refl _ _⟩
  | some ad =>
    have hm := World.ownsRow_made (e := 93) (size := 4) (base := w.heap.size) w #[] 0 (Nat.le_refl _) (Nat.zero_le _) rfl
    have hown : OwnR 4 93 Leaf.l (w.alloc (.cells #[] 93)) w.heap.size (.slice (some ⟨w.heap.size, 0, none⟩) 0 0) [] := hm
    have hB := (Below.refl w.heap.size w).alloc (Nat.le_refl _) (.cells #[] 93)
    have HL := Lib.hid (hL.alloc (.cells #[] 93))
    clear hm hL
    have q : ∀ (w : World) (a : Option Addr) (n c n' c' : Nat), (binOp .eql 85 (.slice a n c) (.slice none n' c')).run Tryz.prog w = .ok (.bool a.isNone) w := fun w a n c n' c' => Lib.run_eql_slice_nil w 85 93 a n c n' c' Tryz.underlying85
    go_enter Tryz.func84, Tryz.ntmps84
    go_wp2_with (at_builtin; refine wpList_appL tLeaf leaf_l _ rfl _ _ rfl w.heap.size _ [] rfl hown (some ad) L c rfl HL.out (fun e => by cases e) (by simp) hl (by simp) ?_; intro v' w' hown' hg' hB' hor')
    go_ret
    exact ⟨_, rfl, hown', hB.trans hB'⟩

theorem flat_set {α : Type} {n : Nat} {g : α → List Int} (hg : ∀ x, (g x).length = n) (x' : α) (y : Int) : ∀ (L : List α) (k j : Nat) (hk : k < L.length), j < n → g x' = (g L[k]).set j y → (L.flatMap g).set (k * n + j) y = (L.set k x').flatMap g
  | [], _, _, hk, _, _ => absurd hk (Nat.not_lt_zero _)
  | x :: L, 0, j, _, hj, h => by
    rw [List.set_cons_zero, List.flatMap_cons, List.flatMap_cons, Nat.zero_mul, Nat.zero_add, List.set_append_left _ _ (by rw [hg x]; exact hj), h]; rfl
  | x :: L, k + 1, j, hk, hj, h => by
    rw [List.set_cons_succ, List.flatMap_cons, List.flatMap_cons, List.set_append_right _ _ (by rw [hg x, Nat.succ_mul]; omega), hg x, show (k + 1) * n + j - n = k * n + j by rw [Nat.succ_mul]; omega,
      flat_set hg x' y L k j (by simpa using hk) hj h]
theorem own_cell {w : World} {base e n size g c : Nat} {xs : List Value} (h : w.ownsRow base e size (.slice (some ⟨g, 0, none⟩) n c) n xs) (j : Nat) (u : Value) : (w.setCell ⟨g, j, none⟩ u).ownsRow base e size (.slice (some ⟨g, 0, none⟩) n c) n (xs.set j u) := by
  rcases h.2 with ⟨e1, _⟩ | ⟨g', cap, cur, e1, h1, h2, h3, h4, h5, h6⟩
  · cases e1
  · cases e1
    refine ⟨by rw [List.length_set]; exact h.1, Or.inr ⟨g, c, cur.setIfInBounds j u, rfl, h1, heap_setCell_same w g j cur e u h2, h3, h4, by rw [Array.size_setIfInBounds]; exact h5, ?_⟩⟩
    rw [Array.toList_setIfInBounds, List.take_set, h6]
/-- A store of one number into a row of the call's own. -/
theorem OwnR.put {α : Type} {n : Nat} {E : TypeId} {g : α → List Int} {w : World} {B b m c : Nat} {L : List α} (h : OwnR n E g w B (.slice (some ⟨b, 0, none⟩) m c) L) (hg : ∀ x, (g x).length = n) (hm : m = L.length) {k j : Nat} (hk : k < L.length) (hj : j < n) (x' : α) (y : Int) (hx : g x' = (g L[k]).set j y) :
    OwnR n E g (w.setCell ⟨b, k * n + j, none⟩ (.int .i64 y)) B (.slice (some ⟨b, 0, none⟩) m c) (L.set k x') := by
  subst hm
  have h1 := own_cell (n := L.length) h (k * n + j) (.int .i64 y)
  unfold OwnR
  rw [List.length_set, ← flat_set hg x' y L k j hk hj hx]
  unfold vals
  rw [List.map_set]
  exact h1
theorem OwnR.block {α : Type} {n : Nat} {E : TypeId} {g : α → List Int} {w : World} {B b m c : Nat} {L : List α} (h : OwnR n E g w B (.slice (some ⟨b, 0, none⟩) m c) L) : ∃ cur, w.heap[b]? = some (.cells cur E (0, 0)) := by
  rcases h.2 with ⟨e1, _⟩ | ⟨g', cap, cur, e1, h1, h2, _⟩
  · cases e1
  · cases e1; exact ⟨cur, h2⟩
theorem OwnR.free {α : Type} {n : Nat} {E : TypeId} {g : α → List Int} {w : World} {B b m c : Nat} {L : List α} (h : OwnR n E g w B (.slice (some ⟨b, 0, none⟩) m c) L) (j : Nat) : w.frozen? ⟨b, j, none⟩ = false := by
  obtain ⟨cur, hc⟩ := h.block
  simp [World.frozen?, hc]
theorem OwnR.put4 {E : TypeId} {w : World} {B b m c : Nat} {M : List Leaf} (h : OwnR 4 E Leaf.l w B (.slice (some ⟨b, 0, none⟩) m c) M) (hm : m = M.length) {k : Nat} (hk : k < M.length) (x : Leaf) :
    OwnR 4 E Leaf.l ((((w.setCell ⟨b, k * 4, none⟩ (.int .i64 x.c)).setCell ⟨b, k * 4 + 1, none⟩ (.int .i64 x.r)).setCell ⟨b, k * 4 + 2, none⟩ (.int .i64 x.o)).setCell ⟨b, k * 4 + 3, none⟩ (.int .i64 x.t)) B (.slice (some ⟨b, 0, none⟩) m c) (M.set k x) := by
  have h1 := h.put leaf_l hm hk (j := 0) (by decide) ⟨x.c, M[k].r, M[k].o, M[k].t⟩ x.c rfl
  have h2 := h1.put leaf_l (by rw [List.length_set]; exact hm) (by rw [List.length_set]; exact hk) (j := 1) (by decide) ⟨x.c, x.r, M[k].o, M[k].t⟩ x.r (by rw [List.getElem_set_self]; rfl)
  rw [List.set_set] at h2
  have h3 := h2.put leaf_l (by rw [List.length_set]; exact hm) (by rw [List.length_set]; exact hk) (j := 2) (by decide) ⟨x.c, x.r, x.o, M[k].t⟩ x.o (by rw [List.getElem_set_self]; rfl)
  rw [List.set_set] at h3
  have h4 := h3.put leaf_l (by rw [List.length_set]; exact hm) (by rw [List.length_set]; exact hk) (j := 3) (by decide) x x.t (by rw [List.getElem_set_self]; rfl)
  rw [List.set_set] at h4
  exact h4
/-- The form of a slice of the call's own that is not empty. -/
theorem OwnR.form {α : Type} {n : Nat} {E : TypeId} {g : α → List Int} {w : World} {B : Nat} {v : Value} {L : List α} (h : OwnR n E g w B v L) (hp : 0 < L.length) : ∃ b c, v = .slice (some ⟨b, 0, none⟩) L.length c ∧ B ≤ b ∧ b < w.heap.size := World.ownsRow.form h hp
end Go.Proofs.YtnpehnfcccdcbaaGreatDoor
