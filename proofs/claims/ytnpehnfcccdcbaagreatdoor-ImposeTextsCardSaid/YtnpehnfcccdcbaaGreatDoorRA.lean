/-
  Package tympanref06: folded sheets in memory.
-/
import Derived.Test.YtnpehnfcccdcbaaGreatDoorI7
namespace Go.Proofs.YtnpehnfcccdcbaaGreatDoor
open Go.RowKit

theorem cell_block {w w' : World} {p : Addr} (h : w'.heap[p.block]? = w.heap[p.block]?) : w'.cell? p = w.cell? p := by
  unfold World.cell?; rw [h]
/-- A row of leaves: what it reads, and that its block holds leaves. -/
def LRow (w : World) (x : PS) : Prop := RowsAt 4 Leaf.l w x.a x.l ∧ (x.a = none → x.c = 0) ∧ ∀ ad, x.a = some ad → ∃ (cs : Array Value) (fr : Nat × Nat), w.heap[ad.block]? = some (Obj.cells cs 93 fr)
theorem LRow.keep {w w' : World} {x : PS} (h : LRow w x) (hk : ∀ (b : Nat) (cs : Array Value) (fr : Nat × Nat), w.heap[b]? = some (Obj.cells cs 93 fr) → w'.heap[b]? = w.heap[b]?) : LRow w' x := by
  obtain ⟨h1, h2, h3⟩ := h
  refine ⟨fun k hk2 => ?_, h2, fun ad e => ?_⟩
  · obtain ⟨ad, e, hlt, hs⟩ := h1 k hk2
    obtain ⟨cs, fr, hb⟩ := h3 ad e
    have hq := hk _ _ _ hb
    refine ⟨ad, e, heap_lt (hq.trans hb), fun j hj => ?_⟩
    exact (cell_block (by rw [fld_block, add_block]; exact hq)).trans (hs j hj)
  · obtain ⟨cs, fr, hb⟩ := h3 ad e
    exact ⟨cs, fr, (hk _ _ _ hb).trans hb⟩
theorem LRow.below {w w' : World} {x : PS} (h : LRow w x) (hb : Below w.heap.size w w') : LRow w' x := h.keep fun b _ _ e => hb.block b (heap_lt e)
theorem LRow.alloc {w : World} {x : PS} (h : LRow w x) (o : Obj) : LRow (w.alloc o) x := h.below ((Below.refl _ _).alloc (Nat.le_refl _) o)
theorem LRow.set {w : World} {x : PS} (h : LRow w x) {b : Nat} {cs : Array Value} {T : TypeId} {fr : Nat × Nat} (hb : w.heap[b]? = some (.cells cs T fr)) (hT : T ≠ 93) (j : Nat) (u : Value) : LRow (w.setCell ⟨b, j, none⟩ u) x :=
  h.keep fun q _ _ e => Below.heap_setCell _ _ _ _ (fun e2 => by
    have e2 : q = b := e2
    subst e2; rw [hb] at e; injection e with e; injection e with _ e; exact hT e)
theorem own_block {w : World} {B E size n : Nat} {v : Value} {xs : List Value} (h : w.ownsRow B E size v n xs) : ∀ q, v.ownBlock = some q → ∃ cs, w.heap[q]? = some (.cells cs E (0, 0)) := fun q e => by
  rcases h.2 with ⟨f1, _⟩ | ⟨gg, cap, cur, f1, _, f3, _⟩
  · rw [f1] at e; cases e
  · rw [f1] at e
    have e : gg = q := Option.some.inj e
    subst e
    exact ⟨_, f3⟩
theorem LRow.grown {w w' : World} {x : PS} (h : LRow w x) {B E size n : Nat} {v : Value} {xs : List Value} (ho : w.ownsRow B E size v n xs) (hE : E ≠ 93) (hg : w.grownBy w' v.ownBlock) : LRow w' x :=
  h.keep fun b _ _ e => hg.block b (heap_lt e) (fun e2 => by
    obtain ⟨cs2, h2⟩ := own_block ho b e2.symm
    rw [h2] at e; injection e with e; injection e with _ e; exact hE e)
theorem OwnR.lrow {w : World} {B m : Nat} {a : Option Addr} {c : Nat} {L : List Leaf} (h : OwnR 4 93 Leaf.l w B (.slice a m c) L) : m = L.length ∧ LRow w ⟨a, c, L⟩ := by
  obtain ⟨a', c', e, hr, -, -, hn, -⟩ := h.rows leaf_l
  injection e with e1 e2 e3
  subst e1 e2 e3
  refine ⟨rfl, hr, hn, fun ad e => ?_⟩
  have e : a = some ad := e
  subst e
  obtain ⟨cs, hb⟩ := own_block h ad.block rfl
  exact ⟨cs, _, hb⟩
/-- The places of a folded sheet, read. -/
def HeapAt (w : World) (A : Option Addr) (Ps : List PS) : Prop :=
  (∀ k (hk : k < Ps.length), ∃ ad, A = some ad ∧ ad.block < w.heap.size ∧ w.cell? (ad.add k) = some Ps[k].sl) ∧ ∀ x ∈ Ps, LRow w x
theorem HeapAt.below {w w' : World} {A : Option Addr} {Ps : List PS} (h : HeapAt w A Ps) (hb : Below w.heap.size w w') : HeapAt w' A Ps :=
  ⟨fun k hk => by
    obtain ⟨ad, e, hlt, hc⟩ := h.1 k hk
    exact ⟨ad, e, Nat.lt_of_lt_of_le hlt hb.size, (hb.cell (by rw [add_block]; exact hlt)).trans hc⟩, fun x hx => (h.2 x hx).below hb⟩
theorem HeapAt.alloc {w : World} {A : Option Addr} {Ps : List PS} (h : HeapAt w A Ps) (o : Obj) : HeapAt (w.alloc o) A Ps := h.below ((Below.refl _ _).alloc (Nat.le_refl _) o)
section
variable {B : Nat} {Ps : List PS} {v : Value} {w w1 w2 : World}
end
theorem BoxAt.grow {w w' : World} {b : Nat} {cs : Array Value} {T : TypeId} (h : BoxAt w b cs T) {B E size n : Nat} {v : Value} {xs : List Value} (ho : w.ownsRow B E size v n xs) (hE : E ≠ T) (hg : w.grownBy w' v.ownBlock) : BoxAt w' b cs T :=
  h.grown hg fun e => by
    obtain ⟨c2, h2⟩ := own_block ho b e.symm
    rw [h] at h2; injection h2 with h2; injection h2 with _ h2; exact hE h2.symm
def turnR (o t : Int) (L : List Leaf) : List Leaf := (L.map (turnX o t)).reverse
theorem turnR_len (o t : Int) (L : List Leaf) : (turnR o t L).length = L.length := by simp [turnR]
theorem turnR_one (t : Int) (L : List Leaf) : turnR 1 t L = turnL 1 t L := by unfold turnR turnL; rw [if_pos rfl]
theorem xr_zero {a : Int} (h : Bit a) : xr a 0 = a := by rcases h with rfl | rfl <;> decide
theorem turnR_two (t : Int) (L : List Leaf) : turnR 0 0 (turnR 0 t L) = turnL 0 t L := by
  unfold turnR turnL
  rw [if_neg (by decide), List.map_reverse, List.reverse_reverse, List.map_map]
  apply List.map_congr_left
  intro x _
  show turnX 0 0 (turnX 0 t x) = turnX 0 t x
  unfold turnX
  simp only [xr_zero (xr_bit _ _)]
theorem turnR_bits {o t : Int} {L : List Leaf} : ∀ x ∈ turnR o t L, LeafBits x := by
  intro x hx
  have hx : x ∈ L.map (turnX o t) := by unfold turnR at hx; simpa using hx
  obtain ⟨y, _, rfl⟩ := List.mem_map.1 hx
  exact ⟨xr_bit _ _, xr_bit _ _⟩
theorem bits_mod {a b : Int} (ha : Bit a) (hb : Bit b) : (a + b).tmod 2 = xr a b := by rcases ha with rfl | rfl <;> rcases hb with rfl | rfl <;> decide
theorem turnR_succ {o t : Int} {L : List Leaf} {j : Nat} (hj : j < L.length) : ((L.drop (j + 1)).map (turnX o t)).reverse ++ [turnX o t L[j]] = ((L.drop j).map (turnX o t)).reverse := by
  rw [List.drop_eq_getElem_cons hj, List.map_cons, List.reverse_cons]
end Go.Proofs.YtnpehnfcccdcbaaGreatDoor
