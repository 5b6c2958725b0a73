/-
  Package impose: places with their leaves in memory, read and under way; what a fold makes of them.
-/
import Derived.Test.YtnpehnfcccdcbaaGreatDoorIH
namespace Go.Proofs.YtnpehnfcccdcbaaGreatDoor
open Go.RowKit

/-- A place: where its leaves lie, the capacity, the leaves. -/
structure PS where
  a : Option Addr
  c : Nat
  l : List Leaf
def PS.sl (x : PS) : Value := .slice x.a x.l.length x.c
def noPS : PS := ⟨none, 0, []⟩
def PlacesAt (w : World) (A : Option Addr) (Ps : List PS) : Prop :=
  ∀ k (hk : k < Ps.length), ∃ ad, A = some ad ∧ ad.block < w.heap.size ∧ w.cell? (ad.add k) = some Ps[k].sl ∧ RowsAt 4 Leaf.l w Ps[k].a Ps[k].l ∧ (Ps[k].a = none → Ps[k].c = 0)
theorem PlacesAt.below {w w' : World} {A : Option Addr} {Ps : List PS} (h : PlacesAt w A Ps) (hb : Below w.heap.size w w') : PlacesAt w' A Ps := fun k hk => by
  obtain ⟨ad, e, hlt, hc, hr, hn⟩ := h k hk
  exact ⟨ad, e, Nat.lt_of_lt_of_le hlt hb.size, (hb.cell (by rw [add_block]; exact hlt)).trans hc, hr.below hb, hn⟩
theorem PlacesAt.alloc {w : World} {A : Option Addr} {Ps : List PS} (h : PlacesAt w A Ps) (o : Obj) : PlacesAt (w.alloc o) A Ps := h.below ((Below.refl _ _).alloc (Nat.le_refl _) o)
/-- The places, and all their leaves, lie from block B on. -/
def FromB (B : Nat) (A : Option Addr) (Ps : List PS) : Prop := (∀ ad, A = some ad → B ≤ ad.block) ∧ ∀ x ∈ Ps, ∀ ad, x.a = some ad → B ≤ ad.block
theorem PlacesAt.set {w : World} {A : Option Addr} {Ps : List PS} {B b : Nat} (h : PlacesAt w A Ps) (hf : FromB B A Ps) (hb : b < B) (j : Nat) (u : Value) : PlacesAt (w.setCell ⟨b, j, none⟩ u) A Ps := fun k hk => by
  obtain ⟨ad, e, hlt, hc, hr, hn⟩ := h k hk
  refine ⟨ad, e, by rw [World.size_setCell]; exact hlt, ?_, hr.set (p := ⟨b, j, none⟩) (fun ad' e' => by have := hf.2 _ (List.getElem_mem hk) ad' e'; show ad'.block ≠ b; omega) u, hn⟩
  rw [World.cell?_setCell_other _ _ _ _ (fun e2 => by have h1 := congrArg Addr.block e2; rw [add_block] at h1; have h2 := hf.1 ad e; have h1 : b = ad.block := h1; omega)]
  exact hc
/-- Places under way: their row is block g, the rows of their leaves are all one's own. -/
structure Grid (B g : Nat) (Ps : List PS) (w : World) : Prop where
  row : w.heap[g]? = some (.cells (Ps.map PS.sl).toArray 85 (0, 0))
  own : ∀ x ∈ Ps, OwnR 4 93 Leaf.l w B x.sl x.l
  apart : ∀ i j (hi : i < Ps.length) (hj : j < Ps.length), i ≠ j → ∀ q, Ps[i].sl.ownBlock = some q → Ps[j].sl.ownBlock ≠ some q
  hg : B ≤ g
theorem heap_lt {w : World} {b : Nat} {o : Obj} (h : w.heap[b]? = some o) : b < w.heap.size := by
  rcases Nat.lt_or_ge b w.heap.size with hlt | hge
  · exact hlt
  · rw [Array.getElem?_eq_none hge] at h; cases h
theorem leaf_line : (93 : TypeId) ≠ 85 := by decide
theorem OwnR.off {α : Type} {n : Nat} {E : TypeId} {g : α → List Int} {w : World} {B : Nat} {v : Value} {L : List α} (h : OwnR n E g w B v L) {b : Nat} {T : TypeId} {cs : Array Value} {fr : Nat × Nat} (hb : w.heap[b]? = some (.cells cs T fr)) (hne : E ≠ T) : v.ownBlock ≠ some b := by
  rcases h.2 with ⟨e1, _⟩ | ⟨q, cap, cur, e1, _, e3, _⟩
  · rw [e1]; intro h; cases h
  · rw [e1]
    intro hh
    have : q = b := by simpa [Value.ownBlock] using hh
    subst this
    rw [hb] at e3
    injection e3 with e3
    injection e3 with _ e5
    exact hne e5.symm
section
variable {B g : Nat} {Ps : List PS} {w w1 w2 : World}
theorem Grid.lt (h : Grid B g Ps w) : g < w.heap.size := heap_lt h.row
theorem Grid.cell (h : Grid B g Ps w) {j : Nat} (hj : j < Ps.length) : w.cell? ⟨g, j, none⟩ = some Ps[j].sl := by
  rw [cell_of_row w g j _ _ (0, 0) h.row]; simp [hj]
theorem Grid.free (h : Grid B g Ps w) (j : Nat) : w.frozen? ⟨g, j, none⟩ = false := by simp [World.frozen?, h.row]
theorem Grid.below (h : Grid B g Ps w) (hb : Below w.heap.size w w1) : Grid B g Ps w1 := ⟨(hb.block g h.lt).trans h.row, fun x hx => (h.own x hx).below hb, h.apart, h.hg⟩
theorem Grid.places (h : Grid B g Ps w) : PlacesAt w (some ⟨g, 0, none⟩) Ps := fun k hk => by
  have hown := h.own _ (List.getElem_mem hk)
  obtain ⟨a, c, e, hr, _, _, hn, _⟩ := hown.rows leaf_l
  have e : (.slice Ps[k].a Ps[k].l.length Ps[k].c : Value) = .slice a Ps[k].l.length c := e
  injection e with e1 _ e3
  exact ⟨_, rfl, h.lt, by rw [add0]; exact h.cell hk, by rw [e1]; exact hr, by rw [e1, e3]; exact hn⟩
theorem sl_rows {x : PS} (h : OwnR 4 93 Leaf.l w B (PS.sl x) x.l) : RowsAt 4 Leaf.l w x.a x.l ∧ (x.a = none → x.c = 0) := by
  obtain ⟨a, c, e, hr, _, _, hn, _⟩ := h.rows leaf_l
  have e : (.slice x.a x.l.length x.c : Value) = .slice a x.l.length c := e
  injection e with e1 _ e3
  exact ⟨by rw [e1]; exact hr, by rw [e1, e3]; exact hn⟩
theorem Grid.start (hB : B ≤ w.heap.size) (n : Nat) : Grid B w.heap.size (List.replicate n noPS) (w.alloc (.cells (madeCells #[.slice none 0 0] n) 85)) := by
  refine ⟨?_, fun x hx => ?_, fun i j hi hj _ q e => ?_, hB⟩
  · rw [heap_alloc_new w]
    congr 2
    apply Array.ext'
    simp [madeCells, noPS, PS.sl, Nat.mod_one]
    apply List.ext_getElem
    · simp
    · intro i h1 h2; simp
  · rw [(List.mem_replicate.1 hx).2]; exact OwnR.nil _ _
  · rw [List.getElem_replicate] at e; cases e
theorem sl_from {w : World} {x : PS} (h : OwnR 4 93 Leaf.l w B (PS.sl x) x.l) : ∀ ad, x.a = some ad → B ≤ ad.block := fun ad e => by
  have := (h.lt ad.block (by unfold PS.sl; rw [e]; rfl)).1
  exact this
theorem Grid.fromB (h : Grid B g Ps w) : FromB B (some ⟨g, 0, none⟩) Ps := ⟨fun ad e => (by cases e; exact h.hg), fun x hx => sl_from (h.own x hx)⟩
/-- A store into a block ahead. -/
theorem Grid.set (h : Grid B g Ps w) {b : Nat} (hb : b < B) (j : Nat) (u : Value) : Grid B g Ps (w.setCell ⟨b, j, none⟩ u) := by
  have := h.hg
  refine ⟨(Below.heap_setCell _ _ _ _ (by show g ≠ b; omega)).trans h.row, fun x hx => (h.own x hx).set (p := ⟨b, j, none⟩) (fun e => ?_) u, h.apart, h.hg⟩
  have := ((h.own x hx).lt b e).1
  omega
/-- One place is set anew. -/
theorem Grid.put (h : Grid B g Ps w) (hb : Below w.heap.size w w1) {row : Option Nat} (hg : w1.grownBy w2 row) {j : Nat} (hj : j < Ps.length) (hrow : row = Ps[j].sl.ownBlock ∨ ∀ q, row = some q → w.heap.size ≤ q)
    {x : PS} (hx : OwnR 4 93 Leaf.l w2 B x.sl x.l) (hxb : ∀ q, x.sl.ownBlock = some q → Ps[j].sl.ownBlock = some q ∨ w.heap.size ≤ q) : Grid B g (Ps.set j x) (w2.setCell ⟨g, j, none⟩ x.sl) := by
  have h1 := h.below hb
  have hgr : some g ≠ row := fun e => by
    rcases hrow with hr | hr
    · exact (h1.own _ (List.getElem_mem hj)).off h1.row leaf_line (by rw [← hr, e])
    · have := hr g e.symm; have := h.lt; omega
  have r2 : w2.heap[g]? = _ := (hg.block g h1.lt hgr).trans h1.row
  refine ⟨?_, fun y hy => ?_, fun i k hi hk hne q e1 e2 => ?_, h.hg⟩
  · rw [heap_setCell_same w2 g j _ _ _ r2, List.map_set]
    simp
  · have hoff : ∀ y : PS, OwnR 4 93 Leaf.l w2 B y.sl y.l → OwnR 4 93 Leaf.l (w2.setCell ⟨g, j, none⟩ x.sl) B y.sl y.l := fun y hy => hy.set (p := ⟨g, j, none⟩) (hy.off r2 leaf_line) _
    obtain ⟨i, hi, rfl⟩ := List.getElem_of_mem hy
    rw [List.getElem_set]
    split
    · exact hoff _ hx
    · rename_i hij
      have hi' : i < Ps.length := by simpa using hi
      refine hoff _ ((h1.own _ (List.getElem_mem hi')).grown hg (fun q e e2 => ?_))
      rcases hrow with hr | hr
      · exact h.apart i j hi' hj (fun e => hij e.symm) q e (by rw [← hr, ← e2])
      · have a1 := hr q e2.symm; have a2 := ((h.own _ (List.getElem_mem hi')).lt q e).2; omega
  · have hi' : i < Ps.length := by simpa using hi
    have hk' : k < Ps.length := by simpa using hk
    rw [List.getElem_set] at e1 e2
    by_cases c1 : j = i
    · rw [if_pos c1] at e1
      rw [if_neg (by omega)] at e2
      rcases hxb q e1 with hh | hh
      · exact h.apart j k hj hk' (by omega) q hh e2
      · have := ((h.own _ (List.getElem_mem hk')).lt q e2).2; omega
    · rw [if_neg c1] at e1
      by_cases c2 : j = k
      · rw [if_pos c2] at e2
        rcases hxb q e2 with hh | hh
        · exact h.apart j i hj hi' c1 q hh e1
        · have := ((h.own _ (List.getElem_mem hi')).lt q e1).2; omega
      · rw [if_neg c2] at e2
        exact h.apart i k hi' hk' hne q e1 e2
end
end Go.Proofs.YtnpehnfcccdcbaaGreatDoor
