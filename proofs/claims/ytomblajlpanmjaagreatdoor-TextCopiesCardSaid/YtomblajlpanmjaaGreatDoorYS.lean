/-
  Comparing numbers; sorting by insertion, as plain lists.
-/
import Derived.Test.YtomblajlpanmjaaGreatDoorZB
import Derived.Test.YtomblajlpanmjaaGreatDoorZD
namespace Go.Proofs.YtomblajlpanmjaaGreatDoor
open Go.RowKit Go.Maps

/-- Block g is just the row of the numbers L. -/
def RowX (w : World) (g : Nat) (L : List Int) : Prop := w.heap[g]? = some (.cells (vals L).toArray 3 (0, 0))
theorem RowX.cell {w : World} {g : Nat} {L : List Int} (h : RowX w g L) {j : Nat} (hj : j < L.length) : w.cell? ⟨g, j, none⟩ = some (.int .i64 (L.getD j 0)) := by
  rw [cell_of_row w g j _ _ (0, 0) h]
  rw [List.getElem?_toArray]; exact vals_at hj
theorem RowX.frozen {w : World} {g : Nat} {L : List Int} (h : RowX w g L) (j : Nat) : w.frozen? ⟨g, j, none⟩ = false := by
  unfold RowX at h; simp [World.frozen?, h]
theorem RowX.drewN {w : World} {g : Nat} {L : List Int} (h : RowX w g L) (n : Nat) : RowX (w.drewN n) g L := h
theorem RowX.drew {w : World} {g : Nat} {L : List Int} (h : RowX w g L) : RowX w.drew g L := h
theorem RowX.set_ {w : World} {g : Nat} {L : List Int} (h : RowX w g L) (j : Nat) (v : Int) : RowX (w.setCell ⟨g, j, none⟩ (.int .i64 v)) g (L.set j v) := by
  unfold RowX at h ⊢
  have e : (vals (L.set j v)).toArray = (vals L).toArray.setIfInBounds j (.int .i64 v) := by
    unfold vals; rw [List.map_set]; simp
  rw [e]
  simp [World.setCell, Array.getElem?_modify, h]
end Go.Proofs.YtomblajlpanmjaaGreatDoor
/-
  The library's insertion sort over numbers of values, the greatest values first.
-/
namespace Go.Proofs.YtomblajlpanmjaaGreatDoor
open Go.RowKit Go.Maps

/-- What the sort finds all along: all but the row g is as it was. -/
structure SortEnv (w : World) (g : Nat) (bp rp : Addr) (V : List Int) (d : Nat) (wr : World) : Prop where
  grown : w.grownBy wr (some g)
  box : wr.cell? bp = some (.slice (some rp) V.length d)
  vals : IntsAt wr (some rp) V
theorem grownBy_drewN {w wr : World} {r : Option Nat} (h : w.grownBy wr r) (n : Nat) : w.grownBy (wr.drewN n) r := ⟨h.os, h.tape, h.output, h.size, h.block⟩
theorem grownBy_set {w wr : World} {g : Nat} (h : w.grownBy wr (some g)) (j : Nat) (u : Value) : w.grownBy (wr.setCell ⟨g, j, none⟩ u) (some g) :=
  ⟨h.os, h.tape, h.output, by simpa [World.setCell] using h.size, fun k hk hne => (Below.heap_setCell wr ⟨g, j, none⟩ u k (fun e => hne (by rw [e]))).trans (h.block k hk hne)⟩
theorem SortEnv.drewN {w wr : World} {g : Nat} {bp rp : Addr} {V : List Int} {d : Nat} (h : SortEnv w g bp rp V d wr) (n : Nat) : SortEnv w g bp rp V d (wr.drewN n) := ⟨grownBy_drewN h.grown n, h.box, h.vals⟩
theorem SortEnv.set_ {w wr : World} {g : Nat} {bp rp : Addr} {V : List Int} {d : Nat} (h : SortEnv w g bp rp V d wr) (hb : bp.block ≠ g) (hr : rp.block ≠ g) (j : Nat) (u : Value) : SortEnv w g bp rp V d (wr.setCell ⟨g, j, none⟩ u) := by
  refine ⟨grownBy_set h.grown j u, ?_, fun k hk => ?_⟩
  · rw [World.cell?_setCell_other _ _ _ _ (fun e => hb (by rw [← e]))]; exact h.box
  · obtain ⟨ad, e, hlt, hc⟩ := h.vals k hk
    cases e
    exact ⟨rp, rfl, by simpa [World.setCell] using hlt, by rw [World.cell?_setCell_other _ _ _ _ (fun e => hr (by rw [← add_block rp k, ← e]))]; exact hc⟩

end Go.Proofs.YtomblajlpanmjaaGreatDoor

/-
  The numbers of values, those of the greatest ones first.
-/
namespace Go.Proofs.YtomblajlpanmjaaGreatDoor
open Go.RowKit Go.Maps

theorem cell_lt' {w : World} {p : Addr} {v : Value} (h : w.cell? p = some v) : p.block < w.heap.size := World.block_lt_of_cell? w p h
theorem RowX.ints {w : World} {g : Nat} {L : List Int} (h : RowX w g L) : IntsAt w (some ⟨g, 0, none⟩) L := by
  intro k hk
  refine ⟨_, rfl, ?_, ?_⟩
  · have := cell_lt' (h.cell hk); exact this
  · rw [add0]; exact h.cell hk
end Go.Proofs.YtomblajlpanmjaaGreatDoor

/-
  Sharing a total out in proportion to a need.
-/
namespace Go.Proofs.YtomblajlpanmjaaGreatDoor
open Go.RowKit Go.Maps

theorem Own.far {w : World} {g n : Nat} {fn : Nat → Int} {k : Nat} (h : Own w g n fn k) {p : Addr} (hp : g ≠ p.block) (u : Value) : Own (w.setCell p u) g n fn k := by
  obtain ⟨cs, h1, h2⟩ := h
  exact ⟨cs, (Below.heap_setCell w p u g hp).trans h1, h2⟩
theorem Own.below {w w' : World} {g n : Nat} {fn : Nat → Int} {k : Nat} (h : Own w g n fn k) (hb : Below w.heap.size w w') : Own w' g n fn k := by
  have hlt := h.lt
  obtain ⟨cs, h1, h2⟩ := h
  exact ⟨cs, (hb.block g hlt).trans h1, h2⟩
theorem RowX.far {w : World} {g : Nat} {L : List Int} (h : RowX w g L) {p : Addr} (hp : g ≠ p.block) (u : Value) : RowX (w.setCell p u) g L := (Below.heap_setCell w p u g hp).trans h
theorem RowX.lt {w : World} {g : Nat} {L : List Int} (h : RowX w g L) : g < w.heap.size := by
  unfold RowX at h
  rcases Nat.lt_or_ge g w.heap.size with hlt | hge
  · exact hlt
  · rw [Array.getElem?_eq_none hge] at h; cases h
theorem RowX.below {w w' : World} {g : Nat} {L : List Int} (h : RowX w g L) (hb : Below w.heap.size w w') : RowX w' g L := by
  have hlt : g < w.heap.size := by
    unfold RowX at h
    rcases Nat.lt_or_ge g w.heap.size with hlt | hge
    · exact hlt
    · rw [Array.getElem?_eq_none hge] at h; cases h
  exact (hb.block g hlt).trans h

end Go.Proofs.YtomblajlpanmjaaGreatDoor

/-
  A bill for a need.
-/
namespace Go.Proofs.YtomblajlpanmjaaGreatDoor
open Go.RowKit Go.Maps

end Go.Proofs.YtomblajlpanmjaaGreatDoor

/-
  The mathematics of a bill: as many sorts as its total, none below 0, its metal, how often a need can be taken from bills.
-/
namespace Go.Proofs.YtomblajlpanmjaaGreatDoor
open Go.RowKit Go.Maps

section
variable {l : List Int} {total : Int} {n : Nat}
end

end Go.Proofs.YtomblajlpanmjaaGreatDoor

/-
  The law on bills and casting: its walk.
-/
namespace Go.Proofs.YtomblajlpanmjaaGreatDoor
open Go.RowKit Go.Maps

end Go.Proofs.YtomblajlpanmjaaGreatDoor
