/-
  The reference's readPattern.
-/
import Derived.Test.YtomblajlpanmjaaGreatDoorZXA
import Derived.Test.YtomblajlpanmjaaGreatDoorQY
import Derived.Deep.CutRange
import Derived.Test.YtomblajlpanmjaaGreatDoorW6
namespace Go.Proofs.YtomblajlpanmjaaGreatDoor
open Go.RowKit Go.Maps

structure FRel (w : World) (I : ByteArray) (L : List Int) (wr : World) : Prop where
  loc : ∃ v, wr.heap[w.heap.size + 1]? = some (.cells #[.string I, v] 124 (0, 0)) ∧ IRow wr w.heap.size v L
  res : wr.heap[w.heap.size]? = some (.cells #[.string ⟨#[]⟩, .slice none 0 0] 124 (0, 0))
  low : Below w.heap.size w wr
theorem FRel.push {w w5 : World} {I S : ByteArray} {L : List Int} {v : Value} {gg cap5 m : Nat} {n : Int} (hb5 : w5.heap[w.heap.size + 1]? = some (.cells #[.string I, v] 124 (0, 0)))
    (hres5 : w5.heap[w.heap.size]? = some (.cells #[.string ⟨#[]⟩, .slice none 0 0] 124 (0, 0))) (hB5 : Below w.heap.size w w5) (hm : m = L.length)
    (hown5 : w5.ownsRow w.heap.size 3 1 (.slice (some ⟨gg, 0, none⟩) (m + 1) cap5) (m + 1) (vals L ++ [.int .i64 n])) :
    FRel w S (L ++ [n]) ((w5.setCell ⟨w.heap.size + 1, 0, none⟩ (.string S)).setCell ⟨w.heap.size + 1, 1, none⟩ (.slice (some ⟨gg, 0, none⟩) (m + 1) cap5)) := by
  have h6 := heap_set2 hb5 0 (.string S)
  have h7 := heap_set2 h6 1 (.slice (some ⟨gg, 0, none⟩) (m + 1) cap5)
  have o7 := own_put (own_put hown5 hb5 (by decide) 0 (.string S)) h6 (by decide) 1 (.slice (some ⟨gg, 0, none⟩) (m + 1) cap5)
  refine ⟨⟨_, h7, ?_⟩, ?_, (hB5.setCell (by show w.heap.size ≤ w.heap.size + 1; omega) _).setCell (by show w.heap.size ≤ w.heap.size + 1; omega) _⟩
  · unfold IRow
    rw [List.length_append, ← hm]
    have e : vals (L ++ [n]) = vals L ++ [.int .i64 n] := by unfold vals; rw [List.map_append]; rfl
    rw [e]
    exact o7
  · rw [Below.heap_setCell _ _ _ _ (by show w.heap.size ≠ w.heap.size + 1; omega), Below.heap_setCell _ _ _ _ (by show w.heap.size ≠ w.heap.size + 1; omega)]
    exact hres5
/-- What a walk wants to know of it. -/
structure FKnow (w : World) (I : ByteArray) (L : List Int) (wr : World) (A : Option Addr) (m c : Nat) : Prop where
  hb : wr.heap[w.heap.size + 1]? = some (.cells #[.string I, .slice A m c] 124 (0, 0))
  hres : wr.heap[w.heap.size]? = some (.cells #[.string ⟨#[]⟩, .slice none 0 0] 124 (0, 0))
  hm : m = L.length
  hI : wr.ownsRow w.heap.size 3 1 (.slice A m c) m (vals L)
  low : Below w.heap.size w wr
theorem FKnow.post {w wr : World} {I : ByteArray} {L : List Int} {A : Option Addr} {m c : Nat} (h : FKnow w I L wr A m c) : IRow ((wr.setCell ⟨w.heap.size, 0, none⟩ (.string I)).setCell ⟨w.heap.size, 1, none⟩ (.slice A m c)) w.heap.size (.slice A m c) L := by
  have h6 := heap_set2 h.hres 0 (.string I)
  have o := own_put (own_put h.hI h.hres (by decide) 0 (.string I)) h6 (by decide) 1 (.slice A m c)
  unfold IRow
  rw [← h.hm]
  exact o
theorem FKnow.drewN {w wr : World} {I : ByteArray} {L : List Int} {A : Option Addr} {m c : Nat} (h : FKnow w I L wr A m c) (n : Nat) : FKnow w I L (wr.drewN n) A m c := ⟨h.hb, h.hres, h.hm, h.hI, below_drewN h.low n⟩
end Go.Proofs.YtomblajlpanmjaaGreatDoor
