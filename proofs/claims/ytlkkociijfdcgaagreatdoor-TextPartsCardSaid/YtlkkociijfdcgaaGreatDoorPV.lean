/-
  Opening the arguments of package text's laws: a place in a word.
-/
import Derived.Test.YtlkkociijfdcgaaGreatDoorPM
namespace Go.Proofs.YtlkkociijfdcgaaGreatDoor
open Go.ChangeShapes Go.WideShapes Go.Deep Go.Joins Go.RowKit
set_option maxRecDepth 100000
section
variable {H : Type} {enc : TypeId × Value → H} {w : World}
theorem cellsPlace : Tryz.prog.cellsOf 104 = 2 := by kernel_rfl
theorem open_place {r : Reach} {b0 : Nat} {v : Value} {d : DataW H} {p : List MemPlace} (hv : Value.okWide Tryz.prog w r b0 104 v) (h : DataW.Trod enc Tryz.prog w 0 (fun _ => true) true 104 v d p) :
    ∃ (s : ByteArray) (x : Int), v = .agg #[.string s, .int .i64 x] ∧ s.size ≤ maxLen := by
  obtain ⟨v0, v1, y0, y1, n, rfl, _, _, h0, h1⟩ := open_agg2 Tryz.underlying104 (by kernel_rfl) cellsPlace hv h
  obtain ⟨s0, e0, _, z0⟩ := DataW.trod_string Tryz.underlying9 h0
  obtain ⟨x, e1, _⟩ := DataW.trod_int Tryz.underlying3 h1
  simp only [List.cons.injEq, and_true] at e0 e1
  subst e0
  subst e1
  exact ⟨s0, x, rfl, z0⟩
end
end Go.Proofs.YtlkkociijfdcgaaGreatDoor
