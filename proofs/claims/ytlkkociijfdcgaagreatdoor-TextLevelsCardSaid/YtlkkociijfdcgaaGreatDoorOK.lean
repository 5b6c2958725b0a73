/-
  Opening a number.
-/
import Derived.Test.YtlkkociijfdcgaaGreatDoorJ3
namespace Go.Proofs.YtlkkociijfdcgaaGreatDoor
open Go.ChangeShapes Go.WideShapes Go.Deep Go.Joins Go.RowKit
set_option maxRecDepth 100000
theorem open_number {w : World} {r : Reach} {b0 : Nat} {v : Value} (hv : Value.okWide Tryz.prog w r b0 3 v) : ∃ x : Int, v = .int .i64 x := by
  obtain ⟨x, rfl⟩ := okWide_int Tryz.underlying3 hv
  exact ⟨x, rfl⟩
end Go.Proofs.YtlkkociijfdcgaaGreatDoor
