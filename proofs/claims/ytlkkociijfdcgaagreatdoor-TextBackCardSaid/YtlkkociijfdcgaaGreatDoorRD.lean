/-
  The closed facts of the row of TextBack, one by one.
-/
import Derived.Test.YtlkkociijfdcgaaGreatDoorGX
import Derived.JoinedCond
namespace Go.Proofs.YtlkkociijfdcgaaGreatDoor
open Go.ChangeShapes Go.WideShapes Go.ChangeAt Go.RowKit
set_option maxHeartbeats 4000000 in
theorem back_facts : joinedFacts Tryz.pinned.checked.prog 14 Tryz.f14 (OpenSpec.ofChange Rows.textBackSpec).bare Rows.textBackRow = true := by
  unfold joinedFacts
  repeat' (with_reducible refine band ?_ ?_)
  all_goals (as_aux_lemma => kernel_rfl)
end Go.Proofs.YtlkkociijfdcgaaGreatDoor
