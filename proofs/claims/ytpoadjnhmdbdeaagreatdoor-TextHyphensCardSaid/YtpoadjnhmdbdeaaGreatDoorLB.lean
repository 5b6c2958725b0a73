/-
  The closed facts of the row of TextHyphens, one by one.
-/
import Derived.Test.YtpoadjnhmdbdeaaGreatDoorGX
import Derived.JoinedCond
namespace Go.Proofs.YtpoadjnhmdbdeaaGreatDoor
open Go.ChangeShapes Go.WideShapes Go.ChangeAt Go.RowKit
set_option maxHeartbeats 4000000 in
theorem hyphens_facts : joinedFacts Tryz.pinned.checked.prog 11 Tryz.f11 (OpenSpec.ofChange Rows.textHyphensSpec).bare Rows.textHyphensRow = true := by
  unfold joinedFacts
  repeat' (with_reducible refine band ?_ ?_)
  all_goals (as_aux_lemma => kernel_rfl)
end Go.Proofs.YtpoadjnhmdbdeaaGreatDoor
