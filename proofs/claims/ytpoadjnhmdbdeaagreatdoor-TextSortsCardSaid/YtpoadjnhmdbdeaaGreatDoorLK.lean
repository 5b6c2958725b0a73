/-
  The closed facts of the row of TextSorts, one by one.
-/
import Derived.Test.YtpoadjnhmdbdeaaGreatDoorGX
import Derived.JoinedCond
namespace Go.Proofs.YtpoadjnhmdbdeaaGreatDoor
open Go.ChangeShapes Go.WideShapes Go.ChangeAt Go.RowKit
set_option maxHeartbeats 4000000 in
theorem sorts_facts : joinedFacts Tryz.pinned.checked.prog 6 Tryz.f6 (OpenSpec.ofChange Rows.textSortsSpec).bare Rows.textSortsRow = true := by
  unfold joinedFacts
  repeat' (with_reducible refine band ?_ ?_)
  all_goals (as_aux_lemma => kernel_rfl)
end Go.Proofs.YtpoadjnhmdbdeaaGreatDoor
