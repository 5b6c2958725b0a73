/-
  The closed facts of the row of TextWords, one by one.
-/
import Derived.Test.YtpoadjnhmdbdeaaGreatDoorGX
import Derived.JoinedCond
namespace Go.Proofs.YtpoadjnhmdbdeaaGreatDoor
open Go.ChangeShapes Go.WideShapes Go.ChangeAt Go.RowKit
set_option maxHeartbeats 4000000 in
theorem words_facts : joinedFacts Tryz.pinned.checked.prog 8 Tryz.f8 (OpenSpec.ofChange Rows.textWordsSpec).bare Rows.textWordsRow = true := by
  unfold joinedFacts
  repeat' (with_reducible refine band ?_ ?_)
  all_goals (as_aux_lemma => kernel_rfl)
end Go.Proofs.YtpoadjnhmdbdeaaGreatDoor
