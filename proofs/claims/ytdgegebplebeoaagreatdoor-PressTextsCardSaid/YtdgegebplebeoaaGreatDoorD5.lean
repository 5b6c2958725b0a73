/-
  The closed facts of the row of PressTexts, one by one.
-/
import Derived.Test.YtdgegebplebeoaaGreatDoorD4
import Derived.JoinedCond
namespace Go.Proofs.YtdgegebplebeoaaGreatDoor
open Go.ChangeShapes Go.WideShapes Go.ChangeAt Go.RowKit
theorem band {a b : Bool} (ha : a = true) (hb : b = true) : (a && b) = true := by rw [ha, hb]; rfl
set_option maxHeartbeats 4000000 in
theorem pt_facts : joinedFacts Tryz.pinned.checked.prog 3 Tryz.f3 (OpenSpec.ofChange Rows.pressTextsSpec).bare Rows.pressTextsRow = true := by
  unfold joinedFacts
  repeat' (with_reducible refine band ?_ ?_)
  all_goals (as_aux_lemma => kernel_rfl)
end Go.Proofs.YtdgegebplebeoaaGreatDoor
