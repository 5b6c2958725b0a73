/-
  Hyphens: the hyphens of a word.
-/
import Derived.Test.YtomblajlpanmjaaGreatDoorVZ
import Derived.Test.YtomblajlpanmjaaGreatDoorZXA
import Derived.Test.YtomblajlpanmjaaGreatDoorZ6
import Derived.Test.YtomblajlpanmjaaGreatDoorZ5
import Derived.Test.YtomblajlpanmjaaGreatDoorZQR
import Derived.Test.YtomblajlpanmjaaGreatDoorW9
namespace Go.Proofs.YtomblajlpanmjaaGreatDoor
open Go.RowKit Go.Maps Go.Shelf

end Go.Proofs.YtomblajlpanmjaaGreatDoor
/-
  One more exception, one more pattern: the mathematics.
-/
namespace Go.Proofs.YtomblajlpanmjaaGreatDoor
open Go.RowKit Go.Maps Go.Shelf

end Go.Proofs.YtomblajlpanmjaaGreatDoor

/-
  law02.rulesErr; what the calls of TextExceptions return.
-/
namespace Go.Proofs.YtomblajlpanmjaaGreatDoor
open Go.RowKit Go.Maps Go.Shelf

end Go.Proofs.YtomblajlpanmjaaGreatDoor
