/-
  Rules in memory of their own.
-/
import Derived.Test.YtomblajlpanmjaaGreatDoorW3
import Derived.Test.YtomblajlpanmjaaGreatDoorQY
import Derived.Deep.CutRange
import Derived.Deep.RegionLaw
namespace Go.Proofs.YtomblajlpanmjaaGreatDoor
open Go.RowKit Go.Maps

theorem own_low2 {w w' : World} {base e n size : Nat} {v : Value} {xs : List Value} (h : w.ownsRow base e size v n xs) (hb : Below w.heap.size w w') : w'.ownsRow base e size v n xs := by
  rcases h.2 with ⟨e1, e2⟩ | ⟨g, cap, cur, e1, e2, e3, e4⟩
  · exact ⟨h.1, Or.inl ⟨e1, e2⟩⟩
  · exact ⟨h.1, Or.inr ⟨g, cap, cur, e1, e2, (hb.block g (heap_lt e3)).trans e3, e4⟩⟩
end Go.Proofs.YtomblajlpanmjaaGreatDoor
