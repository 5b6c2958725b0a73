/-
  Marked words: the reference's reading of them, byte by byte.
-/
import Derived.Test.YtomblajlpanmjaaGreatDoorV6
import Derived.Test.YtomblajlpanmjaaGreatDoorW3
namespace Go.Proofs.YtomblajlpanmjaaGreatDoor
open Go.RowKit Go.Maps

end Go.Proofs.YtomblajlpanmjaaGreatDoor
/-
  The reference's readMarked.
-/
namespace Go.Proofs.YtomblajlpanmjaaGreatDoor
open Go.RowKit Go.Maps

end Go.Proofs.YtomblajlpanmjaaGreatDoor

namespace Go.Proofs.YtomblajlpanmjaaGreatDoor
open Go.RowKit Go.Maps

def TRow (w : World) (base : Nat) (v : Value) (l : List ByteArray) : Prop := w.ownsRow base 9 1 v l.length (txs l)
theorem TRow.shape {w : World} {base : Nat} {v : Value} {l : List ByteArray} (h : TRow w base v l) : ∃ (A : Option Addr) (c : Nat), v = .slice A l.length c ∧ TextsAt w A l ∧ l.length ≤ c ∧ (A = none → c = 0) := by
  have h' := h
  rcases h.2 with ⟨e1, e2⟩ | ⟨g, cap, cur, e1, _, _, hc, _⟩
  · exact ⟨none, 0, by rw [e1, e2], fun k hk => by omega, by omega, fun _ => rfl⟩
  · subst e1
    exact ⟨_, cap, rfl, texts_of_row h', by omega, fun e => (by cases e)⟩
theorem TRow.below {w w' : World} {base : Nat} {v : Value} {l : List ByteArray} (h : TRow w base v l) (hb : Below w.heap.size w w') : TRow w' base v l := own_below h hb
end Go.Proofs.YtomblajlpanmjaaGreatDoor
