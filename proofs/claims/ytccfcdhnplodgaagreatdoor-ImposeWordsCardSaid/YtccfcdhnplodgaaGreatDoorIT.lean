/-
  Package impose: FirstMisplaced, the program's and the reference's; copies of lists of numbers.
-/
import Derived.Test.YtccfcdhnplodgaaGreatDoorIS
namespace Go.Proofs.YtccfcdhnplodgaaGreatDoor
open Go.RowKit

def outO (x : Int) : Bool := !inB x 0 4000
def misI : List Int → Int → Int × Int
  | [], _ => (0, 12)
  | x :: L, i => if x ≠ i then (i, 0) else misI L (i + 1)
def orderE (L : List Int) : Int × Int := if inB L.length 1 4000 = false then (0, 10) else if L.any outO = true then (0, 2) else misI L 0
theorem any_step {α : Type} {p : α → Bool} {L : List α} {k : Nat} (hk : k < L.length) : (L.drop k).any p = (p L[k] || (L.drop (k + 1)).any p) := by
  rw [List.drop_eq_getElem_cons hk]; rfl
theorem any_stop {α : Type} {p : α → Bool} {L : List α} {k : Nat} (hk : ¬ k < L.length) : (L.drop k).any p = false := by
  rw [List.drop_of_length_le (by omega)]; rfl
theorem misI_stop {L : List Int} {k : Nat} (hk : k < L.length) (h : L[k] ≠ (k : Int)) : misI (L.drop k) k = ((k : Int), 0) := by
  rw [List.drop_eq_getElem_cons hk]; unfold misI; rw [if_pos h]
theorem misI_go {L : List Int} {k : Nat} (hk : k < L.length) (h : L[k] = (k : Int)) : misI (L.drop k) k = misI (L.drop (k + 1)) ((k + 1 : Nat) : Int) := by
  rw [List.drop_eq_getElem_cons hk]
  show (if _ then _ else _) = _
  rw [if_neg (by simp [h])]; rfl
theorem misI_end {L : List Int} {k : Nat} (hk : ¬ k < L.length) : misI (L.drop k) k = (0, 12) := by
  rw [List.drop_of_length_le (by omega)]; rfl
end Go.Proofs.YtccfcdhnplodgaaGreatDoor
