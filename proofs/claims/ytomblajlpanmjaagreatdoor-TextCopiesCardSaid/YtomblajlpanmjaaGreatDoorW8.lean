/-
  The rules of the examples; the examples.
-/
import Derived.Test.YtomblajlpanmjaaGreatDoorW7
import Derived.Test.YtomblajlpanmjaaGreatDoorVZ
namespace Go.Proofs.YtomblajlpanmjaaGreatDoor
open Go.RowKit Go.Maps Go.Shelf

def houseP : List ByteArray := [⟨#[97, 49, 98]⟩, ⟨#[50, 98, 108]⟩, ⟨#[98, 51, 108]⟩]
def houseB : List ByteArray := [⟨#[115, 104, 101, 108, 102, 124, 102, 117, 108]⟩]
def houseR (a1 : Option Addr) (c1 : Nat) (a2 : Option Addr) (c2 : Nat) : RU := ⟨⟨a1, c1, houseP⟩, ⟨none, 0, []⟩, ⟨a2, c2, houseB⟩, 2, 2⟩
def shelfful : ByteArray := ⟨#[115, 104, 101, 108, 102, 102, 117, 108]⟩
def table : ByteArray := ⟨#[116, 97, 98, 108, 101]⟩
def ffl : ByteArray := ⟨#[102, 102, 108]⟩
def awakeL (a1 : Option Addr) (c1 : Nat) (a2 : Option Addr) (c2 : Nat) : List LN := [⟨1, a1, c1, [0, 1, 7]⟩, ⟨1, a2, c2, [9, 0, 12, 3]⟩]
section
variable (a1 : Option Addr) (c1 : Nat) (a2 : Option Addr) (c2 : Nat)
theorem ex3 : ruleErr (houseR a1 c1 a2 c2) table = 0 := by kernel_rfl
theorem ex4 : hyText table (ruleHyph (houseR a1 c1 a2 c2) table) = ⟨#[116, 97, 98, 45, 108, 101]⟩ := by kernel_rfl
theorem ex5 : sortsErr longWay faceF (houseR a1 c1 a2 c2) shelfful = 0 := by kernel_rfl
theorem ex6 : longWay.S (wordP faceF none 0 (houseR a1 c1 a2 c2) shelfful 0 shelfful.size) = some [5, 6, 0, 3, 1, 1, 4, 3] := by kernel_rfl
theorem ex7 : sortsErr fewWay faceF (houseR a1 c1 a2 c2) ffl = 0 := by kernel_rfl
theorem ex8 : fewWay.S (wordP faceF none 0 (houseR a1 c1 a2 c2) ffl 0 ffl.size) = some [1, 11] := by kernel_rfl
theorem ex9 : readErr faceF (awakeL a1 c1 a2 c2) [true, false] = 0 := by kernel_rfl
theorem ex10 : readW faceF (awakeL a1 c1 a2 c2) [true, false] = [⟨#[101, 102, 102, 105, 101]⟩, ⟨#[108]⟩] := by kernel_rfl
end
end Go.Proofs.YtomblajlpanmjaaGreatDoor
