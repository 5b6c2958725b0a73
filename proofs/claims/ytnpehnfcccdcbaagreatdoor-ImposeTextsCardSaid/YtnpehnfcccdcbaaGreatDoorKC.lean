/-
  Package impose: Creep and MarkAt, the program's and the reference's.
-/
import Derived.Test.YtnpehnfcccdcbaaGreatDoorIR
namespace Go.Proofs.YtnpehnfcccdcbaaGreatDoor
open Go.RowKit

def creepB (l t p : Int) : Bool := inB l 1 64 && inB t 0 10000 && inB p 1 (2 * l)
def creepE (l t p : Int) : Int × Int := if creepB l t p = true then (min ((p - 1) / 2) (l - 1 - (p - 1) / 2) * t, 0) else (0, 2)
set_option maxHeartbeats 1000000 in
theorem creep_any (l t p : Int) (w : World) :
    Calls Tryz.prog 15 #[.int .i64 l, .int .i64 t, .int .i64 p] w fun e w' => e = .returned (.tuple #[.int .i64 (creepE l t p).1, .int .i64 (creepE l t p).2]) ∧ w = w' := by
  cases h1 : inB l 1 64
  · have HE := Lib.hid (show creepE l t p = (0, 2) by unfold creepE creepB; rw [h1]; try rfl)
    go_enter Tryz.func15, Tryz.ntmps15
    go_wp2_with (go_at_call 37; refine (isFrom_any _ _ _ _).mono ?_; rintro e w' ⟨rfl, rfl⟩)
    go_ret2
    exact ⟨two_to HE.out, rfl⟩
  cases h2 : inB t 0 10000
  · have HE := Lib.hid (show creepE l t p = (0, 2) by unfold creepE creepB; rw [h1, h2]; try rfl)
    go_enter Tryz.func15, Tryz.ntmps15
    go_wp2_with (go_at_call 37; refine (isFrom_any _ _ _ _).mono ?_; rintro e w' ⟨rfl, rfl⟩)
    go_ret2
    exact ⟨two_to HE.out, rfl⟩
  have g1 := inB_iff.1 h1
  have g2 := inB_iff.1 h2
  obtain ⟨g1a, g1b⟩ := g1
  obtain ⟨g2a, g2b⟩ := g2
  cases h3 : inB p 1 (2 * l)
  · have HE := Lib.hid (show creepE l t p = (0, 2) by unfold creepE creepB; rw [h1, h2, h3]; try rfl)
    go_enter Tryz.func15, Tryz.ntmps15
    go_wp2_with (go_at_call 37; refine (isFrom_any _ _ _ _).mono ?_; rintro e w' ⟨rfl, rfl⟩)
    go_ret2
    exact ⟨two_to HE.out, rfl⟩
  have g3 := inB_iff.1 h3
  obtain ⟨g3a, g3b⟩ := g3
  have HE := Lib.hid (show creepE l t p = (min ((p - 1) / 2) (l - 1 - (p - 1) / 2) * t, 0) by unfold creepE creepB; rw [h1, h2, h3]; try rfl)
  have b1 : 0 ≤ (p - 1) / 2 * t ∧ (p - 1) / 2 * t ≤ 640000 := ⟨Int.mul_nonneg (by omega) g2a, by have := Int.mul_le_mul (show (p - 1) / 2 ≤ 64 by omega) g2b g2a (by omega); omega⟩
  have b2 : 0 ≤ (l - 1 - (p - 1) / 2) * t ∧ (l - 1 - (p - 1) / 2) * t ≤ 640000 := ⟨Int.mul_nonneg (by omega) g2a, by have := Int.mul_le_mul (show l - 1 - (p - 1) / 2 ≤ 64 by omega) g2b g2a (by omega); omega⟩
  obtain ⟨b1a, b1b⟩ := b1
  obtain ⟨b2a, b2b⟩ := b2
  go_enter Tryz.func15, Tryz.ntmps15
  go_wp2_with (go_at_call 37; refine (isFrom_any _ _ _ _).mono ?_; rintro e w' ⟨rfl, rfl⟩)
  all_goals go_ret2
  all_goals exact ⟨two_to (by rw [HE.out]; first | rw [Int.min_eq_left (by assumption), show wrap64 ((p - 1) / 2 * t) = (p - 1) / 2 * t by unfold wrap64; omega] | rw [Int.min_eq_right (by omega), show wrap64 ((l - 1 - (p - 1) / 2) * t) = (l - 1 - (p - 1) / 2) * t by unfold wrap64; omega]), rfl⟩
def markB (s p m : Int) : Bool := inB s 0 4000 && inB p 1 4000 && inB m 1 p
def markE (s p m : Int) : Int × Int := if markB s p m = true then (s % (p / m) * m, 0) else (0, 2)
theorem mark_b {s p m : Int} (_ : s ≤ 4000) (h3 : 1 ≤ p) (h4 : p ≤ 4000) (h5 : 1 ≤ m) (h6 : m ≤ p) : 1 ≤ p / m ∧ p / m ≤ 4000 ∧ 0 ≤ s % (p / m) * m ∧ s % (p / m) * m ≤ 16000000 := by
  have a1 : 1 ≤ p / m := by
    have := Int.le_ediv_iff_mul_le (a := 1) (b := p) (c := m) (by omega)
    exact this.2 (by omega)
  have a2 : p / m ≤ p := Int.ediv_le_self _ (by omega)
  have a3 := Int.emod_nonneg s (show p / m ≠ 0 by omega)
  have a4 := Int.emod_lt_of_pos s (show 0 < p / m by omega)
  refine ⟨a1, by omega, Int.mul_nonneg a3 (by omega), ?_⟩
  have := Int.mul_le_mul (show s % (p / m) ≤ 4000 by omega) (show m ≤ 4000 by omega) (by omega) (by omega)
  omega
end Go.Proofs.YtnpehnfcccdcbaaGreatDoor

namespace Go.Proofs.YtnpehnfcccdcbaaGreatDoor
open Go.RowKit

def outO (x : Int) : Bool := !inB x 0 4000
def misI : List Int → Int → Int × Int
  | [], _ => (0, 12)
  | x :: L, i => if x ≠ i then (i, 0) else misI L (i + 1)
def orderE (L : List Int) : Int × Int := if inB L.length 1 4000 = false then (0, 10) else if L.any outO = true then (0, 2) else misI L 0
theorem any_step {α : Type} {p : α → Bool} {L : List α} {k : Nat} (hk : k < L.length) : (L.drop k).any p = (p L[k] || (L.drop (k + 1)).any p) := by
  rw [List.drop_eq_getElem_cons hk]; try rfl
theorem any_stop {α : Type} {p : α → Bool} {L : List α} {k : Nat} (hk : ¬ k < L.length) : (L.drop k).any p = false := by
  rw [List.drop_of_length_le (by omega)]; try rfl
theorem misI_stop {L : List Int} {k : Nat} (hk : k < L.length) (h : L[k] ≠ (k : Int)) : misI (L.drop k) k = ((k : Int), 0) := by
  rw [List.drop_eq_getElem_cons hk]; unfold misI; rw [if_pos h]
theorem misI_go {L : List Int} {k : Nat} (hk : k < L.length) (h : L[k] = (k : Int)) : misI (L.drop k) k = misI (L.drop (k + 1)) ((k + 1 : Nat) : Int) := by
  rw [List.drop_eq_getElem_cons hk]
  show (if _ then _ else _) = _
  rw [if_neg (by simp [h])]; rfl
theorem misI_end {L : List Int} {k : Nat} (hk : ¬ k < L.length) : misI (L.drop k) k = (0, 12) := by
  rw [List.drop_of_length_le (by omega)]; try rfl
end Go.Proofs.YtnpehnfcccdcbaaGreatDoor
