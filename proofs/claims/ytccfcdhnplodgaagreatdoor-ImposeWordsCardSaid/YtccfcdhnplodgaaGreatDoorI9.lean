/-
  Package impose: what views and sheets printed twice are made of: tests of pages, the opposite cell.
-/
import Derived.Test.YtccfcdhnplodgaaGreatDoorI7
namespace Go.Proofs.YtccfcdhnplodgaaGreatDoor
open Go.RowKit

def turnB (t : Int) : Bool := decide (t = 0 ∨ t = 1)
def pageB (m : Int) (x : Page) : Bool := inB x.p 1 m && inB x.t 0 1
theorem turnB_in (t : Int) : turnB t = inB t 0 1 := by rw [Bool.eq_iff_iff]; simp [turnB, inB]; omega
set_option maxHeartbeats 1000000 in
theorem checkSheet_any (C R : Int) (w : World) : Calls Tryz.prog 27 #[.int .i64 C, .int .i64 R] w fun e w' => e = .returned (.int .i64 (sideErr C R)) ∧ w = w' := by
  cases h1 : inB C 1 8
  · have HE := Lib.hid (show sideErr C R = 2 by unfold sideErr; rw [if_neg (by simp [h1])])
    go_enter Tryz.func27, Tryz.ntmps27
    go_wp2_with (go_at_call 24; refine (within_any _ _ _ _).mono ?_; rintro e w' ⟨rfl, rfl⟩)
    go_ret
    exact ⟨ret_int HE.out.symm, rfl⟩
  · cases h2 : inB R 1 8
    · have HE := Lib.hid (show sideErr C R = 2 by unfold sideErr; rw [if_neg (by simp [h2])])
      go_enter Tryz.func27, Tryz.ntmps27
      go_wp2_with (go_at_call 24; refine (within_any _ _ _ _).mono ?_; rintro e w' ⟨rfl, rfl⟩)
      go_ret
      exact ⟨ret_int HE.out.symm, rfl⟩
    · have a1 := inB_iff.1 h1
      have a2 := inB_iff.1 h2
      have hp0 : 0 ≤ C * R := Int.mul_nonneg (by omega) (by omega)
      have hp1 : C * R ≤ 8 * 8 := Int.mul_le_mul a1.2 a2.2 (by omega) (by omega)
      by_cases h3 : 32 < C * R
      · have HE := Lib.hid (show sideErr C R = 8 by unfold sideErr; rw [if_pos ⟨h1, h2⟩, if_pos h3])
        go_enter Tryz.func27, Tryz.ntmps27
        go_wp2_with (go_at_call 24; refine (within_any _ _ _ _).mono ?_; rintro e w' ⟨rfl, rfl⟩)
        go_ret
        exact ⟨ret_int HE.out.symm, rfl⟩
      · have HE := Lib.hid (show sideErr C R = 0 by unfold sideErr; rw [if_pos ⟨h1, h2⟩, if_neg h3])
        have h4 : C * R ≤ 32 := by omega
        clear h3
        go_enter Tryz.func27, Tryz.ntmps27
        go_wp2_with (go_at_call 24; refine (within_any _ _ _ _).mono ?_; rintro e w' ⟨rfl, rfl⟩)
        go_ret
        exact ⟨ret_int HE.out.symm, rfl⟩
def cellsErr (C R n : Int) : Int := if sideErr C R ≠ 0 then sideErr C R else if n ≠ C * R then 10 else 0
end Go.Proofs.YtccfcdhnplodgaaGreatDoor
