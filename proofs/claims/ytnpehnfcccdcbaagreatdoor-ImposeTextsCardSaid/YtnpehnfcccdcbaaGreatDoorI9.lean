/-
  Package impose: what views and sheets printed twice are made of: tests of pages, the opposite cell.
-/
import Derived.Test.YtnpehnfcccdcbaaGreatDoorI7
namespace Go.Proofs.YtnpehnfcccdcbaaGreatDoor
open Go.RowKit

def turnB (t : Int) : Bool := decide (t = 0 ∨ t = 1)
def pageB (m : Int) (x : Page) : Bool := inB x.p 1 m && inB x.t 0 1
theorem turnB_in (t : Int) : turnB t = inB t 0 1 := by rw [Bool.eq_iff_iff]; simp [turnB, inB]; omega
set_option maxHeartbeats 400000 in
theorem isTurn_any (t : Int) (w : World) : Calls Tryz.prog 29 #[.int .i64 t] w fun e w' => e = .returned (.bool (inB t 0 1)) ∧ w = w' := by
  rw [← turnB_in]
  by_cases h0 : t = 0
  · subst h0
    go_enter Tryz.func29, Tryz.ntmps29
    go_wp2
    go_ret
    exact ⟨rfl, rfl⟩
  · have hb : (t == 0) = false := by simpa using h0
    have hz : turnB t = (t == 1) := by rw [Bool.eq_iff_iff]; simp [turnB, h0]
    have HZ := Lib.hid hz
    clear hz
    go_enter Tryz.func29, Tryz.ntmps29
    go_wp2
    all_goals go_ret
    all_goals exact ⟨ret_bool HZ.out.symm, rfl⟩
set_option maxHeartbeats 1000000 in
theorem checkSheet_any (C R : Int) (w : World) : Calls Tryz.prog 27 #[.int .i64 C, .int .i64 R] w fun e w' => e = .returned (.int .i64 (sideErr C R)) ∧ w = w' := by
  cases h1 : inB C 1 8
  · have HE := Lib.hid (show sideErr C R = 2 by unfold sideErr; rw [if_neg (by simp [h1])])
    go_enter Tryz.func27, Tryz.ntmps27
    go_wp2_with (go_at_call 28; refine (within_any _ _ _ _).mono ?_; rintro e w' ⟨rfl, rfl⟩)
    go_ret
    exact ⟨ret_int HE.out.symm, rfl⟩
  · cases h2 : inB R 1 8
    · have HE := Lib.hid (show sideErr C R = 2 by unfold sideErr; rw [if_neg (by simp [h2])])
      go_enter Tryz.func27, Tryz.ntmps27
      go_wp2_with (go_at_call 28; refine (within_any _ _ _ _).mono ?_; rintro e w' ⟨rfl, rfl⟩)
      go_ret
      exact ⟨ret_int HE.out.symm, rfl⟩
    · have a1 := inB_iff.1 h1
      have a2 := inB_iff.1 h2
      have hp0 : 0 ≤ C * R := Int.mul_nonneg (by omega) (by omega)
      have hp1 : C * R ≤ 8 * 8 := Int.mul_le_mul a1.2 a2.2 (by omega) (by omega)
      by_cases h3 : 32 < C * R
      · have HE := Lib.hid (show sideErr C R = 8 by unfold sideErr; rw [if_pos ⟨h1, h2⟩, if_pos h3])
        go_enter Tryz.func27, Tryz.ntmps27
        go_wp2_with (go_at_call 28; refine (within_any _ _ _ _).mono ?_; rintro e w' ⟨rfl, rfl⟩)
        go_ret
        exact ⟨ret_int HE.out.symm, rfl⟩
      · have HE := Lib.hid (show sideErr C R = 0 by unfold sideErr; rw [if_pos ⟨h1, h2⟩, if_neg h3])
        have h4 : C * R ≤ 32 := by omega
        clear h3
        go_enter Tryz.func27, Tryz.ntmps27
        go_wp2_with (go_at_call 28; refine (within_any _ _ _ _).mono ?_; rintro e w' ⟨rfl, rfl⟩)
        go_ret
        exact ⟨ret_int HE.out.symm, rfl⟩
def cellsErr (C R n : Int) : Int := if sideErr C R ≠ 0 then sideErr C R else if n ≠ C * R then 10 else 0
set_option maxHeartbeats 1000000 in
theorem errorOfCells_any (C R n : Int) (w : World) :
    Calls Tryz.prog 45 #[.agg #[.int .i64 C, .int .i64 R], .int .i64 n] w fun e w' => e = .returned (.int .i64 (cellsErr C R n)) ∧ Below w.heap.size w w' := by
  by_cases h1 : sideErr C R = 0
  · obtain ⟨sC, sR, sm⟩ := side_ok h1
    have hp0 : 0 ≤ C * R := Int.mul_nonneg (by omega) (by omega)
    obtain ⟨N, hN⟩ : ∃ N, C * R = N := ⟨_, rfl⟩
    have HN := Lib.hid hN
    have H1 := Lib.hid h1
    have HP : Hid (-1000000 ≤ C * R ∧ C * R ≤ 1000000) := Lib.hid (by omega)
    have HC : Hid (cellsErr C R n = if n ≠ N then 10 else 0) := Lib.hid (by unfold cellsErr; rw [if_neg (by simp [h1]), hN])
    clear h1 sC sR sm hp0 hN
    go_enter Tryz.func45, Tryz.ntmps45
    go_wp2_with fail
    refine (errorOfSides_any _ _ _).mono ?_
    rintro e w1 ⟨rfl, hb1⟩
    rw [H1.out]
    have bx := (BoxAt.new w #[.int .i64 C, .int .i64 R] 89).below hb1
    have hB1 := ((Below.refl w.heap.size w).alloc (Nat.le_refl _) (.cells #[.int .i64 C, .int .i64 R] 89)).trans (hb1.mono (B' := w.heap.size) (by simp))
    have c0 := bx.cell 0; have c1 := bx.cell 1
    simp at c0 c1
    clear hb1
    go_wp2_with fail
    refine (cells_any C R N _ HN.out HP.out.1 HP.out.2).mono ?_
    rintro e w2 ⟨rfl, hb2⟩
    have hB2 := hB1.trans (hb2.mono (B' := w.heap.size) hB1.size)
    by_cases hn : n = N
    · have HE : Hid (cellsErr C R n = 0) := Lib.hid (by rw [HC.out, if_neg (by simp [hn])])
      have hnb : (n != N) = false := by simp [hn]
      clear hn
      go_wp2_with fail
      go_ret
      exact ⟨ret_int HE.out.symm, hB2⟩
    · have HE : Hid (cellsErr C R n = 10) := Lib.hid (by rw [HC.out, if_pos hn])
      have hnb : (n != N) = true := by simpa using hn
      clear hn
      go_wp2_with fail
      go_ret
      exact ⟨ret_int HE.out.symm, hB2⟩
  · have HE : Hid (cellsErr C R n = sideErr C R) := Lib.hid (by unfold cellsErr; rw [if_pos h1])
    have hb : (sideErr C R != 0) = true := by simpa using h1
    clear h1
    go_enter Tryz.func45, Tryz.ntmps45
    go_wp2_with fail
    refine (errorOfSides_any _ _ _).mono ?_
    rintro e w1 ⟨rfl, hb1⟩
    have hB1 := ((Below.refl w.heap.size w).alloc (Nat.le_refl _) (.cells #[.int .i64 C, .int .i64 R] 89)).trans (hb1.mono (B' := w.heap.size) (by simp))
    go_wp2_with fail
    go_ret
    exact ⟨ret_int HE.out.symm, hB1⟩
end Go.Proofs.YtnpehnfcccdcbaaGreatDoor
