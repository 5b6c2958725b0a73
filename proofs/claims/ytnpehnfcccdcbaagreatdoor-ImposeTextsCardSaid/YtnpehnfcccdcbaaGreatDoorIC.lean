/-
  Package impose: the errors of a sheet and of a fold; the size behind a fold; CheckFolds.
-/
import Derived.Test.YtnpehnfcccdcbaaGreatDoorIB
import Derived.IntWalk
import Derived.DataShut
namespace Go.Proofs.YtnpehnfcccdcbaaGreatDoor
open Go.RowKit

set_option maxHeartbeats 1000000 in
theorem errorOfSides_any (C R : Int) (w : World) :
    Calls Tryz.prog 63 #[.agg #[.int .i64 C, .int .i64 R]] w fun e w' => e = .returned (.int .i64 (sideErr C R)) ∧ Below w.heap.size w w' := by
  have hb := (Below.refl w.heap.size w).alloc (Nat.le_refl _) (.cells #[.int .i64 C, .int .i64 R] 89)
  cases h1 : inB C 1 8
  · have HE := Lib.hid (show sideErr C R = 2 by unfold sideErr; rw [if_neg (by simp [h1])])
    go_enter Tryz.func63, Tryz.ntmps63
    go_wp2_with (go_at_call 37; refine (isFrom_any _ _ _ _).mono ?_; rintro e w' ⟨rfl, rfl⟩)
    go_ret
    exact ⟨ret_int HE.out.symm, hb⟩
  cases h2 : inB R 1 8
  · have HE := Lib.hid (show sideErr C R = 2 by unfold sideErr; rw [if_neg (by simp [h2])])
    go_enter Tryz.func63, Tryz.ntmps63
    go_wp2_with (go_at_call 37; refine (isFrom_any _ _ _ _).mono ?_; rintro e w' ⟨rfl, rfl⟩)
    go_ret
    exact ⟨ret_int HE.out.symm, hb⟩
  have g1 := inB_iff.1 h1
  have g2 := inB_iff.1 h2
  have hm : 0 ≤ C * R ∧ C * R ≤ 64 := ⟨Int.mul_nonneg (by omega) (by omega), by
    have := Int.mul_le_mul (show C ≤ 8 by omega) (show R ≤ 8 by omega) (by omega) (by omega); omega⟩
  obtain ⟨n, hn⟩ : ∃ n, C * R = n := ⟨_, rfl⟩
  have HE := Lib.hid (show sideErr C R = if 32 < n then 8 else 0 by unfold sideErr; rw [if_pos ⟨h1, h2⟩, hn])
  obtain ⟨m1, m2⟩ := hm
  have HN := Lib.hid hn
  clear g1 g2
  by_cases h3 : 32 < n
  · have HX := Lib.hid (show sideErr C R = 8 by rw [HE.out, if_pos h3])
    go_enter Tryz.func63, Tryz.ntmps63
    clear hn
    go_wp2_with (first | (go_at_call 37; refine (isFrom_any _ _ _ _).mono ?_; rintro e w' ⟨rfl, rfl⟩) | (go_at_call 34; refine (cells_any _ _ _ _ HN.out (by omega) (by omega)).mono ?_; rintro e w' ⟨rfl, hb2⟩))
    go_ret
    exact ⟨ret_int HX.out.symm, hb.trans (hb2.mono (by simp))⟩
  · have HX := Lib.hid (show sideErr C R = 0 by rw [HE.out, if_neg h3])
    go_enter Tryz.func63, Tryz.ntmps63
    clear hn
    go_wp2_with (first | (go_at_call 37; refine (isFrom_any _ _ _ _).mono ?_; rintro e w' ⟨rfl, rfl⟩) | (go_at_call 34; refine (cells_any _ _ _ _ HN.out (by omega) (by omega)).mono ?_; rintro e w' ⟨rfl, hb2⟩))
    go_ret
    exact ⟨ret_int HX.out.symm, hb.trans (hb2.mono (by simp))⟩

/-- A number that an int can hold. -/
def OkI (n : Int) : Prop := (Lit.int .i64 n).wf = true
theorem OkI.le {n : Int} (h : OkI n) : n ≤ 9223372036854775807 ∧ -9223372036854775808 ≤ n := by
  have := (Lit.wf_int_iff .i64 n).1 h
  have h1 : IntKind.i64.min = -9223372036854775808 := by decide
  have h2 : IntKind.i64.max = 9223372036854775807 := by decide
  omega
theorem fold_kind {C R : Int} {f : Fold} (h : inB f.k 1 6 = false) : foldErr C R f = 15 := by unfold foldErr; rw [if_pos h]
theorem fold_all {C R : Int} {f : Fold} (h : inB f.k 1 6 = true) (h2 : f.k = 5 ∨ f.k = 6) : foldErr C R f = if f.c ≠ 0 then 2 else 0 := by unfold foldErr; rw [if_neg (by simp [h]), if_pos h2]
theorem fold_side {C R : Int} {f : Fold} (h : inB f.k 1 6 = true) (h2 : ¬ (f.k = 5 ∨ f.k = 6)) : foldErr C R f = if f.c < 1 then 2 else if alongI C R f.k - f.c < f.c then 26 else 0 := by unfold foldErr; rw [if_neg (by simp [h]), if_neg h2]
set_option maxHeartbeats 2000000 in
theorem errorOfFold_any (C R : Int) (f : Fold) (w : World) (hC : 1 ≤ C ∧ C ≤ 8) (hR : 1 ≤ R ∧ R ≤ 8) (hc : OkI f.c) :
    Calls Tryz.prog 67 #[.agg #[.int .i64 C, .int .i64 R], .agg #[.int .i64 f.k, .int .i64 f.c]] w fun e w' => e = .returned (.int .i64 (foldErr C R f)) ∧ Below w.heap.size w w' := by
  have hb := ((Below.refl w.heap.size w).alloc (Nat.le_refl _) (.cells #[.int .i64 C, .int .i64 R] 89)).alloc (by simp) (.cells #[.int .i64 f.k, .int .i64 f.c] 98)
  obtain ⟨k, c⟩ := f
  have hc : OkI c := hc
  cases h1 : inB k 1 6
  · have HE := Lib.hid (fold_kind (C := C) (R := R) (f := ⟨k, c⟩) h1)
    clear hc hC hR
    go_enter Tryz.func67, Tryz.ntmps67
    go_wp2_with (go_at_call 37; refine (isFrom_any _ _ _ _).mono ?_; rintro e w' ⟨rfl, rfl⟩)
    go_ret
    exact ⟨ret_int HE.out.symm, hb⟩
  by_cases h2 : k = 5 ∨ k = 6
  · have HE := Lib.hid (fold_all (C := C) (R := R) (f := ⟨k, c⟩) h1 h2)
    have h2' : allB k = true := decide_eq_true h2
    clear hc hC hR h2
    by_cases h3 : c = 0
    · subst h3
      go_enter Tryz.func67, Tryz.ntmps67
      go_wp2_with (first | (go_at_call 37; refine (isFrom_any _ _ _ _).mono ?_; rintro e w' ⟨rfl, rfl⟩) | (go_at_call 81; refine (turnsAll_any _ _).mono ?_; rintro e w' ⟨rfl, rfl⟩))
      go_ret
      exact ⟨ret_int HE.out.symm, hb⟩
    · have HX := Lib.hid (show foldErr C R ⟨k, c⟩ = 2 by rw [HE.out]; exact if_pos h3)
      have h3' : (c != 0) = true := by simpa using h3
      clear h3
      go_enter Tryz.func67, Tryz.ntmps67
      go_wp2_with (first | (go_at_call 37; refine (isFrom_any _ _ _ _).mono ?_; rintro e w' ⟨rfl, rfl⟩) | (go_at_call 81; refine (turnsAll_any _ _).mono ?_; rintro e w' ⟨rfl, rfl⟩))
      go_ret
      exact ⟨ret_int HX.out.symm, hb⟩
  have HE := Lib.hid (fold_side (C := C) (R := R) (f := ⟨k, c⟩) h1 h2)
  have h2' : allB k = false := decide_eq_false h2
  clear h2
  by_cases h3 : c < 1
  · have HX := Lib.hid (show foldErr C R ⟨k, c⟩ = 2 by rw [HE.out]; exact if_pos h3)
    clear hc hC hR
    go_enter Tryz.func67, Tryz.ntmps67
    go_wp2_with (first | (go_at_call 37; refine (isFrom_any _ _ _ _).mono ?_; rintro e w' ⟨rfl, rfl⟩) | (go_at_call 81; refine (turnsAll_any _ _).mono ?_; rintro e w' ⟨rfl, rfl⟩))
    go_ret
    exact ⟨ret_int HX.out.symm, hb⟩
  have hA : 1 ≤ alongI C R k ∧ alongI C R k ≤ 8 := by unfold alongI; split <;> omega
  have h3' : decide (c < 1) = false := by simpa using h3
  have HI := Lib.hid hc.le
  have hs : IntKind.i64.wrap (alongI C R k - c) = alongI C R k - c := IntWalk.i64_in _ (by have := HI.out; omega)
  obtain ⟨A, hAe⟩ : ∃ A, A = alongI C R k := ⟨_, rfl⟩
  have HA := Lib.hid hAe
  rw [← hAe] at hs
  have HE2 := Lib.hid (show foldErr C R ⟨k, c⟩ = if A - c < c then 26 else 0 by rw [HE.out, hAe]; exact if_neg h3)
  clear hc hC hR hA h3 hAe HE
  have halong := fun (W : World) => (along_any C R k W)
  rw [← HA.out] at halong
  have HAL := Lib.hid halong
  clear halong
  by_cases h4 : A - c < c
  · have HX := Lib.hid (show foldErr C R ⟨k, c⟩ = 26 by rw [HE2.out]; exact if_pos h4)
    go_enter Tryz.func67, Tryz.ntmps67
    go_wp2_with (first | (go_at_call 37; refine (isFrom_any _ _ _ _).mono ?_; rintro e w' ⟨rfl, rfl⟩) | (go_at_call 81; refine (turnsAll_any _ _).mono ?_; rintro e w' ⟨rfl, rfl⟩))
    go_region_held3 (fun w' => w'.cell? ⟨w.heap.size, 0, none⟩ = some (.int .i64 C) ∧ w'.cell? ⟨w.heap.size, 1, none⟩ = some (.int .i64 R) ∧ w'.cell? ⟨w.heap.size + 1, 0, none⟩ = some (.int .i64 k) ∧ w'.cell? ⟨w.heap.size + 1, 1, none⟩ = some (.int .i64 c)) (go_keep)
      ((go_at_call 82; refine (HAL.out _).mono ?_; rintro e w8 ⟨rfl, hb8⟩; have k0 := (hb8.cell (p := ⟨w.heap.size, 0, none⟩) (by simp; omega)); have k1 := (hb8.cell (p := ⟨w.heap.size, 1, none⟩) (by simp; omega)); have k2 := (hb8.cell (p := ⟨w.heap.size + 1, 0, none⟩) (by simp)); have k3 := (hb8.cell (p := ⟨w.heap.size + 1, 1, none⟩) (by simp)); simp at k0 k1 k2 k3))
    go_wp2
    go_ret
    exact ⟨ret_int HX.out.symm, hb.drew.trans (hb8.mono (by simp <;> omega))⟩
  · have HX := Lib.hid (show foldErr C R ⟨k, c⟩ = 0 by rw [HE2.out]; exact if_neg h4)
    go_enter Tryz.func67, Tryz.ntmps67
    go_wp2_with (first | (go_at_call 37; refine (isFrom_any _ _ _ _).mono ?_; rintro e w' ⟨rfl, rfl⟩) | (go_at_call 81; refine (turnsAll_any _ _).mono ?_; rintro e w' ⟨rfl, rfl⟩))
    go_region_held3 (fun w' => w'.cell? ⟨w.heap.size, 0, none⟩ = some (.int .i64 C) ∧ w'.cell? ⟨w.heap.size, 1, none⟩ = some (.int .i64 R) ∧ w'.cell? ⟨w.heap.size + 1, 0, none⟩ = some (.int .i64 k) ∧ w'.cell? ⟨w.heap.size + 1, 1, none⟩ = some (.int .i64 c)) (go_keep)
      ((go_at_call 82; refine (HAL.out _).mono ?_; rintro e w8 ⟨rfl, hb8⟩; have k0 := (hb8.cell (p := ⟨w.heap.size, 0, none⟩) (by simp; omega)); have k1 := (hb8.cell (p := ⟨w.heap.size, 1, none⟩) (by simp; omega)); have k2 := (hb8.cell (p := ⟨w.heap.size + 1, 0, none⟩) (by simp)); have k3 := (hb8.cell (p := ⟨w.heap.size + 1, 1, none⟩) (by simp)); simp at k0 k1 k2 k3))
    go_wp2
    go_ret
    exact ⟨ret_int HX.out.symm, hb.drew.trans (hb8.mono (by simp <;> omega))⟩
end Go.Proofs.YtnpehnfcccdcbaaGreatDoor
