/-
  Package base: Mod, where the number divided by is positive. Package impose: the two parts of a list of folds.
-/
import Derived.Test.YtjkjfmahcjcniaaI5
namespace Go.Proofs.Ytjkjfmahcjcniaa
open Go.RowKit

set_option maxHeartbeats 1000000 in
theorem mod_any (x : Int) (m : Nat) (w : World) (hm : 0 < m) (hm2 : m ≤ 1000) :
    Calls Try.prog 47 #[.int .i64 x, .int .i64 m] w fun e w' => e = .returned (.int .i64 (x % m)) ∧ w = w' := by
  obtain ⟨h1, h2, h3⟩ := mod_in (x := x) hm
  have hne : ((m : Int) == 0) = false := by simp; omega
  have hne0 : ¬ (m : Int) = 0 := by omega
  have hno : ¬ (m : Int) = -1 := by omega
  have hlo := Int.lt_tmod_of_pos x (show (0 : Int) < m by omega)
  have hhi := Int.tmod_lt_of_pos x (show (0 : Int) < m by omega)
  obtain ⟨q, hq⟩ : ∃ q, x.tmod m = q := ⟨_, rfl⟩
  rw [hq] at h1 hlo hhi
  by_cases hn : q < 0
  · rw [if_pos hn] at h1
    go_enter Try.func47, Try.ntmps47
    go_wp2
    go_ret
    exact ⟨rfl, rfl⟩
  · rw [if_neg hn] at h1
    go_enter Try.func47, Try.ntmps47
    go_wp2
    go_ret
    exact ⟨rfl, rfl⟩
theorem foldsUnder : Try.prog.underlying 23 = some (.slice (Try.prog.elem 23)) := by
  rw [show Try.prog.elem 23 = 74 by kernel_rfl]; exact Try.underlying23
theorem foldSize (W : World) : (sizeOf (Try.prog.elem 23)).run Try.prog W = .ok 2 W := by
  obtain ⟨i0, hi0, hz0, hz1, hz2⟩ := info_parts tFold.info
  rw [show Try.prog.elem 23 = 74 by kernel_rfl]
  simp [sizeOf, typeInfo, hi0, hz1]
/-- 'l[:k]'. -/
theorem folds_low (a : Option Addr) (L : List Fold) (c q : Nat) (hn : a = none → c = 0) (hlc : L.length ≤ c) (hq : q ≤ L.length) :
    ∃ (a1 : Option Addr) (c1 : Nat), (∀ W, (Instr.sliceAt 23 (.slice a L.length c) none (some (.int .i64 q)) none).run Try.prog W = .ok (.slice a1 q c1) W) ∧ (∀ w, RowsAt 2 Fold.l w a L → RowsAt 2 Fold.l w a1 (L.take q)) ∧ (a1 = none → c1 = 0) := by
  cases a with
  | none =>
    have hc := hn rfl
    have h0 : L.length = 0 := by omega
    have hq0 : q = 0 := by omega
    subst hc; subst hq0
    refine ⟨none, 0, fun W => ?_, fun w h => h.take 0, fun _ => rfl⟩
    rw [run_sliceAt_slice W _ _ _ _ _ foldsUnder, run_slice_h W _ none L.length 0 foldsUnder .i64 _ (by omega) (by omega), foldSize]
    simp [Result.andThen, sliced]
  | some ad => exact ⟨some ad, c, cut_low _ ad _ _ _ foldsUnder 2 foldSize (by omega), fun w h => h.take q, fun e => by cases e⟩
/-- 'l[k:]'. -/
theorem folds_high (a : Option Addr) (L : List Fold) (c q : Nat) (hn : a = none → c = 0) (hlc : L.length ≤ c) (hq : q ≤ L.length) :
    ∃ (a1 : Option Addr) (n1 c1 : Nat), n1 = (L.drop q).length ∧ (∀ W, (Instr.sliceAt 23 (.slice a L.length c) (some (.int .i64 q)) none none).run Try.prog W = .ok (.slice a1 n1 c1) W) ∧ (∀ w, RowsAt 2 Fold.l w a L → RowsAt 2 Fold.l w a1 (L.drop q)) ∧ (a1 = none → c1 = 0) := by
  cases a with
  | none =>
    have hc := hn rfl
    have h0 : L.length = 0 := by omega
    have hL0 : L = [] := List.eq_nil_of_length_eq_zero h0
    have hq0 : q = 0 := by omega
    subst hc; subst hq0; subst hL0
    refine ⟨none, 0, 0, rfl, fun W => ?_, fun w h => RowsAt.nil _ _, fun _ => rfl⟩
    rw [run_sliceAt_slice W _ _ _ _ _ foldsUnder, run_slice_l W _ none _ 0 foldsUnder .i64 _ (by omega) (by simp), foldSize]
    simp [Result.andThen, sliced]
  | some ad =>
    refine ⟨_, _, _, List.length_drop.symm, cut_high _ ad _ _ _ foldsUnder 2 foldSize hq, fun w h => ?_, fun e => by cases e⟩
    by_cases hcq : c = q
    · have : L.drop q = [] := List.drop_of_length_le (by omega)
      rw [this]; exact RowsAt.nil _ _
    · rw [if_neg hcq]; exact h.drop q
end Go.Proofs.Ytjkjfmahcjcniaa
