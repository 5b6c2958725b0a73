/-
  Package base: Mod, where the number divided by is positive. Package impose: the two parts of a list of folds.
-/
import Derived.Test.YtccfcdhnplodgaaGreatDoorI5
namespace Go.Proofs.YtccfcdhnplodgaaGreatDoor
open Go.RowKit

theorem foldsUnder : Tryz.prog.underlying 23 = some (.slice (Tryz.prog.elem 23)) := by
  rw [show Tryz.prog.elem 23 = 58 by kernel_rfl]; exact Tryz.underlying23
theorem foldSize (W : World) : (sizeOf (Tryz.prog.elem 23)).run Tryz.prog W = .ok 2 W := by
  obtain ⟨i0, hi0, hz0, hz1, hz2⟩ := info_parts tFold.info
  rw [show Tryz.prog.elem 23 = 58 by kernel_rfl]
  simp [sizeOf, typeInfo, hi0, hz1]
/-- 'l[:k]'. -/
theorem folds_low (a : Option Addr) (L : List Fold) (c q : Nat) (hn : a = none → c = 0) (hlc : L.length ≤ c) (hq : q ≤ L.length) :
    ∃ (a1 : Option Addr) (c1 : Nat), (∀ W, (Instr.sliceAt 23 (.slice a L.length c) none (some (.int .i64 q)) none).run Tryz.prog W = .ok (.slice a1 q c1) W) ∧ (∀ w, RowsAt 2 Fold.l w a L → RowsAt 2 Fold.l w a1 (L.take q)) ∧ (a1 = none → c1 = 0) := by
  cases a with
  | none =>
    have hc := hn rfl
    have h0 : L.length = 0 := by omega
    have hq0 : q = 0 := by omega
    subst hc; subst hq0
    refine ⟨none, 0, fun W => ?_, fun w h => h.take 0, fun _ => rfl⟩
    rw [run_sliceAt_slice W _ _ _ _ _ foldsUnder, run_slice_h W _ none L.length 0 foldsUnder .i64 _ (by omega) (by omega), foldSize]
    simp [Result.andThen, sliced]
  | some ad => exact ⟨some ad, c, cut_low _ ad _ _ _ foldsUnder 2 foldSize (by omega), fun w h => h.take q, fun e => by cases e⟩
/-- 'l[k:]'. -/
theorem folds_high (a : Option Addr) (L : List Fold) (c q : Nat) (hn : a = none → c = 0) (hlc : L.length ≤ c) (hq : q ≤ L.length) :
    ∃ (a1 : Option Addr) (n1 c1 : Nat), n1 = (L.drop q).length ∧ (∀ W, (Instr.sliceAt 23 (.slice a L.length c) (some (.int .i64 q)) none none).run Tryz.prog W = .ok (.slice a1 n1 c1) W) ∧ (∀ w, RowsAt 2 Fold.l w a L → RowsAt 2 Fold.l w a1 (L.drop q)) ∧ (a1 = none → c1 = 0) := by
  cases a with
  | none =>
    have hc := hn rfl
    have h0 : L.length = 0 := by omega
    have hL0 : L = [] := List.eq_nil_of_length_eq_zero h0
    have hq0 : q = 0 := by omega
    subst hc; subst hq0; subst hL0
    refine ⟨none, 0, 0, rfl, fun W => ?_, fun w h => RowsAt.nil _ _, fun _ => rfl⟩
    rw [run_sliceAt_slice W _ _ _ _ _ foldsUnder, run_slice_l W _ none _ 0 foldsUnder .i64 _ (by omega) (by simp), foldSize]
    simp [Result.andThen, sliced]
  | some ad =>
    refine ⟨_, _, _, List.length_drop.symm, cut_high _ ad _ _ _ foldsUnder 2 foldSize hq, fun w h => ?_, fun e => by cases e⟩
    by_cases hcq : c = q
    · have : L.drop q = [] := List.drop_of_length_le (by omega)
      rw [this]; exact RowsAt.nil _ _
    · rw [if_neg hcq]; exact h.drop q
end Go.Proofs.YtccfcdhnplodgaaGreatDoor
