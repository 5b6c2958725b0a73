/-
  Package press: isAtMost: products of twice the width.
-/
import Derived.Test.YtpplcbpnojggcaaMH
import Derived.Test.YtpplcbpnojggcaaShelf
namespace Go.Proofs.Ytpplcbpnojggcaa
open Go.RowKit

set_option maxRecDepth 100000 in
set_option maxHeartbeats 2000000 in
theorem isAtMost_any (a b N D : Nat) (w : World) (ha : a < 9223372036854775808) (hb : b < 9223372036854775808) (hN : N < 9223372036854775808) (hD : D < 9223372036854775808) :
    Calls Try.prog 102 #[.int .i64 a, .int .i64 b, .agg #[.int .i64 N, .int .i64 D]] w (AggPost (.bool (decide (a * D ≤ N * b))) w) := by
  have hbl := (Below.refl w.heap.size w).alloc (Nat.le_refl _) (.cells #[.int .i64 N, .int .i64 D] 40)
  have bx := BoxAt.new w #[.int .i64 N, .int .i64 D] 40
  have c0 := bx.cell 0
  have c1 := bx.cell 1
  have hl := bx.lt
  have HM1 := Lib.hid (fun W => Try.bits_Mul64 a D (by omega) (by omega) W)
  have HM2 := Lib.hid (fun W => Try.bits_Mul64 N b (by omega) (by omega) W)
  obtain ⟨x, hx⟩ : ∃ x, x = a * D := ⟨_, rfl⟩
  obtain ⟨y, hy⟩ : ∃ y, y = N * b := ⟨_, rfl⟩
  rw [← hx] at HM1
  rw [← hy] at HM2
  rw [← hx, ← hy]
  have ex : x = 18446744073709551616 * (x / 18446744073709551616) + x % 18446744073709551616 := by omega
  have ey : y = 18446744073709551616 * (y / 18446744073709551616) + y % 18446744073709551616 := by omega
  have lx : x % 18446744073709551616 < 18446744073709551616 := by omega
  have ly : y % 18446744073709551616 < 18446744073709551616 := by omega
  obtain ⟨h1, hh1⟩ : ∃ h, h = x / 18446744073709551616 := ⟨_, rfl⟩
  obtain ⟨l1, hl1⟩ : ∃ h, h = x % 18446744073709551616 := ⟨_, rfl⟩
  obtain ⟨h2, hh2⟩ : ∃ h, h = y / 18446744073709551616 := ⟨_, rfl⟩
  obtain ⟨l2, hl2⟩ : ∃ h, h = y % 18446744073709551616 := ⟨_, rfl⟩
  rw [← hh1, ← hl1] at HM1 ex
  rw [← hh2, ← hl2] at HM2 ey
  rw [← hl1] at lx
  rw [← hl2] at ly
  have wa : IntKind.u64.wrap (a : Int) = (a : Int) := Mul64.wrapN a (by omega)
  have wb : IntKind.u64.wrap (b : Int) = (b : Int) := Mul64.wrapN b (by omega)
  have wN : IntKind.u64.wrap (N : Int) = (N : Int) := Mul64.wrapN N (by omega)
  have wD : IntKind.u64.wrap (D : Int) = (D : Int) := Mul64.wrapN D (by omega)
  clear hx hy hh1 hl1 hh2 hl2
  have HB := Lib.hid hbl
  clear hbl bx
  rcases Nat.lt_trichotomy h1 h2 with h | h | h
  · have hlt : (h1 : Int) < (h2 : Int) := by omega
    have HE := Lib.hid (show true = decide (x ≤ y) from (decide_eq_true (by omega)).symm)
    clear ex ey
    go_enter Try.func102, Try.ntmps102
    go_wp2_with (go_at_call 135; first | (with_reducible refine (HM1.out _).mono ?_; rintro e w' ⟨rfl, rfl⟩) | (with_reducible refine (HM2.out _).mono ?_; rintro e w' ⟨rfl, rfl⟩))
    go_ret
    exact ⟨congrArg _ (congrArg _ HE.out), HB.out⟩
  · subst h
    have hnl : ¬ (h1 : Int) < (h1 : Int) := by omega
    by_cases hle : l1 ≤ l2
    · have hle' : (l1 : Int) ≤ (l2 : Int) := by omega
      have HE := Lib.hid (show true = decide (x ≤ y) from (decide_eq_true (by omega)).symm)
      clear ex ey
      go_enter Try.func102, Try.ntmps102
      go_wp2_with (go_at_call 135; first | (with_reducible refine (HM1.out _).mono ?_; rintro e w' ⟨rfl, rfl⟩) | (with_reducible refine (HM2.out _).mono ?_; rintro e w' ⟨rfl, rfl⟩))
      go_ret
      exact ⟨congrArg _ (congrArg _ HE.out), HB.out⟩
    · have hle' : ¬ (l1 : Int) ≤ (l2 : Int) := by omega
      have HE := Lib.hid (show false = decide (x ≤ y) from (decide_eq_false (by omega)).symm)
      clear ex ey
      go_enter Try.func102, Try.ntmps102
      go_wp2_with (go_at_call 135; first | (with_reducible refine (HM1.out _).mono ?_; rintro e w' ⟨rfl, rfl⟩) | (with_reducible refine (HM2.out _).mono ?_; rintro e w' ⟨rfl, rfl⟩))
      go_ret
      exact ⟨congrArg _ (congrArg _ HE.out), HB.out⟩
  · have hnl : ¬ (h1 : Int) < (h2 : Int) := by omega
    have hne : ¬ (h1 : Int) = (h2 : Int) := by omega
    have hne2 : ((h1 : Int) == (h2 : Int)) = false := by simp; omega
    have HE := Lib.hid (show decide (h1 < h2) = decide (x ≤ y) by rw [decide_eq_false (by omega), decide_eq_false (by omega)])
    clear ex ey
    go_enter Try.func102, Try.ntmps102
    go_wp2_with (go_at_call 135; first | (with_reducible refine (HM1.out _).mono ?_; rintro e w' ⟨rfl, rfl⟩) | (with_reducible refine (HM2.out _).mono ?_; rintro e w' ⟨rfl, rfl⟩))
    go_ret
    exact ⟨congrArg _ (congrArg _ HE.out), HB.out⟩
end Go.Proofs.Ytpplcbpnojggcaa
