/-
  Package press: base.Compare: which of two fractions is greater.
-/
import Derived.Test.YtpplcbpnojggcaaMG
namespace Go.Proofs.Ytpplcbpnojggcaa
open Go.RowKit

def cmp3 (x : Int) : Int := if x < 0 then -1 else if x = 0 then 0 else 1
theorem cmp3_neg {x : Int} (h : x < 0) : cmp3 x = -1 := if_pos h
theorem cmp3_pos {x : Int} (h : 0 < x) : cmp3 x = 1 := by unfold cmp3; rw [if_neg (by omega), if_neg (by omega)]
theorem cmp3_zero : cmp3 0 = 0 := rfl
theorem lt_cross {n d m k p q n1 m1 : Int} (hd : 1 ≤ d) (hk : 1 ≤ k) (hn : n = p * d + n1) (hm : m = q * k + m1) (hn1 : n1 < d) (hm1 : 0 ≤ m1) (h : p < q) : n * k < m * d := by
  have h1 : n + 1 ≤ (p + 1) * d := by rw [Int.add_mul]; omega
  have h2 : (p + 1) * d ≤ q * d := Int.mul_le_mul_of_nonneg_right (by omega) (by omega)
  have h3 : (n + 1) * k ≤ q * d * k := Int.mul_le_mul_of_nonneg_right (by omega) (by omega)
  have h4 : q * k * d ≤ m * d := Int.mul_le_mul_of_nonneg_right (by omega) (by omega)
  rw [Int.mul_right_comm] at h3
  rw [Int.add_mul] at h3
  omega
theorem eq_cross {n d m k p n1 m1 : Int} (hn : n = p * d + n1) (hm : m = p * k + m1) : n * k - m * d = k * n1 - d * m1 := by
  have e : p * d * k = p * k * d := Int.mul_right_comm _ _ _
  rw [hn, hm, Int.add_mul, Int.add_mul, e, Int.mul_comm n1 k, Int.mul_comm m1 d]; omega
set_option maxRecDepth 100000 in
set_option maxHeartbeats 2000000 in
theorem compare_any (n d m k : Int) (w : World) (hn : 0 ≤ n ∧ n ≤ 1000000000000000000) (hd : 1 ≤ d ∧ d ≤ 1000000000000000000) (hm : 0 ≤ m ∧ m ≤ 1000000000000000000) (hk : 1 ≤ k ∧ k ≤ 1000000000000000000) :
    Calls Try.prog 35 #[.int .i64 n, .int .i64 d, .int .i64 m, .int .i64 k] w fun e w' => e = .returned (.int .i64 (cmp3 (n * k - m * d))) ∧ w = w' := by
  obtain ⟨R, hR⟩ : ∃ R, R = cmp3 (n * k - m * d) := ⟨_, rfl⟩
  rw [← hR]
  have HR := Lib.hid hR
  have HN := Lib.hid (And.intro hn (And.intro hd (And.intro hm hk)))
  clear hR hn hd hm hk
  go_enter Try.func35, Try.ntmps35
  go_wp2
  go_loop [0, 1, 2, 3] (fun a b c e => ∃ (n d m k : Int), a = .int .i64 n ∧ b = .int .i64 d ∧ c = .int .i64 m ∧ e = .int .i64 k ∧ Hid (R = cmp3 (n * k - m * d)) ∧ Hid ((0 ≤ n ∧ n ≤ 1000000000000000000) ∧ (1 ≤ d ∧ d ≤ 1000000000000000000) ∧ (0 ≤ m ∧ m ≤ 1000000000000000000) ∧ (1 ≤ k ∧ k ≤ 1000000000000000000))) (fun _ b _ e => (intOf b).toNat + (intOf e).toNat)
  case atStart => exact ⟨n, d, m, k, rfl, rfl, rfl, rfl, HR, HN⟩
  case round =>
    clear HR HN
    obtain ⟨n, d, m, k, rfl, rfl, rfl, rfl, HR, HN⟩ := hrel
    obtain ⟨⟨hn0, hn1⟩, ⟨hd0, hd1⟩, ⟨hm0, hm1⟩, ⟨hk0, hk1⟩⟩ := HN.out
    have hr := HR.out
    have HF1 := Lib.hid (fun W => floor_any n d W hn0 hn1 hd0 hd1)
    have HF2 := Lib.hid (fun W => floor_any m k W hm0 hm1 hk0 hk1)
    have ed := Int.mul_ediv_add_emod n d
    have em := Int.mul_ediv_add_emod m k
    have n1a := Int.emod_nonneg n (show d ≠ 0 by omega)
    have m1a := Int.emod_nonneg m (show k ≠ 0 by omega)
    have n1b := Int.emod_lt_of_pos n (show 0 < d by omega)
    have m1b := Int.emod_lt_of_pos m (show 0 < k by omega)
    have pp : 0 ≤ n / d := Int.ediv_nonneg hn0 (by omega)
    have qq : 0 ≤ m / k := Int.ediv_nonneg hm0 (by omega)
    rw [Int.mul_comm] at ed em
    obtain ⟨p, hp⟩ : ∃ p, p = n / d := ⟨_, rfl⟩
    obtain ⟨q, hq⟩ : ∃ q, q = m / k := ⟨_, rfl⟩
    obtain ⟨n1, hn1'⟩ : ∃ x, x = n % d := ⟨_, rfl⟩
    obtain ⟨m1, hm1'⟩ : ∃ x, x = m % k := ⟨_, rfl⟩
    rw [← hp] at HF1 ed pp
    rw [← hq] at HF2 em qq
    rw [← hn1'] at ed n1a n1b
    rw [← hm1'] at em m1a m1b
    clear hp hq hn1' hm1' HR HN
    rcases Int.lt_or_le p q with hpq | hpq
    · have HE := Lib.hid (show -1 = R by rw [hr, cmp3_neg (by have := lt_cross hd0 hk0 ed.symm em.symm n1b m1a hpq; omega)])
      clear hr ed em
      go_wp2_with (go_at_call 100; first | (with_reducible refine (HF1.out _).mono ?_; rintro e w' ⟨rfl, rfl⟩) | (with_reducible refine (HF2.out _).mono ?_; rintro e w' ⟨rfl, rfl⟩))
      go_ret
      exact ⟨ret_int HE.out, rfl⟩
    rcases Int.lt_or_le q p with hqp | hqp
    · have HE := Lib.hid (show 1 = R by rw [hr, cmp3_pos (by have := lt_cross hk0 hd0 em.symm ed.symm m1b n1a hqp; omega)])
      have hnl : ¬ p < q := by omega
      clear hr ed em
      go_wp2_with (go_at_call 100; first | (with_reducible refine (HF1.out _).mono ?_; rintro e w' ⟨rfl, rfl⟩) | (with_reducible refine (HF2.out _).mono ?_; rintro e w' ⟨rfl, rfl⟩))
      go_ret
      exact ⟨ret_int HE.out, rfl⟩
    · obtain rfl : q = p := by omega
      rw [eq_cross ed.symm em.symm] at hr
      have hq1 : 0 ≤ q * d := Int.mul_nonneg qq (by omega)
      have hq2 : 0 ≤ q * k := Int.mul_nonneg qq (by omega)
      have w1 : IntKind.i64.wrap (q * d) = q * d := IntWalk.i64_in _ (by omega)
      have w2 : IntKind.i64.wrap (q * k) = q * k := IntWalk.i64_in _ (by omega)
      have w3 : IntKind.i64.wrap (n - q * d) = n1 := by rw [show n - q * d = n1 by omega]; exact IntWalk.i64_in _ (by omega)
      have w4 : IntKind.i64.wrap (m - q * k) = m1 := by rw [show m - q * k = m1 by omega]; exact IntWalk.i64_in _ (by omega)
      have hnl : ¬ q < q := by omega
      clear ed em hqp hpq
      rcases Int.lt_or_le 0 n1 with hnp | hnp
      · have hz1 : (n1 == 0) = false := by simp; omega
        have hz2 : ¬ n1 = 0 := by omega
        rcases Int.lt_or_le 0 m1 with hmp | hmp
        · have hz3 : (m1 == 0) = false := by simp; omega
          have hz4 : ¬ m1 = 0 := by omega
          have HE := Lib.hid hr
          have HNN := Lib.hid (show (0 ≤ k ∧ k ≤ 1000000000000000000) ∧ (1 ≤ m1 ∧ m1 ≤ 1000000000000000000) ∧ (0 ≤ d ∧ d ≤ 1000000000000000000) ∧ (1 ≤ n1 ∧ n1 ≤ 1000000000000000000) from ⟨⟨by omega, hk1⟩, ⟨by omega, by omega⟩, ⟨by omega, hd1⟩, ⟨by omega, by omega⟩⟩)
          clear hr
          go_wp2_with (go_at_call 100; first | (with_reducible refine (HF1.out _).mono ?_; rintro e w' ⟨rfl, rfl⟩) | (with_reducible refine (HF2.out _).mono ?_; rintro e w' ⟨rfl, rfl⟩))
          go_round
          case rel => exact ⟨k, m1, d, n1, rfl, rfl, rfl, rfl, HE, HNN⟩
          case measure => simp [intOf]; omega
        · obtain rfl : m1 = 0 := by omega
          have HE := Lib.hid (show 1 = R by rw [hr, Int.mul_zero, Int.sub_zero, cmp3_pos (Int.mul_pos (by omega) hnp)])
          clear hr
          go_wp2_with (go_at_call 100; first | (with_reducible refine (HF1.out _).mono ?_; rintro e w' ⟨rfl, rfl⟩) | (with_reducible refine (HF2.out _).mono ?_; rintro e w' ⟨rfl, rfl⟩))
          go_ret
          exact ⟨ret_int HE.out, rfl⟩
      · obtain rfl : n1 = 0 := by omega
        rcases Int.lt_or_le 0 m1 with hmp | hmp
        · have hz3 : (m1 == 0) = false := by simp; omega
          have hz4 : ¬ m1 = 0 := by omega
          have HE := Lib.hid (show -1 = R by rw [hr, Int.mul_zero, cmp3_neg (by have := Int.mul_pos (show 0 < d by omega) hmp; omega)])
          clear hr
          go_wp2_with (go_at_call 100; first | (with_reducible refine (HF1.out _).mono ?_; rintro e w' ⟨rfl, rfl⟩) | (with_reducible refine (HF2.out _).mono ?_; rintro e w' ⟨rfl, rfl⟩))
          go_ret
          exact ⟨ret_int HE.out, rfl⟩
        · obtain rfl : m1 = 0 := by omega
          have HE := Lib.hid (show 0 = R by rw [hr, Int.mul_zero, Int.mul_zero]; rfl)
          clear hr
          go_wp2_with (go_at_call 100; first | (with_reducible refine (HF1.out _).mono ?_; rintro e w' ⟨rfl, rfl⟩) | (with_reducible refine (HF2.out _).mono ?_; rintro e w' ⟨rfl, rfl⟩))
          go_ret
          exact ⟨ret_int HE.out, rfl⟩
end Go.Proofs.Ytpplcbpnojggcaa
