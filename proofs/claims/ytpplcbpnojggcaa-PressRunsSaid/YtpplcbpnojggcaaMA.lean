/-
  Package press: a quotient rounded up by the reference; the minutes and the estimate of a run by the reference.
-/
import Derived.Test.YtpplcbpnojggcaaEI
namespace Go.Proofs.Ytpplcbpnojggcaa
open Go.RowKit Go.Maps

theorem ceil_up {n b : Int} (hb : 1 ≤ b) (h : 0 < n % b) : ceilI n b = n / b + 1 := by
  have h1 := Int.mul_ediv_add_emod n b
  have h2 := Int.emod_lt_of_pos n (show 0 < b by omega)
  unfold ceilI
  rw [show n + b - 1 = (n % b - 1) + b * (n / b + 1) by rw [Int.mul_add]; omega, Int.add_mul_ediv_left _ _ (by omega), Int.ediv_eq_zero_of_lt (by omega) (by omega)]
  omega
theorem ceil_even {n b : Int} (hb : 1 ≤ b) (h : n % b = 0) : ceilI n b = n / b := by
  have h1 := Int.mul_ediv_add_emod n b
  unfold ceilI
  rw [show n + b - 1 = (b - 1) + b * (n / b) by omega, Int.add_mul_ediv_left _ _ (by omega), Int.ediv_eq_zero_of_lt (by omega) (by omega)]
  omega
set_option maxHeartbeats 1000000 in
theorem refFloorN_any (n by_ : Int) (w : World) (h0 : 0 ≤ n) (h1 : n ≤ 1000000000000000) (h2 : 1 ≤ by_) (h3 : by_ ≤ 1000000) :
    Calls Try.prog 100 #[.int .i64 (-n), .int .i64 by_] w fun e w' => e = .returned (.int .i64 (-ceilI n by_)) ∧ w = w' := by
  have hz : (by_ == 0) = false := by simp; omega
  have hm := Int.emod_nonneg n (show by_ ≠ 0 by omega)
  have hq := Int.tdiv_eq_ediv_of_nonneg (b := by_) h0
  obtain ⟨Q, hQ⟩ : ∃ Q, Q = n / by_ := ⟨_, rfl⟩
  have hq0 : 0 ≤ Q := by rw [hQ]; exact Int.ediv_nonneg h0 (by omega)
  have hq1 : Q ≤ n := by rw [hQ]; exact Int.ediv_le_self _ h0
  rw [← hQ] at hq
  have hw1 : wrap64 (-n.tdiv by_) = -Q := by rw [hq]; exact IntWalk.wrap64_in _ (by omega)
  have hw2 : wrap64 (-Q - 1) = -Q - 1 := IntWalk.wrap64_in _ (by omega)
  by_cases hp : 0 < n % by_
  · have hp' := decide_eq_true hp
    have HE := Lib.hid (show -Q - 1 = -ceilI n by_ by rw [ceil_up h2 hp, hQ]; omega)
    clear hq hQ hp
    go_enter Try.func100, Try.ntmps100
    go_wp2
    go_ret
    exact ⟨ret_int HE.out, rfl⟩
  · have hp' := decide_eq_false hp
    have HE := Lib.hid (show -Q = -ceilI n by_ by rw [ceil_even h2 (by omega), hQ])
    clear hq hQ hp
    go_enter Try.func100, Try.ntmps100
    go_wp2
    go_ret
    exact ⟨ret_int (by first | exact HE.out | (have h := HE.out; omega)), rfl⟩
set_option maxHeartbeats 1000000 in
theorem refCeil_any (n by_ : Int) (w : World) (h0 : 0 ≤ n) (h1 : n ≤ 1000000000000000) (h2 : 1 ≤ by_) (h3 : by_ ≤ 1000000) :
    Calls Try.prog 91 #[.int .i64 n, .int .i64 by_] w fun e w' => e = .returned (.int .i64 (ceilI n by_)) ∧ w = w' := by
  have hc := ceil_bd h0 (Int.le_refl n) h2
  have HF := Lib.hid (refFloorN_any n by_ w h0 h1 h2 h3)
  obtain ⟨Q, hQ⟩ : ∃ Q, Q = ceilI n by_ := ⟨_, rfl⟩
  rw [← hQ] at hc HF ⊢
  clear hQ
  go_enter Try.func91, Try.ntmps91
  go_wp2_with (go_at_call 100; refine HF.out.mono ?_; rintro e w' ⟨rfl, rfl⟩)
  go_ret
  exact ⟨rfl, rfl⟩
set_option maxRecDepth 100000 in
set_option maxHeartbeats 2000000 in
theorem refRunMinutes_any (x : Run) (a : Option Addr) (n c : Nat) (w : World) (hn : n = x.cols.length) (h : runErr x = 0) :
    Calls Try.prog 24 #[.agg #[.string x.job, .int .i64 x.day, .int .i64 x.wanted, .int .i64 x.given, .slice a n c, .int .i64 x.ready, .int .i64 x.hour]] w (CheckPost (runMin x) w) := by
  obtain ⟨-, -, -, hg, hc, -, hr, hh⟩ := run_ok h
  have hb := runMin_bd h
  have HM := Lib.hid (show runMin x = x.ready * x.cols.length + ceilI (60 * x.given * x.cols.length) x.hour from rfl)
  have hg0 : 0 ≤ x.given := by have := (run_ok h).2.2.1; omega
  obtain ⟨job, day, wanted, given, cols, ready, hour⟩ := x
  dsimp only at hg hc hr hh HM hn hg0 ⊢
  obtain ⟨M, hM⟩ : ∃ M, M = runMin ⟨job, day, wanted, given, cols, ready, hour⟩ := ⟨_, rfl⟩
  rw [← hM] at HM hb ⊢
  rw [← hn] at HM hc
  obtain ⟨p1, hp1⟩ : ∃ p, p = ready * (n : Int) := ⟨_, rfl⟩
  obtain ⟨p2, hp2⟩ : ∃ p, p = 60 * given := ⟨_, rfl⟩
  obtain ⟨p3, hp3⟩ : ∃ p, p = p2 * (n : Int) := ⟨_, rfl⟩
  have b1 := mul_bd (a := ready) (b := (n : Int)) (A := 10000) (B := 6) hr.1 hr.2 (by omega) (by omega)
  have b3 := mul_bd (a := p2) (b := (n : Int)) (A := 120000) (B := 6) (by omega) (by omega) (by omega) (by omega)
  rw [← hp1] at b1
  rw [← hp3] at b3
  have w1 : IntKind.i64.wrap (ready * (n : Int)) = p1 := by rw [← hp1]; exact IntWalk.i64_in _ (by omega)
  have w2 : IntKind.i64.wrap (60 * given) = p2 := by rw [← hp2]; exact IntWalk.i64_in _ (by omega)
  have w3 : IntKind.i64.wrap (p2 * (n : Int)) = p3 := by rw [← hp3]; exact IntWalk.i64_in _ (by omega)
  have HM2 : Hid (p1 + ceilI p3 hour = M) := Lib.hid (by rw [HM.out, hp1, hp3, hp2])
  have hcb := ceil_bd (n := p3) (by_ := hour) (N := p3) (by omega) (Int.le_refl _) hh.1
  have HC := Lib.hid (fun W => refCeil_any p3 hour W (by omega) (by omega) hh.1 (by omega))
  obtain ⟨q, hq⟩ : ∃ q, q = ceilI p3 hour := ⟨_, rfl⟩
  rw [← hq] at HM2 hcb HC
  have w4 : IntKind.i64.wrap (p1 + q) = p1 + q := IntWalk.i64_in _ (by omega)
  have hbx := (Below.refl w.heap.size w).alloc (Nat.le_refl _) (.cells #[.string job, .int .i64 day, .int .i64 wanted, .int .i64 given, .slice a n c, .int .i64 ready, .int .i64 hour] 24)
  clear hM HM hp1 hp2 hp3 hq h hn
  go_enter Try.func24, Try.ntmps24
  go_wp2
  go_quiet ((go_at_call 91; exact Calls.quiet_of_same (flip_same (HC.out _))))
  go_wp2
  go_ret
  exact ⟨ret_int HM2.out, below_drewN hbx _⟩
end Go.Proofs.Ytpplcbpnojggcaa
