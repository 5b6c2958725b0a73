/-
  Package press: greatest common divisors, chances, sums of lists, both sides.
-/
import Derived.Test.YtdgegebplebeoaaGreatDoorEE
namespace Go.Proofs.YtdgegebplebeoaaGreatDoor
open Go.RowKit

def RetDrew (v : Value) (w : World) (e : Ending) (w' : World) : Prop := e = .returned v ∧ Drew w w'
theorem tmod_bd {a b : Int} (hb : b ≠ 0) (h : b.natAbs ≤ 9223372036854775807) : -9223372036854775808 ≤ a.tmod b ∧ a.tmod b ≤ 9223372036854775807 := by
  have := tmod_lt (a := a) hb
  omega
set_option maxHeartbeats 1000000 in
theorem divisorOf_any (a b : Int) (w : World) (ha : OkI a) (hb1 : 1 ≤ b) (hb2 : OkI b) :
    Calls Tryz.prog 41 #[.int .i64 a, .int .i64 b] w (RetDrew (.int .i64 (Int.gcd a b)) w) := by
  have HG := Lib.hid (gcd_le (a := a) hb1)
  have HB := Lib.hid hb2.le
  have HA := Lib.hid ha.le
  have HB1 := Lib.hid hb1
  clear ha hb1 hb2
  go_enter Tryz.func41, Tryz.ntmps41
  go_wp2_with fail
  go_loopw [0, 1] (fun x y wr => ∃ p q : Int, x = .int .i64 p ∧ y = .int .i64 q ∧ Hid (Int.gcd p q = Int.gcd a b) ∧ Hid (-9223372036854775808 ≤ p ∧ p ≤ 9223372036854775807 ∧ q.natAbs ≤ b.natAbs) ∧ Drew w wr) (fun _ y _ => (intOf y).natAbs)
  case atStart => exact ⟨a, b, rfl, rfl, Lib.hid rfl, Lib.hid (by have := HA.out; omega), Drew.refl _⟩
  case round =>
    obtain ⟨p, q, rfl, rfl, HP, HQ, hD⟩ := hrel
    by_cases hq : q = 0
    · subst hq
      have HE := Lib.hid (show (p.natAbs : Int) = Int.gcd a b by rw [← HP.out, gcd_end])
      have HW := Lib.hid (show -9223372036854775807 ≤ p ∧ p ≤ 9223372036854775807 by have := HE.out; have := HG.out; have := HB.out; omega)
      have hw : IntKind.i64.wrap (-p) = -p := IntWalk.i64_in _ (by have := HW.out; omega)
      go_wp2
      all_goals go_ret
      all_goals exact ⟨ret_int (by rw [← HE.out]; omega), hD⟩
    · have hz : (q == 0) = false := by simpa using hq
      have hz2 : (q != 0) = true := by simpa using hq
      obtain ⟨r, hr⟩ : ∃ r, p.tmod q = r := ⟨_, rfl⟩
      have HR := Lib.hid (show Int.gcd q r = Int.gcd a b by rw [← hr, gcd_step, HP.out])
      have HL := Lib.hid (show r.natAbs < q.natAbs by rw [← hr]; exact tmod_lt hq)
      have hwr : IntKind.i64.wrap (p.tmod q) = r := by rw [hr]; exact IntWalk.i64_in _ (by have := HL.out; have := HQ.out; have := HB.out; have := HB1.out; omega)
      have hwr2 : IntKind.i64.wrap r = r := by rw [← hr]; rw [hr] at hwr ⊢; exact hwr
      go_wp2_with fail
      go_quiet (fail)
      go_wp2
      go_roundw
      case rel => exact ⟨q, r, rfl, rfl, HR, Lib.hid (by have := HL.out; have := HQ.out; have := HB.out; have := HB1.out; omega), hD.drewN _⟩
      case measure => simp [intOf]; exact HL.out
set_option maxHeartbeats 1000000 in
theorem size_any (p : Int) (w : World) (h1 : -9223372036854775807 ≤ p) (h2 : p ≤ 9223372036854775807) :
    Calls Tryz.prog 61 #[.int .i64 p] w fun e w' => e = .returned (.int .i64 p.natAbs) ∧ w = w' := by
  have hw : IntKind.i64.wrap (-p) = -p := IntWalk.i64_in _ (by omega)
  have H1 := Lib.hid h1; clear h1
  have H2 := Lib.hid h2; clear h2
  go_enter Tryz.func61, Tryz.ntmps61
  go_wp2
  all_goals go_ret
  all_goals exact ⟨ret_int (by have := H1.out; have := H2.out; omega), rfl⟩
set_option maxHeartbeats 1000000 in
theorem sumOf_any (a : Option Addr) (L : List Int) (n c : Nat) (w : World) (hn : n = L.length) (hL : RowsAt 1 intL w a L) (hl : L.length ≤ 1000000) (h0 : ∀ x ∈ L, 0 ≤ x) (h1 : sumI L ≤ 1000000000000000000) :
    Calls Tryz.prog 40 #[.slice a n c] w fun e w' => e = .returned (.int .i64 (sumI L)) ∧ w = w' := by
  subst hn
  have H0 := Lib.hid h0; clear h0
  go_enter Tryz.func40, Tryz.ntmps40
  go_wp2_with fail
  go_loop [3, 8] (fun s i => ∃ k : Nat, k ≤ L.length ∧ i = .int .i64 k ∧ s = .int .i64 (sumI (L.take k))) (fun _ i => L.length - (intOf i).toNat)
  case atStart => exact ⟨0, Nat.zero_le _, rfl, rfl⟩
  case round =>
    obtain ⟨k, hk, rfl, rfl⟩ := hrel
    by_cases hlt : k < L.length
    · obtain ⟨ad, rfl, had, s0⟩ := hL.int hlt
      have HS := Lib.hid (sumI_step hlt)
      have hb := sumI_take_le H0.out (k + 1)
      have hb0 := sumI_take_le H0.out k
      rw [HS.out] at hb
      obtain ⟨x, ex⟩ : ∃ x, x = L[k] := ⟨_, rfl⟩
      rw [← ex] at s0 HS hb
      obtain ⟨S, hS⟩ : ∃ S, S = sumI (L.take k) := ⟨_, rfl⟩
      rw [← hS] at HS hb hb0 ⊢
      obtain ⟨b1, b2⟩ := hb
      obtain ⟨b3, b4⟩ := hb0
      clear ex hS
      go_wp2
      go_round
      case rel => exact ⟨k + 1, by omega, by go_num, by rw [HS.out]⟩
      case measure => simp [intOf]; omega
    · go_wp2
      go_ret
      exact ⟨ret_int (by rw [List.take_of_length_le (by omega)]), rfl⟩
/-- The error of a chance with a greatest denominator. -/
def chErr (n d most : Int) : Int := if d < 1 then 3 else if Int.gcd n d ≠ 1 then 3 else if inB n 0 d = false then 2 else if most < d then 2 else 0
theorem ch_ok {n d most : Int} (h : chErr n d most = 0) : 1 ≤ d ∧ Int.gcd n d = 1 ∧ (0 ≤ n ∧ n ≤ d) ∧ d ≤ most := by
  unfold chErr at h
  split at h
  · cases h
  split at h
  · cases h
  split at h
  · cases h
  rename_i h3
  split at h
  · cases h
  exact ⟨by omega, by omega, inB_iff.1 (by simpa using h3), by omega⟩
set_option maxHeartbeats 2000000 in
theorem errorOfChance_any (n d most : Int) (w : World) (hn : OkI n) (hd : OkI d) :
    Calls Tryz.prog 62 #[.agg #[.int .i64 n, .int .i64 d], .int .i64 most] w (CheckPost (chErr n d most) w) := by
  have hb := (Below.refl w.heap.size w).alloc (Nat.le_refl _) (.cells #[.int .i64 n, .int .i64 d] 46)
  by_cases h1 : d < 1
  · have HE := Lib.hid (show chErr n d most = 3 by unfold chErr; rw [if_pos h1])
    go_enter Tryz.func62, Tryz.ntmps62
    go_wp2_with fail
    go_ret
    exact ⟨ret_int HE.out.symm, hb⟩
  have h1' : decide (d < 1) = false := decide_eq_false h1
  have HC := Lib.hid (fun W => divisorOf_any n d W hn (by omega) hd)
  obtain ⟨g, hg⟩ : ∃ g, g = Int.gcd n d := ⟨_, rfl⟩
  rw [← hg] at HC
  have HG := Lib.hid hg
  clear hg
  by_cases h2 : g = 1
  · have h2' : ((g : Int) != 1) = false := by simp [h2]
    have HG1 := Lib.hid (show Int.gcd n d = 1 by rw [← HG.out]; exact h2)
    clear h2
    cases h3 : inB n 0 d
    · have HE := Lib.hid (show chErr n d most = 2 by unfold chErr; rw [if_neg h1, if_neg (by rw [HG1.out]; simp), if_pos h3])
      go_enter Tryz.func62, Tryz.ntmps62
      go_wp2_with (first | (go_at_call 35; refine (isFrom_any _ _ _ _).mono ?_; rintro e w' ⟨rfl, rfl⟩) | (go_at_call 41; refine (HC.out _).mono ?_; rintro e w' ⟨rfl, nq, rfl⟩))
      go_ret
      exact ⟨ret_int HE.out.symm, below_drewN hb _⟩
    by_cases h4 : most < d
    · have HE := Lib.hid (show chErr n d most = 2 by unfold chErr; rw [if_neg h1, if_neg (by rw [HG1.out]; simp), if_neg (by simp [h3]), if_pos h4])
      go_enter Tryz.func62, Tryz.ntmps62
      go_wp2_with (first | (go_at_call 35; refine (isFrom_any _ _ _ _).mono ?_; rintro e w' ⟨rfl, rfl⟩) | (go_at_call 41; refine (HC.out _).mono ?_; rintro e w' ⟨rfl, nq, rfl⟩))
      go_ret
      exact ⟨ret_int HE.out.symm, below_drewN hb _⟩
    · have HE := Lib.hid (show chErr n d most = 0 by unfold chErr; rw [if_neg h1, if_neg (by rw [HG1.out]; simp), if_neg (by simp [h3]), if_neg h4])
      go_enter Tryz.func62, Tryz.ntmps62
      go_wp2_with (first | (go_at_call 35; refine (isFrom_any _ _ _ _).mono ?_; rintro e w' ⟨rfl, rfl⟩) | (go_at_call 41; refine (HC.out _).mono ?_; rintro e w' ⟨rfl, nq, rfl⟩))
      go_ret
      exact ⟨ret_int HE.out.symm, below_drewN hb _⟩
  · have h2' : ((g : Int) != 1) = true := by simp; omega
    have HE := Lib.hid (show chErr n d most = 3 by unfold chErr; rw [if_neg h1, if_pos (by rw [← HG.out]; exact h2)])
    clear h2
    go_enter Tryz.func62, Tryz.ntmps62
    go_wp2_with (go_at_call 41; refine (HC.out _).mono ?_; rintro e w' ⟨rfl, nq, rfl⟩)
    go_ret
    exact ⟨ret_int HE.out.symm, below_drewN hb _⟩
set_option maxHeartbeats 1000000 in
theorem errorOfSpoil_any (n d : Int) (w : World) (hn : OkI n) (hd : OkI d) :
    Calls Tryz.prog 38 #[.agg #[.int .i64 n, .int .i64 d]] w (CheckPost (chErr n d 10) w) := by
  have hb := (Below.refl w.heap.size w).alloc (Nat.le_refl _) (.cells #[.int .i64 n, .int .i64 d] 46)
  go_enter Tryz.func38, Tryz.ntmps38
  go_wp2_with (go_at_call 62; refine (errorOfChance_any _ _ _ _ hn hd).mono ?_; rintro e w' ⟨rfl, hb1⟩)
  go_ret
  exact ⟨rfl, hb.trans (hb1.mono (by simp))⟩
end Go.Proofs.YtdgegebplebeoaaGreatDoor
