/-
  The greatest common divisor; parts of the em.
-/
import Derived.Test.YtjkcomafgkabeaaDoorN2
namespace Go.Proofs.YtjkcomafgkabeaaDoor
open Go.RowKit Go.Maps

theorem sizeN_any (m : Nat) (h : m ≤ 1000000000) (w : World) :
    Calls Tryd.prog 57 #[.int .i64 m] w fun e w' => e = .returned (.int .i64 m) ∧ w' = w := by
  have h0 : (0 : Int) ≤ m := by omega
  have hd : decide ((m : Int) < 0) = false := by simp
  have hm : max (m : Int) (-(m : Int)) = m := by omega
  have hw : IntKind.i64.wrap (-(m : Int)) = -(m : Int) := IntWalk.i64_in _ (by omega)
  go_enter Tryd.func57, Tryd.ntmps57
  go_wp2
  go_ret
  exact ⟨rfl, rfl⟩

theorem gcd_step {m n : Nat} : Nat.gcd n (m % n) = Nat.gcd m n := by
  rw [Nat.gcd_comm m n, Nat.gcd_rec n m, Nat.gcd_comm]

set_option maxRecDepth 100000 in
set_option maxHeartbeats 1000000 in
theorem divisorOf_any (a b : Nat) (ha : a ≤ 1000000000) (hb : b ≤ 1000000000) (w : World) :
    Calls Tryd.prog 78 #[.int .i64 a, .int .i64 b] w fun e w' => e = .returned (.int .i64 (Nat.gcd a b : Nat)) ∧ Drew w w' := by
  go_enter Tryd.func78, Tryd.ntmps78
  go_wp2_with fail
  go_loopw [0, 1] (fun x y wr => ∃ m n : Nat, x = .int .i64 m ∧ y = .int .i64 n ∧ m ≤ 1000000000 ∧ n ≤ 1000000000 ∧ Hid (Nat.gcd m n = Nat.gcd a b) ∧ Drew w wr) (fun _ y _ => (intOf y).toNat)
  case atStart => exact ⟨a, b, rfl, rfl, ha, hb, Lib.hid rfl, Drew.refl _⟩
  case round =>
    obtain ⟨m, n, rfl, rfl, hm, hn, HG, hD⟩ := hrel
    by_cases h0 : n = 0
    · subst h0
      have HG2 := Lib.hid (show m = Nat.gcd a b by rw [← HG.out, Nat.gcd_zero_right])
      rw [show ((0 : Nat) : Int) = 0 from rfl]
      go_wp2
      go_ret
      exact ⟨ret_int (by rw [HG2.out]), hD⟩
    · have hnb : ((n : Int) != 0) = true := by simpa using h0
      have hnz : ((n : Int) == 0) = false := by simpa using h0
      have hn1 : (1 : Int) ≤ n := by omega
      have hm0 : (0 : Int) ≤ m := by omega
      have hmn := Nat.mod_lt m (show 0 < n by omega)
      have HM := Lib.hid (show (m : Int) % (n : Int) = ((m % n : Nat) : Int) by omega)
      go_wp2_with fail
      go_quiet (fail)
      go_wp2
      go_roundw
      case rel => exact ⟨n, m % n, rfl, by rw [← HM.out], hn, by omega, Lib.hid (by rw [gcd_step]; exact HG.out), hD.drewN _⟩
      case measure =>
        simp only [intOf]
        have := HM.out
        omega

set_option maxRecDepth 100000 in
set_option maxHeartbeats 1000000 in
theorem gcd_any (a b : Nat) (ha : a ≤ 1000000000) (hb : b ≤ 1000000000) (w : World) :
    Calls Tryd.prog 80 #[.int .i64 a, .int .i64 b] w fun e w' => e = .returned (.int .i64 (Nat.gcd a b : Nat)) ∧ Drew w w' := by
  go_enter Tryd.func80, Tryd.ntmps80
  go_wp2_with fail
  go_loopw [0, 1] (fun x y wr => ∃ m n : Nat, x = .int .i64 m ∧ y = .int .i64 n ∧ m ≤ 1000000000 ∧ n ≤ 1000000000 ∧ Hid (Nat.gcd m n = Nat.gcd a b) ∧ Drew w wr) (fun _ y _ => (intOf y).toNat)
  case atStart => exact ⟨a, b, rfl, rfl, ha, hb, Lib.hid rfl, Drew.refl _⟩
  case round =>
    obtain ⟨m, n, rfl, rfl, hm, hn, HG, hD⟩ := hrel
    by_cases h0 : n = 0
    · subst h0
      have HG2 := Lib.hid (show m = Nat.gcd a b by rw [← HG.out, Nat.gcd_zero_right])
      rw [show ((0 : Nat) : Int) = 0 from rfl]
      go_wp2_with fail
      refine (sizeN_any m hm _).mono ?_
      rintro e w2 ⟨rfl, rfl⟩
      go_wp2
      go_ret
      exact ⟨ret_int (by rw [HG2.out]), hD⟩
    · have hnb : ((n : Int) != 0) = true := by simpa using h0
      have hnz : ((n : Int) == 0) = false := by simpa using h0
      have hn1 : (1 : Int) ≤ n := by omega
      have hm0 : (0 : Int) ≤ m := by omega
      have hmn := Nat.mod_lt m (show 0 < n by omega)
      have HM := Lib.hid (show (m : Int) % (n : Int) = ((m % n : Nat) : Int) by omega)
      go_wp2_with fail
      go_quiet (fail)
      go_wp2
      go_roundw
      case rel => exact ⟨n, m % n, rfl, by rw [← HM.out], hn, by omega, Lib.hid (by rw [gcd_step]; exact HG.out), hD.drewN _⟩
      case measure =>
        simp only [intOf]
        have := HM.out
        omega
end Go.Proofs.YtjkcomafgkabeaaDoor
