/-
  Package press: the reference's powers and ways, the sum of the good cases: the weights are binomial.
-/
import Derived.Test.YtpplcbpnojggcaaEI
namespace Go.Proofs.Ytpplcbpnojggcaa
open Go.RowKit

def chI : Nat → Nat → Int
  | _, 0 => 1
  | 0, _ + 1 => 0
  | n + 1, k + 1 => chI n k + chI n (k + 1)
theorem chI_out : ∀ (n i : Nat), n < i → chI n i = 0
  | 0, i + 1, _ => rfl
  | n + 1, i + 1, h => by
    show chI n i + chI n (i + 1) = 0
    rw [chI_out n i (by omega), chI_out n (i + 1) (by omega)]; rfl
theorem wf_ch (N G : Int) : ∀ (n i : Nat), i ≤ n → wf N G n i = chI n i * G ^ i * N ^ (n - i)
  | 0, 0, _ => by simp [wf, chI]
  | n + 1, 0, _ => by
    have h := wf_ch N G n 0 (Nat.zero_le _)
    show wf N G n 0 * N + 0 = _
    rw [h, Nat.sub_zero, Nat.sub_zero, Int.pow_succ]
    have e : chI n 0 = 1 := by cases n <;> rfl
    rw [e]; simp [chI]
  | n + 1, i + 1, hi => by
    show wf N G n (i + 1) * N + wf N G n i * G = (chI n i + chI n (i + 1)) * G ^ (i + 1) * N ^ (n + 1 - (i + 1))
    have h1 := wf_ch N G n i (by omega)
    rw [h1, show n + 1 - (i + 1) = n - i by omega]
    rcases Nat.lt_or_ge i n with hlt | hge
    · rw [wf_ch N G n (i + 1) (by omega), show n - i = (n - (i + 1)) + 1 by omega, Int.pow_succ N, Int.pow_succ G]
      rw [Int.add_mul, Int.add_mul]
      have e1 : chI n (i + 1) * (G ^ i * G) * N ^ (n - (i + 1)) * N = chI n (i + 1) * (G ^ i * G) * (N ^ (n - (i + 1)) * N) := Int.mul_assoc _ _ _
      have e2 : chI n i * G ^ i * (N ^ (n - (i + 1)) * N) * G = chI n i * (G ^ i * G) * (N ^ (n - (i + 1)) * N) := by
        rw [Int.mul_right_comm, Int.mul_assoc (chI n i)]
      rw [e1, e2]; omega
    · obtain rfl : i = n := by omega
      rw [wf_out N G i (i + 1) (by omega), chI_out i (i + 1) (by omega), Int.pow_succ G, Nat.sub_self]
      simp [Int.mul_assoc]
theorem ways_step : ∀ n, n < 18 → ∀ i, i < n → chI n i * ((n : Int) - (i : Int)) / ((i : Int) + 1) = chI n (i + 1) := by decide +kernel
theorem ways_bd : ∀ n, n < 18 → ∀ i, i < 19 → 0 ≤ chI n i ∧ chI n i ≤ 100000 := by decide +kernel
theorem ways_ten : ∀ n, n < 18 → ∀ i, i < 18 → chI n i * 10 ^ i ≤ 1000000000000000000 := by decide +kernel
theorem pow_ten {G : Int} (h0 : 0 ≤ G) (h1 : G ≤ 10) : ∀ k : Nat, G ^ k ≤ 10 ^ k
  | 0 => by simp
  | k + 1 => by
    have ih := pow_ten h0 h1 k
    have h10 : (0 : Int) ≤ 10 ^ k := Int.pow_nonneg (by decide)
    rw [Int.pow_succ, Int.pow_succ]
    exact Int.mul_le_mul ih h1 h0 h10
set_option maxHeartbeats 1000000 in
theorem power_any (n : Int) (k : Nat) (w : World) (h0 : 0 ≤ n) (h1 : n ≤ 10) (hk : k ≤ 17) :
    Calls Try.prog 99 #[.int .i64 n, .int .i64 k] w fun e w' => e = .returned (.int .i64 (n ^ k)) ∧ w = w' := by
  have hb : ∀ j : Nat, j ≤ 17 → 0 ≤ n ^ j ∧ n ^ j ≤ 100000000000000000 := fun j hj => by
    rcases Int.lt_or_le n 1 with hn | hn
    · have : n = 0 := by omega
      subst this
      rcases j with _ | j
      · simp
      · rw [Int.pow_succ]; simp
    · have := pow_le17 hn h1 j hj
      have := ten_le j hj
      omega
  have HB := Lib.hid hb
  clear hb
  go_enter Try.func99, Try.ntmps99
  go_wp2
  go_loop [6, 5] (fun i v5 => ∃ (j : Nat) (x : Int), j ≤ k ∧ i = .int .i64 j ∧ v5 = .int .i64 x ∧ Hid (x = n ^ j)) (fun i _ => k - (intOf i).toNat)
  case atStart => exact ⟨0, 1, Nat.zero_le _, rfl, rfl, Lib.hid (by simp)⟩
  case round =>
    obtain ⟨j, x, hj, rfl, rfl, HX⟩ := hrel
    by_cases hlt : j < k
    · have hlt' : (j : Int) < (k : Int) := by omega
      have hx : 0 ≤ x * n ∧ x * n ≤ 100000000000000000 := by
        have := HB.out (j + 1) (by omega)
        rw [Int.pow_succ, ← HX.out] at this; exact this
      have HY := Lib.hid (show x * n = n ^ (j + 1) by rw [Int.pow_succ, ← HX.out])
      obtain ⟨y, hy⟩ : ∃ y, y = x * n := ⟨_, rfl⟩
      rw [← hy] at hx HY
      have hw : IntKind.i64.wrap (x * n) = y := by rw [← hy]; exact IntWalk.i64_in _ (by omega)
      clear hy
      go_wp2
      go_round
      case rel => exact ⟨j + 1, y, by omega, by go_num, rfl, HY⟩
      case measure => simp [intOf]; omega
    · obtain rfl : j = k := by omega
      go_wp2
      go_ret
      exact ⟨ret_int HX.out, rfl⟩
set_option maxHeartbeats 1000000 in
theorem ways_any (n k : Nat) (w : World) (hn : n ≤ 17) (hk : k ≤ n) :
    Calls Try.prog 134 #[.int .i64 n, .int .i64 k] w fun e w' => e = .returned (.int .i64 (chI n k)) ∧ w = w' := by
  have HS := Lib.hid (ways_step n (by omega))
  have HB := Lib.hid (ways_bd n (by omega))
  go_enter Try.func134, Try.ntmps134
  go_wp2
  go_loop [6, 5] (fun i v5 => ∃ (j : Nat) (x : Int), j ≤ k ∧ i = .int .i64 j ∧ v5 = .int .i64 x ∧ Hid (x = chI n j)) (fun i _ => k - (intOf i).toNat)
  case atStart => exact ⟨0, 1, Nat.zero_le _, rfl, rfl, Lib.hid (by cases n <;> rfl)⟩
  case round =>
    obtain ⟨j, x, hj, rfl, rfl, HX⟩ := hrel
    by_cases hlt : j < k
    · have hlt' : (j : Int) < (k : Int) := by omega
      have hx := HB.out j (by omega)
      rw [← HX.out] at hx
      have h17 := mul_bd (a := x) (b := (n : Int) - j) (A := 100000) (B := 17) hx.1 hx.2 (by omega) (by omega)
      have hst := HS.out j (by omega)
      rw [← HX.out] at hst
      obtain ⟨y, hy⟩ : ∃ y, y = x * ((n : Int) - j) := ⟨_, rfl⟩
      rw [← hy] at h17 hst
      have hw : IntKind.i64.wrap (x * ((n : Int) - j)) = y := by rw [← hy]; exact IntWalk.i64_in _ (by omega)
      have hy1 := HB.out (j + 1) (by omega)
      have HZ := Lib.hid hst
      have hq : y.tdiv ((j : Int) + 1) = y / ((j : Int) + 1) := Int.tdiv_eq_ediv_of_nonneg h17.1
      clear hy hst
      have hzz : ((j : Int) + 1 == 0) = false := by simp; omega
      have hw2 : wrap64 (y / ((j : Int) + 1)) = chI n (j + 1) := by rw [HZ.out]; exact IntWalk.wrap64_in _ (by omega)
      obtain ⟨z, hz⟩ : ∃ z, z = chI n (j + 1) := ⟨_, rfl⟩
      rw [← hz] at hw2 hy1
      have HZZ := Lib.hid hz
      clear hz
      go_wp2
      go_round
      case rel => exact ⟨j + 1, z, by omega, by go_num, by first | rfl | rw [hw2], HZZ⟩
      case measure => simp [intOf]; omega
    · obtain rfl : j = k := by omega
      go_wp2
      go_ret
      exact ⟨ret_int HX.out, rfl⟩
theorem tl_step {N G : Int} {n k : Nat} (hn : n ≤ 17) (hk : k ≤ n) : tl N G n k = wf N G n k + tl N G n (k + 1) := by
  have h1 := tl_drop (N := N) (G := G) (n := n) (k := k) (by omega) (by omega)
  have h2 := tl_drop (N := N) (G := G) (n := n) (k := k + 1) (by omega) (by omega)
  have hl : k < (wts N G n).length := by rw [wts_len]; omega
  rw [← h1, ← h2, List.drop_eq_getElem_cons hl, wts_at]
  rfl
set_option maxRecDepth 100000 in
set_option maxHeartbeats 2000000 in
theorem good_any (n good : Nat) (N D : Int) (w : World) (hn : n ≤ 17) (hg : good ≤ n) (h0 : 0 ≤ N) (h1 : N ≤ D) (h2 : 1 ≤ D) (h3 : D ≤ 10) :
    Calls Try.prog 98 #[.agg #[.int .i64 n, .int .i64 good, .int .i64 N, .int .i64 D]] w (CheckPost (tl N (D - N) n good) w) := by
  have HST := Lib.hid (fun (k : Nat) (hk : k ≤ n) => tl_step (N := N) (G := D - N) hn hk)
  have HOUT := Lib.hid (tl_out (N := N) (G := D - N) (n := n) (k := n + 1) (by omega))
  have HNN := Lib.hid (fun k => tl_nonneg (N := N) (G := D - N) h0 (by omega) n k)
  have HLE := Lib.hid (fun k => tl_le (N := N) (G := D - N) h0 (by omega) n k (by omega))
  have HAL := Lib.hid (show tl N (D - N) n 0 ≤ 100000000000000000 by
    rw [tl_all (by omega), show N + (D - N) = D by omega]
    exact (all_bd h2 h3 hn).2)
  have HCH := Lib.hid (fun (k : Nat) (hk : k ≤ n) => wf_ch N (D - N) n k hk)
  have HWN := Lib.hid (fun k => wf_nonneg (N := N) (G := D - N) h0 (by omega) n k)
  have HCB := Lib.hid (fun k (hk : k < 19) => ways_bd n (by omega) k hk)
  have HPB := Lib.hid (fun (m : Int) (hm0 : 0 ≤ m) (hm1 : m ≤ 10) (j : Nat) (hj : j ≤ 17) => (show 0 ≤ m ^ j from Int.pow_nonneg hm0))
  obtain ⟨G, hG⟩ : ∃ G, G = D - N := ⟨_, rfl⟩
  rw [← hG] at HST HOUT HNN HLE HAL HCH HWN ⊢
  have hG0 : 0 ≤ G := by omega
  have hG1 : G ≤ 10 := by omega
  have hN1 : N ≤ 10 := by omega
  have hb0 := (Below.refl w.heap.size w).alloc (Nat.le_refl _) (.cells #[.int .i64 n, .int .i64 good, .int .i64 N, .int .i64 D] 42)
  have bx := BoxAt.new w #[.int .i64 n, .int .i64 good, .int .i64 N, .int .i64 D] 42
  have hDN : IntKind.i64.wrap (D - N) = G := by rw [hG]; exact IntWalk.i64_in _ (by omega)
  obtain ⟨W0, hW0⟩ : ∃ W0, W0 = w.alloc (.cells #[.int .i64 n, .int .i64 good, .int .i64 N, .int .i64 D] 42) := ⟨_, rfl⟩
  have HB := Lib.hid hb0; have HX := Lib.hid bx
  clear hb0 bx hG
  go_enter Try.func98, Try.ntmps98
  have c1 : (w.alloc (.cells #[.int .i64 n, .int .i64 good, .int .i64 N, .int .i64 D] 42)).cell? ⟨w.heap.size, 1, none⟩ = some (.int .i64 good) := HX.out.cell 1
  go_wp2
  rw [← hW0] at HB HX
  go_loopw [4, 3] (fun i v3 wr => ∃ (k : Nat) (s : Int), k ≤ n + 1 ∧ i = .int .i64 k ∧ v3 = .int .i64 s ∧ Hid (tl N G n good = s + tl N G n k) ∧ Hid (0 ≤ s) ∧ Drew W0 wr) (fun i _ _ => n + 1 - (intOf i).toNat)
  case atStart => exact ⟨good, 0, by omega, rfl, rfl, Lib.hid (by omega), Lib.hid (Int.le_refl _), by rw [hW0]; exact Drew.refl _⟩
  case round =>
    obtain ⟨k, s, hk, rfl, rfl, HS, HS0, hD⟩ := hrel
    have hxd := hD.box HX.out
    have d0 : wr.cell? ⟨w.heap.size, 0, none⟩ = some (.int .i64 n) := hxd.cell 0
    have d2 : wr.cell? ⟨w.heap.size, 2, none⟩ = some (.int .i64 N) := hxd.cell 2
    have d3 : wr.cell? ⟨w.heap.size, 3, none⟩ = some (.int .i64 D) := hxd.cell 3
    have hxl := hxd.lt
    have HD := Lib.hid hD
    clear hxd hD c1
    by_cases hlt : k ≤ n
    · have hle : (k : Int) ≤ (n : Int) := by omega
      have hst := HST.out k hlt
      have hch := HCH.out k hlt
      have hwn := HWN.out k
      have hnn := HNN.out (k + 1)
      have hle1 := HLE.out good
      have hal := HAL.out
      have hs0 := HS0.out
      have hs := HS.out
      have hcb := HCB.out k (by omega)
      have p1 := HPB.out G hG0 hG1 k (by omega)
      have p2 := HPB.out N h0 hN1 (n - k) (by omega)
      have HW := Lib.hid (fun (m : Nat) => Calls.quiet_of_same (flip_same (ways_any n k (wr.drewN m) hn hlt)))
      have HP1 := Lib.hid (fun (m : Nat) => Calls.quiet_of_same (flip_same (power_any G k (wr.drewN m) hG0 hG1 (by omega))))
      have HP2 := Lib.hid (fun (m : Nat) => Calls.quiet_of_same (flip_same (power_any N (n - k) (wr.drewN m) h0 hN1 (by omega))))
      obtain ⟨cc, hcc⟩ : ∃ cc, cc = chI n k := ⟨_, rfl⟩
      obtain ⟨q1, hq1⟩ : ∃ q1, q1 = G ^ k := ⟨_, rfl⟩
      obtain ⟨q2, hq2⟩ : ∃ q2, q2 = N ^ (n - k) := ⟨_, rfl⟩
      rw [← hcc] at hch hcb HW
      rw [← hq1] at hch p1 HP1
      rw [← hq2] at hch p2 HP2
      obtain ⟨t1, ht1⟩ : ∃ t1, t1 = cc * q1 := ⟨_, rfl⟩
      obtain ⟨t2, ht2⟩ : ∃ t2, t2 = t1 * q2 := ⟨_, rfl⟩
      have hwt : wf N G n k = t2 := by rw [hch, ← ht1, ← ht2]
      have ht20 : 0 ≤ t2 := by rw [← hwt]; exact hwn
      have ht2b : t2 ≤ 100000000000000000 := by omega
      have ht10 : 0 ≤ t1 := by rw [ht1]; exact Int.mul_nonneg hcb.1 p1
      have hq1b : t1 ≤ 1000000000000000000 := by
        have h := ways_ten n (by omega) k (by omega)
        rw [← hcc] at h
        have h2 := Int.mul_le_mul_of_nonneg_left (pow_ten hG0 hG1 k) hcb.1
        rw [← hq1, ← ht1] at h2
        exact Int.le_trans h2 h
      have w1 : IntKind.i64.wrap (cc * q1) = t1 := by rw [← ht1]; exact IntWalk.i64_in _ (by omega)
      have w2 : IntKind.i64.wrap (t1 * q2) = t2 := by rw [← ht2]; exact IntWalk.i64_in _ (by omega)
      have w3 : IntKind.i64.wrap (s + t2) = s + t2 := IntWalk.i64_in _ (by omega)
      have hnk : ((n - k : Nat) : Int) = (n : Int) - (k : Int) := by omega
      rw [hnk] at HP2
      have HR := Lib.hid (show tl N G n good = s + t2 + tl N G n (k + 1) by omega)
      have HR0 := Lib.hid (show 0 ≤ s + t2 by omega)
      clear hst hch hwn hnn hle1 hal hs0 hs hcb p1 p2 hcc hq1 hq2 ht1 ht2 hwt ht20 ht2b ht10 hq1b
      go_wp2
      go_quiet ((first
        | (go_at_call 134; with_reducible exact HW.out _)
        | (go_at_call 99; with_reducible exact HP1.out _)
        | (go_at_call 99; with_reducible exact HP2.out _)))
      go_wp2
      go_roundw
      case rel => exact ⟨k + 1, s + t2, by omega, by go_num, rfl, HR, HR0, HD.out.drewN _⟩
      case measure => simp [intOf]; omega
    · obtain rfl : k = n + 1 := by omega
      have HE := Lib.hid (show s = tl N G n good by have := HS.out; rw [HOUT.out] at this; omega)
      have hnl : ¬ (((n + 1 : Nat) : Int) ≤ (n : Int)) := by omega
      go_wp2
      go_ret
      exact ⟨ret_int HE.out, (HD.out).below HB.out⟩
end Go.Proofs.Ytpplcbpnojggcaa
