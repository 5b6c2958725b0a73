/-
  Package press: what LeastSheets' answer tells; the law's test of a chance.
-/
import Derived.Test.YtpplcbpnojggcaaMK
namespace Go.Proofs.Ytpplcbpnojggcaa
open Go.RowKit

theorem chance_sc2 {n good N D : Int} (h : sheetsErr n good N D = 0) : ScOk (chanceX n good N D) (chanceY n good N D) (D ^ n.toNat) (tl N (D - N) n.toNat good.toNat) := by
  obtain ⟨hn, hg, hN, hD, -⟩ := sheets_ok h
  unfold chanceX chanceY
  rw [if_pos h, if_pos h]
  have hab := all_bd (D := D) (n := n.toNat) (by omega) (by omega) (by omega)
  have hle := tl_le (N := N) (G := D - N) (by omega) (by omega) n.toNat good.toNat (by omega)
  have hA := tl_all (N := N) (G := D - N) (n := n.toNat) (by omega)
  rw [show N + (D - N) = D by omega] at hA
  rw [hA] at hle
  exact sc_ok (tl_nonneg (N := N) (G := D - N) (by omega) (by omega) _ _) hle hab.1 hab.2
theorem lsF_spec (g : Nat) (N D rn rd : Int) : ∀ (f n : Nat), (lsF g N D rn rd f n).2 = 0 → ∃ m : Nat, (lsF g N D rn rd f n).1 = m ∧ n ≤ m ∧ m < n + f ∧ okS g N D rn rd m = true ∧ ∀ j, n ≤ j → j < m → okS g N D rn rd j = false
  | 0, _, h => by cases h
  | f + 1, n, h => by
    cases hk : okS g N D rn rd n
    · have e : lsF g N D rn rd (f + 1) n = lsF g N D rn rd f (n + 1) := by
        show (if okS g N D rn rd n then _ else _) = _
        rw [hk]; rfl
      rw [e] at h ⊢
      obtain ⟨m, h1, h2, h3, h4, h5⟩ := lsF_spec g N D rn rd f (n + 1) h
      refine ⟨m, h1, by omega, by omega, h4, fun j hj hjm => ?_⟩
      rcases Nat.lt_or_ge n j with hl | hg
      · exact h5 j hl hjm
      · obtain rfl : j = n := by omega
        exact hk
    · have e : lsF g N D rn rd (f + 1) n = ((n : Int), 0) := by
        show (if okS g N D rn rd n then _ else _) = _
        rw [hk]; rfl
      rw [e]
      exact ⟨n, rfl, Nat.le_refl _, by omega, hk, fun j h1 h2 => by omega⟩
theorem ls_spec {good N D rn rd : Int} (h : (lsR good N D rn rd).2 = 0) : ∃ m : Nat, (lsR good N D rn rd).1 = m ∧ (1 ≤ good ∧ good ≤ (m : Int)) ∧ m ≤ 17 ∧ chErr N D 10 = 0 ∧ chErr rn rd 1000000000 = 0 ∧ okS good.toNat N D rn rd m = true ∧ (∀ j : Nat, good ≤ (j : Int) → j < m → okS good.toNat N D rn rd j = false) := by
  unfold lsR at h ⊢
  split at h
  · cases h
  split at h
  · rename_i h2; exact absurd h h2
  split at h
  · rename_i h2; exact absurd h h2
  rename_i h1 h2 h3
  rw [if_neg h1, if_neg h2, if_neg h3]
  have hg := inB_iff.1 (Bool.of_not_eq_false h1)
  obtain ⟨m, e1, e2, e3, e4, e5⟩ := lsF_spec _ _ _ _ _ _ _ h
  exact ⟨m, e1, ⟨hg.1, by omega⟩, by omega, Decidable.of_not_not h2, Decidable.of_not_not h3, e4, fun j hj hm => e5 j (by omega) hm⟩
theorem sheets_err {n good N D : Int} (h1 : 0 ≤ good) (h2 : good ≤ n) (h3 : n ≤ 17) (h : chErr N D 10 = 0) : sheetsErr n good N D = 0 := by
  unfold sheetsErr
  rw [if_neg (by rw [inB_yes (by omega)]; simp), if_neg (by rw [inB_yes (by omega)]; simp)]
  exact h
theorem fewer_ok {X Y A E : Int} (rn rd : Int) (h : ScOk X Y A E) : decide ((A - E) * rd ≤ rn * A) = decide ((Y - X) * rd ≤ rn * Y) := by
  obtain ⟨y1, yA, x0, xy, md, ml, e0, eA, a1⟩ := h
  have hq : Y * (A / Y) = A := Int.mul_ediv_cancel' (Int.dvd_of_emod_eq_zero md)
  have hq1 : 1 ≤ A / Y := Int.le_ediv_of_mul_le (by omega) (by omega)
  obtain ⟨q, hqq⟩ : ∃ q, q = A / Y := ⟨_, rfl⟩
  rw [← hqq] at hq hq1 ml
  have e1 : (A - E) * rd = (Y - X) * rd * q := by rw [← hq]; rw [show Y * q - E = (Y - X) * q by rw [Int.sub_mul]; omega, Int.mul_right_comm]
  have e2 : rn * A = rn * Y * q := by rw [← hq, Int.mul_assoc]
  rw [e1, e2]
  exact decide_eq_decide.2 ⟨fun h => Int.le_of_mul_le_mul_right h (by omega), fun h => Int.mul_le_mul_of_nonneg_right h (by omega)⟩
/-- The chance of so many sheets: what the law asks of it. -/
theorem chance_fewer {n good N D rn rd : Int} (h : sheetsErr n good N D = 0) :
    (1 ≤ chanceY n good N D ∧ chanceY n good N D ≤ 100000000000000000) ∧ (0 ≤ chanceX n good N D ∧ chanceX n good N D ≤ chanceY n good N D) ∧ decide ((chanceY n good N D - chanceX n good N D) * rd ≤ rn * chanceY n good N D) = okS good.toNat N D rn rd n.toNat := by
  have hs := chance_sc2 h
  exact ⟨⟨hs.y1, Int.le_trans hs.yA hs.a1⟩, ⟨hs.x0, hs.xy⟩, (fewer_ok rn rd hs).symm⟩
set_option maxHeartbeats 2000000 in
theorem chance_any (x y : Int) (w : World) (h1 : 1 ≤ y ∧ y ≤ 100000000000000000) (h2 : 0 ≤ x ∧ x ≤ y) :
    Calls Try.prog 34 #[.agg #[.int .i64 x, .int .i64 y]] w (AggPost (.bool true) w) := by
  have hb := (Below.refl w.heap.size w).alloc (Nat.le_refl _) (.cells #[.int .i64 x, .int .i64 y] 43)
  have i1 : inB y 1 100000000000000000 = true := inB_yes h1
  have i2 : inB x 0 y = true := inB_yes h2
  go_enter Try.func34, Try.ntmps34
  go_wp2_with (go_at_call 30; refine (within_any _ _ _ _).mono ?_; rintro e w' ⟨rfl, rfl⟩)
  go_ret
  exact ⟨rfl, hb⟩
end Go.Proofs.Ytpplcbpnojggcaa
