/-
  PressChances: what the law asks of chances: more right sheets are less likely, one more sheet makes enough of them likelier. Equality of fractions.
-/
import Derived.Test.YtpplcbpnojggcaaMQ
import Derived.Test.YtpplcbpnojggcaaEK
import Derived.Laws.StructEq
namespace Go.Proofs.Ytpplcbpnojggcaa
open Go.RowKit

theorem cmp3_le3 (a b : Int) : cmp3 (a - b) ≤ 0 ↔ a ≤ b := by
  rcases Int.lt_trichotomy a b with h | h | h
  · rw [cmp3_neg (by omega)]; omega
  · subst h; rw [Int.sub_self, cmp3_zero]; omega
  · rw [cmp3_pos (by omega)]; omega
theorem chance_sc3 {n good N D : Int} (h : sheetsErr n good N D = 0) : ScOk (chanceX n good N D) (chanceY n good N D) (D ^ n.toNat) (tl N (D - N) n.toNat good.toNat) := by
  obtain ⟨hn, hg, hN, hD, -⟩ := sheets_ok h
  unfold chanceX chanceY
  rw [if_pos h, if_pos h]
  have hab := all_bd (D := D) (n := n.toNat) (by omega) (by omega) (by omega)
  have hle := tl_le (N := N) (G := D - N) (by omega) (by omega) n.toNat good.toNat (by omega)
  have hA := tl_all (N := N) (G := D - N) (n := n.toNat) (by omega)
  rw [show N + (D - N) = D by omega] at hA
  rw [hA] at hle
  exact sc_ok (tl_nonneg (N := N) (G := D - N) (by omega) (by omega) _ _) hle hab.1 hab.2
theorem sheets_err3 {n good N D : Int} (h1 : 0 ≤ good) (h2 : good ≤ n) (h3 : n ≤ 17) (h : chErr N D 10 = 0) : sheetsErr n good N D = 0 := by
  unfold sheetsErr
  rw [if_neg (by rw [inB_yes (by omega)]; simp), if_neg (by rw [inB_yes (by omega)]; simp)]
  exact h
theorem chance_bd {n good N D : Int} (h : sheetsErr n good N D = 0) :
    (1 ≤ chanceY n good N D ∧ chanceY n good N D ≤ 100000000000000000) ∧ (0 ≤ chanceX n good N D ∧ chanceX n good N D ≤ chanceY n good N D) := by
  have hs := chance_sc3 h
  exact ⟨⟨hs.y1, Int.le_trans hs.yA hs.a1⟩, ⟨hs.x0, hs.xy⟩⟩
set_option maxHeartbeats 2000000 in
theorem chance_any3 (x y : Int) (w : World) (h1 : 1 ≤ y ∧ y ≤ 100000000000000000) (h2 : 0 ≤ x ∧ x ≤ y) :
    Calls Try.prog 34 #[.agg #[.int .i64 x, .int .i64 y]] w (AggPost (.bool true) w) := by
  have hb := (Below.refl w.heap.size w).alloc (Nat.le_refl _) (.cells #[.int .i64 x, .int .i64 y] 43)
  have i1 : inB y 1 100000000000000000 = true := inB_yes h1
  have i2 : inB x 0 y = true := inB_yes h2
  go_enter Try.func34, Try.ntmps34
  go_wp2_with (go_at_call 30; refine (within_any _ _ _ _).mono ?_; rintro e w' ⟨rfl, rfl⟩)
  go_ret
  exact ⟨rfl, hb⟩
theorem sc_parts {X Y A E : Int} (h : ScOk X Y A E) : ∃ q, 1 ≤ q ∧ A = Y * q ∧ E = X * q := by
  obtain ⟨y1, yA, x0, xy, md, ml, e0, eA, a1⟩ := h
  exact ⟨A / Y, Int.le_ediv_of_mul_le (by omega) (by omega), (Int.mul_ediv_cancel' (Int.dvd_of_emod_eq_zero md)).symm, ml.symm⟩
theorem sc_cross {X Y A E X' Y' A' E' : Int} (h : ScOk X Y A E) (h' : ScOk X' Y' A' E') (hc : E' * A ≤ E * A') : X' * Y ≤ X * Y' := by
  obtain ⟨q, q1, rfl, rfl⟩ := sc_parts h
  obtain ⟨p, p1, rfl, rfl⟩ := sc_parts h'
  have e1 : X' * p * (Y * q) = X' * Y * (p * q) := by rw [Int.mul_assoc, Int.mul_assoc, Int.mul_left_comm p Y q]
  have e2 : X * q * (Y' * p) = X * Y' * (p * q) := by rw [Int.mul_assoc, Int.mul_assoc, Int.mul_left_comm q Y' p, Int.mul_comm q p]
  rw [e1, e2] at hc
  exact Int.le_of_mul_le_mul_right hc (Int.mul_pos (by omega) (by omega))
theorem tl_less {N G : Int} (hN : 0 ≤ N) (hG : 0 ≤ G) {n k : Nat} (hn : n ≤ 17) (hk : k ≤ n) : tl N G n (k + 1) ≤ tl N G n k := by
  have h1 := tl_step (N := N) (G := G) hn hk
  have h2 := wf_nonneg hN hG n k
  omega
theorem tl_more {N G : Int} (hN : 0 ≤ N) (hG : 0 ≤ G) {n : Nat} (hn : n ≤ 17) : ∀ {k : Nat}, k ≤ n → tl N G n k * (N + G) ≤ tl N G (n + 1) k
  | 0, _ => by rw [tl_zero (by omega)]; exact Int.le_refl _
  | k + 1, hk => by
    rw [tl_succ, Int.mul_add]
    have := Int.mul_le_mul_of_nonneg_right (tl_less hN hG hn (show k ≤ n by omega)) hG
    omega
theorem chance_more {n good N D : Int} (h : sheetsErr n good N D = 0) (hl : good < n) :
    sheetsErr n (good + 1) N D = 0 ∧ cmp3 (chanceX n (good + 1) N D * chanceY n good N D - chanceX n good N D * chanceY n (good + 1) N D) ≤ 0 := by
  obtain ⟨hn, hg, hN, hD, he⟩ := sheets_ok h
  have h' : sheetsErr n (good + 1) N D = 0 := sheets_err3 (by omega) (by omega) (by omega) he
  refine ⟨h', (cmp3_le3 _ _).2 (sc_cross (chance_sc3 h) (chance_sc3 h') ?_)⟩
  have := tl_less (N := N) (G := D - N) (by omega) (by omega) (n := n.toNat) (k := good.toNat) (by omega) (by omega)
  rw [show good.toNat + 1 = (good + 1).toNat by omega] at this
  exact Int.mul_le_mul_of_nonneg_right this (Int.pow_nonneg (by omega))
theorem chance_sheet {n good N D : Int} (h : sheetsErr n good N D = 0) (hl : ¬ n = 17) :
    sheetsErr (n + 1) good N D = 0 ∧ 0 ≤ cmp3 (chanceX (n + 1) good N D * chanceY n good N D - chanceX n good N D * chanceY (n + 1) good N D) := by
  obtain ⟨hn, hg, hN, hD, he⟩ := sheets_ok h
  have h' : sheetsErr (n + 1) good N D = 0 := sheets_err3 (by omega) (by omega) (by omega) he
  have hc : chanceX n good N D * chanceY (n + 1) good N D ≤ chanceX (n + 1) good N D * chanceY n good N D := by
    refine sc_cross (chance_sc3 h') (chance_sc3 h) ?_
    have := tl_more (N := N) (G := D - N) (by omega) (by omega) (n := n.toNat) (k := good.toNat) (by omega) (by omega)
    rw [show N + (D - N) = D by omega] at this
    rw [show (n + 1).toNat = n.toNat + 1 by omega, Int.pow_succ, Int.mul_comm (D ^ n.toNat) D, ← Int.mul_assoc]
    exact Int.mul_le_mul_of_nonneg_right this (Int.pow_nonneg (by omega))
  refine ⟨h', ?_⟩
  rcases Int.lt_or_eq_of_le hc with hlt | heq
  · rw [cmp3_pos (by omega)]; decide
  · rw [heq, Int.sub_self]; decide
theorem run_eq_frac (d : Nat) (a b : Int) (w : World) : (Op.equalIn (d + 2) 40 (.agg #[.int .i64 a, .int .i64 b]) (.agg #[.int .i64 a, .int .i64 b])).run Try.prog w = .ok true w := by
  have hi := fun (x y : Int) (W : World) => run_equalIn_int (P := Try.prog) W d 3 .i64 .i64 x y Try.underlying3
  have h := run_equalIn_agg (P := Try.prog) w (d + 1) 40 #[.int .i64 a, .int .i64 b] #[.int .i64 a, .int .i64 b] (by kernel_rfl) (by kernel_rfl)
  rw [h]
  have hu := Try.underlying40
  have hr := fun W : World => run_underlying (w := W) Try.underlying3
  simp only [Program.fieldsOf, hu]
  simp [Op.eqFields, part, isAgg, hr, hi, go_sem]
theorem neq_frac (a b : Int) (w : World) : (binOp .neq 40 (.agg #[.int .i64 a, .int .i64 b]) (.agg #[.int .i64 a, .int .i64 b])).run Try.prog w = .ok (.bool false) w := by
  rw [run_neq_struct, run_eq_frac]; rfl
theorem neq_pair0 (a b : Int) (w : World) : (binOp .neq 43 (.agg #[.int .i64 a, .int .i64 b]) (.agg #[.int .i64 a, .int .i64 b])).run Try.prog w = .ok (.bool false) w := by
  rw [neq_pair]; simp
theorem eql_pair0 (a b : Int) (w : World) : (binOp .eql 43 (.agg #[.int .i64 a, .int .i64 b]) (.agg #[.int .i64 a, .int .i64 b])).run Try.prog w = .ok (.bool true) w := by
  rw [eql_pair]; simp
end Go.Proofs.Ytpplcbpnojggcaa
