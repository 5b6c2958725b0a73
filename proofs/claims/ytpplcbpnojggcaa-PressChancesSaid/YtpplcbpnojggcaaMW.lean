/-
  PressChances: the walk of the law, its cases put together.
-/
import Derived.Test.YtpplcbpnojggcaaMS
import Derived.Test.YtpplcbpnojggcaaMT
import Derived.Test.YtpplcbpnojggcaaMU
import Derived.Test.YtpplcbpnojggcaaMV
namespace Go.Proofs.Ytpplcbpnojggcaa
open Go.RowKit

theorem chances_walk (n good N D s : Int) (w : World) (hN : OkI N) (hD : OkI D) :
    Calls Try.prog 4 #[.agg #[.int .i64 n, .int .i64 good, .int .i64 N, .int .i64 D], .int .i64 s] w (AggPost (.bool true) w) := by
  have HCO := Lib.hid (fun W => chanceOf_any n good N D W hN hD)
  have HEX := Lib.hid (fun W => expected_any s N D W hN hD)
  have HCC := Lib.hid (fun W => checkChance_any N D 10 W hN hD)
  have HCS := Lib.hid (fun W => checkSheets_any n good N D W hN hD)
  have hA1 : inB s 0 2000 = false → expErr s N D = 2 ∧ expX s N D = 0 ∧ expY s N D = 0 := fun h => by
    have h1 : expErr s N D = 2 := by unfold expErr; rw [if_pos h]
    exact ⟨h1, by unfold expX; rw [if_neg (by rw [h1]; decide)], by unfold expY; rw [if_neg (by rw [h1]; decide)]⟩
  have hA3 : inB s 0 2000 = true → chErr N D 10 = 0 → expErr s N D = 0 ∧ IntKind.i64.wrap (D - N) = D - N ∧ IntKind.i64.wrap (s * (D - N)) = s * (D - N) ∧ ∀ W, Calls Try.prog 31 #[.int .i64 (s * (D - N)), .int .i64 D] W (AggPost (.agg #[.int .i64 (expX s N D), .int .i64 (expY s N D)]) W) := fun h hc => by
    have h1 : expErr s N D = 0 := by unfold expErr; rw [if_neg (by simp [h]), hc]
    obtain ⟨hD1, -, hN1, hD2⟩ := ch_ok hc
    have hs := inB_iff.1 h
    have hub := mul_bd (a := s) (b := D - N) (A := 2000) (B := 10) hs.1 hs.2 (by omega) (by omega)
    refine ⟨h1, IntWalk.i64_in _ (by omega), IntWalk.i64_in _ (by omega), fun W => ?_⟩
    have := lowest_any (s * (D - N)) D W hub.1 (by omega) hD1 (by omega)
    unfold expX expY
    rw [if_pos h1, if_pos h1]
    exact this
  by_cases hse : sheetsErr n good N D = 0
  · obtain ⟨hn, hg, hN', hD', hce⟩ := sheets_ok hse
    have hf := chance_bd hse
    obtain ⟨hy, hx⟩ := hf
    have HRC := Lib.hid (fun W => refChanceOf_any n good N D W hse)
    have HM := Lib.hid (fun (hl : good < n) => by
      obtain ⟨h', hc⟩ := chance_more hse hl
      obtain ⟨hy', hx'⟩ := chance_bd h'
      exact (⟨chanceX n (good + 1) N D, chanceY n (good + 1) N D, _, fun W => by have := chanceOf_any n (good + 1) N D W hN hD; rw [h'] at this; exact this, fun W => chance_any3 _ _ W hy' hx', fun W => compare_any _ _ _ _ W (by omega) (by omega) (by omega) (by omega), by omega⟩ : ∃ X1 Y1 cc : Int, (∀ W, Calls Try.prog 27 #[.agg #[.int .i64 n, .int .i64 (good + 1), .int .i64 N, .int .i64 D]] W (ChancePost X1 Y1 0 W)) ∧ (∀ W, Calls Try.prog 34 #[.agg #[.int .i64 X1, .int .i64 Y1]] W (AggPost (.bool true) W)) ∧ (∀ W, Calls Try.prog 35 #[.int .i64 X1, .int .i64 Y1, .int .i64 (chanceX n good N D), .int .i64 (chanceY n good N D)] W fun e w' => e = .returned (.int .i64 cc) ∧ W = w') ∧ ¬ 0 < cc))
    have HS := Lib.hid (fun (hl : ¬ n = 17) => by
      obtain ⟨h', hc⟩ := chance_sheet hse hl
      obtain ⟨hy', hx'⟩ := chance_bd h'
      exact (⟨chanceX (n + 1) good N D, chanceY (n + 1) good N D, _, fun W => by have := chanceOf_any (n + 1) good N D W hN hD; rw [h'] at this; exact this, fun W => chance_any3 _ _ W hy' hx', fun W => compare_any _ _ _ _ W (by omega) (by omega) (by omega) (by omega), hc⟩ : ∃ X2 Y2 cc : Int, (∀ W, Calls Try.prog 27 #[.agg #[.int .i64 (n + 1), .int .i64 good, .int .i64 N, .int .i64 D]] W (ChancePost X2 Y2 0 W)) ∧ (∀ W, Calls Try.prog 34 #[.agg #[.int .i64 X2, .int .i64 Y2]] W (AggPost (.bool true) W)) ∧ (∀ W, Calls Try.prog 35 #[.int .i64 X2, .int .i64 Y2, .int .i64 (chanceX n good N D), .int .i64 (chanceY n good N D)] W fun e w' => e = .returned (.int .i64 cc) ∧ W = w') ∧ 0 ≤ cc))
    have hwn : IntKind.i64.wrap (n + 1) = n + 1 := IntWalk.i64_in _ (by omega)
    have hwg : IntKind.i64.wrap (good + 1) = good + 1 := IntWalk.i64_in _ (by omega)
    cases hin : inB s 0 2000
    · obtain ⟨a1, a2, a3⟩ := hA1 hin
      exact chances_good_A1 n good N D s w _ _ _ _ _ _ _ hin HCO HEX HCC HCS a1 a2 a3 hse HRC HM HS hwn hwg
    · obtain ⟨a1, a2, a3, a4⟩ := hA3 hin hce
      exact chances_good_A3 n good N D s w _ _ _ _ _ _ _ _ _ hin HCO HEX HCC HCS a1 hce a2 a3 (Lib.hid a4) hse HRC HM HS hwn hwg
  · have hX : chanceX n good N D = 0 := by unfold chanceX; rw [if_neg hse]
    have hY : chanceY n good N D = 0 := by unfold chanceY; rw [if_neg hse]
    cases hin : inB s 0 2000
    · obtain ⟨a1, a2, a3⟩ := hA1 hin
      exact chances_bad_A1 n good N D s w _ _ _ _ _ _ _ hin HCO HEX HCC HCS a1 a2 a3 hse hX hY
    · by_cases hce : chErr N D 10 = 0
      · obtain ⟨a1, a2, a3, a4⟩ := hA3 hin hce
        exact chances_bad_A3 n good N D s w _ _ _ _ _ _ _ _ _ hin HCO HEX HCC HCS a1 hce a2 a3 (Lib.hid a4) hse hX hY
      · have h1 : expErr s N D = chErr N D 10 := by unfold expErr; rw [if_neg (by simp [hin])]
        exact chances_bad_A2 n good N D s w _ _ _ _ _ _ _ hin HCO HEX HCC HCS h1 hce (by unfold expX; rw [if_neg (by rw [h1]; exact hce)]) (by unfold expY; rw [if_neg (by rw [h1]; exact hce)]) hse hX hY
end Go.Proofs.Ytpplcbpnojggcaa
