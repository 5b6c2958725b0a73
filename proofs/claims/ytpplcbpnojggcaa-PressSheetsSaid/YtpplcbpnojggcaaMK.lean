/-
  Package press: the reference's LeastSheets.
-/
import Derived.Test.YtpplcbpnojggcaaMJ
namespace Go.Proofs.Ytpplcbpnojggcaa
open Go.RowKit

theorem cmp3_le (a b : Int) : cmp3 (a - b) ≤ 0 ↔ a ≤ b := by
  rcases Int.lt_trichotomy a b with h | h | h
  · rw [cmp3_neg (by omega)]; omega
  · subst h; rw [Int.sub_self, cmp3_zero]; omega
  · rw [cmp3_pos (by omega)]; omega
set_option maxRecDepth 100000 in
set_option maxHeartbeats 2000000 in
theorem refLeastSheets_any (good N D rn rd : Int) (w : World) (hN : OkI N) (hD : OkI D) (hrn : OkI rn) (hrd : OkI rd) :
    Calls Try.prog 37 #[.int .i64 good, .agg #[.int .i64 N, .int .i64 D], .agg #[.int .i64 rn, .int .i64 rd]] w (PairPost (lsR good N D rn rd) w) := by
  have hb := ((Below.refl w.heap.size w).alloc (Nat.le_refl _) (.cells #[.int .i64 N, .int .i64 D] 40)).alloc (by simp) (.cells #[.int .i64 rn, .int .i64 rd] 40)
  have bx := (BoxAt.new w #[.int .i64 N, .int .i64 D] 40).alloc (.cells #[.int .i64 rn, .int .i64 rd] 40)
  have bz := BoxAt.new (w.alloc (.cells #[.int .i64 N, .int .i64 D] 40)) #[.int .i64 rn, .int .i64 rd] 40
  rw [World.size_alloc] at bz
  have HC := Lib.hid (fun W => checkChance_any N D 10 W hN hD)
  have HR := Lib.hid (fun W => checkChance_any rn rd 1000000000 W hrn hrd)
  cases h1 : inB good 1 17
  · have HE := Lib.hid (show lsR good N D rn rd = (0, 2) by unfold lsR; rw [if_pos h1])
    rw [HE.out]
    go_enter Try.func37, Try.ntmps37
    go_wp2_with (first | (go_at_call 30; refine (within_any _ _ _ _).mono ?_; rintro e w' ⟨rfl, rfl⟩) | fail)
    go_ret2
    exact ⟨rfl, hb⟩
  by_cases h2 : chErr N D 10 = 0
  · by_cases h3 : chErr rn rd 1000000000 = 0
    · have hg := inB_iff.1 h1
      obtain ⟨hD1, -, hN1, hD2⟩ := ch_ok h2
      obtain ⟨hrd1, -, hrn1, hrd2⟩ := ch_ok h3
      have HE := Lib.hid (show lsR good N D rn rd = lsF good.toNat N D rn rd (18 - good.toNat) good.toNat by unfold lsR; rw [if_neg (by rw [h1]; decide), if_neg (by omega), if_neg (by omega)])
      obtain ⟨g, rfl⟩ : ∃ m : Nat, good = m := ⟨good.toNat, by omega⟩
      rw [HE.out, Int.toNat_natCast]
      obtain ⟨R, hR⟩ : ∃ R, R = lsF g N D rn rd (18 - g) g := ⟨_, rfl⟩
      rw [← hR]
      have H2 := Lib.hid h2; have H3 := Lib.hid h3
      have HRR := Lib.hid hR
      obtain ⟨W0, hW0⟩ : ∃ W0, W0 = (w.alloc (.cells #[.int .i64 N, .int .i64 D] 40)).alloc (.cells #[.int .i64 rn, .int .i64 rd] 40) := ⟨_, rfl⟩
      have hb' := hb; have bx' := bx; have bz' := bz
      rw [← hW0] at hb' bx' bz'
      have HB := Lib.hid hb'; have HX := Lib.hid bx'; have HZ := Lib.hid bz'
      clear hR h2 h3 HE hb' bx' bz'
      go_enter Try.func37, Try.ntmps37
      go_wp2_with (first | (go_at_call 30; refine (within_any _ _ _ _).mono ?_; rintro e w' ⟨rfl, rfl⟩) | fail)
      refine (HC.out _).mono ?_
      rintro e w1 ⟨rfl, hb1⟩
      rw [H2.out]
      have bx1 := bx.below hb1
      have bz1 := bz.below hb1
      have hB1 := hb.trans (hb1.mono (B' := w.heap.size) (by simp <;> omega))
      have c0 := bz1.cell 0; have c1 := bz1.cell 1
      simp at c0 c1
      have hbl := bz1.lt
      clear hb1 hb bx bz
      go_wp2_with fail
      refine (HR.out _).mono ?_
      rintro e w2 ⟨rfl, hb2⟩
      rw [H3.out]
      have HX := Lib.hid (bx1.below hb2)
      have HZ := Lib.hid (bz1.below hb2)
      have HB := Lib.hid (hB1.trans (hb2.mono (B' := w.heap.size) hB1.size))
      clear c0 c1 hbl bx1 bz1 hB1 hb2 HC HR
      go_wp2_with fail
      go_loopw [10] (fun i wr => ∃ k : Nat, g ≤ k ∧ k ≤ 18 ∧ i = .int .i64 k ∧ Hid (R = lsF g N D rn rd (18 - k) k) ∧ Hid (BoxAt wr w.heap.size #[.int .i64 N, .int .i64 D] 40) ∧ Hid (BoxAt wr (w.heap.size + 1) #[.int .i64 rn, .int .i64 rd] 40) ∧ Hid (Below w.heap.size w wr)) (fun i _ => 18 - (intOf i).toNat)
      case atStart => exact ⟨g, Nat.le_refl _, by omega, rfl, HRR, HX, HZ, HB⟩
      case round =>
        clear HX HZ HB HRR
        obtain ⟨k, hgk, hk, rfl, HRR, HX, HZ, HB⟩ := hrel
        by_cases hlt : k ≤ 17
        · have hlt' : (k : Int) ≤ 17 := by omega
          have HP := Lib.hid (fun W => power_any D k W (by omega) hD2 hlt)
          have HG := Lib.hid (fun W => good_any k g N D W hlt hgk hN1.1 hN1.2 hD1 hD2)
          have hab := all_bd (D := D) (n := k) (by omega) (by omega) (by omega)
          have hle := tl_le (N := N) (G := D - N) (by omega) (by omega) k g (by omega)
          have hnn := tl_nonneg (N := N) (G := D - N) (by omega) (by omega) k g
          rw [tl_all (by omega), show N + (D - N) = D by omega] at hle
          have HC := Lib.hid (fun W => compare_any (D ^ k - tl N (D - N) k g) (D ^ k) rn rd W (by omega) (by omega) (by omega) (by omega))
          have hcmp : decide (cmp3 ((D ^ k - tl N (D - N) k g) * rd - rn * D ^ k) ≤ 0) = okS g N D rn rd k := by
            unfold okS
            exact decide_eq_decide.2 (cmp3_le _ _)
          obtain ⟨cc, hcc⟩ : ∃ cc, cc = cmp3 ((D ^ k - tl N (D - N) k g) * rd - rn * D ^ k) := ⟨_, rfl⟩
          rw [← hcc] at HC hcmp
          obtain ⟨ok, hok⟩ : ∃ ok, ok = okS g N D rn rd k := ⟨_, rfl⟩
          rw [← hok] at hcmp
          obtain ⟨E, hE⟩ : ∃ E, E = tl N (D - N) k g := ⟨_, rfl⟩
          obtain ⟨A, hA⟩ : ∃ A, A = D ^ k := ⟨_, rfl⟩
          rw [← hE] at HG HC hle hnn
          rw [← hA] at HP HC hle hab
          have hw : IntKind.i64.wrap (A - E) = A - E := IntWalk.i64_in _ (by omega)
          have c0 := HX.out.cell 0; have c1 := HX.out.cell 1
          simp at c0 c1
          have hbl := HX.out.lt
          have HOK := Lib.hid hok
          clear hok hcc hE hA hab hle hnn
          go_wp2_with (first | (go_at_call 99; refine (HP.out _).mono ?_; rintro e w' ⟨rfl, rfl⟩) | fail)
          refine (HG.out _).mono ?_
          rintro e w4 ⟨rfl, hb4⟩
          have HX4 := Lib.hid (HX.out.below hb4)
          have HZ4 := Lib.hid (HZ.out.below hb4)
          have HB4 := Lib.hid ((HB.out).trans (hb4.mono (B' := w.heap.size) HB.out.size))
          have z0 := HZ4.out.cell 0; have z1 := HZ4.out.cell 1
          simp at z0 z1
          have hzl := HZ4.out.lt
          have hf : 18 - k = (17 - k) + 1 := by omega
          have hRR := HRR.out
          rw [hf] at hRR
          clear hb4 hf c0 c1 hbl
          cases ok
          · have hc0 : ¬ cc ≤ 0 := of_decide_eq_false hcmp
            have HRN := Lib.hid (show R = lsF g N D rn rd (18 - (k + 1)) (k + 1) by
              rw [hRR, show 18 - (k + 1) = 17 - k by omega]
              show (if okS g N D rn rd k then _ else _) = _
              rw [← HOK.out]; rfl)
            clear hRR
            go_wp2_with (first | (go_at_call 35; refine (HC.out _).mono ?_; rintro e w' ⟨rfl, rfl⟩) | fail)
            go_roundw
            case rel => exact ⟨k + 1, by omega, by omega, by go_num, HRN, HX4, HZ4, HB4⟩
            case measure => simp [intOf]; omega
          · have hc0 : cc ≤ 0 := of_decide_eq_true hcmp
            have HRN := Lib.hid (show R = ((k : Int), 0) by
              rw [hRR]
              show (if okS g N D rn rd k then _ else _) = _
              rw [← HOK.out]; rfl)
            clear hRR
            go_wp2_with (first | (go_at_call 35; refine (HC.out _).mono ?_; rintro e w' ⟨rfl, rfl⟩) | fail)
            go_ret2
            rw [HRN.out]
            exact ⟨rfl, HB4.out⟩
        · obtain rfl : k = 18 := by omega
          have HRN := Lib.hid (show R = (0, 12) from HRR.out)
          go_wp2_with fail
          go_ret2
          rw [HRN.out]
          exact ⟨rfl, HB.out⟩
    · have hb3 : (chErr rn rd 1000000000 != 0) = true := by simpa using h3
      have HE := Lib.hid (show lsR good N D rn rd = (0, chErr rn rd 1000000000) by unfold lsR; rw [if_neg (by rw [h1]; decide), if_neg (by omega), if_pos h3])
      rw [HE.out]
      have H2 := Lib.hid h2
      clear h2 h3
      go_enter Try.func37, Try.ntmps37
      go_wp2_with (first | (go_at_call 30; refine (within_any _ _ _ _).mono ?_; rintro e w' ⟨rfl, rfl⟩) | fail)
      refine (HC.out _).mono ?_
      rintro e w1 ⟨rfl, hb1⟩
      rw [H2.out]
      have bz1 := bz.below hb1
      have hB1 := hb.trans (hb1.mono (B' := w.heap.size) (by simp <;> omega))
      have c0 := bz1.cell 0; have c1 := bz1.cell 1
      simp at c0 c1
      have hbl := bz1.lt
      clear hb1 hb bx bz
      go_wp2_with fail
      refine (HR.out _).mono ?_
      rintro e w2 ⟨rfl, hb2⟩
      have HB := Lib.hid (hB1.trans (hb2.mono (B' := w.heap.size) hB1.size))
      clear hb2
      go_wp2_with fail
      go_ret2
      exact ⟨rfl, HB.out⟩
  · have hb3 : (chErr N D 10 != 0) = true := by simpa using h2
    have HE := Lib.hid (show lsR good N D rn rd = (0, chErr N D 10) by unfold lsR; rw [if_neg (by rw [h1]; decide), if_pos h2])
    rw [HE.out]
    clear h2
    go_enter Try.func37, Try.ntmps37
    go_wp2_with (first | (go_at_call 30; refine (within_any _ _ _ _).mono ?_; rintro e w' ⟨rfl, rfl⟩) | fail)
    refine (HC.out _).mono ?_
    rintro e w1 ⟨rfl, hb1⟩
    have HB := Lib.hid (hb.trans (hb1.mono (B' := w.heap.size) (by simp <;> omega)))
    clear hb1
    go_wp2_with fail
    go_ret2
    exact ⟨rfl, HB.out⟩
end Go.Proofs.Ytpplcbpnojggcaa
