/-
  PressChecks: the walk of the law.
-/
import Derived.Test.YtpplcbpnojggcaaGE
import Derived.Test.YtpplcbpnojggcaaAV
import Derived.Test.YtpplcbpnojggcaaAA
namespace Go.Proofs.Ytpplcbpnojggcaa
open Go.RowKit Go.Maps Go.Shelf

set_option maxRecDepth 100000 in
set_option maxHeartbeats 8000000 in
theorem checks_walk (a : Option Addr) (L : List Job) (c : Nat) (sa : Option Addr) (S : List Sl) (sc : Nat) (ja : Option Addr) (J : List Int) (jc : Nat) (w : World) (hR : RowsG 4 jobV w a L) (hlc : L.length ≤ c) (hcm : c ≤ maxLen) (hn : a = none → c = 0) (hsz : ∀ x ∈ L, x.name.size ≤ maxLen)
    (hS : RowsAt 3 Sl.l w sa S) (hsc : S.length ≤ sc) (hsm : sc ≤ maxLen) (hsn : sa = none → sc = 0) (hJ : RowsAt 1 intL w ja J) (hjc : J.length ≤ jc) (hjm : jc ≤ maxLen) (hjn : ja = none → jc = 0) :
    Calls Try.prog 13 #[.slice a L.length c, .slice sa S.length sc, .slice ja J.length jc] w (AggPost (.bool true) w) := by
  have hl := Nat.le_trans hlc hcm
  have hsl := Nat.le_trans hsc hsm
  have hjl := Nat.le_trans hjc hjm
  have HLI := Lib.hid (fun W h => light_any L a L.length c W rfl h hl hsz)
  have HCJ0 := Lib.hid (fun (h22 : L.length ≤ 22) W h => jobs_any L a L.length c W rfl h (Nat.le_trans h22 (by decide)) hn)
  have HCS0 := Lib.hid (fun (h22 : S.length ≤ 102) W h => slices_any S sa S.length sc W rfl h (Nat.le_trans h22 (by decide)) hsn)
  have HCI0 := Lib.hid (fun (h22 : J.length ≤ 25) W h => copyInts_any ja J J.length jc W rfl h (Nat.le_trans h22 (by decide)) hjn)
  have HPS0 := Lib.hid (fun (h22 : S.length ≤ 102) a3 c3 a4 c4 W h h2 => checkSchedule_any L a3 L.length c3 S a4 S.length c4 W rfl rfl h hl hsz h2 (Nat.le_trans h22 (by decide)))
  have HPB0 := Lib.hid (fun (h22 : J.length ≤ 25) a6 c6 a7 c7 W h h2 => checkBound_any L a6 L.length c6 J a7 J.length c7 W rfl rfl h hl hsz h2 (Nat.le_trans h22 (by decide)))
  have HRJ := Lib.hid (fun W h => refCheckJobs_any L a L.length c W rfl h hl hsz)
  have HRS0 := Lib.hid (fun (h0 : jobsErr L = 0) (h22 : S.length ≤ 102) W h h2 => refCheckSchedule_any L a L.length c S sa S.length sc W rfl rfl h (jobs_ok h0).1.1 (jobs_ok h0).1.2 (jobs_ok h0).2 h2 (Nat.le_trans h22 (by decide)))
  have HRB0 := Lib.hid (fun (h0 : jobsErr L = 0) (h22 : J.length ≤ 25) W h h2 => refCheckBound_any L a L.length c J ja J.length jc W rfl rfl h (jobs_ok h0).1.1 (jobs_ok h0).1.2 (jobs_ok h0).2 h2 (Nat.le_trans h22 (by decide)))
  have HR := Lib.hid hR; have HS := Lib.hid hS; have HJ := Lib.hid hJ
  have HB0 := Lib.hid (Below.refl w.heap.size w)
  have HBL := Lib.hid (fun (h0 : jobsErr L = 0) (h1 : csErr L S = 0) (h2 : cbErr L.length J = 0) => bound_le (jobs_ok h0).2 h1 h2)
  unfold maxLen at hl hsl hjl
  clear hR hlc hcm hn hsz hS hsc hsm hsn hJ hjc hjm hjn
  have HCASE : (20 < S.length ∧ S.length ≤ 100) ∨ 102 < S.length ∨ (25 < J.length ∧ S.length ≤ 20) ∨ (25 < J.length ∧ 100 < S.length ∧ S.length ≤ 102) ∨ (J.length ≤ 25 ∧ S.length ≤ 20) ∨ (J.length ≤ 25 ∧ 100 < S.length ∧ S.length ≤ 102) := by omega
  go_enter Try.func13, Try.ntmps13
  rcases HCASE with ⟨h1, h2⟩ | h1 | ⟨h3, h1⟩ | ⟨h3, h1, h2⟩ | ⟨h3, h1⟩ | ⟨h3, h1, h2⟩
  · skip
    have g2 : (20 : Int) < (S.length : Int) := by omega
    have g2x := decide_eq_true g2
    have g1 : (S.length : Int) ≤ 100 := by omega
    have g1x := decide_eq_true g1
    clear h1 h2
    go_wp2_with (first
      | (go_at_call 17; refine (awake_any _).mono ?_; rintro e w1 ⟨rfl, hb1⟩; have HB1 := Lib.hid (HB0.out.trans (hb1.mono HB0.out.size)); clear hb1)
      | (go_at_call 59; refine (HLI.out _ (HR.out.below HB1.out)).mono ?_; rintro e w2 ⟨⟨bb, rfl, hbb⟩, rfl⟩; cases bb))
    all_goals go_ret
    all_goals exact ⟨rfl, HB1.out⟩
  · skip
    have g2 : (20 : Int) < (S.length : Int) := by omega
    have g2x := decide_eq_true g2
    have g1 : ¬ (S.length : Int) ≤ 100 := by omega
    have g1x := decide_eq_false g1
    have g9 : (102 : Int) < (S.length : Int) := by omega
    have g9x := decide_eq_true g9
    clear h1
    go_wp2_with (first
      | (go_at_call 17; refine (awake_any _).mono ?_; rintro e w1 ⟨rfl, hb1⟩; have HB1 := Lib.hid (HB0.out.trans (hb1.mono HB0.out.size)); clear hb1)
      | (go_at_call 59; refine (HLI.out _ (HR.out.below HB1.out)).mono ?_; rintro e w2 ⟨⟨bb, rfl, hbb⟩, rfl⟩; cases bb))
    all_goals go_ret
    all_goals exact ⟨rfl, HB1.out⟩
  · skip
    have g2 : ¬ (20 : Int) < (S.length : Int) := by omega
    have g2x := decide_eq_false g2
    have g9 : ¬ (102 : Int) < (S.length : Int) := by omega
    have g9x := decide_eq_false g9
    have g0 : (25 : Int) < (J.length : Int) := by omega
    have g0x := decide_eq_true g0
    clear h3 h1
    go_wp2_with (first
      | (go_at_call 17; refine (awake_any _).mono ?_; rintro e w1 ⟨rfl, hb1⟩; have HB1 := Lib.hid (HB0.out.trans (hb1.mono HB0.out.size)); clear hb1)
      | (go_at_call 59; refine (HLI.out _ (HR.out.below HB1.out)).mono ?_; rintro e w2 ⟨⟨bb, rfl, hbb⟩, rfl⟩; cases bb))
    all_goals go_ret
    all_goals exact ⟨rfl, HB1.out⟩
  · skip
    have g2 : (20 : Int) < (S.length : Int) := by omega
    have g2x := decide_eq_true g2
    have g1 : ¬ (S.length : Int) ≤ 100 := by omega
    have g1x := decide_eq_false g1
    have g9 : ¬ (102 : Int) < (S.length : Int) := by omega
    have g9x := decide_eq_false g9
    have g0 : (25 : Int) < (J.length : Int) := by omega
    have g0x := decide_eq_true g0
    clear h3 h1 h2
    go_wp2_with (first
      | (go_at_call 17; refine (awake_any _).mono ?_; rintro e w1 ⟨rfl, hb1⟩; have HB1 := Lib.hid (HB0.out.trans (hb1.mono HB0.out.size)); clear hb1)
      | (go_at_call 59; refine (HLI.out _ (HR.out.below HB1.out)).mono ?_; rintro e w2 ⟨⟨bb, rfl, hbb⟩, rfl⟩; cases bb))
    all_goals go_ret
    all_goals exact ⟨rfl, HB1.out⟩
  · have HJ9 := Lib.hid h3; have HS9 := Lib.hid (show S.length ≤ 102 by omega)
    have g2 : ¬ (20 : Int) < (S.length : Int) := by omega
    have g2x := decide_eq_false g2
    have g9 : ¬ (102 : Int) < (S.length : Int) := by omega
    have g9x := decide_eq_false g9
    have g0 : ¬ (25 : Int) < (J.length : Int) := by omega
    have g0x := decide_eq_false g0
    clear h3 h1
    go_wp2_with (first
      | (go_at_call 17; refine (awake_any _).mono ?_; rintro e w1 ⟨rfl, hb1⟩; have HB1 := Lib.hid (HB0.out.trans (hb1.mono HB0.out.size)); clear hb1)
      | (go_at_call 59; refine (HLI.out _ (HR.out.below HB1.out)).mono ?_; rintro e w2 ⟨⟨bb, rfl, hbb⟩, rfl⟩; cases bb))
    · go_ret
      exact ⟨rfl, HB1.out⟩
    have HL9 := Lib.hid (show L.length ≤ 22 by first | exact hbb | exact hbb rfl | simpa using hbb)
    clear hbb
    have HCJ := Lib.hid (fun W h => HCJ0.out HL9.out W h)
    have HCS := Lib.hid (fun W h => HCS0.out HS9.out W h)
    have HCI := Lib.hid (fun W h => HCI0.out HJ9.out W h)
    have HPS := Lib.hid (fun a3 c3 a4 c4 W h h2 => HPS0.out HS9.out a3 c3 a4 c4 W h h2)
    have HPB := Lib.hid (fun a6 c6 a7 c7 W h h2 => HPB0.out HJ9.out a6 c6 a7 c7 W h h2)
    by_cases h0 : jobsErr L = 0
    · have HRS := Lib.hid (fun W h h2 => HRS0.out h0 HS9.out W h h2)
      have HRB := Lib.hid (fun W h h2 => HRB0.out h0 HJ9.out W h h2)
      have HVS0 := Lib.hid (show csF L S = csR L S by unfold csF; rw [if_neg (by simp [h0])])
      have HVB0 := Lib.hid (show cbF L J = cbR L J by unfold cbF; rw [if_neg (by simp [h0])])
      have H0 := Lib.hid h0
      rw [h0] at HRJ
      by_cases h1 : csErr L S = 0
      · have HWS0 := Lib.hid (show csR L S = (latI L S, latJ L S, 0) by unfold csR; rw [if_pos h1])
        by_cases h2 : cbErr L.length J = 0
        · have HWB0 := Lib.hid (show cbR L J = (bdI L J, 0) by unfold cbR; rw [if_pos h2])
          have hle := HBL.out h0 h1 h2
          obtain ⟨li, hli⟩ : ∃ li, li = latI L S := ⟨_, rfl⟩
          obtain ⟨lj, hlj⟩ : ∃ lj, lj = latJ L S := ⟨_, rfl⟩
          obtain ⟨bd, hbd⟩ : ∃ bd, bd = bdI L J := ⟨_, rfl⟩
          rw [← hli, ← hlj] at HWS0
          rw [← hbd] at HWB0
          rw [← hli, ← hbd] at hle
          have hlex := decide_eq_true hle
          have HVS : Hid (csF L S = (li, lj, 0)) := Lib.hid (by rw [HVS0.out, HWS0.out])
          have HVB : Hid (cbF L J = (bd, 0)) := Lib.hid (by rw [HVB0.out, HWB0.out])
          have HWS := HWS0; have HWB := HWB0
          clear hli hlj hbd h0 h1 h2
          refine (HCJ.out _ (HR.out.below HB1.out)).mono ?_
          rintro e w3 ⟨a3, c3, rfl, hr3, hn3, hb3⟩
          have HR3 := Lib.hid hr3
          have HB3 := Lib.hid (HB1.out.trans (hb3.mono HB1.out.size))
          clear hb3
          clear hr3 hn3
          go_wp2_with (first
            | (go_at_call 69; refine (HCS.out _ (HS.out.below HB3.out)).mono ?_; rintro e w4 ⟨a4, c4, rfl, hr4, hn4, hb4⟩; have HR34 := Lib.hid (HR3.out.below hb4); have HS4 := Lib.hid hr4; have HB4 := Lib.hid (HB3.out.trans (hb4.mono HB3.out.size)); clear hb4; clear hr4 hn4)
            | (go_at_call 68; refine (HPS.out a3 c3 a4 c4 _ HR34.out HS4.out).mono ?_; rintro e w5 ⟨rfl, hb5⟩; rw [HVS.out]; have HB5 := Lib.hid (HB4.out.trans (hb5.mono HB4.out.size)); clear hb5)
            | (go_at_call 61; refine (HCJ.out _ (HR.out.below HB5.out)).mono ?_; rintro e w6 ⟨a6, c6, rfl, hr6, hn6, hb6⟩; have HR6 := Lib.hid hr6; have HB6 := Lib.hid (HB5.out.trans (hb6.mono HB5.out.size)); clear hb6; clear hr6 hn6)
            | (go_at_call 47; refine (HCI.out _ (HJ.out.below HB6.out)).mono ?_; rintro e w7 ⟨v7, rfl, hO7, hb7⟩; obtain ⟨a7, c7, e7, hr7, -⟩ := hO7.rows int_l; subst e7; have HR67 := Lib.hid (HR6.out.below hb7); have HJ7 := Lib.hid hr7; have HB7 := Lib.hid (HB6.out.trans (hb7.mono HB6.out.size)); clear hb7; clear hO7 hr7)
            | (go_at_call 67; refine (HPB.out a6 c6 a7 c7 _ HR67.out HJ7.out).mono ?_; rintro e w8 ⟨rfl, hb8⟩; rw [HVB.out]; have HB8 := Lib.hid (HB7.out.trans (hb8.mono HB7.out.size)); clear hb8)
            | (go_at_call 62; refine (HRJ.out _ (HR.out.below HB8.out)).mono ?_; rintro e w9 ⟨rfl, hb9⟩; have HB9 := Lib.hid (HB8.out.trans (hb9.mono HB8.out.size)); clear hb9)
            | (go_at_call 65; refine (HRS.out _ (HR.out.below HB9.out) (HS.out.below HB9.out)).mono ?_; rintro e w10 ⟨rfl, hb10⟩; rw [HWS.out]; have HB10 := Lib.hid (HB9.out.trans (hb10.mono HB9.out.size)); clear hb10)
            | (go_at_call 66; refine (HRB.out _ (HR.out.below HB10.out) (HJ.out.below HB10.out)).mono ?_; rintro e w11 ⟨rfl, hb11⟩; rw [HWB.out]; have HB11 := Lib.hid (HB10.out.trans (hb11.mono HB10.out.size)); clear hb11))
          go_ret
          exact ⟨rfl, HB11.out⟩
        · have HWB0 := Lib.hid (show cbR L J = (0, cbErr L.length J) by unfold cbR; rw [if_neg h2])
          have h2x : (cbErr L.length J != 0) = true := by simpa using h2
          obtain ⟨li, hli⟩ : ∃ li, li = latI L S := ⟨_, rfl⟩
          obtain ⟨lj, hlj⟩ : ∃ lj, lj = latJ L S := ⟨_, rfl⟩
          obtain ⟨be, hbe⟩ : ∃ be, be = cbErr L.length J := ⟨_, rfl⟩
          rw [← hli, ← hlj] at HWS0
          rw [← hbe] at HWB0 h2x
          have HVS : Hid (csF L S = (li, lj, 0)) := Lib.hid (by rw [HVS0.out, HWS0.out])
          have HVB : Hid (cbF L J = (0, be)) := Lib.hid (by rw [HVB0.out, HWB0.out])
          have HWS := HWS0; have HWB := HWB0
          clear hli hlj hbe h0 h1 h2
          refine (HCJ.out _ (HR.out.below HB1.out)).mono ?_
          rintro e w3 ⟨a3, c3, rfl, hr3, hn3, hb3⟩
          have HR3 := Lib.hid hr3
          have HB3 := Lib.hid (HB1.out.trans (hb3.mono HB1.out.size))
          clear hb3
          clear hr3 hn3
          go_wp2_with (first
            | (go_at_call 69; refine (HCS.out _ (HS.out.below HB3.out)).mono ?_; rintro e w4 ⟨a4, c4, rfl, hr4, hn4, hb4⟩; have HR34 := Lib.hid (HR3.out.below hb4); have HS4 := Lib.hid hr4; have HB4 := Lib.hid (HB3.out.trans (hb4.mono HB3.out.size)); clear hb4; clear hr4 hn4)
            | (go_at_call 68; refine (HPS.out a3 c3 a4 c4 _ HR34.out HS4.out).mono ?_; rintro e w5 ⟨rfl, hb5⟩; rw [HVS.out]; have HB5 := Lib.hid (HB4.out.trans (hb5.mono HB4.out.size)); clear hb5)
            | (go_at_call 61; refine (HCJ.out _ (HR.out.below HB5.out)).mono ?_; rintro e w6 ⟨a6, c6, rfl, hr6, hn6, hb6⟩; have HR6 := Lib.hid hr6; have HB6 := Lib.hid (HB5.out.trans (hb6.mono HB5.out.size)); clear hb6; clear hr6 hn6)
            | (go_at_call 47; refine (HCI.out _ (HJ.out.below HB6.out)).mono ?_; rintro e w7 ⟨v7, rfl, hO7, hb7⟩; obtain ⟨a7, c7, e7, hr7, -⟩ := hO7.rows int_l; subst e7; have HR67 := Lib.hid (HR6.out.below hb7); have HJ7 := Lib.hid hr7; have HB7 := Lib.hid (HB6.out.trans (hb7.mono HB6.out.size)); clear hb7; clear hO7 hr7)
            | (go_at_call 67; refine (HPB.out a6 c6 a7 c7 _ HR67.out HJ7.out).mono ?_; rintro e w8 ⟨rfl, hb8⟩; rw [HVB.out]; have HB8 := Lib.hid (HB7.out.trans (hb8.mono HB7.out.size)); clear hb8)
            | (go_at_call 62; refine (HRJ.out _ (HR.out.below HB8.out)).mono ?_; rintro e w9 ⟨rfl, hb9⟩; have HB9 := Lib.hid (HB8.out.trans (hb9.mono HB8.out.size)); clear hb9)
            | (go_at_call 65; refine (HRS.out _ (HR.out.below HB9.out) (HS.out.below HB9.out)).mono ?_; rintro e w10 ⟨rfl, hb10⟩; rw [HWS.out]; have HB10 := Lib.hid (HB9.out.trans (hb10.mono HB9.out.size)); clear hb10)
            | (go_at_call 66; refine (HRB.out _ (HR.out.below HB10.out) (HJ.out.below HB10.out)).mono ?_; rintro e w11 ⟨rfl, hb11⟩; rw [HWB.out]; have HB11 := Lib.hid (HB10.out.trans (hb11.mono HB10.out.size)); clear hb11))
          go_ret
          exact ⟨rfl, HB11.out⟩
      · have HWS0 := Lib.hid (show csR L S = (0, 0, csErr L S) by unfold csR; rw [if_neg h1])
        have h1x : (csErr L S != 0) = true := by simpa using h1
        obtain ⟨se, hse⟩ : ∃ se, se = csErr L S := ⟨_, rfl⟩
        obtain ⟨be, hbe⟩ : ∃ be, be = cbR L J := ⟨_, rfl⟩
        rw [← hse] at HWS0 h1x
        obtain ⟨b1, b2⟩ := be
        have HVS : Hid (csF L S = (0, 0, se)) := Lib.hid (by rw [HVS0.out, HWS0.out])
        have HVB : Hid (cbF L J = (b1, b2)) := Lib.hid (by rw [HVB0.out, hbe])
        have HWB : Hid (cbR L J = (b1, b2)) := Lib.hid hbe.symm
        have HWS := HWS0
        clear hse hbe h0 h1
        refine (HCJ.out _ (HR.out.below HB1.out)).mono ?_
        rintro e w3 ⟨a3, c3, rfl, hr3, hn3, hb3⟩
        have HR3 := Lib.hid hr3
        have HB3 := Lib.hid (HB1.out.trans (hb3.mono HB1.out.size))
        clear hb3
        clear hr3 hn3
        go_wp2_with (first
          | (go_at_call 69; refine (HCS.out _ (HS.out.below HB3.out)).mono ?_; rintro e w4 ⟨a4, c4, rfl, hr4, hn4, hb4⟩; have HR34 := Lib.hid (HR3.out.below hb4); have HS4 := Lib.hid hr4; have HB4 := Lib.hid (HB3.out.trans (hb4.mono HB3.out.size)); clear hb4; clear hr4 hn4)
          | (go_at_call 68; refine (HPS.out a3 c3 a4 c4 _ HR34.out HS4.out).mono ?_; rintro e w5 ⟨rfl, hb5⟩; rw [HVS.out]; have HB5 := Lib.hid (HB4.out.trans (hb5.mono HB4.out.size)); clear hb5)
          | (go_at_call 61; refine (HCJ.out _ (HR.out.below HB5.out)).mono ?_; rintro e w6 ⟨a6, c6, rfl, hr6, hn6, hb6⟩; have HR6 := Lib.hid hr6; have HB6 := Lib.hid (HB5.out.trans (hb6.mono HB5.out.size)); clear hb6; clear hr6 hn6)
          | (go_at_call 47; refine (HCI.out _ (HJ.out.below HB6.out)).mono ?_; rintro e w7 ⟨v7, rfl, hO7, hb7⟩; obtain ⟨a7, c7, e7, hr7, -⟩ := hO7.rows int_l; subst e7; have HR67 := Lib.hid (HR6.out.below hb7); have HJ7 := Lib.hid hr7; have HB7 := Lib.hid (HB6.out.trans (hb7.mono HB6.out.size)); clear hb7; clear hO7 hr7)
          | (go_at_call 67; refine (HPB.out a6 c6 a7 c7 _ HR67.out HJ7.out).mono ?_; rintro e w8 ⟨rfl, hb8⟩; rw [HVB.out]; have HB8 := Lib.hid (HB7.out.trans (hb8.mono HB7.out.size)); clear hb8)
          | (go_at_call 62; refine (HRJ.out _ (HR.out.below HB8.out)).mono ?_; rintro e w9 ⟨rfl, hb9⟩; have HB9 := Lib.hid (HB8.out.trans (hb9.mono HB8.out.size)); clear hb9)
          | (go_at_call 65; refine (HRS.out _ (HR.out.below HB9.out) (HS.out.below HB9.out)).mono ?_; rintro e w10 ⟨rfl, hb10⟩; rw [HWS.out]; have HB10 := Lib.hid (HB9.out.trans (hb10.mono HB9.out.size)); clear hb10)
          | (go_at_call 66; refine (HRB.out _ (HR.out.below HB10.out) (HJ.out.below HB10.out)).mono ?_; rintro e w11 ⟨rfl, hb11⟩; rw [HWB.out]; have HB11 := Lib.hid (HB10.out.trans (hb11.mono HB10.out.size)); clear hb11))
        go_ret
        exact ⟨rfl, HB11.out⟩
    · have HVS := Lib.hid (show csF L S = (0, 0, jobsErr L) by unfold csF; rw [if_pos h0])
      have HVB := Lib.hid (show cbF L J = (0, jobsErr L) by unfold cbF; rw [if_pos h0])
      have h0x : (jobsErr L != 0) = true := by simpa using h0
      obtain ⟨je, hje⟩ : ∃ je, je = jobsErr L := ⟨_, rfl⟩
      rw [← hje] at HVS HVB HRJ h0x
      clear hje h0
      refine (HCJ.out _ (HR.out.below HB1.out)).mono ?_
      rintro e w3 ⟨a3, c3, rfl, hr3, hn3, hb3⟩
      have HR3 := Lib.hid hr3
      have HB3 := Lib.hid (HB1.out.trans (hb3.mono HB1.out.size))
      clear hb3
      clear hr3 hn3
      go_wp2_with (first
        | (go_at_call 69; refine (HCS.out _ (HS.out.below HB3.out)).mono ?_; rintro e w4 ⟨a4, c4, rfl, hr4, hn4, hb4⟩; have HR34 := Lib.hid (HR3.out.below hb4); have HS4 := Lib.hid hr4; have HB4 := Lib.hid (HB3.out.trans (hb4.mono HB3.out.size)); clear hb4; clear hr4 hn4)
        | (go_at_call 68; refine (HPS.out a3 c3 a4 c4 _ HR34.out HS4.out).mono ?_; rintro e w5 ⟨rfl, hb5⟩; rw [HVS.out]; have HB5 := Lib.hid (HB4.out.trans (hb5.mono HB4.out.size)); clear hb5)
        | (go_at_call 61; refine (HCJ.out _ (HR.out.below HB5.out)).mono ?_; rintro e w6 ⟨a6, c6, rfl, hr6, hn6, hb6⟩; have HR6 := Lib.hid hr6; have HB6 := Lib.hid (HB5.out.trans (hb6.mono HB5.out.size)); clear hb6; clear hr6 hn6)
        | (go_at_call 47; refine (HCI.out _ (HJ.out.below HB6.out)).mono ?_; rintro e w7 ⟨v7, rfl, hO7, hb7⟩; obtain ⟨a7, c7, e7, hr7, -⟩ := hO7.rows int_l; subst e7; have HR67 := Lib.hid (HR6.out.below hb7); have HJ7 := Lib.hid hr7; have HB7 := Lib.hid (HB6.out.trans (hb7.mono HB6.out.size)); clear hb7; clear hO7 hr7)
        | (go_at_call 67; refine (HPB.out a6 c6 a7 c7 _ HR67.out HJ7.out).mono ?_; rintro e w8 ⟨rfl, hb8⟩; rw [HVB.out]; have HB8 := Lib.hid (HB7.out.trans (hb8.mono HB7.out.size)); clear hb8)
        | (go_at_call 62; refine (HRJ.out _ (HR.out.below HB8.out)).mono ?_; rintro e w9 ⟨rfl, hb9⟩; have HB9 := Lib.hid (HB8.out.trans (hb9.mono HB8.out.size)); clear hb9))
      go_ret
      exact ⟨rfl, HB9.out⟩
  · have HJ9 := Lib.hid h3; have HS9 := Lib.hid (show S.length ≤ 102 by omega)
    have g2 : (20 : Int) < (S.length : Int) := by omega
    have g2x := decide_eq_true g2
    have g1 : ¬ (S.length : Int) ≤ 100 := by omega
    have g1x := decide_eq_false g1
    have g9 : ¬ (102 : Int) < (S.length : Int) := by omega
    have g9x := decide_eq_false g9
    have g0 : ¬ (25 : Int) < (J.length : Int) := by omega
    have g0x := decide_eq_false g0
    clear h3 h1 h2
    go_wp2_with (first
      | (go_at_call 17; refine (awake_any _).mono ?_; rintro e w1 ⟨rfl, hb1⟩; have HB1 := Lib.hid (HB0.out.trans (hb1.mono HB0.out.size)); clear hb1)
      | (go_at_call 59; refine (HLI.out _ (HR.out.below HB1.out)).mono ?_; rintro e w2 ⟨⟨bb, rfl, hbb⟩, rfl⟩; cases bb))
    · go_ret
      exact ⟨rfl, HB1.out⟩
    have HL9 := Lib.hid (show L.length ≤ 22 by first | exact hbb | exact hbb rfl | simpa using hbb)
    clear hbb
    have HCJ := Lib.hid (fun W h => HCJ0.out HL9.out W h)
    have HCS := Lib.hid (fun W h => HCS0.out HS9.out W h)
    have HCI := Lib.hid (fun W h => HCI0.out HJ9.out W h)
    have HPS := Lib.hid (fun a3 c3 a4 c4 W h h2 => HPS0.out HS9.out a3 c3 a4 c4 W h h2)
    have HPB := Lib.hid (fun a6 c6 a7 c7 W h h2 => HPB0.out HJ9.out a6 c6 a7 c7 W h h2)
    by_cases h0 : jobsErr L = 0
    · have HRS := Lib.hid (fun W h h2 => HRS0.out h0 HS9.out W h h2)
      have HRB := Lib.hid (fun W h h2 => HRB0.out h0 HJ9.out W h h2)
      have HVS0 := Lib.hid (show csF L S = csR L S by unfold csF; rw [if_neg (by simp [h0])])
      have HVB0 := Lib.hid (show cbF L J = cbR L J by unfold cbF; rw [if_neg (by simp [h0])])
      have H0 := Lib.hid h0
      rw [h0] at HRJ
      by_cases h1 : csErr L S = 0
      · have HWS0 := Lib.hid (show csR L S = (latI L S, latJ L S, 0) by unfold csR; rw [if_pos h1])
        by_cases h2 : cbErr L.length J = 0
        · have HWB0 := Lib.hid (show cbR L J = (bdI L J, 0) by unfold cbR; rw [if_pos h2])
          have hle := HBL.out h0 h1 h2
          obtain ⟨li, hli⟩ : ∃ li, li = latI L S := ⟨_, rfl⟩
          obtain ⟨lj, hlj⟩ : ∃ lj, lj = latJ L S := ⟨_, rfl⟩
          obtain ⟨bd, hbd⟩ : ∃ bd, bd = bdI L J := ⟨_, rfl⟩
          rw [← hli, ← hlj] at HWS0
          rw [← hbd] at HWB0
          rw [← hli, ← hbd] at hle
          have hlex := decide_eq_true hle
          have HVS : Hid (csF L S = (li, lj, 0)) := Lib.hid (by rw [HVS0.out, HWS0.out])
          have HVB : Hid (cbF L J = (bd, 0)) := Lib.hid (by rw [HVB0.out, HWB0.out])
          have HWS := HWS0; have HWB := HWB0
          clear hli hlj hbd h0 h1 h2
          refine (HCJ.out _ (HR.out.below HB1.out)).mono ?_
          rintro e w3 ⟨a3, c3, rfl, hr3, hn3, hb3⟩
          have HR3 := Lib.hid hr3
          have HB3 := Lib.hid (HB1.out.trans (hb3.mono HB1.out.size))
          clear hb3
          clear hr3 hn3
          go_wp2_with (first
            | (go_at_call 69; refine (HCS.out _ (HS.out.below HB3.out)).mono ?_; rintro e w4 ⟨a4, c4, rfl, hr4, hn4, hb4⟩; have HR34 := Lib.hid (HR3.out.below hb4); have HS4 := Lib.hid hr4; have HB4 := Lib.hid (HB3.out.trans (hb4.mono HB3.out.size)); clear hb4; clear hr4 hn4)
            | (go_at_call 68; refine (HPS.out a3 c3 a4 c4 _ HR34.out HS4.out).mono ?_; rintro e w5 ⟨rfl, hb5⟩; rw [HVS.out]; have HB5 := Lib.hid (HB4.out.trans (hb5.mono HB4.out.size)); clear hb5)
            | (go_at_call 61; refine (HCJ.out _ (HR.out.below HB5.out)).mono ?_; rintro e w6 ⟨a6, c6, rfl, hr6, hn6, hb6⟩; have HR6 := Lib.hid hr6; have HB6 := Lib.hid (HB5.out.trans (hb6.mono HB5.out.size)); clear hb6; clear hr6 hn6)
            | (go_at_call 47; refine (HCI.out _ (HJ.out.below HB6.out)).mono ?_; rintro e w7 ⟨v7, rfl, hO7, hb7⟩; obtain ⟨a7, c7, e7, hr7, -⟩ := hO7.rows int_l; subst e7; have HR67 := Lib.hid (HR6.out.below hb7); have HJ7 := Lib.hid hr7; have HB7 := Lib.hid (HB6.out.trans (hb7.mono HB6.out.size)); clear hb7; clear hO7 hr7)
            | (go_at_call 67; refine (HPB.out a6 c6 a7 c7 _ HR67.out HJ7.out).mono ?_; rintro e w8 ⟨rfl, hb8⟩; rw [HVB.out]; have HB8 := Lib.hid (HB7.out.trans (hb8.mono HB7.out.size)); clear hb8)
            | (go_at_call 62; refine (HRJ.out _ (HR.out.below HB8.out)).mono ?_; rintro e w9 ⟨rfl, hb9⟩; have HB9 := Lib.hid (HB8.out.trans (hb9.mono HB8.out.size)); clear hb9)
            | (go_at_call 65; refine (HRS.out _ (HR.out.below HB9.out) (HS.out.below HB9.out)).mono ?_; rintro e w10 ⟨rfl, hb10⟩; rw [HWS.out]; have HB10 := Lib.hid (HB9.out.trans (hb10.mono HB9.out.size)); clear hb10)
            | (go_at_call 66; refine (HRB.out _ (HR.out.below HB10.out) (HJ.out.below HB10.out)).mono ?_; rintro e w11 ⟨rfl, hb11⟩; rw [HWB.out]; have HB11 := Lib.hid (HB10.out.trans (hb11.mono HB10.out.size)); clear hb11))
          go_ret
          exact ⟨rfl, HB11.out⟩
        · have HWB0 := Lib.hid (show cbR L J = (0, cbErr L.length J) by unfold cbR; rw [if_neg h2])
          have h2x : (cbErr L.length J != 0) = true := by simpa using h2
          obtain ⟨li, hli⟩ : ∃ li, li = latI L S := ⟨_, rfl⟩
          obtain ⟨lj, hlj⟩ : ∃ lj, lj = latJ L S := ⟨_, rfl⟩
          obtain ⟨be, hbe⟩ : ∃ be, be = cbErr L.length J := ⟨_, rfl⟩
          rw [← hli, ← hlj] at HWS0
          rw [← hbe] at HWB0 h2x
          have HVS : Hid (csF L S = (li, lj, 0)) := Lib.hid (by rw [HVS0.out, HWS0.out])
          have HVB : Hid (cbF L J = (0, be)) := Lib.hid (by rw [HVB0.out, HWB0.out])
          have HWS := HWS0; have HWB := HWB0
          clear hli hlj hbe h0 h1 h2
          refine (HCJ.out _ (HR.out.below HB1.out)).mono ?_
          rintro e w3 ⟨a3, c3, rfl, hr3, hn3, hb3⟩
          have HR3 := Lib.hid hr3
          have HB3 := Lib.hid (HB1.out.trans (hb3.mono HB1.out.size))
          clear hb3
          clear hr3 hn3
          go_wp2_with (first
            | (go_at_call 69; refine (HCS.out _ (HS.out.below HB3.out)).mono ?_; rintro e w4 ⟨a4, c4, rfl, hr4, hn4, hb4⟩; have HR34 := Lib.hid (HR3.out.below hb4); have HS4 := Lib.hid hr4; have HB4 := Lib.hid (HB3.out.trans (hb4.mono HB3.out.size)); clear hb4; clear hr4 hn4)
            | (go_at_call 68; refine (HPS.out a3 c3 a4 c4 _ HR34.out HS4.out).mono ?_; rintro e w5 ⟨rfl, hb5⟩; rw [HVS.out]; have HB5 := Lib.hid (HB4.out.trans (hb5.mono HB4.out.size)); clear hb5)
            | (go_at_call 61; refine (HCJ.out _ (HR.out.below HB5.out)).mono ?_; rintro e w6 ⟨a6, c6, rfl, hr6, hn6, hb6⟩; have HR6 := Lib.hid hr6; have HB6 := Lib.hid (HB5.out.trans (hb6.mono HB5.out.size)); clear hb6; clear hr6 hn6)
            | (go_at_call 47; refine (HCI.out _ (HJ.out.below HB6.out)).mono ?_; rintro e w7 ⟨v7, rfl, hO7, hb7⟩; obtain ⟨a7, c7, e7, hr7, -⟩ := hO7.rows int_l; subst e7; have HR67 := Lib.hid (HR6.out.below hb7); have HJ7 := Lib.hid hr7; have HB7 := Lib.hid (HB6.out.trans (hb7.mono HB6.out.size)); clear hb7; clear hO7 hr7)
            | (go_at_call 67; refine (HPB.out a6 c6 a7 c7 _ HR67.out HJ7.out).mono ?_; rintro e w8 ⟨rfl, hb8⟩; rw [HVB.out]; have HB8 := Lib.hid (HB7.out.trans (hb8.mono HB7.out.size)); clear hb8)
            | (go_at_call 62; refine (HRJ.out _ (HR.out.below HB8.out)).mono ?_; rintro e w9 ⟨rfl, hb9⟩; have HB9 := Lib.hid (HB8.out.trans (hb9.mono HB8.out.size)); clear hb9)
            | (go_at_call 65; refine (HRS.out _ (HR.out.below HB9.out) (HS.out.below HB9.out)).mono ?_; rintro e w10 ⟨rfl, hb10⟩; rw [HWS.out]; have HB10 := Lib.hid (HB9.out.trans (hb10.mono HB9.out.size)); clear hb10)
            | (go_at_call 66; refine (HRB.out _ (HR.out.below HB10.out) (HJ.out.below HB10.out)).mono ?_; rintro e w11 ⟨rfl, hb11⟩; rw [HWB.out]; have HB11 := Lib.hid (HB10.out.trans (hb11.mono HB10.out.size)); clear hb11))
          go_ret
          exact ⟨rfl, HB11.out⟩
      · have HWS0 := Lib.hid (show csR L S = (0, 0, csErr L S) by unfold csR; rw [if_neg h1])
        have h1x : (csErr L S != 0) = true := by simpa using h1
        obtain ⟨se, hse⟩ : ∃ se, se = csErr L S := ⟨_, rfl⟩
        obtain ⟨be, hbe⟩ : ∃ be, be = cbR L J := ⟨_, rfl⟩
        rw [← hse] at HWS0 h1x
        obtain ⟨b1, b2⟩ := be
        have HVS : Hid (csF L S = (0, 0, se)) := Lib.hid (by rw [HVS0.out, HWS0.out])
        have HVB : Hid (cbF L J = (b1, b2)) := Lib.hid (by rw [HVB0.out, hbe])
        have HWB : Hid (cbR L J = (b1, b2)) := Lib.hid hbe.symm
        have HWS := HWS0
        clear hse hbe h0 h1
        refine (HCJ.out _ (HR.out.below HB1.out)).mono ?_
        rintro e w3 ⟨a3, c3, rfl, hr3, hn3, hb3⟩
        have HR3 := Lib.hid hr3
        have HB3 := Lib.hid (HB1.out.trans (hb3.mono HB1.out.size))
        clear hb3
        clear hr3 hn3
        go_wp2_with (first
          | (go_at_call 69; refine (HCS.out _ (HS.out.below HB3.out)).mono ?_; rintro e w4 ⟨a4, c4, rfl, hr4, hn4, hb4⟩; have HR34 := Lib.hid (HR3.out.below hb4); have HS4 := Lib.hid hr4; have HB4 := Lib.hid (HB3.out.trans (hb4.mono HB3.out.size)); clear hb4; clear hr4 hn4)
          | (go_at_call 68; refine (HPS.out a3 c3 a4 c4 _ HR34.out HS4.out).mono ?_; rintro e w5 ⟨rfl, hb5⟩; rw [HVS.out]; have HB5 := Lib.hid (HB4.out.trans (hb5.mono HB4.out.size)); clear hb5)
          | (go_at_call 61; refine (HCJ.out _ (HR.out.below HB5.out)).mono ?_; rintro e w6 ⟨a6, c6, rfl, hr6, hn6, hb6⟩; have HR6 := Lib.hid hr6; have HB6 := Lib.hid (HB5.out.trans (hb6.mono HB5.out.size)); clear hb6; clear hr6 hn6)
          | (go_at_call 47; refine (HCI.out _ (HJ.out.below HB6.out)).mono ?_; rintro e w7 ⟨v7, rfl, hO7, hb7⟩; obtain ⟨a7, c7, e7, hr7, -⟩ := hO7.rows int_l; subst e7; have HR67 := Lib.hid (HR6.out.below hb7); have HJ7 := Lib.hid hr7; have HB7 := Lib.hid (HB6.out.trans (hb7.mono HB6.out.size)); clear hb7; clear hO7 hr7)
          | (go_at_call 67; refine (HPB.out a6 c6 a7 c7 _ HR67.out HJ7.out).mono ?_; rintro e w8 ⟨rfl, hb8⟩; rw [HVB.out]; have HB8 := Lib.hid (HB7.out.trans (hb8.mono HB7.out.size)); clear hb8)
          | (go_at_call 62; refine (HRJ.out _ (HR.out.below HB8.out)).mono ?_; rintro e w9 ⟨rfl, hb9⟩; have HB9 := Lib.hid (HB8.out.trans (hb9.mono HB8.out.size)); clear hb9)
          | (go_at_call 65; refine (HRS.out _ (HR.out.below HB9.out) (HS.out.below HB9.out)).mono ?_; rintro e w10 ⟨rfl, hb10⟩; rw [HWS.out]; have HB10 := Lib.hid (HB9.out.trans (hb10.mono HB9.out.size)); clear hb10)
          | (go_at_call 66; refine (HRB.out _ (HR.out.below HB10.out) (HJ.out.below HB10.out)).mono ?_; rintro e w11 ⟨rfl, hb11⟩; rw [HWB.out]; have HB11 := Lib.hid (HB10.out.trans (hb11.mono HB10.out.size)); clear hb11))
        go_ret
        exact ⟨rfl, HB11.out⟩
    · have HVS := Lib.hid (show csF L S = (0, 0, jobsErr L) by unfold csF; rw [if_pos h0])
      have HVB := Lib.hid (show cbF L J = (0, jobsErr L) by unfold cbF; rw [if_pos h0])
      have h0x : (jobsErr L != 0) = true := by simpa using h0
      obtain ⟨je, hje⟩ : ∃ je, je = jobsErr L := ⟨_, rfl⟩
      rw [← hje] at HVS HVB HRJ h0x
      clear hje h0
      refine (HCJ.out _ (HR.out.below HB1.out)).mono ?_
      rintro e w3 ⟨a3, c3, rfl, hr3, hn3, hb3⟩
      have HR3 := Lib.hid hr3
      have HB3 := Lib.hid (HB1.out.trans (hb3.mono HB1.out.size))
      clear hb3
      clear hr3 hn3
      go_wp2_with (first
        | (go_at_call 69; refine (HCS.out _ (HS.out.below HB3.out)).mono ?_; rintro e w4 ⟨a4, c4, rfl, hr4, hn4, hb4⟩; have HR34 := Lib.hid (HR3.out.below hb4); have HS4 := Lib.hid hr4; have HB4 := Lib.hid (HB3.out.trans (hb4.mono HB3.out.size)); clear hb4; clear hr4 hn4)
        | (go_at_call 68; refine (HPS.out a3 c3 a4 c4 _ HR34.out HS4.out).mono ?_; rintro e w5 ⟨rfl, hb5⟩; rw [HVS.out]; have HB5 := Lib.hid (HB4.out.trans (hb5.mono HB4.out.size)); clear hb5)
        | (go_at_call 61; refine (HCJ.out _ (HR.out.below HB5.out)).mono ?_; rintro e w6 ⟨a6, c6, rfl, hr6, hn6, hb6⟩; have HR6 := Lib.hid hr6; have HB6 := Lib.hid (HB5.out.trans (hb6.mono HB5.out.size)); clear hb6; clear hr6 hn6)
        | (go_at_call 47; refine (HCI.out _ (HJ.out.below HB6.out)).mono ?_; rintro e w7 ⟨v7, rfl, hO7, hb7⟩; obtain ⟨a7, c7, e7, hr7, -⟩ := hO7.rows int_l; subst e7; have HR67 := Lib.hid (HR6.out.below hb7); have HJ7 := Lib.hid hr7; have HB7 := Lib.hid (HB6.out.trans (hb7.mono HB6.out.size)); clear hb7; clear hO7 hr7)
        | (go_at_call 67; refine (HPB.out a6 c6 a7 c7 _ HR67.out HJ7.out).mono ?_; rintro e w8 ⟨rfl, hb8⟩; rw [HVB.out]; have HB8 := Lib.hid (HB7.out.trans (hb8.mono HB7.out.size)); clear hb8)
        | (go_at_call 62; refine (HRJ.out _ (HR.out.below HB8.out)).mono ?_; rintro e w9 ⟨rfl, hb9⟩; have HB9 := Lib.hid (HB8.out.trans (hb9.mono HB8.out.size)); clear hb9))
      go_ret
      exact ⟨rfl, HB9.out⟩
end Go.Proofs.Ytpplcbpnojggcaa
