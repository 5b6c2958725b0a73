/-
  PressOrders: the walk of the law.
-/
import Derived.Test.YtpplcbpnojggcaaGE
import Derived.Test.YtpplcbpnojggcaaAE
import Derived.Test.YtpplcbpnojggcaaAF
namespace Go.Proofs.Ytpplcbpnojggcaa
open Go.RowKit Go.Maps Go.Shelf

theorem mins_two (x : Cols) (O : List Int) : minsE x O = (0, 13) ∨ ∃ v, minsE x O = (v, 0) := by
  unfold minsE
  split
  · exact Or.inl rfl
  · exact Or.inr ⟨_, rfl⟩
set_option maxRecDepth 100000 in
set_option maxHeartbeats 8000000 in
theorem orders_walk (x : Cols) (a : Option Addr) (O : List Int) (oc : Nat) (w : World) (hx : ColsAt w x) (hin : ColsIn x) (hO : RowsAt 1 intL w a O) (hc : O.length ≤ oc) (hcm : oc ≤ maxLen) (hnil : a = none → oc = 0) :
    Calls Try.prog 8 #[x.v, .slice a O.length oc] w (AggPost (.bool true) w) := by
  have hl := Nat.le_trans hc hcm
  have hmm := Nat.le_trans hin.mlen hin.mcap
  have hTT := Nat.le_trans hin.tlen hin.tcap
  have hsz : ∀ r ∈ x.T, r.l.length ≤ maxLen := fun r hr => Nat.le_trans (hin.tok r hr).2.1 (hin.tok r hr).2.2.1
  have HFW := Lib.hid (fun W h => few_any x W h hmm hTT hsz)
  have HRC := Lib.hid (fun W h => refCheckColours_any x W h hmm hTT hsz)
  have HCP0 := Lib.hid (fun (hf : fewP x) W h => copyColours_any x W h (Nat.le_trans hf.1 (by decide)) (Nat.le_trans hf.2.2.1 (by decide)) hin.mnil (fun r hr => Nat.le_trans (hf.2.2.2 r hr) (by decide)) (fun r hr => (hin.tok r hr).1))
  have HCI0 := Lib.hid (fun (h9 : O.length ≤ 9) W h => copyInts_any a O O.length oc W rfl h (Nat.le_trans h9 (by decide)) hnil)
  have HOM0 := Lib.hid (fun (hf : fewP x) (y : Cols) (hs : SameC x y) a4 c4 W h h2 h3 => orderMinutes_any y O a4 O.length c4 W rfl h (by rw [hs.m]; exact Nat.le_trans hf.1 (by decide)) (by rw [hs.len]; exact hTT) h2 h3 hl)
  have HPC := Lib.hid (fun (y : Cols) (hs : SameC x y) W h => checkColours_any y W h (by rw [hs.m]; exact hmm) (by rw [hs.len]; exact hTT))
  have HRO0 := Lib.hid (fun (hf : fewP x) W h => refCheckOrder_any a O O.length oc x.m.length W rfl h hc hl (Nat.le_trans hf.1 (by decide)))
  have HRM0 := Lib.hid (fun W h h1 h2 h3 h4 h5 => refOrderMinutes_any x O a O.length oc W rfl h h1 h2 h3 h4 h5)
  have HX := Lib.hid hx
  have HO := Lib.hid hO
  have HFEW := Lib.hid (fun (hf : fewP x) => hf)
  have HDEF := Lib.hid (show omE x O = if colsErr x ≠ 0 then (0, colsErr x) else if ordErr x.m.length O ≠ 0 then (0, ordErr x.m.length O) else minsE x O from rfl)
  have HSAME := Lib.hid (fun (y : Cols) (hs : SameC x y) => (⟨hs.om O, hs.err⟩ : omE y O = omE x O ∧ colsErr y = colsErr x))
  have HTWO := Lib.hid (mins_two x O)
  have HCR := Lib.hid (fun h => cols_right (x := x) h)
  have hbx := BoxAt.new w #[.slice x.ma x.m.length x.mc, .slice x.da x.T.length x.dc] 78
  have hbw := (Below.refl w.heap.size w).alloc (Nat.le_refl _) (.cells #[.slice x.ma x.m.length x.mc, .slice x.da x.T.length x.dc] 78)
  obtain ⟨R, hR⟩ : ∃ R, R = omE x O := ⟨_, rfl⟩
  obtain ⟨ce, hce⟩ : ∃ ce, ce = colsErr x := ⟨_, rfl⟩
  obtain ⟨oe, hoe⟩ : ∃ oe, oe = ordErr x.m.length O := ⟨_, rfl⟩
  have HOMX : Hid (∀ (hf : fewP x) (y : Cols) (hs : SameC x y) a4 c4 W, ColsAt W y → RowsAt 1 intL W a4 O → O.length ≤ c4 → Calls Try.prog 45 #[y.v, .slice a4 O.length c4] W (TwoPost R W)) := Lib.hid (fun hf y hs a4 c4 W h h2 h3 => by
    have h9 := HOM0.out hf y hs a4 c4 W h h2 h3
    rw [hs.om O, ← hR] at h9; exact h9)
  have HPCX : Hid (∀ (y : Cols) (hs : SameC x y) W, ColsAt W y → Calls Try.prog 49 #[y.v] W (CheckPost ce W)) := Lib.hid (fun y hs W h => by
    have h9 := HPC.out y hs W h
    rw [hs.err, ← hce] at h9; exact h9)
  have HROX : Hid (∀ (hf : fewP x) W, RowsAt 1 intL W a O → Calls Try.prog 50 #[.slice a O.length oc, .int .i64 (x.m.length : Int)] W (CheckPost oe W)) := Lib.hid (fun hf W h => by
    have h9 := HRO0.out hf W h
    rw [← hoe] at h9; exact h9)
  have HOK := Lib.hid (fun (h : oe = 0) => ord_right (n := x.m.length) (O := O) (by rw [← hoe]; exact h))
  rw [← hce] at HRC HCR HDEF
  rw [← hoe, ← hR] at HDEF
  clear HOM0 HPC HRO0 HSAME hR hce hoe hx hO hin hsz hmm hTT hl hcm hc hnil
  obtain ⟨FP, hFP⟩ : ∃ FP, FP = fewP x := ⟨_, rfl⟩
  have HF2 := Lib.hid (fun (h : fewP x) => h.2.1)
  have HFX := Lib.hid (show FP → fewP x from fun h => by rw [hFP] at h; exact h)
  rw [← hFP] at HFW
  clear HFEW hFP
  obtain ⟨ma, m, mc, da, T, dc⟩ := x
  unfold Cols.v at HFW HRC HCP0 HRM0
  show Calls _ _ #[.agg #[.slice ma m.length mc, .slice da T.length dc], .slice a O.length oc] _ _
  dsimp only at HFW HRC HCP0 HRM0 HROX HOK hbx hbw HDEF
  have HB0 := Lib.hid hbw; have BX0 := Lib.hid hbx
  clear hbw hbx
  have ST3 : True := trivial
  have ST7 : True := trivial
  go_enter Try.func8, Try.ntmps8
  by_cases h9 : 9 < O.length
  · have h9' : (9 : Int) < (O.length : Int) := by omega
    clear h9
    go_wp2_with (first
      | (go_at_call 17; refine (awake_any _).mono ?_; rintro e w1 ⟨rfl, hb1⟩; have HB1 := Lib.hid (HB0.out.trans (hb1.mono HB0.out.size)); have BX1 := Lib.hid (BX0.out.below hb1); have k0 : w1.cell? ⟨w.heap.size, 0, none⟩ = some (.slice ma m.length mc) := BX1.out.cell 0; have k1 : w1.cell? ⟨w.heap.size, 1, none⟩ = some (.slice da T.length dc) := BX1.out.cell 1; have lx1 := BX1.out.lt; clear hb1)
      | (go_at_call 44; refine (HFW.out _ (HX.out.below HB1.out)).mono ?_; rintro e w2 ⟨⟨bb, rfl, hbb⟩, hb2⟩; have HB2 := Lib.hid (HB1.out.trans (hb2.mono HB1.out.size)); have BX2 := Lib.hid (BX1.out.below hb2); have k0 : w2.cell? ⟨w.heap.size, 0, none⟩ = some (.slice ma m.length mc) := BX2.out.cell 0; have k1 : w2.cell? ⟨w.heap.size, 1, none⟩ = some (.slice da T.length dc) := BX2.out.cell 1; have lx2 := BX2.out.lt; clear hb2; cases bb))
    all_goals go_ret
    all_goals exact ⟨rfl, HB2.out⟩
  have h9' : ¬ (9 : Int) < (O.length : Int) := by omega
  have h9x := decide_eq_false h9'
  go_wp2_with (first
    | (go_at_call 17; refine (awake_any _).mono ?_; rintro e w1 ⟨rfl, hb1⟩; have HB1 := Lib.hid (HB0.out.trans (hb1.mono HB0.out.size)); have BX1 := Lib.hid (BX0.out.below hb1); have k0 : w1.cell? ⟨w.heap.size, 0, none⟩ = some (.slice ma m.length mc) := BX1.out.cell 0; have k1 : w1.cell? ⟨w.heap.size, 1, none⟩ = some (.slice da T.length dc) := BX1.out.cell 1; have lx1 := BX1.out.lt; clear hb1)
    | (go_at_call 44; refine (HFW.out _ (HX.out.below HB1.out)).mono ?_; rintro e w2 ⟨⟨bb, rfl, hbb⟩, hb2⟩; have HB2 := Lib.hid (HB1.out.trans (hb2.mono HB1.out.size)); have BX2 := Lib.hid (BX1.out.below hb2); have k0 : w2.cell? ⟨w.heap.size, 0, none⟩ = some (.slice ma m.length mc) := BX2.out.cell 0; have k1 : w2.cell? ⟨w.heap.size, 1, none⟩ = some (.slice da T.length dc) := BX2.out.cell 1; have lx2 := BX2.out.lt; clear hb2; cases bb))
  · go_ret
    exact ⟨rfl, HB2.out⟩
  have HFP := Lib.hid (HFX.out (by first | exact hbb | exact hbb rfl | simpa using hbb))
  clear hbb
  have HCI := Lib.hid (fun W h => HCI0.out (by omega) W h)
  have HCP := Lib.hid (fun W h => HCP0.out HFP.out W h)
  have HOM := Lib.hid (fun y hs a4 c4 W h h2 h3 => HOMX.out HFP.out y hs a4 c4 W h h2 h3)
  have HPC := HPCX
  have HRO := Lib.hid (fun W h => HROX.out HFP.out W h)
  clear h9 HCI0 HCP0 HOMX HPCX HROX HFX HFW
  by_cases h0 : ce = 0
  · subst h0
    by_cases h1 : oe = 0
    · obtain ⟨hol, hnd, hiO⟩ := HOK.out h1
      have HCO := Lib.hid (HCR.out rfl)
      have h6 : O.length ≤ 6 := by rw [hol]; exact HCO.out.le
      have HRM := Lib.hid (fun W h h2 => HRM0.out W h HCO.out h2 h6 hiO hnd)
      subst h1
      have HRE := Lib.hid (show R = minsE ⟨ma, m, mc, da, T, dc⟩ O by rw [HDEF.out, if_neg (by simp), if_neg (by simp)])
      clear HRM0 hol hnd hiO h6 HOK HCR HDEF HCO
      rcases HTWO.out with h13 | ⟨v, hv⟩
      · have HRV := Lib.hid (show R = (0, 13) by rw [HRE.out, h13])
        have HMV := Lib.hid h13
        clear h13 HTWO HRE
        refine (HCP.out _ (HX.out.below HB2.out)).mono ?_
        rintro e w3 ⟨y, rfl, hs3, hc3, hb3⟩
        have HS3 := Lib.hid hs3
        have HC3 := Lib.hid hc3
        have HB3 := Lib.hid (HB2.out.trans (hb3.mono HB2.out.size))
        have BX3 := Lib.hid (BX2.out.below hb3)
        have k0 : w3.cell? ⟨w.heap.size, 0, none⟩ = some (.slice ma m.length mc) := BX3.out.cell 0
        have k1 : w3.cell? ⟨w.heap.size, 1, none⟩ = some (.slice da T.length dc) := BX3.out.cell 1
        have lx3 := BX3.out.lt
        clear hb3
        clear hs3 hc3
        go_wp2_with (first
          | (go_at_call 47; refine (HCI.out _ (HO.out.below HB3.out)).mono ?_; rintro e w4 ⟨v4, rfl, hO4, hb4⟩; obtain ⟨a4, c4, e4, hr4, hc4, -⟩ := hO4.rows int_l; subst e4; have HC4 := Lib.hid (HC3.out.below hb4); have HR4 := Lib.hid hr4; have HB4 := Lib.hid (HB3.out.trans (hb4.mono HB3.out.size)); have BX4 := Lib.hid (BX3.out.below hb4); have k0 : w4.cell? ⟨w.heap.size, 0, none⟩ = some (.slice ma m.length mc) := BX4.out.cell 0; have k1 : w4.cell? ⟨w.heap.size, 1, none⟩ = some (.slice da T.length dc) := BX4.out.cell 1; have lx4 := BX4.out.lt; clear hb4; clear hO4 hr4)
          | (go_at_call 45; refine (HOM.out y HS3.out a4 c4 _ HC4.out HR4.out hc4).mono ?_; rintro e w5 ⟨rfl, hb5⟩; rw [HRV.out]; have HB5 := Lib.hid (HB4.out.trans (hb5.mono HB4.out.size)); have BX5 := Lib.hid (BX4.out.below hb5); have k0 : w5.cell? ⟨w.heap.size, 0, none⟩ = some (.slice ma m.length mc) := BX5.out.cell 0; have k1 : w5.cell? ⟨w.heap.size, 1, none⟩ = some (.slice da T.length dc) := BX5.out.cell 1; have lx5 := BX5.out.lt; clear hb5)
          | (go_at_call 48; refine (HRC.out _ (HX.out.below HB5.out)).mono ?_; rintro e w6 ⟨rfl, hb6⟩; have HB6 := Lib.hid (HB5.out.trans (hb6.mono HB5.out.size)); have BX6 := Lib.hid (BX5.out.below hb6); have k0 : w6.cell? ⟨w.heap.size, 0, none⟩ = some (.slice ma m.length mc) := BX6.out.cell 0; have k1 : w6.cell? ⟨w.heap.size, 1, none⟩ = some (.slice da T.length dc) := BX6.out.cell 1; have lx6 := BX6.out.lt; clear hb6)
          | (go_at_call 46; refine (HCP.out _ (HX.out.below HB6.out)).mono ?_; rintro e w7 ⟨z, rfl, hs7, hc7, hb7⟩; have HS7 := Lib.hid hs7; have HC7 := Lib.hid hc7; have HB7 := Lib.hid (HB6.out.trans (hb7.mono HB6.out.size)); have BX7 := Lib.hid (BX6.out.below hb7); have k0 : w7.cell? ⟨w.heap.size, 0, none⟩ = some (.slice ma m.length mc) := BX7.out.cell 0; have k1 : w7.cell? ⟨w.heap.size, 1, none⟩ = some (.slice da T.length dc) := BX7.out.cell 1; have lx7 := BX7.out.lt; clear hb7; clear hs7 hc7)
          | (go_at_call 49; refine (HPC.out z HS7.out _ HC7.out).mono ?_; rintro e w8 ⟨rfl, hb8⟩; have HB8 := Lib.hid (HB7.out.trans (hb8.mono HB7.out.size)); have BX8 := Lib.hid (BX7.out.below hb8); have k0 : w8.cell? ⟨w.heap.size, 0, none⟩ = some (.slice ma m.length mc) := BX8.out.cell 0; have k1 : w8.cell? ⟨w.heap.size, 1, none⟩ = some (.slice da T.length dc) := BX8.out.cell 1; have lx8 := BX8.out.lt; clear hb8)
          | (go_at_call 50; refine (HRO.out _ (HO.out.below HB8.out)).mono ?_; rintro e w9 ⟨rfl, hb9⟩; have HB9 := Lib.hid (HB8.out.trans (hb9.mono HB8.out.size)); have BX9 := Lib.hid (BX8.out.below hb9); have k0 : w9.cell? ⟨w.heap.size, 0, none⟩ = some (.slice ma m.length mc) := BX9.out.cell 0; have k1 : w9.cell? ⟨w.heap.size, 1, none⟩ = some (.slice da T.length dc) := BX9.out.cell 1; have lx9 := BX9.out.lt; clear hb9)
          | (go_at_call 51; refine (HRM.out _ (HX.out.below HB9.out) (HO.out.below HB9.out)).mono ?_; rintro e w10 ⟨rfl, hb10⟩; rw [HMV.out]; have HB10 := Lib.hid (HB9.out.trans (hb10.mono HB9.out.size)); have BX10 := Lib.hid (BX9.out.below hb10); have k0 : w10.cell? ⟨w.heap.size, 0, none⟩ = some (.slice ma m.length mc) := BX10.out.cell 0; have k1 : w10.cell? ⟨w.heap.size, 1, none⟩ = some (.slice da T.length dc) := BX10.out.cell 1; have lx10 := BX10.out.lt; clear hb10))
        go_ret
        exact ⟨rfl, HB10.out⟩
      · have HRV := Lib.hid (show R = (v, 0) by rw [HRE.out, hv])
        have HMV := Lib.hid hv
        clear hv HTWO HRE
        refine (HCP.out _ (HX.out.below HB2.out)).mono ?_
        rintro e w3 ⟨y, rfl, hs3, hc3, hb3⟩
        have HS3 := Lib.hid hs3
        have HC3 := Lib.hid hc3
        have HB3 := Lib.hid (HB2.out.trans (hb3.mono HB2.out.size))
        have BX3 := Lib.hid (BX2.out.below hb3)
        have k0 : w3.cell? ⟨w.heap.size, 0, none⟩ = some (.slice ma m.length mc) := BX3.out.cell 0
        have k1 : w3.cell? ⟨w.heap.size, 1, none⟩ = some (.slice da T.length dc) := BX3.out.cell 1
        have lx3 := BX3.out.lt
        clear hb3
        clear hs3 hc3
        go_wp2_with (first
          | (go_at_call 47; refine (HCI.out _ (HO.out.below HB3.out)).mono ?_; rintro e w4 ⟨v4, rfl, hO4, hb4⟩; obtain ⟨a4, c4, e4, hr4, hc4, -⟩ := hO4.rows int_l; subst e4; have HC4 := Lib.hid (HC3.out.below hb4); have HR4 := Lib.hid hr4; have HB4 := Lib.hid (HB3.out.trans (hb4.mono HB3.out.size)); have BX4 := Lib.hid (BX3.out.below hb4); have k0 : w4.cell? ⟨w.heap.size, 0, none⟩ = some (.slice ma m.length mc) := BX4.out.cell 0; have k1 : w4.cell? ⟨w.heap.size, 1, none⟩ = some (.slice da T.length dc) := BX4.out.cell 1; have lx4 := BX4.out.lt; clear hb4; clear hO4 hr4)
          | (go_at_call 45; refine (HOM.out y HS3.out a4 c4 _ HC4.out HR4.out hc4).mono ?_; rintro e w5 ⟨rfl, hb5⟩; rw [HRV.out]; have HB5 := Lib.hid (HB4.out.trans (hb5.mono HB4.out.size)); have BX5 := Lib.hid (BX4.out.below hb5); have k0 : w5.cell? ⟨w.heap.size, 0, none⟩ = some (.slice ma m.length mc) := BX5.out.cell 0; have k1 : w5.cell? ⟨w.heap.size, 1, none⟩ = some (.slice da T.length dc) := BX5.out.cell 1; have lx5 := BX5.out.lt; clear hb5)
          | (go_at_call 48; refine (HRC.out _ (HX.out.below HB5.out)).mono ?_; rintro e w6 ⟨rfl, hb6⟩; have HB6 := Lib.hid (HB5.out.trans (hb6.mono HB5.out.size)); have BX6 := Lib.hid (BX5.out.below hb6); have k0 : w6.cell? ⟨w.heap.size, 0, none⟩ = some (.slice ma m.length mc) := BX6.out.cell 0; have k1 : w6.cell? ⟨w.heap.size, 1, none⟩ = some (.slice da T.length dc) := BX6.out.cell 1; have lx6 := BX6.out.lt; clear hb6)
          | (go_at_call 46; refine (HCP.out _ (HX.out.below HB6.out)).mono ?_; rintro e w7 ⟨z, rfl, hs7, hc7, hb7⟩; have HS7 := Lib.hid hs7; have HC7 := Lib.hid hc7; have HB7 := Lib.hid (HB6.out.trans (hb7.mono HB6.out.size)); have BX7 := Lib.hid (BX6.out.below hb7); have k0 : w7.cell? ⟨w.heap.size, 0, none⟩ = some (.slice ma m.length mc) := BX7.out.cell 0; have k1 : w7.cell? ⟨w.heap.size, 1, none⟩ = some (.slice da T.length dc) := BX7.out.cell 1; have lx7 := BX7.out.lt; clear hb7; clear hs7 hc7)
          | (go_at_call 49; refine (HPC.out z HS7.out _ HC7.out).mono ?_; rintro e w8 ⟨rfl, hb8⟩; have HB8 := Lib.hid (HB7.out.trans (hb8.mono HB7.out.size)); have BX8 := Lib.hid (BX7.out.below hb8); have k0 : w8.cell? ⟨w.heap.size, 0, none⟩ = some (.slice ma m.length mc) := BX8.out.cell 0; have k1 : w8.cell? ⟨w.heap.size, 1, none⟩ = some (.slice da T.length dc) := BX8.out.cell 1; have lx8 := BX8.out.lt; clear hb8)
          | (go_at_call 50; refine (HRO.out _ (HO.out.below HB8.out)).mono ?_; rintro e w9 ⟨rfl, hb9⟩; have HB9 := Lib.hid (HB8.out.trans (hb9.mono HB8.out.size)); have BX9 := Lib.hid (BX8.out.below hb9); have k0 : w9.cell? ⟨w.heap.size, 0, none⟩ = some (.slice ma m.length mc) := BX9.out.cell 0; have k1 : w9.cell? ⟨w.heap.size, 1, none⟩ = some (.slice da T.length dc) := BX9.out.cell 1; have lx9 := BX9.out.lt; clear hb9)
          | (go_at_call 51; refine (HRM.out _ (HX.out.below HB9.out) (HO.out.below HB9.out)).mono ?_; rintro e w10 ⟨rfl, hb10⟩; rw [HMV.out]; have HB10 := Lib.hid (HB9.out.trans (hb10.mono HB9.out.size)); have BX10 := Lib.hid (BX9.out.below hb10); have k0 : w10.cell? ⟨w.heap.size, 0, none⟩ = some (.slice ma m.length mc) := BX10.out.cell 0; have k1 : w10.cell? ⟨w.heap.size, 1, none⟩ = some (.slice da T.length dc) := BX10.out.cell 1; have lx10 := BX10.out.lt; clear hb10))
        go_ret
        exact ⟨rfl, HB10.out⟩
    · have HRV := Lib.hid (show R = (0, oe) by rw [HDEF.out, if_neg (by simp), if_pos h1])
      have h1' : (oe != 0) = true := by simpa using h1
      clear h1 HDEF HTWO HRM0 HOK HCR
      refine (HCP.out _ (HX.out.below HB2.out)).mono ?_
      rintro e w3 ⟨y, rfl, hs3, hc3, hb3⟩
      have HS3 := Lib.hid hs3
      have HC3 := Lib.hid hc3
      have HB3 := Lib.hid (HB2.out.trans (hb3.mono HB2.out.size))
      have BX3 := Lib.hid (BX2.out.below hb3)
      have k0 : w3.cell? ⟨w.heap.size, 0, none⟩ = some (.slice ma m.length mc) := BX3.out.cell 0
      have k1 : w3.cell? ⟨w.heap.size, 1, none⟩ = some (.slice da T.length dc) := BX3.out.cell 1
      have lx3 := BX3.out.lt
      clear hb3
      clear hs3 hc3
      go_wp2_with (first
        | (go_at_call 47; refine (HCI.out _ (HO.out.below HB3.out)).mono ?_; rintro e w4 ⟨v4, rfl, hO4, hb4⟩; obtain ⟨a4, c4, e4, hr4, hc4, -⟩ := hO4.rows int_l; subst e4; have HC4 := Lib.hid (HC3.out.below hb4); have HR4 := Lib.hid hr4; have HB4 := Lib.hid (HB3.out.trans (hb4.mono HB3.out.size)); have BX4 := Lib.hid (BX3.out.below hb4); have k0 : w4.cell? ⟨w.heap.size, 0, none⟩ = some (.slice ma m.length mc) := BX4.out.cell 0; have k1 : w4.cell? ⟨w.heap.size, 1, none⟩ = some (.slice da T.length dc) := BX4.out.cell 1; have lx4 := BX4.out.lt; clear hb4; clear hO4 hr4)
        | (go_at_call 45; refine (HOM.out y HS3.out a4 c4 _ HC4.out HR4.out hc4).mono ?_; rintro e w5 ⟨rfl, hb5⟩; rw [HRV.out]; have HB5 := Lib.hid (HB4.out.trans (hb5.mono HB4.out.size)); have BX5 := Lib.hid (BX4.out.below hb5); have k0 : w5.cell? ⟨w.heap.size, 0, none⟩ = some (.slice ma m.length mc) := BX5.out.cell 0; have k1 : w5.cell? ⟨w.heap.size, 1, none⟩ = some (.slice da T.length dc) := BX5.out.cell 1; have lx5 := BX5.out.lt; clear hb5)
        | (go_at_call 48; refine (HRC.out _ (HX.out.below HB5.out)).mono ?_; rintro e w6 ⟨rfl, hb6⟩; have HB6 := Lib.hid (HB5.out.trans (hb6.mono HB5.out.size)); have BX6 := Lib.hid (BX5.out.below hb6); have k0 : w6.cell? ⟨w.heap.size, 0, none⟩ = some (.slice ma m.length mc) := BX6.out.cell 0; have k1 : w6.cell? ⟨w.heap.size, 1, none⟩ = some (.slice da T.length dc) := BX6.out.cell 1; have lx6 := BX6.out.lt; clear hb6)
        | (go_at_call 46; refine (HCP.out _ (HX.out.below HB6.out)).mono ?_; rintro e w7 ⟨z, rfl, hs7, hc7, hb7⟩; have HS7 := Lib.hid hs7; have HC7 := Lib.hid hc7; have HB7 := Lib.hid (HB6.out.trans (hb7.mono HB6.out.size)); have BX7 := Lib.hid (BX6.out.below hb7); have k0 : w7.cell? ⟨w.heap.size, 0, none⟩ = some (.slice ma m.length mc) := BX7.out.cell 0; have k1 : w7.cell? ⟨w.heap.size, 1, none⟩ = some (.slice da T.length dc) := BX7.out.cell 1; have lx7 := BX7.out.lt; clear hb7; clear hs7 hc7)
        | (go_at_call 49; refine (HPC.out z HS7.out _ HC7.out).mono ?_; rintro e w8 ⟨rfl, hb8⟩; have HB8 := Lib.hid (HB7.out.trans (hb8.mono HB7.out.size)); have BX8 := Lib.hid (BX7.out.below hb8); have k0 : w8.cell? ⟨w.heap.size, 0, none⟩ = some (.slice ma m.length mc) := BX8.out.cell 0; have k1 : w8.cell? ⟨w.heap.size, 1, none⟩ = some (.slice da T.length dc) := BX8.out.cell 1; have lx8 := BX8.out.lt; clear hb8)
        | (go_at_call 50; refine (HRO.out _ (HO.out.below HB8.out)).mono ?_; rintro e w9 ⟨rfl, hb9⟩; have HB9 := Lib.hid (HB8.out.trans (hb9.mono HB8.out.size)); have BX9 := Lib.hid (BX8.out.below hb9); have k0 : w9.cell? ⟨w.heap.size, 0, none⟩ = some (.slice ma m.length mc) := BX9.out.cell 0; have k1 : w9.cell? ⟨w.heap.size, 1, none⟩ = some (.slice da T.length dc) := BX9.out.cell 1; have lx9 := BX9.out.lt; clear hb9))
      go_ret
      exact ⟨rfl, HB9.out⟩
  · have HRV := Lib.hid (show R = (0, ce) by rw [HDEF.out, if_pos h0])
    have h0' : (ce != 0) = true := by simpa using h0
    have h0'' : (ce == 0) = false := by simpa using h0
    clear h0 HDEF HTWO HRM0 HOK HCR HRO
    refine (HCP.out _ (HX.out.below HB2.out)).mono ?_
    rintro e w3 ⟨y, rfl, hs3, hc3, hb3⟩
    have HS3 := Lib.hid hs3
    have HC3 := Lib.hid hc3
    have HB3 := Lib.hid (HB2.out.trans (hb3.mono HB2.out.size))
    have BX3 := Lib.hid (BX2.out.below hb3)
    have k0 : w3.cell? ⟨w.heap.size, 0, none⟩ = some (.slice ma m.length mc) := BX3.out.cell 0
    have k1 : w3.cell? ⟨w.heap.size, 1, none⟩ = some (.slice da T.length dc) := BX3.out.cell 1
    have lx3 := BX3.out.lt
    clear hb3
    clear hs3 hc3
    go_wp2_with (first
      | (go_at_call 47; refine (HCI.out _ (HO.out.below HB3.out)).mono ?_; rintro e w4 ⟨v4, rfl, hO4, hb4⟩; obtain ⟨a4, c4, e4, hr4, hc4, -⟩ := hO4.rows int_l; subst e4; have HC4 := Lib.hid (HC3.out.below hb4); have HR4 := Lib.hid hr4; have HB4 := Lib.hid (HB3.out.trans (hb4.mono HB3.out.size)); have BX4 := Lib.hid (BX3.out.below hb4); have k0 : w4.cell? ⟨w.heap.size, 0, none⟩ = some (.slice ma m.length mc) := BX4.out.cell 0; have k1 : w4.cell? ⟨w.heap.size, 1, none⟩ = some (.slice da T.length dc) := BX4.out.cell 1; have lx4 := BX4.out.lt; clear hb4; clear hO4 hr4)
      | (go_at_call 45; refine (HOM.out y HS3.out a4 c4 _ HC4.out HR4.out hc4).mono ?_; rintro e w5 ⟨rfl, hb5⟩; rw [HRV.out]; have HB5 := Lib.hid (HB4.out.trans (hb5.mono HB4.out.size)); have BX5 := Lib.hid (BX4.out.below hb5); have k0 : w5.cell? ⟨w.heap.size, 0, none⟩ = some (.slice ma m.length mc) := BX5.out.cell 0; have k1 : w5.cell? ⟨w.heap.size, 1, none⟩ = some (.slice da T.length dc) := BX5.out.cell 1; have lx5 := BX5.out.lt; clear hb5)
      | (go_at_call 48; refine (HRC.out _ (HX.out.below HB5.out)).mono ?_; rintro e w6 ⟨rfl, hb6⟩; have HB6 := Lib.hid (HB5.out.trans (hb6.mono HB5.out.size)); have BX6 := Lib.hid (BX5.out.below hb6); have k0 : w6.cell? ⟨w.heap.size, 0, none⟩ = some (.slice ma m.length mc) := BX6.out.cell 0; have k1 : w6.cell? ⟨w.heap.size, 1, none⟩ = some (.slice da T.length dc) := BX6.out.cell 1; have lx6 := BX6.out.lt; clear hb6)
      | (go_at_call 46; refine (HCP.out _ (HX.out.below HB6.out)).mono ?_; rintro e w7 ⟨z, rfl, hs7, hc7, hb7⟩; have HS7 := Lib.hid hs7; have HC7 := Lib.hid hc7; have HB7 := Lib.hid (HB6.out.trans (hb7.mono HB6.out.size)); have BX7 := Lib.hid (BX6.out.below hb7); have k0 : w7.cell? ⟨w.heap.size, 0, none⟩ = some (.slice ma m.length mc) := BX7.out.cell 0; have k1 : w7.cell? ⟨w.heap.size, 1, none⟩ = some (.slice da T.length dc) := BX7.out.cell 1; have lx7 := BX7.out.lt; clear hb7; clear hs7 hc7)
      | (go_at_call 49; refine (HPC.out z HS7.out _ HC7.out).mono ?_; rintro e w8 ⟨rfl, hb8⟩; have HB8 := Lib.hid (HB7.out.trans (hb8.mono HB7.out.size)); have BX8 := Lib.hid (BX7.out.below hb8); have k0 : w8.cell? ⟨w.heap.size, 0, none⟩ = some (.slice ma m.length mc) := BX8.out.cell 0; have k1 : w8.cell? ⟨w.heap.size, 1, none⟩ = some (.slice da T.length dc) := BX8.out.cell 1; have lx8 := BX8.out.lt; clear hb8))
    go_ret
    exact ⟨rfl, HB8.out⟩
end Go.Proofs.Ytpplcbpnojggcaa
