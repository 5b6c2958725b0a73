/-
  PressReady: the walk of the law.
-/
import Derived.Test.YtpplcbpnojggcaaGE
import Derived.Test.YtpplcbpnojggcaaAN
import Derived.Test.YtpplcbpnojggcaaAF
namespace Go.Proofs.Ytpplcbpnojggcaa
open Go.RowKit Go.Maps Go.Shelf

/-- LeastMakeReady in the two cases. -/
def LmErr (te : Int) (w : World) (e : Ending) (w' : World) : Prop := ∃ (a : Option Addr) (q : Nat), e = .returned (.tuple #[.slice a 0 q, .int .i64 0, .int .i64 te]) ∧ Below w.heap.size w w'
def LmOk (F : List Int) (le : Int) (w : World) (e : Ending) (w' : World) : Prop := ∃ (a : Option Addr) (q : Nat), e = .returned (.tuple #[.slice a F.length q, .int .i64 le, .int .i64 0]) ∧ RowsAt 1 intL w' a F ∧ Below w.heap.size w w'
theorem lm_err {T : List PR} {c : Nat} {w : World} {e : Ending} {w' : World} (h0 : tblErr T ≠ 0) (h : LmPost T c w e w') : LmErr (tblErr T) w e w' := by
  obtain ⟨a, n, q, ⟨-, rfl, rfl⟩ | ⟨h1, -⟩, hb⟩ := h
  · exact ⟨a, q, rfl, hb⟩
  · exact absurd h1 h0
theorem lm_ok {T : List PR} {c : Nat} {F : List Int} {le : Int} {w : World} {e : Ending} {w' : World} (h0 : tblErr T = 0) (hl : lmF T c = (F, le, 0)) (h : LmPost T c w e w') : LmOk F le w e w' := by
  obtain ⟨a, n, q, ⟨h1, -⟩ | ⟨-, hn, he, hr⟩, hb⟩ := h
  · exact absurd h0 h1
  · rw [hl] at hn he hr
    subst hn; subst he
    exact ⟨a, q, rfl, hr, hb⟩
set_option maxRecDepth 100000 in
set_option maxHeartbeats 8000000 in
theorem ready_walk (ta : Option Addr) (T : List PR) (tc : Nat) (a : Option Addr) (O : List Int) (oc : Nat) (w : World) (hT : TabAt w ta T) (htc : T.length ≤ tc) (htm : tc ≤ maxLen) (htk : TabOk T) (hO : RowsAt 1 intL w a O) (hc : O.length ≤ oc) (hcm : oc ≤ maxLen) (hnil : a = none → oc = 0) :
    Calls Try.prog 14 #[.slice ta T.length tc, .slice a O.length oc] w (AggPost (.bool true) w) := by
  have hl := Nat.le_trans hc hcm
  have hTl := Nat.le_trans htc htm
  have HSZ := Lib.hid (show ∀ r ∈ T, r.l.length ≤ maxLen from fun r hr => Nat.le_trans (htk r hr).2.1 (htk r hr).2.2.1)
  have HCL0 := Lib.hid (fun (h9 : T.length ≤ 9) (hr9 : ∀ r ∈ T, r.l.length ≤ 9) W h => copyLists_any ta T T.length tc W rfl h (Nat.le_trans h9 (by decide)) (fun r hr => Nat.le_trans (hr9 r hr) (by decide)) (fun r hr => (htk r hr).1))
  have HCI0 := Lib.hid (fun (h9 : O.length ≤ 9) W h => copyInts_any a O O.length oc W rfl h (Nat.le_trans h9 (by decide)) hnil)
  have HMR0 : Hid (∀ (h9 : T.length ≤ 9) (T2 : List PR) (hm : T2.map (·.l) = T.map (·.l)) (a2 : Option Addr) (c2 : Nat) (a3 : Option Addr) (c3 : Nat) (W : World), TabAt W a2 T2 → RowsAt 1 intL W a3 O → Calls Try.prog 70 #[.slice a2 T2.length c2, .slice a3 O.length c3] W (TwoPost (mrE T O) W)) := Lib.hid (fun h9 T2 hm a2 c2 a3 c3 W h h2 => by
    have h3 := MakeReady_any T2 a2 T2.length c2 O a3 O.length c3 W rfl rfl h (by rw [map_len hm]; exact Nat.le_trans h9 (by decide)) h2 hl
    rw [mrE_map hm] at h3; exact h3)
  have HLM0 : Hid (∀ (h9 : T.length ≤ 9) (c : Nat) (hE : T.length ≤ 7 → OrdsEnd T.length c) (T2 : List PR) (hm : T2.map (·.l) = T.map (·.l)) (a2 : Option Addr) (c2 : Nat) (W : World), TabAt W a2 T2 → Calls Try.prog 72 #[.slice a2 T2.length c2] W (LmPost T2 c W)) := Lib.hid (fun h9 c hE T2 hm a2 c2 W h =>
    leastMakeReady_any T2 a2 T2.length c2 c W rfl h (by rw [map_len hm]; exact Nat.le_trans h9 (by decide)) (by rw [map_len hm]; exact hE))
  have HCT := Lib.hid (fun W h => refCheckTable_any T ta T.length tc W rfl h hTl HSZ.out)
  have HRL0 := Lib.hid (fun (hr : TabRight T) (h5 : T.length ≤ 5) W h => refLeastReady_any T ta T.length tc W rfl h hr h5)
  have HRO0 := Lib.hid (fun (h9 : T.length ≤ 9) W h => refCheckOrder_any a O O.length oc T.length W rfl h hc hl (Nat.le_trans h9 (by decide)))
  have HRM0 := Lib.hid (fun (hr : TabRight T) (h7 : O.length ≤ 7) (hi : ∀ y ∈ O, 0 ≤ y ∧ y < T.length) W h h2 => refMakeReady_any T ta T.length tc O a O.length oc W rfl rfl h hr h2 h7 hi)
  have HT := Lib.hid hT; have HO := Lib.hid hO
  have HDEF := Lib.hid (show mrE T O = if tblErr T ≠ 0 then (0, tblErr T) else if ordErr T.length O ≠ 0 then (0, ordErr T.length O) else (mkA T O, 0) from rfl)
  have HB0 := Lib.hid (Below.refl w.heap.size w)
  have HTL := Lib.hid hTl
  unfold maxLen at hTl hl
  clear hT hO hc hcm htc htm htk hnil
  go_enter Try.func14, Try.ntmps14
  have HCASE : (5 < T.length ∧ T.length ≤ 7) ∨ (9 < T.length) ∨ (9 < O.length ∧ T.length ≤ 5) ∨ (9 < O.length ∧ 7 < T.length ∧ T.length ≤ 9) ∨ (O.length ≤ 9 ∧ T.length ≤ 5) ∨ (O.length ≤ 9 ∧ 7 < T.length ∧ T.length ≤ 9) := by omega
  rcases HCASE with ⟨h1, h2⟩ | h1 | ⟨h3, h1⟩ | ⟨h3, h1, h2⟩ | ⟨h3, h1⟩ | ⟨h3, h1, h2⟩
  · skip
    have g5 : (5 : Int) < (T.length : Int) := by omega
    have g5x := decide_eq_true g5
    have g7 : (T.length : Int) ≤ 7 := by omega
    have g7x := decide_eq_true g7
    clear h1 h2
    go_wp2_with (first
      | (go_at_call 17; refine (awake_any _).mono ?_; rintro e w1 ⟨rfl, hb1⟩; have HB1 := Lib.hid (HB0.out.trans (hb1.mono HB0.out.size)); clear hb1))
    go_ret
    exact ⟨rfl, HB1.out⟩
  · skip
    have g5 : (5 : Int) < (T.length : Int) := by omega
    have g5x := decide_eq_true g5
    have g7 : ¬ (T.length : Int) ≤ 7 := by omega
    have g7x := decide_eq_false g7
    have g9 : (9 : Int) < (T.length : Int) := by omega
    have g9x := decide_eq_true g9
    clear h1
    go_wp2_with (first
      | (go_at_call 17; refine (awake_any _).mono ?_; rintro e w1 ⟨rfl, hb1⟩; have HB1 := Lib.hid (HB0.out.trans (hb1.mono HB0.out.size)); clear hb1))
    go_ret
    exact ⟨rfl, HB1.out⟩
  · skip
    have g5 : ¬ (5 : Int) < (T.length : Int) := by omega
    have g5x := decide_eq_false g5
    have g9 : ¬ (9 : Int) < (T.length : Int) := by omega
    have g9x := decide_eq_false g9
    have g0 : (9 : Int) < (O.length : Int) := by omega
    have g0x := decide_eq_true g0
    clear h3 h1
    go_wp2_with (first
      | (go_at_call 17; refine (awake_any _).mono ?_; rintro e w1 ⟨rfl, hb1⟩; have HB1 := Lib.hid (HB0.out.trans (hb1.mono HB0.out.size)); clear hb1))
    go_ret
    exact ⟨rfl, HB1.out⟩
  · skip
    have g5 : (5 : Int) < (T.length : Int) := by omega
    have g5x := decide_eq_true g5
    have g7 : ¬ (T.length : Int) ≤ 7 := by omega
    have g7x := decide_eq_false g7
    have g9 : ¬ (9 : Int) < (T.length : Int) := by omega
    have g9x := decide_eq_false g9
    have g0 : (9 : Int) < (O.length : Int) := by omega
    have g0x := decide_eq_true g0
    clear h3 h1 h2
    go_wp2_with (first
      | (go_at_call 17; refine (awake_any _).mono ?_; rintro e w1 ⟨rfl, hb1⟩; have HB1 := Lib.hid (HB0.out.trans (hb1.mono HB0.out.size)); clear hb1))
    go_ret
    exact ⟨rfl, HB1.out⟩
  · have HO9 := Lib.hid h3; have HT9 := Lib.hid (show T.length ≤ 9 by omega)
    have HT5 := Lib.hid h1
    have g5 : ¬ (5 : Int) < (T.length : Int) := by omega
    have g5x := decide_eq_false g5
    have g9 : ¬ (9 : Int) < (T.length : Int) := by omega
    have g9x := decide_eq_false g9
    have g0 : ¬ (9 : Int) < (O.length : Int) := by omega
    have g0x := decide_eq_false g0
    clear h3 h1
    go_wp2_with (first
      | (go_at_call 17; refine (awake_any _).mono ?_; rintro e w1 ⟨rfl, hb1⟩; have HB1 := Lib.hid (HB0.out.trans (hb1.mono HB0.out.size)); clear hb1))
    go_loop [5] (fun i => ∃ k : Nat, k ≤ T.length ∧ i = .int .i64 k ∧ Hid (∀ r ∈ T.take k, r.l.length ≤ 9)) (fun i => T.length - (intOf i).toNat)
    case atStart => exact ⟨0, Nat.zero_le _, rfl, Lib.hid (fun r hr => by simp at hr)⟩
    case round =>
      obtain ⟨k, hk, rfl, HR⟩ := hrel
      by_cases hlt : k < T.length
      · obtain ⟨ad, ra, rl, rc, rfl, had, s0, hrow, hrr⟩ := (HT.out.below HB1.out).pick hlt
        have hkT : (k : Int) < (T.length : Int) := by omega
        have hrz : rl.length ≤ maxLen := by have := HSZ.out _ (List.getElem_mem hlt); rw [hrr] at this; exact this
        have HTK := Lib.hid (show T.take (k + 1) = T.take k ++ [⟨ra, rl, rc⟩] by rw [List.take_succ_eq_append_getElem hlt, hrr])
        unfold maxLen at hrz
        clear hrow hrr
        by_cases h8 : 9 < rl.length
        · have h8' : (9 : Int) < (rl.length : Int) := by omega
          clear h8
          go_wp2_with fail
          go_ret
          exact ⟨rfl, HB1.out⟩
        · have h8' : decide ((9 : Int) < (rl.length : Int)) = false := decide_eq_false (by omega)
          have H8 := Lib.hid h8
          clear h8
          go_wp2_with fail
          go_round
          case rel => exact ⟨k + 1, by omega, by go_num, Lib.hid (fun r hr => by
            rw [HTK.out] at hr
            rcases List.mem_append.1 hr with h | h
            · exact HR.out r h
            · rw [List.mem_singleton.1 h]; have := H8.out; show rl.length ≤ 9; omega)⟩
          case measure => simp [intOf]; omega
      · have HR9 := Lib.hid (show ∀ r ∈ T, r.l.length ≤ 9 from fun r hr => HR.out r (by rw [List.take_of_length_le (by omega)]; exact hr))
        obtain rfl : k = T.length := by omega
        have HCL := Lib.hid (fun W h => HCL0.out HT9.out HR9.out W h)
        have HCI := Lib.hid (fun W h => HCI0.out HO9.out W h)
        have HMR := Lib.hid (fun T2 hm a2 c2 a3 c3 W h h2 => HMR0.out HT9.out T2 hm a2 c2 a3 c3 W h h2)
        have ST2 : True := trivial
        have ST5 : True := trivial
        by_cases h0 : tblErr T = 0
        · have HTR := Lib.hid (tab_right h0)
          obtain ⟨cc, F, le, hE, hlm, hrl, hle0, hF5, hle⟩ := least_both HTR.out HT5.out
          have HLM : Hid (∀ (T2 : List PR) (hm : T2.map (·.l) = T.map (·.l)) (a2 : Option Addr) (c2 : Nat) (W : World), TabAt W a2 T2 → Calls Try.prog 72 #[.slice a2 T2.length c2] W (LmOk F le W)) := Lib.hid (fun T2 hm a2 c2 W h => (HLM0.out HT9.out cc (fun _ => hE) T2 hm a2 c2 W h).mono (fun e w' h3 => lm_ok (by rw [tblErr_map hm]; exact h0) (by rw [lmF_map hm]; exact hlm) h3))
          have HRL := Lib.hid (fun W h => HRL0.out HTR.out HT5.out W h)
          rw [hrl] at HRL
          have HMX := Lib.hid (show max le 0 = le by omega)
          have HLE := Lib.hid hle
          have HFL := Lib.hid (show F.length ≤ maxLen from Nat.le_trans hF5 (by decide))
          have HRO := Lib.hid (fun W h => HRO0.out HT9.out W h)
          rw [h0] at HCT
          clear hlm hrl hle hE hle0 hF5
          by_cases h1 : ordErr T.length O = 0
          · have HRV := Lib.hid (show mrE T O = (mkA T O, 0) by rw [HDEF.out, if_neg (by simp [h0]), if_neg (by simp [h1])])
            obtain ⟨hol, -, hin⟩ := ord_right h1
            have HRM := Lib.hid (fun W h h2 => HRM0.out HTR.out (by have := HTR.out.le; omega) hin W h h2)
            have hlem := HLE.out O h1
            rw [h1] at HRO
            obtain ⟨ma, hma⟩ : ∃ ma, ma = mkA T O := ⟨_, rfl⟩
            rw [← hma] at HRV HRM hlem
            have hlem2 := decide_eq_true hlem
            clear hma h0 h1 hol hin hk
            go_wp2_with (first
              | (go_at_call 71; have ST9 := ST2; clear ST9 ST2; refine (HCL.out _ (HT.out.below HB1.out)).mono ?_; rintro e w2 ⟨a2, c2, T2, rfl, hm2, ht2, -, -, -, hb2⟩; have HM2 := Lib.hid hm2; have HT2 := Lib.hid ht2; have HB2 := Lib.hid (HB1.out.trans (hb2.mono HB1.out.size)); clear hb2; clear hm2 ht2)
              | (go_at_call 47; refine (HCI.out _ (HO.out.below HB2.out)).mono ?_; rintro e w3 ⟨v3, rfl, hO3, hb3⟩; obtain ⟨a3, c3, e3, hr3, -⟩ := hO3.rows int_l; subst e3; have HT3 := Lib.hid (HT2.out.below hb3); have HR3 := Lib.hid hr3; have HB3 := Lib.hid (HB2.out.trans (hb3.mono HB2.out.size)); clear hb3; clear hO3 hr3)
              | (go_at_call 70; refine (HMR.out T2 HM2.out a2 c2 a3 c3 _ HT3.out HR3.out).mono ?_; rintro e w4 ⟨rfl, hb4⟩; rw [HRV.out]; have HB4 := Lib.hid (HB3.out.trans (hb4.mono HB3.out.size)); clear hb4)
              | (go_at_call 71; have ST9 := ST5; clear ST9 ST5; refine (HCL.out _ (HT.out.below HB4.out)).mono ?_; rintro e w5 ⟨a5, c5, T5, rfl, hm5, ht5, -, -, -, hb5⟩; have HM5 := Lib.hid hm5; have HT5 := Lib.hid ht5; have HB5 := Lib.hid (HB4.out.trans (hb5.mono HB4.out.size)); clear hb5; clear hm5 ht5)
              | (go_at_call 72; refine (HLM.out T5 HM5.out a5 c5 _ HT5.out).mono ?_; rintro e w6 ⟨a6, q6, rfl, hr6, hb6⟩; have HR6 := Lib.hid hr6; clear hr6; have HB6 := Lib.hid (HB5.out.trans (hb6.mono HB5.out.size)); clear hb6)
              | (go_at_call 73; refine (HCT.out _ (HT.out.below HB6.out)).mono ?_; rintro e w7 ⟨rfl, rfl⟩)
              | (go_at_call 74; refine (HRL.out _ (HT.out.below HB6.out)).mono ?_; rintro e w8 ⟨a8, n8, q8, hn8, rfl, hr8, hb8⟩; subst hn8; rw [HMX.out]; have HR8 := Lib.hid hr8; have HR68 := Lib.hid (HR6.out.below hb8); have HB8 := Lib.hid (HB6.out.trans (hb8.mono HB6.out.size)); clear hb8; clear hr8)
              | (go_at_call 57; refine (ints_any a6 F q6 a8 F q8 _ HR68.out HR8.out HFL.out HFL.out).mono ?_; rintro e w9 ⟨rfl, hd9⟩; rw [decide_eq_true (rfl : F = F)]; have HB9 := Lib.hid (hd9.below HB8.out); clear hd9)
              | (go_at_call 50; refine (HRO.out _ (HO.out.below HB9.out)).mono ?_; rintro e w10 ⟨rfl, hb10⟩; have HB10 := Lib.hid (HB9.out.trans (hb10.mono HB9.out.size)); clear hb10)
              | (go_at_call 75; refine (HRM.out _ (HT.out.below HB10.out) (HO.out.below HB10.out)).mono ?_; rintro e w11 ⟨rfl, hb11⟩; have HB11 := Lib.hid (HB10.out.trans (hb11.mono HB10.out.size)); clear hb11))
            go_ret
            exact ⟨rfl, HB11.out⟩
          · have HRV := Lib.hid (show mrE T O = (0, ordErr T.length O) by rw [HDEF.out, if_neg (by simp [h0]), if_pos h1])
            obtain ⟨oe, hoe⟩ : ∃ oe, oe = ordErr T.length O := ⟨_, rfl⟩
            rw [← hoe] at HRV HRO h1
            have h1b : (oe != 0) = true := by simpa using h1
            clear hoe h0 h1 hk
            go_wp2_with (first
              | (go_at_call 71; have ST9 := ST2; clear ST9 ST2; refine (HCL.out _ (HT.out.below HB1.out)).mono ?_; rintro e w2 ⟨a2, c2, T2, rfl, hm2, ht2, -, -, -, hb2⟩; have HM2 := Lib.hid hm2; have HT2 := Lib.hid ht2; have HB2 := Lib.hid (HB1.out.trans (hb2.mono HB1.out.size)); clear hb2; clear hm2 ht2)
              | (go_at_call 47; refine (HCI.out _ (HO.out.below HB2.out)).mono ?_; rintro e w3 ⟨v3, rfl, hO3, hb3⟩; obtain ⟨a3, c3, e3, hr3, -⟩ := hO3.rows int_l; subst e3; have HT3 := Lib.hid (HT2.out.below hb3); have HR3 := Lib.hid hr3; have HB3 := Lib.hid (HB2.out.trans (hb3.mono HB2.out.size)); clear hb3; clear hO3 hr3)
              | (go_at_call 70; refine (HMR.out T2 HM2.out a2 c2 a3 c3 _ HT3.out HR3.out).mono ?_; rintro e w4 ⟨rfl, hb4⟩; rw [HRV.out]; have HB4 := Lib.hid (HB3.out.trans (hb4.mono HB3.out.size)); clear hb4)
              | (go_at_call 71; have ST9 := ST5; clear ST9 ST5; refine (HCL.out _ (HT.out.below HB4.out)).mono ?_; rintro e w5 ⟨a5, c5, T5, rfl, hm5, ht5, -, -, -, hb5⟩; have HM5 := Lib.hid hm5; have HT5 := Lib.hid ht5; have HB5 := Lib.hid (HB4.out.trans (hb5.mono HB4.out.size)); clear hb5; clear hm5 ht5)
              | (go_at_call 72; refine (HLM.out T5 HM5.out a5 c5 _ HT5.out).mono ?_; rintro e w6 ⟨a6, q6, rfl, hr6, hb6⟩; have HR6 := Lib.hid hr6; clear hr6; have HB6 := Lib.hid (HB5.out.trans (hb6.mono HB5.out.size)); clear hb6)
              | (go_at_call 73; refine (HCT.out _ (HT.out.below HB6.out)).mono ?_; rintro e w7 ⟨rfl, rfl⟩)
              | (go_at_call 74; refine (HRL.out _ (HT.out.below HB6.out)).mono ?_; rintro e w8 ⟨a8, n8, q8, hn8, rfl, hr8, hb8⟩; subst hn8; rw [HMX.out]; have HR8 := Lib.hid hr8; have HR68 := Lib.hid (HR6.out.below hb8); have HB8 := Lib.hid (HB6.out.trans (hb8.mono HB6.out.size)); clear hb8; clear hr8)
              | (go_at_call 57; refine (ints_any a6 F q6 a8 F q8 _ HR68.out HR8.out HFL.out HFL.out).mono ?_; rintro e w9 ⟨rfl, hd9⟩; rw [decide_eq_true (rfl : F = F)]; have HB9 := Lib.hid (hd9.below HB8.out); clear hd9)
              | (go_at_call 50; refine (HRO.out _ (HO.out.below HB9.out)).mono ?_; rintro e w10 ⟨rfl, hb10⟩; have HB10 := Lib.hid (HB9.out.trans (hb10.mono HB9.out.size)); clear hb10))
            go_ret
            exact ⟨rfl, HB10.out⟩
        · have H0 := Lib.hid h0
          obtain ⟨cc, hcc⟩ : ∃ cc, OrdsEnd T.length cc := by obtain ⟨cc, h, -⟩ := ords_all HT5.out; exact ⟨cc, h⟩
          have HLM : Hid (∀ (T2 : List PR) (hm : T2.map (·.l) = T.map (·.l)) (a2 : Option Addr) (c2 : Nat) (W : World), TabAt W a2 T2 → Calls Try.prog 72 #[.slice a2 T2.length c2] W (LmErr (tblErr T) W)) := Lib.hid (fun T2 hm a2 c2 W h => (HLM0.out HT9.out cc (fun _ => hcc) T2 hm a2 c2 W h).mono (fun e w' h3 => by have h4 := lm_err (by rw [tblErr_map hm]; exact H0.out) h3; rw [tblErr_map hm] at h4; exact h4))
          obtain ⟨te, hte⟩ : ∃ te, te = tblErr T := ⟨_, rfl⟩
          have HTE := Lib.hid hte
          have h0t : te ≠ 0 := by rw [hte]; exact H0.out
          rw [← hte] at HCT HLM
          clear hte hcc h0
          have HRV := Lib.hid (show mrE T O = (0, te) by rw [HDEF.out, if_pos H0.out, ← HTE.out])
          have h0b : (te != 0) = true := by simpa using h0t
          clear h0t hk
          go_wp2_with (first
            | (go_at_call 71; have ST9 := ST2; clear ST9 ST2; refine (HCL.out _ (HT.out.below HB1.out)).mono ?_; rintro e w2 ⟨a2, c2, T2, rfl, hm2, ht2, -, -, -, hb2⟩; have HM2 := Lib.hid hm2; have HT2 := Lib.hid ht2; have HB2 := Lib.hid (HB1.out.trans (hb2.mono HB1.out.size)); clear hb2; clear hm2 ht2)
            | (go_at_call 47; refine (HCI.out _ (HO.out.below HB2.out)).mono ?_; rintro e w3 ⟨v3, rfl, hO3, hb3⟩; obtain ⟨a3, c3, e3, hr3, -⟩ := hO3.rows int_l; subst e3; have HT3 := Lib.hid (HT2.out.below hb3); have HR3 := Lib.hid hr3; have HB3 := Lib.hid (HB2.out.trans (hb3.mono HB2.out.size)); clear hb3; clear hO3 hr3)
            | (go_at_call 70; refine (HMR.out T2 HM2.out a2 c2 a3 c3 _ HT3.out HR3.out).mono ?_; rintro e w4 ⟨rfl, hb4⟩; rw [HRV.out]; have HB4 := Lib.hid (HB3.out.trans (hb4.mono HB3.out.size)); clear hb4)
            | (go_at_call 71; have ST9 := ST5; clear ST9 ST5; refine (HCL.out _ (HT.out.below HB4.out)).mono ?_; rintro e w5 ⟨a5, c5, T5, rfl, hm5, ht5, -, -, -, hb5⟩; have HM5 := Lib.hid hm5; have HT5 := Lib.hid ht5; have HB5 := Lib.hid (HB4.out.trans (hb5.mono HB4.out.size)); clear hb5; clear hm5 ht5)
            | (go_at_call 72; refine (HLM.out T5 HM5.out a5 c5 _ HT5.out).mono ?_; rintro e w6 ⟨a6, q6, rfl, hb6⟩; have HB6 := Lib.hid (HB5.out.trans (hb6.mono HB5.out.size)); clear hb6)
            | (go_at_call 73; refine (HCT.out _ (HT.out.below HB6.out)).mono ?_; rintro e w7 ⟨rfl, rfl⟩))
          go_ret
          exact ⟨rfl, HB6.out⟩
  · have HO9 := Lib.hid h3; have HT9 := Lib.hid (show T.length ≤ 9 by omega)
    have HT8 := Lib.hid h1
    have g5 : (5 : Int) < (T.length : Int) := by omega
    have g5x := decide_eq_true g5
    have g7 : ¬ (T.length : Int) ≤ 7 := by omega
    have g7x := decide_eq_false g7
    have g9 : ¬ (9 : Int) < (T.length : Int) := by omega
    have g9x := decide_eq_false g9
    have g0 : ¬ (9 : Int) < (O.length : Int) := by omega
    have g0x := decide_eq_false g0
    clear h3 h1 h2
    go_wp2_with (first
      | (go_at_call 17; refine (awake_any _).mono ?_; rintro e w1 ⟨rfl, hb1⟩; have HB1 := Lib.hid (HB0.out.trans (hb1.mono HB0.out.size)); clear hb1))
    go_loop [5] (fun i => ∃ k : Nat, k ≤ T.length ∧ i = .int .i64 k ∧ Hid (∀ r ∈ T.take k, r.l.length ≤ 9)) (fun i => T.length - (intOf i).toNat)
    case atStart => exact ⟨0, Nat.zero_le _, rfl, Lib.hid (fun r hr => by simp at hr)⟩
    case round =>
      obtain ⟨k, hk, rfl, HR⟩ := hrel
      by_cases hlt : k < T.length
      · obtain ⟨ad, ra, rl, rc, rfl, had, s0, hrow, hrr⟩ := (HT.out.below HB1.out).pick hlt
        have hkT : (k : Int) < (T.length : Int) := by omega
        have hrz : rl.length ≤ maxLen := by have := HSZ.out _ (List.getElem_mem hlt); rw [hrr] at this; exact this
        have HTK := Lib.hid (show T.take (k + 1) = T.take k ++ [⟨ra, rl, rc⟩] by rw [List.take_succ_eq_append_getElem hlt, hrr])
        unfold maxLen at hrz
        clear hrow hrr
        by_cases h8 : 9 < rl.length
        · have h8' : (9 : Int) < (rl.length : Int) := by omega
          clear h8
          go_wp2_with fail
          go_ret
          exact ⟨rfl, HB1.out⟩
        · have h8' : decide ((9 : Int) < (rl.length : Int)) = false := decide_eq_false (by omega)
          have H8 := Lib.hid h8
          clear h8
          go_wp2_with fail
          go_round
          case rel => exact ⟨k + 1, by omega, by go_num, Lib.hid (fun r hr => by
            rw [HTK.out] at hr
            rcases List.mem_append.1 hr with h | h
            · exact HR.out r h
            · rw [List.mem_singleton.1 h]; have := H8.out; show rl.length ≤ 9; omega)⟩
          case measure => simp [intOf]; omega
      · have HR9 := Lib.hid (show ∀ r ∈ T, r.l.length ≤ 9 from fun r hr => HR.out r (by rw [List.take_of_length_le (by omega)]; exact hr))
        obtain rfl : k = T.length := by omega
        have HCL := Lib.hid (fun W h => HCL0.out HT9.out HR9.out W h)
        have HCI := Lib.hid (fun W h => HCI0.out HO9.out W h)
        have HMR := Lib.hid (fun T2 hm a2 c2 a3 c3 W h h2 => HMR0.out HT9.out T2 hm a2 c2 a3 c3 W h h2)
        have ST2 : True := trivial
        have ST5 : True := trivial
        have H0 := Lib.hid (show tblErr T ≠ 0 by unfold tblErr; rw [if_pos HT8.out]; decide)
        have HLM : Hid (∀ (T2 : List PR) (hm : T2.map (·.l) = T.map (·.l)) (a2 : Option Addr) (c2 : Nat) (W : World), TabAt W a2 T2 → Calls Try.prog 72 #[.slice a2 T2.length c2] W (LmErr (tblErr T) W)) := Lib.hid (fun T2 hm a2 c2 W h => (HLM0.out HT9.out 0 (fun h7 => by have := HT8.out; omega) T2 hm a2 c2 W h).mono (fun e w' h3 => by have h4 := lm_err (by rw [tblErr_map hm]; exact H0.out) h3; rw [tblErr_map hm] at h4; exact h4))
        obtain ⟨te, hte⟩ : ∃ te, te = tblErr T := ⟨_, rfl⟩
        have HTE := Lib.hid hte
        have h0t : te ≠ 0 := by rw [hte]; exact H0.out
        rw [← hte] at HCT HLM
        clear hte
        have HRV := Lib.hid (show mrE T O = (0, te) by rw [HDEF.out, if_pos H0.out, ← HTE.out])
        have h0b : (te != 0) = true := by simpa using h0t
        clear h0t hk
        go_wp2_with (first
          | (go_at_call 71; have ST9 := ST2; clear ST9 ST2; refine (HCL.out _ (HT.out.below HB1.out)).mono ?_; rintro e w2 ⟨a2, c2, T2, rfl, hm2, ht2, -, -, -, hb2⟩; have HM2 := Lib.hid hm2; have HT2 := Lib.hid ht2; have HB2 := Lib.hid (HB1.out.trans (hb2.mono HB1.out.size)); clear hb2; clear hm2 ht2)
          | (go_at_call 47; refine (HCI.out _ (HO.out.below HB2.out)).mono ?_; rintro e w3 ⟨v3, rfl, hO3, hb3⟩; obtain ⟨a3, c3, e3, hr3, -⟩ := hO3.rows int_l; subst e3; have HT3 := Lib.hid (HT2.out.below hb3); have HR3 := Lib.hid hr3; have HB3 := Lib.hid (HB2.out.trans (hb3.mono HB2.out.size)); clear hb3; clear hO3 hr3)
          | (go_at_call 70; refine (HMR.out T2 HM2.out a2 c2 a3 c3 _ HT3.out HR3.out).mono ?_; rintro e w4 ⟨rfl, hb4⟩; rw [HRV.out]; have HB4 := Lib.hid (HB3.out.trans (hb4.mono HB3.out.size)); clear hb4)
          | (go_at_call 71; have ST9 := ST5; clear ST9 ST5; refine (HCL.out _ (HT.out.below HB4.out)).mono ?_; rintro e w5 ⟨a5, c5, T5, rfl, hm5, ht5, -, -, -, hb5⟩; have HM5 := Lib.hid hm5; have HT5 := Lib.hid ht5; have HB5 := Lib.hid (HB4.out.trans (hb5.mono HB4.out.size)); clear hb5; clear hm5 ht5)
          | (go_at_call 72; refine (HLM.out T5 HM5.out a5 c5 _ HT5.out).mono ?_; rintro e w6 ⟨a6, q6, rfl, hb6⟩; have HB6 := Lib.hid (HB5.out.trans (hb6.mono HB5.out.size)); clear hb6)
          | (go_at_call 73; refine (HCT.out _ (HT.out.below HB6.out)).mono ?_; rintro e w7 ⟨rfl, rfl⟩))
        go_ret
        exact ⟨rfl, HB6.out⟩
end Go.Proofs.Ytpplcbpnojggcaa
