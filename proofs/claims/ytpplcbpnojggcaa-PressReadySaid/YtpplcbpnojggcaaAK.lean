/-
  Package press: MakeReady, LeastMakeReady.
-/
import Derived.Test.YtpplcbpnojggcaaAH
import Derived.Test.YtpplcbpnojggcaaAI
namespace Go.Proofs.Ytpplcbpnojggcaa
open Go.RowKit Go.Maps Go.Shelf

set_option maxRecDepth 100000 in
set_option maxHeartbeats 1000000 in
theorem ready1_any (T : List PR) (ta : Option Addr) (tc b B : Nat) (O : List Int) (v : Value) (w : World) (hb : BoxAt w b #[.slice ta T.length tc] 76) (hT : TabAt w ta T) (hr : TabRight T)
    (hO : OwnR 1 3 intL w B v O) (hol : O.length ≤ 7) (hin : ∀ y ∈ O, 0 ≤ y ∧ y < T.length) :
    Calls Try.prog 129 #[v, .pointer (some ⟨b, 0, none⟩)] w (TwoPost (mkA T O, 0) w) := by
  obtain ⟨a, c, rfl, hRS, hc, -⟩ := hO.rows int_l
  have HM := Lib.hid (makeReady_any T ta T.length tc O a O.length c w rfl rfl hT hr hRS hol hin)
  have c0 : w.cell? ⟨b, 0, none⟩ = some (.slice ta T.length tc) := hb.cell 0
  clear hT hr hO hin hRS
  go_enter Try.func129, Try.ntmps129
  go_wp2_with (go_at_call 128; refine HM.out.mono ?_; rintro e w1 ⟨rfl, rfl⟩)
  go_ret2
  exact ⟨rfl, Below.refl _ _⟩
/-- What MakeReady returns: the minutes, the error. -/
def mrE (T : List PR) (O : List Int) : Int × Int := if tblErr T ≠ 0 then (0, tblErr T) else if ordErr T.length O ≠ 0 then (0, ordErr T.length O) else (mkA T O, 0)
theorem mrE_map {T T' : List PR} (h : T'.map (·.l) = T.map (·.l)) (O : List Int) : mrE T' O = mrE T O := by
  unfold mrE mkA; rw [tblErr_map h, map_len h, mkR_map h]
set_option maxRecDepth 100000 in
set_option maxHeartbeats 2000000 in
theorem MakeReady_any (T : List PR) (ta : Option Addr) (tn tc : Nat) (O : List Int) (a : Option Addr) (n oc : Nat) (w : World) (htn : tn = T.length) (hn : n = O.length) (hT : TabAt w ta T) (hTl : T.length ≤ 1000000) (hO : RowsAt 1 intL w a O) (hl : O.length ≤ maxLen) :
    Calls Try.prog 70 #[.slice ta tn tc, .slice a n oc] w (TwoPost (mrE T O) w) := by
  subst hn; subst htn
  have HCC := Lib.hid (errorOfReadyTable_any T ta T.length tc w rfl hT (by unfold maxLen; omega))
  have HEO := Lib.hid (errorOfOrder_any a O O.length oc T.length w rfl hO hl hTl)
  have HMO := Lib.hid (fun W (hb : Below w.heap.size w W) h2 h3 h4 => makeReady_any T ta T.length tc O a O.length oc W rfl rfl (hT.below hb) h2 (hO.below hb) h3 h4)
  have HDEF := Lib.hid (show mrE T O = if tblErr T ≠ 0 then (0, tblErr T) else if ordErr T.length O ≠ 0 then (0, ordErr T.length O) else (mkA T O, 0) from rfl)
  obtain ⟨R, hR⟩ : ∃ R, R = mrE T O := ⟨_, rfl⟩
  rw [← hR] at HDEF ⊢
  clear hT hO hR
  go_enter Try.func70, Try.ntmps70
  by_cases h0 : tblErr T = 0
  · have HOK := Lib.hid (tab_right h0)
    have HD1 := Lib.hid (show R = if ordErr T.length O ≠ 0 then (0, ordErr T.length O) else (mkA T O, 0) by rw [HDEF.out, if_neg (by simp [h0])])
    have H0 := Lib.hid h0
    clear h0 HDEF
    by_cases h1 : ordErr T.length O = 0
    · have HR := Lib.hid (show R = (mkA T O, 0) by rw [HD1.out, if_neg (by simp [h1])])
      have HL7 := Lib.hid (show O.length ≤ 7 by have := HOK.out.le; have h2 := (ord_right h1).1; omega)
      have HIN := Lib.hid (ord_right h1).2.2
      have H1 := Lib.hid h1
      clear h1 HD1
      go_wp2_with (first
        | (go_at_call 127; refine HCC.out.mono ?_; rintro e w1 ⟨rfl, rfl⟩; rw [H0.out])
        | (go_at_call 107; refine HEO.out.mono ?_; rintro e w2 ⟨rfl, hb2⟩; rw [H1.out]; have HB2 := Lib.hid hb2; clear hb2)
        | (go_at_call 128; refine (HMO.out _ HB2.out HOK.out HL7.out HIN.out).mono ?_; rintro e w3 ⟨rfl, rfl⟩))
      go_ret2
      exact ⟨two_to HR.out, HB2.out⟩
    · have HR := Lib.hid (show R = (0, ordErr T.length O) by rw [HD1.out, if_pos h1])
      have h1' : (ordErr T.length O != 0) = true := by simpa using h1
      obtain ⟨oe, hoe⟩ : ∃ oe, oe = ordErr T.length O := ⟨_, rfl⟩
      rw [← hoe] at HEO HR h1'
      clear h1 HD1 hoe
      go_wp2_with (first
        | (go_at_call 127; refine HCC.out.mono ?_; rintro e w1 ⟨rfl, rfl⟩; rw [H0.out])
        | (go_at_call 107; refine HEO.out.mono ?_; rintro e w2 ⟨rfl, hb2⟩))
      go_ret2
      exact ⟨two_to HR.out, hb2⟩
  · have HR := Lib.hid (show R = (0, tblErr T) by rw [HDEF.out, if_pos h0])
    have h0' : (tblErr T != 0) = true := by simpa using h0
    obtain ⟨ce, hce⟩ : ∃ ce, ce = tblErr T := ⟨_, rfl⟩
    rw [← hce] at HCC HR h0'
    clear h0 HDEF hce
    go_wp2_with (go_at_call 127; refine HCC.out.mono ?_; rintro e w1 ⟨rfl, rfl⟩)
    go_ret2
    exact ⟨two_to HR.out, Below.refl _ _⟩
/-- What LeastMakeReady returns. -/
def lmF (T : List PR) (c : Nat) : List Int × Int × Int := lstF (fun O => (mkA T O, 0)) (ordsL T.length c)
def LmPost (T : List PR) (c : Nat) (w : World) (e : Ending) (w' : World) : Prop :=
  ∃ (a : Option Addr) (n q : Nat), ((tblErr T ≠ 0 ∧ n = 0 ∧ e = .returned (.tuple #[.slice a n q, .int .i64 0, .int .i64 (tblErr T)])) ∨
  (tblErr T = 0 ∧ n = (lmF T c).1.length ∧ e = .returned (.tuple #[.slice a n q, .int .i64 (lmF T c).2.1, .int .i64 (lmF T c).2.2]) ∧ RowsAt 1 intL w' a (lmF T c).1)) ∧ Below w.heap.size w w'
theorem results_tmp3 {fn : Func} {tmps : Array Value} {w : World} {P : Program} {i j k : Nat} (hf : fn.results = #[.tmp i, .tmp j, .tmp k]) : (results fn tmps).run P w = .ok (.tuple #[tmps.getD i undef, tmps.getD j undef, tmps.getD k undef]) w := by
  simp [results, hf, go_sem]
set_option maxRecDepth 100000 in
set_option maxHeartbeats 2000000 in
theorem leastMakeReady_any (T : List PR) (ta : Option Addr) (tn tc c : Nat) (w : World) (htn : tn = T.length) (hT : TabAt w ta T) (hTl : T.length ≤ 1000000) (hE : T.length ≤ 7 → OrdsEnd T.length c) :
    Calls Try.prog 72 #[.slice ta tn tc] w (LmPost T c w) := by
  subst htn
  have hb0 := (Below.refl w.heap.size w).alloc (Nat.le_refl _) (.cells #[.slice ta T.length tc] 76)
  have bx := BoxAt.new w #[.slice ta T.length tc] 76
  have HCC := Lib.hid (errorOfReadyTable_any T ta T.length tc _ rfl (hT.below hb0) (by unfold maxLen; omega))
  have HT := Lib.hid hT
  have HBX := Lib.hid bx; have HB0 := Lib.hid hb0; have HE := Lib.hid hE
  clear hT bx hb0 hE
  go_enter Try.func72, Try.ntmps72
  by_cases h0 : tblErr T = 0
  · have HOK := Lib.hid (tab_right h0)
    have H0 := Lib.hid h0
    clear h0
    go_wp2_with (go_at_call 127; refine HCC.out.mono ?_; rintro e w1 ⟨rfl, rfl⟩; rw [H0.out])
    refine (leastReady_any T.length c (fun O => (mkA T O, 0)) (.pointer (some ⟨w.heap.size, 0, none⟩)) _ (HE.out HOK.out.le) (by have := HOK.out.le; omega) (fun O v B W hB hO hlen hin => ready1_any T ta tc w.heap.size B O v W (HBX.out.below hB) (HT.out.below (HB0.out.trans (hB.mono HB0.out.size))) HOK.out hO (by have := HOK.out.le; omega) hin)).mono ?_
    rintro e w2 ⟨v, rfl, hO2, hb2⟩
    have HLM := Lib.hid (show lmF T c = lstF (fun O => (mkA T O, 0)) (ordsL T.length c) from rfl)
    obtain ⟨st, hst⟩ : ∃ st, st = lstF (fun O => (mkA T O, 0)) (ordsL T.length c) := ⟨_, rfl⟩
    rw [← hst] at hO2 HLM ⊢
    clear hst
    obtain ⟨F, le, er⟩ := st
    dsimp only at hO2 ⊢
    obtain ⟨va, vc, ev, hrv, -⟩ := hO2.rows int_l
    subst ev
    have HF := Lib.hid (show LmPost T c w (.returned (.tuple #[.slice va F.length vc, .int .i64 le, .int .i64 er])) w2 from ⟨va, F.length, vc, Or.inr ⟨H0.out, by rw [HLM.out], by rw [HLM.out], by rw [HLM.out]; exact hrv⟩, HB0.out.trans (hb2.mono HB0.out.size)⟩)
    clear hrv hO2 hb2
    go_wp2
    (try simp only [Exit.inBlock, Exit.then]); refine bodyPost_ret (results_tmp3 rfl) rfl ?_
    exact HF.out
  · have HJ := Lib.hid h0
    have h0' : (tblErr T != 0) = true := by simpa using h0
    have HF := Lib.hid (show LmPost T c w (.returned (.tuple #[.slice none 0 0, .int .i64 0, .int .i64 (tblErr T)])) (w.alloc (.cells #[.slice ta T.length tc] 76)) from ⟨none, 0, 0, Or.inl ⟨h0, rfl, rfl⟩, HB0.out⟩)
    obtain ⟨ce, hce⟩ : ∃ ce, ce = tblErr T := ⟨_, rfl⟩
    rw [← hce] at HCC HF h0'
    clear h0 hce
    go_wp2_with (go_at_call 127; refine HCC.out.mono ?_; rintro e w1 ⟨rfl, rfl⟩)
    (try simp only [Exit.inBlock, Exit.then]); refine bodyPost_ret (results_tmp3 rfl) rfl ?_
    exact HF.out
end Go.Proofs.Ytpplcbpnojggcaa
