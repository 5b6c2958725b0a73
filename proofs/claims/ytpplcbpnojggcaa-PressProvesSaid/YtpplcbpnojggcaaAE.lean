/-
  Package press: OrderMinutes; few colours.
-/
import Derived.Test.YtpplcbpnojggcaaAC
import Derived.Test.YtpplcbpnojggcaaAD
namespace Go.Proofs.Ytpplcbpnojggcaa
open Go.RowKit Go.Maps Go.Shelf

/-- What OrderMinutes returns: the minutes, the error. -/
def omE (x : Cols) (O : List Int) : Int × Int := if colsErr x ≠ 0 then (0, colsErr x) else if ordErr x.m.length O ≠ 0 then (0, ordErr x.m.length O) else minsE x O
theorem SameC.om {x y : Cols} (h : SameC x y) (O : List Int) : omE y O = omE x O := by unfold omE; rw [h.err, h.m, h.mins]
set_option maxRecDepth 100000 in
set_option maxHeartbeats 2000000 in
theorem orderMinutes_any (x : Cols) (O : List Int) (a : Option Addr) (n oc : Nat) (w : World) (hn : n = O.length) (hx : ColsAt w x) (hm : x.m.length ≤ 1000000) (hT : x.T.length ≤ maxLen) (hO : RowsAt 1 intL w a O) (hc : O.length ≤ oc) (hl : O.length ≤ maxLen) :
    Calls Try.prog 45 #[x.v, .slice a n oc] w (TwoPost (omE x O) w) := by
  subst hn
  have hb0 := (Below.refl w.heap.size w).alloc (Nat.le_refl _) (.cells #[.slice x.ma x.m.length x.mc, .slice x.da x.T.length x.dc] 78)
  have bx := BoxAt.new w #[.slice x.ma x.m.length x.mc, .slice x.da x.T.length x.dc] 78
  have HCC := Lib.hid (checkColours_any x (w.alloc (.cells #[.slice x.ma x.m.length x.mc, .slice x.da x.T.length x.dc] 78)) (hx.below hb0) (by unfold maxLen; omega) hT)
  have HEO := Lib.hid (fun W (h : RowsAt 1 intL W a O) => errorOfOrder_any a O O.length oc x.m.length W rfl h hl hm)
  have HMO := Lib.hid (fun W h h1 h2 h3 h4 => minutesOf_any x O a oc W h h1 h2 hc h3 h4)
  have HX := Lib.hid hx
  have HO := Lib.hid hO
  have HDEF := Lib.hid (show omE x O = if colsErr x ≠ 0 then (0, colsErr x) else if ordErr x.m.length O ≠ 0 then (0, ordErr x.m.length O) else minsE x O from rfl)
  obtain ⟨R, hR⟩ : ∃ R, R = omE x O := ⟨_, rfl⟩
  rw [← hR] at HDEF ⊢
  obtain ⟨ma, m, mc, da, T, dc⟩ := x
  unfold Cols.v at HCC HMO ⊢
  dsimp only at HCC HEO HMO bx hb0 HDEF hm hT ⊢
  clear hx hO hR
  go_enter Try.func45, Try.ntmps45
  by_cases h0 : colsErr ⟨ma, m, mc, da, T, dc⟩ = 0
  · have HOK := Lib.hid (cols_right h0)
    have HD1 := Lib.hid (show R = if ordErr m.length O ≠ 0 then (0, ordErr m.length O) else minsE ⟨ma, m, mc, da, T, dc⟩ O by rw [HDEF.out, if_neg (by simp [h0])])
    have H0 := Lib.hid h0
    clear h0 HDEF
    by_cases h1 : ordErr m.length O = 0
    · have HR := Lib.hid (show R = minsE ⟨ma, m, mc, da, T, dc⟩ O by rw [HD1.out, if_neg (by simp [h1])])
      have HL6 := Lib.hid (show O.length ≤ 6 by have := HOK.out.le; have h2 := (ord_right h1).1; show O.length ≤ 6; rw [h2]; exact this)
      have HIN := Lib.hid (ord_right h1).2.2
      have H1 := Lib.hid h1
      clear h1 HD1
      go_wp2_with (first
        | (go_at_call 49; refine HCC.out.mono ?_; rintro e w1 ⟨rfl, hb1⟩; rw [H0.out]; have BX1 := Lib.hid (bx.below hb1); have HB1 := Lib.hid (hb0.trans (hb1.mono hb0.size)); have k0 : w1.cell? ⟨w.heap.size, 0, none⟩ = some (.slice ma m.length mc) := BX1.out.cell 0; have k1 : w1.cell? ⟨w.heap.size, 1, none⟩ = some (.slice da T.length dc) := BX1.out.cell 1; have l1 := BX1.out.lt; clear hb1 bx hb0)
        | (go_at_call 107; refine (HEO.out _ (HO.out.below HB1.out)).mono ?_; rintro e w2 ⟨rfl, hb2⟩; rw [H1.out]; have BX2 := Lib.hid (BX1.out.below hb2); have HB2 := Lib.hid (HB1.out.trans (hb2.mono HB1.out.size)); have k0 : w2.cell? ⟨w.heap.size, 0, none⟩ = some (.slice ma m.length mc) := BX2.out.cell 0; have k1 : w2.cell? ⟨w.heap.size, 1, none⟩ = some (.slice da T.length dc) := BX2.out.cell 1; have l1 := BX2.out.lt; clear hb2)
        | (go_at_call 108; refine (HMO.out _ (HX.out.below HB2.out) HOK.out (HO.out.below HB2.out) HL6.out HIN.out).mono ?_; rintro e w3 ⟨rfl, hb3⟩))
      go_ret2
      exact ⟨two_to (by rw [HR.out]), HB2.out.trans (hb3.mono HB2.out.size)⟩
    · have HR := Lib.hid (show R = (0, ordErr m.length O) by rw [HD1.out, if_pos h1])
      have h1' : (ordErr m.length O != 0) = true := by simpa using h1
      obtain ⟨oe, hoe⟩ : ∃ oe, oe = ordErr m.length O := ⟨_, rfl⟩
      rw [← hoe] at HEO HR h1'
      clear h1 HD1 hoe
      go_wp2_with (first
        | (go_at_call 49; refine HCC.out.mono ?_; rintro e w1 ⟨rfl, hb1⟩; rw [H0.out]; have BX1 := Lib.hid (bx.below hb1); have HB1 := Lib.hid (hb0.trans (hb1.mono hb0.size)); have k0 : w1.cell? ⟨w.heap.size, 0, none⟩ = some (.slice ma m.length mc) := BX1.out.cell 0; have k1 : w1.cell? ⟨w.heap.size, 1, none⟩ = some (.slice da T.length dc) := BX1.out.cell 1; have l1 := BX1.out.lt; clear hb1 bx hb0)
        | (go_at_call 107; refine (HEO.out _ (HO.out.below HB1.out)).mono ?_; rintro e w2 ⟨rfl, hb2⟩))
      go_ret2
      exact ⟨two_to HR.out, HB1.out.trans (hb2.mono HB1.out.size)⟩
  · have HR := Lib.hid (show R = (0, colsErr ⟨ma, m, mc, da, T, dc⟩) by rw [HDEF.out, if_pos h0])
    have h0' : (colsErr ⟨ma, m, mc, da, T, dc⟩ != 0) = true := by simpa using h0
    obtain ⟨ce, hce⟩ : ∃ ce, ce = colsErr ⟨ma, m, mc, da, T, dc⟩ := ⟨_, rfl⟩
    rw [← hce] at HCC HR h0'
    clear h0 HDEF hce
    go_wp2_with (go_at_call 49; refine HCC.out.mono ?_; rintro e w1 ⟨rfl, hb1⟩)
    go_ret2
    exact ⟨two_to HR.out, hb0.trans (hb1.mono hb0.size)⟩
def fewP (x : Cols) : Prop := x.m.length ≤ 8 ∧ (x.m.length ≤ 6 → x.m.length ≤ 5) ∧ x.T.length ≤ 8 ∧ ∀ r ∈ x.T, r.l.length ≤ 8
def FewPost (FP : Prop) (w : World) (e : Ending) (w' : World) : Prop := (∃ b, e = .returned (.bool b) ∧ (b = true → FP)) ∧ Below w.heap.size w w'
set_option maxRecDepth 100000 in
set_option maxHeartbeats 4000000 in
theorem few_any (x : Cols) (w : World) (hx : ColsAt w x) (hm : x.m.length ≤ maxLen) (hT : x.T.length ≤ maxLen) (hsz : ∀ r ∈ x.T, r.l.length ≤ maxLen) :
    Calls Try.prog 44 #[x.v] w (FewPost (fewP x) w) := by
  have hb := (Below.refl w.heap.size w).alloc (Nat.le_refl _) (.cells #[.slice x.ma x.m.length x.mc, .slice x.da x.T.length x.dc] 78)
  have bx := BoxAt.new w #[.slice x.ma x.m.length x.mc, .slice x.da x.T.length x.dc] 78
  have HT := Lib.hid (hx.below hb).tab
  have HSZ := Lib.hid hsz
  have HFP := Lib.hid (show fewP x ↔ x.m.length ≤ 8 ∧ (x.m.length ≤ 6 → x.m.length ≤ 5) ∧ x.T.length ≤ 8 ∧ ∀ r ∈ x.T, r.l.length ≤ 8 from Iff.rfl)
  obtain ⟨FP, hFP⟩ : ∃ FP, FP = fewP x := ⟨_, rfl⟩
  rw [← hFP] at HFP ⊢
  obtain ⟨ma, m, mc, da, T, dc⟩ := x
  unfold Cols.v
  dsimp only at bx hb HT HSZ HFP hm hT ⊢
  unfold maxLen at hm hT
  clear hx hsz hFP
  go_enter Try.func44, Try.ntmps44
  have HCASE : (5 < m.length ∧ m.length ≤ 6) ∨ 8 < m.length ∨ (8 < T.length ∧ m.length ≤ 5) ∨ (8 < T.length ∧ 6 < m.length ∧ m.length ≤ 8) ∨ (T.length ≤ 8 ∧ m.length ≤ 5) ∨ (T.length ≤ 8 ∧ 6 < m.length ∧ m.length ≤ 8) := by omega
  rcases HCASE with ⟨h1, h2⟩ | h1 | ⟨h3, h1⟩ | ⟨h3, h1, h2⟩ | ⟨h3, h1⟩ | ⟨h3, h1, h2⟩
  · have g1 : (5 : Int) < (m.length : Int) := by omega
    have g2 : (m.length : Int) ≤ 6 := by omega
    clear h1 h2
    go_wp2_with fail
    go_ret
    exact ⟨⟨_, rfl, fun h => by cases h⟩, hb⟩
  · have g1 : (5 : Int) < (m.length : Int) := by omega
    have g2 : ¬ (m.length : Int) ≤ 6 := by omega
    have g3 : (8 : Int) < (m.length : Int) := by omega
    have g2' := decide_eq_false g2
    clear h1
    go_wp2_with fail
    go_ret
    exact ⟨⟨_, rfl, fun h => by cases h⟩, hb⟩
  · have HL1 := Lib.hid h1; have HL3 := Lib.hid h3
    have g1 : ¬ (5 : Int) < (m.length : Int) := by omega
    have g3 : ¬ (8 : Int) < (m.length : Int) := by omega
    have g1' := decide_eq_false g1; have g3' := decide_eq_false g3
    have g4 : (8 : Int) < (T.length : Int) := by omega
    clear h1 h3
    go_wp2_with fail
    go_ret
    exact ⟨⟨_, rfl, fun h => by cases h⟩, hb⟩
  · have HL1 := Lib.hid h1; have HL3 := Lib.hid h3
    have HL2 := Lib.hid h2
    have g1 : (5 : Int) < (m.length : Int) := by omega
    have g2 : ¬ (m.length : Int) ≤ 6 := by omega
    have g3 : ¬ (8 : Int) < (m.length : Int) := by omega
    have g2' := decide_eq_false g2; have g3' := decide_eq_false g3
    have g4 : (8 : Int) < (T.length : Int) := by omega
    clear h1 h3
    go_wp2_with fail
    go_ret
    exact ⟨⟨_, rfl, fun h => by cases h⟩, hb⟩
  · have HL1 := Lib.hid h1; have HL3 := Lib.hid h3
    have g1 : ¬ (5 : Int) < (m.length : Int) := by omega
    have g3 : ¬ (8 : Int) < (m.length : Int) := by omega
    have g1' := decide_eq_false g1; have g3' := decide_eq_false g3
    have g4 : ¬ (8 : Int) < (T.length : Int) := by omega
    have g4' := decide_eq_false g4
    clear h1 h3
    go_wp2_with fail
    obtain ⟨w0, hw0⟩ : ∃ w0, w0 = w.alloc (.cells #[.slice ma m.length mc, .slice da T.length dc] 78) := ⟨_, rfl⟩
    rw [← hw0] at bx hb HT ⊢
    clear hw0
    have k1 : w0.cell? ⟨w.heap.size, 1, none⟩ = some (.slice da T.length dc) := bx.cell 1
    have lx := bx.lt
    have HB := Lib.hid hb
    clear bx hb
    go_loop [3] (fun i => ∃ k : Nat, k ≤ T.length ∧ i = .int .i64 k ∧ Hid (∀ r ∈ T.take k, r.l.length ≤ 8)) (fun i => T.length - (intOf i).toNat)
    case atStart => exact ⟨0, Nat.zero_le _, rfl, Lib.hid (fun r hr => by simp at hr)⟩
    case round =>
      obtain ⟨k, hk, rfl, HR⟩ := hrel
      by_cases hlt : k < T.length
      · obtain ⟨ad, ra, rl, rc, rfl, had, s0, hrow, hrr⟩ := HT.out.pick hlt
        have hkT : (k : Int) < (T.length : Int) := by omega
        have hrz : rl.length ≤ maxLen := by have := HSZ.out _ (List.getElem_mem hlt); rw [hrr] at this; exact this
        have HTK := Lib.hid (show T.take (k + 1) = T.take k ++ [⟨ra, rl, rc⟩] by rw [List.take_succ_eq_append_getElem hlt, hrr])
        unfold maxLen at hrz
        clear hrow hrr
        by_cases h8 : 8 < rl.length
        · have h8' : (8 : Int) < (rl.length : Int) := by omega
          clear h8
          go_wp2_with fail
          go_ret
          exact ⟨⟨_, rfl, fun h => by cases h⟩, HB.out⟩
        · have h8' : decide ((8 : Int) < (rl.length : Int)) = false := decide_eq_false (by omega)
          have H8 := Lib.hid h8
          clear h8
          go_wp2_with fail
          go_round
          case rel => exact ⟨k + 1, by omega, by go_num, Lib.hid (fun r hr => by
            rw [HTK.out] at hr
            rcases List.mem_append.1 hr with h | h
            · exact HR.out r h
            · rw [List.mem_singleton.1 h]; have := H8.out; show rl.length ≤ 8; omega)⟩
          case measure => simp [intOf]; omega
      · have HEND := Lib.hid (show FP from HFP.out.2 ⟨by have := HL1.out; omega, fun h => by have := HL1.out; omega, HL3.out, fun r hr => HR.out r (by rw [List.take_of_length_le (by omega)]; exact hr)⟩)
        go_wp2
        go_ret
        exact ⟨⟨_, rfl, fun _ => HEND.out⟩, HB.out⟩
  · have HL1 := Lib.hid h1; have HL3 := Lib.hid h3
    have HL2 := Lib.hid h2
    have g1 : (5 : Int) < (m.length : Int) := by omega
    have g2 : ¬ (m.length : Int) ≤ 6 := by omega
    have g3 : ¬ (8 : Int) < (m.length : Int) := by omega
    have g2' := decide_eq_false g2; have g3' := decide_eq_false g3
    have g4 : ¬ (8 : Int) < (T.length : Int) := by omega
    have g4' := decide_eq_false g4
    clear h1 h3
    go_wp2_with fail
    obtain ⟨w0, hw0⟩ : ∃ w0, w0 = w.alloc (.cells #[.slice ma m.length mc, .slice da T.length dc] 78) := ⟨_, rfl⟩
    rw [← hw0] at bx hb HT ⊢
    clear hw0
    have k1 : w0.cell? ⟨w.heap.size, 1, none⟩ = some (.slice da T.length dc) := bx.cell 1
    have lx := bx.lt
    have HB := Lib.hid hb
    clear bx hb
    go_loop [3] (fun i => ∃ k : Nat, k ≤ T.length ∧ i = .int .i64 k ∧ Hid (∀ r ∈ T.take k, r.l.length ≤ 8)) (fun i => T.length - (intOf i).toNat)
    case atStart => exact ⟨0, Nat.zero_le _, rfl, Lib.hid (fun r hr => by simp at hr)⟩
    case round =>
      obtain ⟨k, hk, rfl, HR⟩ := hrel
      by_cases hlt : k < T.length
      · obtain ⟨ad, ra, rl, rc, rfl, had, s0, hrow, hrr⟩ := HT.out.pick hlt
        have hkT : (k : Int) < (T.length : Int) := by omega
        have hrz : rl.length ≤ maxLen := by have := HSZ.out _ (List.getElem_mem hlt); rw [hrr] at this; exact this
        have HTK := Lib.hid (show T.take (k + 1) = T.take k ++ [⟨ra, rl, rc⟩] by rw [List.take_succ_eq_append_getElem hlt, hrr])
        unfold maxLen at hrz
        clear hrow hrr
        by_cases h8 : 8 < rl.length
        · have h8' : (8 : Int) < (rl.length : Int) := by omega
          clear h8
          go_wp2_with fail
          go_ret
          exact ⟨⟨_, rfl, fun h => by cases h⟩, HB.out⟩
        · have h8' : decide ((8 : Int) < (rl.length : Int)) = false := decide_eq_false (by omega)
          have H8 := Lib.hid h8
          clear h8
          go_wp2_with fail
          go_round
          case rel => exact ⟨k + 1, by omega, by go_num, Lib.hid (fun r hr => by
            rw [HTK.out] at hr
            rcases List.mem_append.1 hr with h | h
            · exact HR.out r h
            · rw [List.mem_singleton.1 h]; have := H8.out; show rl.length ≤ 8; omega)⟩
          case measure => simp [intOf]; omega
      · have HEND := Lib.hid (show FP from HFP.out.2 ⟨by have := HL1.out; exact HL2.out, fun h => by have := HL1.out; omega, HL3.out, fun r hr => HR.out r (by rw [List.take_of_length_le (by omega)]; exact hr)⟩)
        go_wp2
        go_ret
        exact ⟨⟨_, rfl, fun _ => HEND.out⟩, HB.out⟩
end Go.Proofs.Ytpplcbpnojggcaa
