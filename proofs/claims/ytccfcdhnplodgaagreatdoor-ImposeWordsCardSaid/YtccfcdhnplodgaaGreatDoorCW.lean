/-
  Package tympanref06: ParseFolds.
-/
import Derived.Test.YtccfcdhnplodgaaGreatDoorCL
import Derived.Test.YtccfcdhnplodgaaGreatDoorCI
import Derived.Test.YtccfcdhnplodgaaGreatDoorCH
import Derived.Test.YtccfcdhnplodgaaGreatDoorRI
import Derived.Test.YtccfcdhnplodgaaGreatDoorIW
import Derived.Test.YtccfcdhnplodgaaGreatDoorIZ
namespace Go.Proofs.YtccfcdhnplodgaaGreatDoor
open Go.RowKit

set_option maxRecDepth 100000 in
set_option maxHeartbeats 4000000 in
theorem refParseFolds_any (s : ByteArray) (w : World) (hs : s.size ≤ 1000) :
    Calls Tryz.prog 8 #[.string s] w (ParsePost w (parseM s.data.toList)) := by
  by_cases h0 : s.size = 0
  · obtain rfl : s = ⟨#[]⟩ := by
      have : s.data.toList = [] := List.length_eq_zero_iff.1 (by rw [Array.length_toList]; exact h0)
      rw [← data_bs s, this]; try rfl
    clear h0
    go_enter Tryz.func8, Tryz.ntmps8
    go_wp2_with fail
    go_ret2
    exact ParsePost.none rfl (Below.refl _ _)
  have hne : s.data.toList ≠ [] := fun e => by
    have := congrArg List.length e
    rw [Array.length_toList] at this
    have e2 : s.data.size = s.size := rfl
    rw [List.length_nil] at this; omega
  have hse2 : (s.toList == ([] : List UInt8)) = false := by
    rw [beq_eq_false_iff_ne, Lib.toList_data]; exact hne
  have hse : s ≠ ⟨#[]⟩ := fun e => by rw [e] at h0; exact h0 rfl
  obtain ⟨M, hM⟩ : ∃ M, M = parseM s.data.toList := ⟨_, rfl⟩
  have HM := Lib.hid hM
  rw [← hM]
  clear hM
  obtain ⟨ws, ews⟩ : ∃ ws, ws = splitOn 32 s.data.toList := ⟨_, rfl⟩
  have HCUT := Lib.hid (cut_any s 32 w hs)
  have HNE := Lib.hid hne; have HEW := Lib.hid ews
  have HSZ : Hid (∀ x ∈ ws, x.length ≤ 1000) := Lib.hid (by
    intro x hx
    rw [ews] at hx
    have := split_size 32 _ x hx
    have e2 : s.data.toList.length = s.size := Array.length_toList
    rw [e2] at this
    exact Nat.le_trans this hs)
  have HWL : Hid (ws.length ≤ 1001) := Lib.hid (by
    have h1 := splitOn_len 32 s.data.toList
    have e2 : s.data.toList.length = s.size := Array.length_toList
    rw [← ews] at h1
    omega)
  by_cases h12 : 12 < ws.length
  · have HZ := Lib.hid (show M = ([], 8) by rw [HM.out]; exact parseM_large hne (by rw [← ews]; exact h12))
    clear ews hne
    go_enter Tryz.func8, Tryz.ntmps8
    go_wp2_with fail
    refine HCUT.out.mono ?_
    rintro e w1 ⟨hb1, v, rfl, hT⟩
    rw [← HEW.out] at hT
    obtain ⟨g, gc, ev, hrow, -, -⟩ := hT.rows tx_len
    subst ev
    obtain ⟨pl, hpl⟩ : ∃ pl, pl = (ws.map bs).length := ⟨_, rfl⟩
    rw [← hpl]
    have hp12 : pl = ws.length := by rw [hpl, List.length_map]
    have hpI : (12 : Int) < (pl : Int) := by omega
    clear hpl hT hp12
    go_wp2_with fail
    go_ret2
    exact ParsePost.none HZ.out hb1
  have HN12 := Lib.hid h12
  clear ews hne
  go_enter Tryz.func8, Tryz.ntmps8
  go_wp2_with fail
  refine HCUT.out.mono ?_
  rintro e w1 ⟨hb1, v, rfl, hT⟩
  rw [← HEW.out] at hT
  obtain ⟨g, gc, ev, hrow, -, -⟩ := hT.rows tx_len
  subst ev
  obtain ⟨pl, hpl⟩ : ∃ pl, pl = (ws.map bs).length := ⟨_, rfl⟩
  rw [← hpl]
  have hp12 : pl = ws.length := by rw [hpl, List.length_map]
  have hpI : ¬ (12 : Int) < (pl : Int) := by omega
  have hpn : pl ≤ 12 := by omega
  have HP12 := Lib.hid hp12
  clear hpl hT hp12
  go_wp2_with fail
  clear h12
  obtain ⟨B, eB⟩ : ∃ B, B = w1.heap.size := ⟨_, rfl⟩
  have HEB := Lib.hid eB
  clear eB
  go_loopw [5, 6] (fun v5 i wr => ∃ (k : Nat) (D : List Fold), k ≤ pl ∧ i = .int .i64 k ∧ OwnR 2 58 Fold.l wr B v5 D ∧ D.length ≤ k ∧ Below B w1 wr ∧ Hid (allM ws = (allM (ws.drop k)).map (D ++ ·))) (fun _ i _ => pl - (intOf i).toNat)
  case atStart => exact ⟨0, [], Nat.zero_le _, rfl, OwnR.nil _ _, Nat.le_refl _, Below.refl _ _, Lib.hid (by simp)⟩
  case round =>
    obtain ⟨k, D, hk, rfl, hO, hDk, hB, HR⟩ := hrel
    obtain ⟨a5, c5, e5, hr5, -, -, hn5, -⟩ := hO.rows fold_l
    subst e5
    obtain ⟨dl, hdl⟩ : ∃ dl, dl = D.length := ⟨_, rfl⟩
    have HDL := Lib.hid hdl
    rw [← hdl] at hO hDk
    rw [← hdl]
    clear hdl
    have HBB : Hid (Below w1.heap.size w1 wr) := Lib.hid (by rw [← HEB.out]; exact hB)
    have HBW : Hid (Below w.heap.size w wr) := Lib.hid (hb1.trans (HBB.out.mono (B' := w.heap.size) hb1.size))
    have hBs : B ≤ wr.heap.size := by rw [HEB.out]; exact HBB.out.size
    by_cases hlt : k < pl
    · have hkw : k < ws.length := by have := HP12.out; omega
      have hkm : k < (ws.map bs).length := by rw [List.length_map]; exact hkw
      have hkI : (k : Int) < (pl : Int) := by omega
      obtain ⟨ad, rfl, had, hc⟩ := (hrow.below HBB.out).tx hkm
      obtain ⟨x, ex⟩ : ∃ x, x = (ws.map bs)[k] := ⟨_, rfl⟩
      have hxw : x.data.toList = ws[k] := by rw [ex, List.getElem_map, bs_data]
      rw [← ex] at hc
      have hxs : x.size ≤ 1000 := by rw [size_of_list hxw]; exact HSZ.out _ (List.getElem_mem hkw)
      have HXW := Lib.hid hxw
      obtain ⟨o, ho⟩ : ∃ o, readM x.data.toList = o := ⟨_, rfl⟩
      have HO := Lib.hid ho
      have hfo := fun W => refFoldOf_any x W hxs
      rw [ho] at hfo
      have HFO := Lib.hid hfo
      clear ex hxw ho hfo
      go_wp2_with fail
      refine (HFO.out _).mono ?_
      rintro e w2 ⟨fk, fc, rfl, hf, hb2⟩
      have hB2 := hB.trans (hb2.mono (B' := B) hBs)
      have hO2 := hO.below hb2
      have hb2s := hb2.size
      cases o with
      | none =>
        have HZ := Lib.hid (show M = ([], 7) by
          rw [HM.out]
          exact parseM_none HNE.out (by rw [← HEW.out]; exact HN12.out) (by rw [← HEW.out, HR.out, allM_stop hkw (by rw [← HXW.out]; exact HO.out)]; rfl))
        go_wp2_with fail
        go_ret2
        exact ParsePost.none HZ.out ((HBW.out.trans (hb2.mono (B' := w.heap.size) HBW.out.size)).alloc (by have := HBW.out.size; omega) _)
      | some f =>
        obtain rfl : f = ⟨fk, fc⟩ := hf f rfl
        have HR2 := Lib.hid (show allM ws = (allM (ws.drop (k + 1))).map ((D ++ [⟨fk, fc⟩]) ++ ·) by rw [HR.out]; exact allM_go hkw (by rw [← HXW.out]; exact HO.out))
        have hO3 := hO2.alloc (.cells #[.int .i64 fk, .int .i64 fc] 58)
        have hB3 := hB2.alloc (Nat.le_trans hBs hb2s) (.cells #[.int .i64 fk, .int .i64 fc] 58)
        clear hB2 hO2
        go_wp2_with (at_builtin; refine wpList_appX tFold fold_l _ (⟨fk, fc⟩ : Fold) _ rfl rfl _ _ rfl B _ D rfl hO3 (by show Value.slice (some ⟨w2.heap.size + 1, 0, none⟩) 1 1 = _; simp) (by have := HDL.out; omega) (by simp; omega) ?_; intro gg cg wg hOg hgg hBg)
        go_roundw
        case rel => exact ⟨k + 1, D ++ [⟨fk, fc⟩], by omega, by go_num, hOg, by have := HDL.out; rw [List.length_append]; simp; omega, hB3.grown hgg (by have := hB3.size; have := HEB.out; omega) (fun q hq => by have := (hO3.lt q hq).1; omega), HR2⟩
        case measure => simp [intOf]; omega
    · have hkI : ¬ (k : Int) < (pl : Int) := by omega
      have HZ := Lib.hid (show M = (D, 0) by
        rw [HM.out]
        exact parseM_some HNE.out (by rw [← HEW.out]; exact HN12.out) (by rw [← HEW.out]; exact allM_end (k := k) (by have := HP12.out; omega) HR.out))
      go_wp2_with fail
      go_ret2
      exact ⟨a5, dl, c5, by rw [HZ.out]; try rfl, by rw [HZ.out]; exact HDL.out, by rw [HZ.out]; exact hr5, hn5, HBW.out⟩
end Go.Proofs.YtccfcdhnplodgaaGreatDoor

namespace Go.Proofs.YtccfcdhnplodgaaGreatDoor
open Go.RowKit

theorem join_snoc : ∀ (a : List (List UInt8)) (x s : List UInt8), a ≠ [] → Lib.join (a ++ [x]) s = Lib.join a s ++ s ++ x
  | [], _, _, h => absurd rfl h
  | [y], x, s, _ => by
    show Lib.join (y :: x :: []) s = _
    rw [join_cons, join_one, join_one]
  | y :: z :: r, x, s, _ => by
    have ih := join_snoc (z :: r) x s (by simp)
    show Lib.join (y :: z :: (r ++ [x])) s = _
    rw [join_cons, join_cons, show (z :: (r ++ [x])) = (z :: r) ++ [x] from rfl, ih]
    simp
def sepTo (k : Nat) : List UInt8 := if 0 < k then [32] else []
theorem fmt_step {L : List Fold} {k : Nat} (hk : k < L.length) : fmtM (L.take (k + 1)) = fmtM (L.take k) ++ sepTo k ++ wordM L[k] := by
  unfold fmtM sepTo
  rw [List.take_succ_eq_append_getElem hk, List.map_append, List.map_cons, List.map_nil]
  by_cases h : 0 < k
  · rw [if_pos h]
    exact join_snoc _ _ _ (by
      intro e
      have := congrArg List.length e
      rw [List.length_map, List.length_take, List.length_nil] at this
      omega)
  · obtain rfl : k = 0 := by omega
    rw [if_neg h]
    show Lib.join [wordM L[0]] [32] = _
    rw [join_one]; try rfl
theorem let_add2 {n : Nat} (h1 : n < 7) (h2 : 0 < n) (u : List UInt8) (h : u.length ≤ 1000) (W : World) : (Op.stringOp .add (bs u) ((⟨#[76, 82, 85, 68, 79, 84]⟩ : ByteArray).extract (n - 1) n)).run Tryz.prog W = .ok (.string (bs (u ++ [letM (n : Nat)]))) W := by
  have e : (⟨#[76, 82, 85, 68, 79, 84]⟩ : ByteArray).extract (n - 1) n = bs [letM (n : Nat)] := let_at n h1 h2
  rw [e, bs_add _ _ (by simp; omega)]
theorem let_cmp : ∀ n, n < 7 → 0 < n → (((⟨#[76, 82, 85, 68, 79, 84]⟩ : ByteArray).extract (n - 1) n).toList == [79]) = (n == 5) ∧ (((⟨#[76, 82, 85, 68, 79, 84]⟩ : ByteArray).extract (n - 1) n).toList == [84]) = (n == 6) := by
  intro n h1 h2
  have e : (⟨#[76, 82, 85, 68, 79, 84]⟩ : ByteArray).extract (n - 1) n = bs [letM (n : Nat)] := let_at n h1 h2
  rw [e, Lib.toList_data, bs_data]
  clear e
  revert h2; revert h1; revert n; decide
set_option maxRecDepth 100000 in
set_option maxHeartbeats 16000000 in
theorem refFormatFolds_any (a : Option Addr) (L : List Fold) (n c : Nat) (w : World) (hn : n = L.length) (hL : RowsAt 2 Fold.l w a L) (hl : n ≤ 20) (hc : ∀ f ∈ L, OkI f.c) :
    Calls Tryz.prog 9 #[.slice a n c] w (StrPost w (fmtM L)) := by
  have HN := Lib.hid hn; have HC := Lib.hid hc
  clear hn hc
  go_enter Tryz.func9, Tryz.ntmps9
  go_wp2_with fail
  go_loopw [3, 4] (fun v3 i wr => ∃ (k : Nat) (u : List UInt8), k ≤ n ∧ i = .int .i64 k ∧ v3 = .string (bs u) ∧ Hid (u = fmtM (L.take k)) ∧ Below w.heap.size w wr) (fun _ i _ => n - (intOf i).toNat)
  case atStart => exact ⟨0, [], Nat.zero_le _, rfl, rfl, Lib.hid rfl, Below.refl _ _⟩
  case round =>
    obtain ⟨k, u, hk, rfl, rfl, HU, hB⟩ := hrel
    by_cases hlt : k < n
    · have hkL : k < L.length := by have := HN.out; omega
      obtain ⟨ad, rfl, had, s0, s1⟩ := (hL.below hB).fold hkL
      obtain ⟨x, ex⟩ : ∃ x, x = L[k] := ⟨_, rfl⟩
      have hxi := HC.out L[k] (List.getElem_mem hkL)
      have HS := Lib.hid (fmt_step hkL)
      rw [← ex] at s0 s1 hxi HS
      have hul : u.length ≤ 460 := by
        have h1 := fmt_len (L := L.take k) fun f hf => HC.out f (List.mem_of_mem_take hf)
        rw [← HU.out, List.length_take] at h1
        have := HN.out
        omega
      have hkn : (k : Int) < (n : Int) := by omega
      obtain ⟨xk, xc⟩ := x
      have hxi : OkI xc := hxi
      have s0 : wr.cell? (ad.add (k * 2)) = some (.int .i64 xk) := s0
      have s1 : wr.cell? ⟨(ad.add (k * 2)).block, (ad.add (k * 2)).off + 1, none⟩ = some (.int .i64 xc) := s1
      have hil := itoa_len21 hxi
      have HXI := Lib.hid hxi
      obtain ⟨v, ev⟩ : ∃ v, v = u ++ sepTo k := ⟨_, rfl⟩
      have hvl : v.length ≤ 461 := by
        rw [ev, List.length_append]; unfold sepTo; split
        · simp; omega
        · simp; omega
      have HV := Lib.hid (show fmtM (L.take (k + 1)) = v ++ wordM ⟨xk, xc⟩ by rw [HS.out, ← HU.out, ev])
      clear ex
      by_cases hin : 1 ≤ xk ∧ xk ≤ 6
      · have hI := inB_yes hin
        have hkk : xk = 1 ∨ xk = 2 ∨ xk = 3 ∨ xk = 4 ∨ xk = 5 ∨ xk = 6 := by omega
        clear hin
        by_cases h0 : 0 < k
        · have hkz : (0 : Int) < (k : Int) := by omega
          have ha0 : ∀ W, (Op.stringOp .add (bs u) (⟨#[32]⟩ : ByteArray)).run Tryz.prog W = .ok (.string (bs v)) W := fun W => by
            have e : v = u ++ [32] := by rw [ev]; unfold sepTo; rw [if_pos h0]
            rw [e]; exact bs_add u [32] (by simp; omega) W
          clear ev h0
          rcases hkk with rfl | rfl | rfl | rfl | rfl | rfl
          · have ha1 := let_add2 (n := 1) (by decide) (by decide) v (by omega)
            obtain ⟨hq1, hq2⟩ := let_cmp 1 (by decide) (by decide)
            obtain ⟨y, ey⟩ : ∃ y, y = v ++ [letM ((1 : Nat) : Int)] := ⟨_, rfl⟩
            rw [← ey] at ha1
            simp only [Nat.reduceSub] at ha1 hq1 hq2
            obtain ⟨z, ez⟩ : ∃ z, z = y ++ Lib.itoa xc := ⟨_, rfl⟩
            have ha2 : ∀ W, (Op.stringOp .add (bs y) (bs (Lib.itoa xc))).run Tryz.prog W = .ok (.string (bs z)) W := fun W => by rw [ez]; exact bs_add _ _ (by rw [ey]; simp; omega) W
            have HW := Lib.hid (show z = fmtM (L.take (k + 1)) by rw [HV.out, word_num (f := ⟨1, xc⟩) (by simp), ez, ey]; simp)
            clear hvl hul hil ez ey
            go_wp2_with (go_at_call 24; refine (within_any _ _ _ _).mono ?_; rintro e w' ⟨rfl, rfl⟩; rw [hI])
            go_quiet ((go_at_call 25; exact Calls.quiet_of_same (letters_any _)))
            go_wp2_with (go_at_call 26; refine (decimal_any xc HXI.out _).mono ?_; rintro e w2 ⟨rfl, hb2⟩)
            go_roundw
            case rel => exact ⟨k + 1, _, by omega, by go_num, rfl, HW, (by refine Below.trans (b := wr.drewN _) (below_drewN hB _) (hb2.mono (by simpa using hB.size)))⟩
            case measure => simp [intOf]; omega
          · have ha1 := let_add2 (n := 2) (by decide) (by decide) v (by omega)
            obtain ⟨hq1, hq2⟩ := let_cmp 2 (by decide) (by decide)
            obtain ⟨y, ey⟩ : ∃ y, y = v ++ [letM ((2 : Nat) : Int)] := ⟨_, rfl⟩
            rw [← ey] at ha1
            simp only [Nat.reduceSub] at ha1 hq1 hq2
            obtain ⟨z, ez⟩ : ∃ z, z = y ++ Lib.itoa xc := ⟨_, rfl⟩
            have ha2 : ∀ W, (Op.stringOp .add (bs y) (bs (Lib.itoa xc))).run Tryz.prog W = .ok (.string (bs z)) W := fun W => by rw [ez]; exact bs_add _ _ (by rw [ey]; simp; omega) W
            have HW := Lib.hid (show z = fmtM (L.take (k + 1)) by rw [HV.out, word_num (f := ⟨2, xc⟩) (by simp), ez, ey]; simp)
            clear hvl hul hil ez ey
            go_wp2_with (go_at_call 24; refine (within_any _ _ _ _).mono ?_; rintro e w' ⟨rfl, rfl⟩; rw [hI])
            go_quiet ((go_at_call 25; exact Calls.quiet_of_same (letters_any _)))
            go_wp2_with (go_at_call 26; refine (decimal_any xc HXI.out _).mono ?_; rintro e w2 ⟨rfl, hb2⟩)
            go_roundw
            case rel => exact ⟨k + 1, _, by omega, by go_num, rfl, HW, (by refine Below.trans (b := wr.drewN _) (below_drewN hB _) (hb2.mono (by simpa using hB.size)))⟩
            case measure => simp [intOf]; omega
          · have ha1 := let_add2 (n := 3) (by decide) (by decide) v (by omega)
            obtain ⟨hq1, hq2⟩ := let_cmp 3 (by decide) (by decide)
            obtain ⟨y, ey⟩ : ∃ y, y = v ++ [letM ((3 : Nat) : Int)] := ⟨_, rfl⟩
            rw [← ey] at ha1
            simp only [Nat.reduceSub] at ha1 hq1 hq2
            obtain ⟨z, ez⟩ : ∃ z, z = y ++ Lib.itoa xc := ⟨_, rfl⟩
            have ha2 : ∀ W, (Op.stringOp .add (bs y) (bs (Lib.itoa xc))).run Tryz.prog W = .ok (.string (bs z)) W := fun W => by rw [ez]; exact bs_add _ _ (by rw [ey]; simp; omega) W
            have HW := Lib.hid (show z = fmtM (L.take (k + 1)) by rw [HV.out, word_num (f := ⟨3, xc⟩) (by simp), ez, ey]; simp)
            clear hvl hul hil ez ey
            go_wp2_with (go_at_call 24; refine (within_any _ _ _ _).mono ?_; rintro e w' ⟨rfl, rfl⟩; rw [hI])
            go_quiet ((go_at_call 25; exact Calls.quiet_of_same (letters_any _)))
            go_wp2_with (go_at_call 26; refine (decimal_any xc HXI.out _).mono ?_; rintro e w2 ⟨rfl, hb2⟩)
            go_roundw
            case rel => exact ⟨k + 1, _, by omega, by go_num, rfl, HW, (by refine Below.trans (b := wr.drewN _) (below_drewN hB _) (hb2.mono (by simpa using hB.size)))⟩
            case measure => simp [intOf]; omega
          · have ha1 := let_add2 (n := 4) (by decide) (by decide) v (by omega)
            obtain ⟨hq1, hq2⟩ := let_cmp 4 (by decide) (by decide)
            obtain ⟨y, ey⟩ : ∃ y, y = v ++ [letM ((4 : Nat) : Int)] := ⟨_, rfl⟩
            rw [← ey] at ha1
            simp only [Nat.reduceSub] at ha1 hq1 hq2
            obtain ⟨z, ez⟩ : ∃ z, z = y ++ Lib.itoa xc := ⟨_, rfl⟩
            have ha2 : ∀ W, (Op.stringOp .add (bs y) (bs (Lib.itoa xc))).run Tryz.prog W = .ok (.string (bs z)) W := fun W => by rw [ez]; exact bs_add _ _ (by rw [ey]; simp; omega) W
            have HW := Lib.hid (show z = fmtM (L.take (k + 1)) by rw [HV.out, word_num (f := ⟨4, xc⟩) (by simp), ez, ey]; simp)
            clear hvl hul hil ez ey
            go_wp2_with (go_at_call 24; refine (within_any _ _ _ _).mono ?_; rintro e w' ⟨rfl, rfl⟩; rw [hI])
            go_quiet ((go_at_call 25; exact Calls.quiet_of_same (letters_any _)))
            go_wp2_with (go_at_call 26; refine (decimal_any xc HXI.out _).mono ?_; rintro e w2 ⟨rfl, hb2⟩)
            go_roundw
            case rel => exact ⟨k + 1, _, by omega, by go_num, rfl, HW, (by refine Below.trans (b := wr.drewN _) (below_drewN hB _) (hb2.mono (by simpa using hB.size)))⟩
            case measure => simp [intOf]; omega
          · have ha1 := let_add2 (n := 5) (by decide) (by decide) v (by omega)
            obtain ⟨hq1, hq2⟩ := let_cmp 5 (by decide) (by decide)
            obtain ⟨y, ey⟩ : ∃ y, y = v ++ [letM ((5 : Nat) : Int)] := ⟨_, rfl⟩
            rw [← ey] at ha1
            simp only [Nat.reduceSub] at ha1 hq1 hq2
            have HW := Lib.hid (show y = fmtM (L.take (k + 1)) by rw [HV.out, word_turn (f := ⟨5, xc⟩) (by simp), ey]; try rfl)
            clear hvl hul hil ey
            go_wp2_with (go_at_call 24; refine (within_any _ _ _ _).mono ?_; rintro e w' ⟨rfl, rfl⟩; rw [hI])
            go_quiet ((go_at_call 25; exact Calls.quiet_of_same (letters_any _)))
            go_wp2_with fail
            go_roundw
            case rel => exact ⟨k + 1, _, by omega, by go_num, rfl, HW, (below_drewN hB _)⟩
            case measure => simp [intOf]; omega
          · have ha1 := let_add2 (n := 6) (by decide) (by decide) v (by omega)
            obtain ⟨hq1, hq2⟩ := let_cmp 6 (by decide) (by decide)
            obtain ⟨y, ey⟩ : ∃ y, y = v ++ [letM ((6 : Nat) : Int)] := ⟨_, rfl⟩
            rw [← ey] at ha1
            simp only [Nat.reduceSub] at ha1 hq1 hq2
            have HW := Lib.hid (show y = fmtM (L.take (k + 1)) by rw [HV.out, word_turn (f := ⟨6, xc⟩) (by simp), ey]; try rfl)
            clear hvl hul hil ey
            go_wp2_with (go_at_call 24; refine (within_any _ _ _ _).mono ?_; rintro e w' ⟨rfl, rfl⟩; rw [hI])
            go_quiet ((go_at_call 25; exact Calls.quiet_of_same (letters_any _)))
            go_wp2_with fail
            go_roundw
            case rel => exact ⟨k + 1, _, by omega, by go_num, rfl, HW, (below_drewN hB _)⟩
            case measure => simp [intOf]; omega
        · have hkz : ¬ (0 : Int) < (k : Int) := by omega
          obtain rfl : u = v := by rw [ev]; unfold sepTo; rw [if_neg h0, List.append_nil]
          clear ev h0
          rcases hkk with rfl | rfl | rfl | rfl | rfl | rfl
          · have ha1 := let_add2 (n := 1) (by decide) (by decide) u (by omega)
            obtain ⟨hq1, hq2⟩ := let_cmp 1 (by decide) (by decide)
            obtain ⟨y, ey⟩ : ∃ y, y = u ++ [letM ((1 : Nat) : Int)] := ⟨_, rfl⟩
            rw [← ey] at ha1
            simp only [Nat.reduceSub] at ha1 hq1 hq2
            obtain ⟨z, ez⟩ : ∃ z, z = y ++ Lib.itoa xc := ⟨_, rfl⟩
            have ha2 : ∀ W, (Op.stringOp .add (bs y) (bs (Lib.itoa xc))).run Tryz.prog W = .ok (.string (bs z)) W := fun W => by rw [ez]; exact bs_add _ _ (by rw [ey]; simp; omega) W
            have HW := Lib.hid (show z = fmtM (L.take (k + 1)) by rw [HV.out, word_num (f := ⟨1, xc⟩) (by simp), ez, ey]; simp)
            clear hvl hul hil ez ey
            go_wp2_with (go_at_call 24; refine (within_any _ _ _ _).mono ?_; rintro e w' ⟨rfl, rfl⟩; rw [hI])
            go_quiet ((go_at_call 25; exact Calls.quiet_of_same (letters_any _)))
            go_wp2_with (go_at_call 26; refine (decimal_any xc HXI.out _).mono ?_; rintro e w2 ⟨rfl, hb2⟩)
            go_roundw
            case rel => exact ⟨k + 1, _, by omega, by go_num, rfl, HW, (by refine Below.trans (b := wr.drewN _) (below_drewN hB _) (hb2.mono (by simpa using hB.size)))⟩
            case measure => simp [intOf]; omega
          · have ha1 := let_add2 (n := 2) (by decide) (by decide) u (by omega)
            obtain ⟨hq1, hq2⟩ := let_cmp 2 (by decide) (by decide)
            obtain ⟨y, ey⟩ : ∃ y, y = u ++ [letM ((2 : Nat) : Int)] := ⟨_, rfl⟩
            rw [← ey] at ha1
            simp only [Nat.reduceSub] at ha1 hq1 hq2
            obtain ⟨z, ez⟩ : ∃ z, z = y ++ Lib.itoa xc := ⟨_, rfl⟩
            have ha2 : ∀ W, (Op.stringOp .add (bs y) (bs (Lib.itoa xc))).run Tryz.prog W = .ok (.string (bs z)) W := fun W => by rw [ez]; exact bs_add _ _ (by rw [ey]; simp; omega) W
            have HW := Lib.hid (show z = fmtM (L.take (k + 1)) by rw [HV.out, word_num (f := ⟨2, xc⟩) (by simp), ez, ey]; simp)
            clear hvl hul hil ez ey
            go_wp2_with (go_at_call 24; refine (within_any _ _ _ _).mono ?_; rintro e w' ⟨rfl, rfl⟩; rw [hI])
            go_quiet ((go_at_call 25; exact Calls.quiet_of_same (letters_any _)))
            go_wp2_with (go_at_call 26; refine (decimal_any xc HXI.out _).mono ?_; rintro e w2 ⟨rfl, hb2⟩)
            go_roundw
            case rel => exact ⟨k + 1, _, by omega, by go_num, rfl, HW, (by refine Below.trans (b := wr.drewN _) (below_drewN hB _) (hb2.mono (by simpa using hB.size)))⟩
            case measure => simp [intOf]; omega
          · have ha1 := let_add2 (n := 3) (by decide) (by decide) u (by omega)
            obtain ⟨hq1, hq2⟩ := let_cmp 3 (by decide) (by decide)
            obtain ⟨y, ey⟩ : ∃ y, y = u ++ [letM ((3 : Nat) : Int)] := ⟨_, rfl⟩
            rw [← ey] at ha1
            simp only [Nat.reduceSub] at ha1 hq1 hq2
            obtain ⟨z, ez⟩ : ∃ z, z = y ++ Lib.itoa xc := ⟨_, rfl⟩
            have ha2 : ∀ W, (Op.stringOp .add (bs y) (bs (Lib.itoa xc))).run Tryz.prog W = .ok (.string (bs z)) W := fun W => by rw [ez]; exact bs_add _ _ (by rw [ey]; simp; omega) W
            have HW := Lib.hid (show z = fmtM (L.take (k + 1)) by rw [HV.out, word_num (f := ⟨3, xc⟩) (by simp), ez, ey]; simp)
            clear hvl hul hil ez ey
            go_wp2_with (go_at_call 24; refine (within_any _ _ _ _).mono ?_; rintro e w' ⟨rfl, rfl⟩; rw [hI])
            go_quiet ((go_at_call 25; exact Calls.quiet_of_same (letters_any _)))
            go_wp2_with (go_at_call 26; refine (decimal_any xc HXI.out _).mono ?_; rintro e w2 ⟨rfl, hb2⟩)
            go_roundw
            case rel => exact ⟨k + 1, _, by omega, by go_num, rfl, HW, (by refine Below.trans (b := wr.drewN _) (below_drewN hB _) (hb2.mono (by simpa using hB.size)))⟩
            case measure => simp [intOf]; omega
          · have ha1 := let_add2 (n := 4) (by decide) (by decide) u (by omega)
            obtain ⟨hq1, hq2⟩ := let_cmp 4 (by decide) (by decide)
            obtain ⟨y, ey⟩ : ∃ y, y = u ++ [letM ((4 : Nat) : Int)] := ⟨_, rfl⟩
            rw [← ey] at ha1
            simp only [Nat.reduceSub] at ha1 hq1 hq2
            obtain ⟨z, ez⟩ : ∃ z, z = y ++ Lib.itoa xc := ⟨_, rfl⟩
            have ha2 : ∀ W, (Op.stringOp .add (bs y) (bs (Lib.itoa xc))).run Tryz.prog W = .ok (.string (bs z)) W := fun W => by rw [ez]; exact bs_add _ _ (by rw [ey]; simp; omega) W
            have HW := Lib.hid (show z = fmtM (L.take (k + 1)) by rw [HV.out, word_num (f := ⟨4, xc⟩) (by simp), ez, ey]; simp)
            clear hvl hul hil ez ey
            go_wp2_with (go_at_call 24; refine (within_any _ _ _ _).mono ?_; rintro e w' ⟨rfl, rfl⟩; rw [hI])
            go_quiet ((go_at_call 25; exact Calls.quiet_of_same (letters_any _)))
            go_wp2_with (go_at_call 26; refine (decimal_any xc HXI.out _).mono ?_; rintro e w2 ⟨rfl, hb2⟩)
            go_roundw
            case rel => exact ⟨k + 1, _, by omega, by go_num, rfl, HW, (by refine Below.trans (b := wr.drewN _) (below_drewN hB _) (hb2.mono (by simpa using hB.size)))⟩
            case measure => simp [intOf]; omega
          · have ha1 := let_add2 (n := 5) (by decide) (by decide) u (by omega)
            obtain ⟨hq1, hq2⟩ := let_cmp 5 (by decide) (by decide)
            obtain ⟨y, ey⟩ : ∃ y, y = u ++ [letM ((5 : Nat) : Int)] := ⟨_, rfl⟩
            rw [← ey] at ha1
            simp only [Nat.reduceSub] at ha1 hq1 hq2
            have HW := Lib.hid (show y = fmtM (L.take (k + 1)) by rw [HV.out, word_turn (f := ⟨5, xc⟩) (by simp), ey]; try rfl)
            clear hvl hul hil ey
            go_wp2_with (go_at_call 24; refine (within_any _ _ _ _).mono ?_; rintro e w' ⟨rfl, rfl⟩; rw [hI])
            go_quiet ((go_at_call 25; exact Calls.quiet_of_same (letters_any _)))
            go_wp2_with fail
            go_roundw
            case rel => exact ⟨k + 1, _, by omega, by go_num, rfl, HW, (below_drewN hB _)⟩
            case measure => simp [intOf]; omega
          · have ha1 := let_add2 (n := 6) (by decide) (by decide) u (by omega)
            obtain ⟨hq1, hq2⟩ := let_cmp 6 (by decide) (by decide)
            obtain ⟨y, ey⟩ : ∃ y, y = u ++ [letM ((6 : Nat) : Int)] := ⟨_, rfl⟩
            rw [← ey] at ha1
            simp only [Nat.reduceSub] at ha1 hq1 hq2
            have HW := Lib.hid (show y = fmtM (L.take (k + 1)) by rw [HV.out, word_turn (f := ⟨6, xc⟩) (by simp), ey]; try rfl)
            clear hvl hul hil ey
            go_wp2_with (go_at_call 24; refine (within_any _ _ _ _).mono ?_; rintro e w' ⟨rfl, rfl⟩; rw [hI])
            go_quiet ((go_at_call 25; exact Calls.quiet_of_same (letters_any _)))
            go_wp2_with fail
            go_roundw
            case rel => exact ⟨k + 1, _, by omega, by go_num, rfl, HW, (below_drewN hB _)⟩
            case measure => simp [intOf]; omega
      · have hI := inB_no hin
        have ht : ¬ (xk = 5 ∨ xk = 6) := by omega
        have HWD := Lib.hid (word_num (f := ⟨xk, xc⟩) ht)
        have HLN := Lib.hid (let_none hin)
        clear hin ht
        by_cases h0 : 0 < k
        · have hkz : (0 : Int) < (k : Int) := by omega
          have ha0 : ∀ W, (Op.stringOp .add (bs u) (⟨#[32]⟩ : ByteArray)).run Tryz.prog W = .ok (.string (bs v)) W := fun W => by
            have e : v = u ++ [32] := by rw [ev]; unfold sepTo; rw [if_pos h0]
            rw [e]; exact bs_add u [32] (by simp; omega) W
          clear ev h0
          obtain ⟨y, ey⟩ : ∃ y, y = v ++ [63] := ⟨_, rfl⟩
          obtain ⟨z, ez⟩ : ∃ z, z = y ++ Lib.itoa xc := ⟨_, rfl⟩
          have ha1 : ∀ W, (Op.stringOp .add (bs v) (⟨#[63]⟩ : ByteArray)).run Tryz.prog W = .ok (.string (bs y)) W := fun W => by rw [ey]; exact bs_add _ [63] (by simp; omega) W
          have ha2 : ∀ W, (Op.stringOp .add (bs y) (bs (Lib.itoa xc))).run Tryz.prog W = .ok (.string (bs z)) W := fun W => by rw [ez]; exact bs_add _ _ (by rw [ey]; simp; omega) W
          have HW := Lib.hid (show z = fmtM (L.take (k + 1)) by rw [HV.out, HWD.out, HLN.out, ez, ey]; simp)
          clear hvl hul hil ez ey
          go_wp2_with (first | (go_at_call 24; refine (within_any _ _ _ _).mono ?_; rintro e w' ⟨rfl, rfl⟩; rw [hI]) | (go_at_call 26; refine (decimal_any xc HXI.out _).mono ?_; rintro e w2 ⟨rfl, hb2⟩))
          go_roundw
          case rel => exact ⟨k + 1, _, by omega, by go_num, rfl, HW, hB.trans (hb2.mono hB.size)⟩
          case measure => simp [intOf]; omega
        · have hkz : ¬ (0 : Int) < (k : Int) := by omega
          obtain rfl : u = v := by rw [ev]; unfold sepTo; rw [if_neg h0, List.append_nil]
          clear ev h0
          obtain ⟨y, ey⟩ : ∃ y, y = u ++ [63] := ⟨_, rfl⟩
          obtain ⟨z, ez⟩ : ∃ z, z = y ++ Lib.itoa xc := ⟨_, rfl⟩
          have ha1 : ∀ W, (Op.stringOp .add (bs u) (⟨#[63]⟩ : ByteArray)).run Tryz.prog W = .ok (.string (bs y)) W := fun W => by rw [ey]; exact bs_add _ [63] (by simp; omega) W
          have ha2 : ∀ W, (Op.stringOp .add (bs y) (bs (Lib.itoa xc))).run Tryz.prog W = .ok (.string (bs z)) W := fun W => by rw [ez]; exact bs_add _ _ (by rw [ey]; simp; omega) W
          have HW := Lib.hid (show z = fmtM (L.take (k + 1)) by rw [HV.out, HWD.out, HLN.out, ez, ey]; simp)
          clear hvl hul hil ez ey
          go_wp2_with (first | (go_at_call 24; refine (within_any _ _ _ _).mono ?_; rintro e w' ⟨rfl, rfl⟩; rw [hI]) | (go_at_call 26; refine (decimal_any xc HXI.out _).mono ?_; rintro e w2 ⟨rfl, hb2⟩))
          go_roundw
          case rel => exact ⟨k + 1, _, by omega, by go_num, rfl, HW, hB.trans (hb2.mono hB.size)⟩
          case measure => simp [intOf]; omega
    · have hkn : ¬ (k : Int) < (n : Int) := by omega
      have HE := Lib.hid (show u = fmtM L by rw [HU.out, List.take_of_length_le (by have := HN.out; omega)])
      go_wp2_with fail
      go_ret
      exact ⟨by rw [← HE.out]; try rfl, hB⟩
end Go.Proofs.YtccfcdhnplodgaaGreatDoor

namespace Go.Proofs.YtccfcdhnplodgaaGreatDoor
open Go.RowKit

theorem parse_n (s : ByteArray) (t : List UInt8) (h : s = bs t) (w : World) (hs : t.length ≤ 1000) (hP : WF w) {M : List Fold × Int} (hM : parseM t = M) :
    Calls Tryz.prog 7 #[.string s] w (ParsePost w M) := by
  subst h; subst hM; exact parseFolds_any (bs t) w (by rw [bs_size]; exact hs) hP
theorem parseR_n (s : ByteArray) (t : List UInt8) (h : s = bs t) (w : World) (hs : t.length ≤ 1000) {M : List Fold × Int} (hM : parseM t = M) :
    Calls Tryz.prog 8 #[.string s] w (ParsePost w M) := by
  subst h; subst hM; exact refParseFolds_any (bs t) w (by rw [bs_size]; exact hs)
theorem sameF_w (a1 a2 : Option Addr) (n1 n2 : Nat) (L : List Fold) (c1 c2 : Nat) (w : World) (e1 : n1 = L.length) (e2 : n2 = L.length) (h1 : RowsAt 2 Fold.l w a1 L) (h2 : RowsAt 2 Fold.l w a2 L) (hl : L.length ≤ maxLen) :
    Calls Tryz.prog 10 #[.slice a1 n1 c1, .slice a2 n2 c2] w fun e w' => e = .returned (.bool true) ∧ Below w.heap.size w w' := by
  subst e1; subst e2
  refine (sameFolds_any a1 L c1 a2 L c2 w h1 h2 hl hl).mono fun e w' ⟨he, hd⟩ => ⟨?_, hd.below (Below.refl _ _)⟩
  rw [he]; exact ret_bool (decide_eq_true rfl)
theorem refCk_n (C R : Int) (a : Option Addr) (L : List Fold) (n c : Nat) (w : World) (hn : n = L.length) (hL : RowsAt 2 Fold.l w a L) (hl : L.length ≤ maxLen) {p q : Int} (h1 : (checkFo C R L).1 = p) (h2 : (checkFo C R L).2 = q) :
    Calls Tryz.prog 11 #[.agg #[.int .i64 C, .int .i64 R], .slice a n c] w fun e w' => e = .returned (.tuple #[.int .i64 p, .int .i64 q]) ∧ Below w.heap.size w w' := by
  subst hn; subst h1; subst h2; exact refCheckFolds_any C R a L c w hL hl
theorem fmt_n (a : Option Addr) (L : List Fold) (n c : Nat) (w : World) (hn : n = L.length) (hL : RowsAt 2 Fold.l w a L) (hl : n ≤ 20) (hc : ∀ f ∈ L, OkI f.c) (hP : WF w) {s : ByteArray} (hs : bs (fmtM L) = s) :
    Calls Tryz.prog 5 #[.slice a n c] w fun e w' => e = .returned (.string s) ∧ Below w.heap.size w w' := by
  subst hs; exact formatFolds_any a L n c w hn hL hl hc hP
theorem fmtR_n (a : Option Addr) (L : List Fold) (n c : Nat) (w : World) (hn : n = L.length) (hL : RowsAt 2 Fold.l w a L) (hl : n ≤ 20) (hc : ∀ f ∈ L, OkI f.c) {s : ByteArray} (hs : bs (fmtM L) = s) :
    Calls Tryz.prog 9 #[.slice a n c] w fun e w' => e = .returned (.string s) ∧ Below w.heap.size w w' := by
  subst hs; exact refFormatFolds_any a L n c w hn hL hl hc
set_option maxRecDepth 100000 in
set_option maxHeartbeats 8000000 in
theorem words_walk (C R : Int) (a : Option Addr) (L : List Fold) (c : Nat) (t : ByteArray) (w : World) (hL : RowsAt 2 Fold.l w a L) (hl : L.length ≤ maxLen) (hn : a = none → c = 0) (hc : ∀ f ∈ L, OkI f.c) (ht : t.size ≤ maxLen) (hP : WF w) :
    Calls Tryz.prog 3 #[.agg #[.int .i64 C, .int .i64 R], .slice a L.length c, .string t] w fun e w' => e = .returned (.bool true) ∧ Below w.heap.size w w' := by
  unfold maxLen at hl ht
  obtain ⟨ln, hln⟩ : ∃ ln, ln = L.length := ⟨_, rfl⟩
  have HLN := Lib.hid hln
  rw [← hln]
  rw [← hln] at hl
  clear hln
  have bx0 := BoxAt.new w #[.int .i64 C, .int .i64 R] 22
  have hB0 := (Below.refl w.heap.size w).alloc (Nat.le_refl _) (.cells #[.int .i64 C, .int .i64 R] 22)
  go_enter Tryz.func3, Tryz.ntmps3
  go_wp2_with fail
  refine (awake_any _).mono ?_
  rintro e w1 ⟨rfl, hb1⟩
  have hB1 := hB0.trans (hb1.mono (B' := w.heap.size) (by simp))
  have bx1 := bx0.below hb1
  clear hb1 bx0 hB0
  by_cases h20 : 20 < ln
  · have hI : (20 : Int) < (ln : Int) := by omega
    go_wp2_with fail
    go_ret
    exact ⟨rfl, hB1⟩
  have hI : ¬ (20 : Int) < (ln : Int) := by omega
  by_cases h100 : 100 < t.size
  · have hI2 : (100 : Int) < (t.size : Int) := by omega
    go_wp2_with fail
    go_ret
    exact ⟨rfl, hB1⟩
  have hI2 : ¬ (100 : Int) < (t.size : Int) := by omega
  obtain ⟨fs, hfs⟩ : ∃ fs, bs (fmtM L) = fs := ⟨_, rfl⟩
  have HFS := Lib.hid hfs; have HC := Lib.hid hc; have HNC := Lib.hid hn
  have HFL : Hid ((fmtM L).length ≤ 1000) := Lib.hid (by have := fmt_len hc; have := HLN.out; omega)
  have HLL : Hid (L.length ≤ maxLen) := Lib.hid (by have := HLN.out; unfold maxLen; omega)
  obtain ⟨M, hM⟩ : ∃ M, parseM t.data.toList = M := ⟨_, rfl⟩
  have HM := Lib.hid hM
  have HML : Hid (M.1.length ≤ maxLen) := Lib.hid (by rw [← hM]; have := parseM_len t.data.toList; unfold maxLen; omega)
  have HT : Hid (t = bs t.data.toList ∧ t.data.toList.length ≤ 1000) := Lib.hid ⟨(data_bs t).symm, by have e2 : t.data.toList.length = t.size := Array.length_toList; omega⟩
  obtain ⟨p, hp⟩ : ∃ p, (checkFo C R L).1 = p := ⟨_, rfl⟩
  obtain ⟨q, hq⟩ : ∃ q, (checkFo C R L).2 = q := ⟨_, rfl⟩
  have HPP := Lib.hid hp; have HQ := Lib.hid hq
  have HW := Lib.hid hP
  clear hfs hc hn hM hp hq h100 h20 hP
  go_wp2_with fail
  refine (folds_any a ln L c _ HLN.out (hL.below hB1) (by have := HLN.out; omega) HNC.out).mono ?_
  rintro e w2 ⟨v, rfl, hO2, hb2⟩
  obtain ⟨a2, c2, ev, hr2, -, -, -, -⟩ := hO2.rows fold_l
  subst ev
  obtain ⟨n2, hn2⟩ : ∃ n2, n2 = L.length := ⟨_, rfl⟩
  rw [← hn2]
  have HN2 := Lib.hid hn2
  have hB2 := hB1.trans (hb2.mono (B' := w.heap.size) hB1.size)
  have bx2 := bx1.below hb2
  clear hb2 hO2 bx1 hB1 hn2
  go_wp2_with fail
  refine (fmt_n a2 L n2 c2 _ HN2.out hr2 (by have h1 := HN2.out; have h2 := HLN.out; omega) HC.out (HW.out.below hB2) HFS.out).mono ?_
  rintro e w3 ⟨rfl, hb3⟩
  have hB3 := hB2.trans (hb3.mono (B' := w.heap.size) hB2.size)
  have bx3 := bx2.below hb3
  clear hb3 hB2 bx2 hr2
  go_wp2_with fail
  refine (parse_n t _ HT.out.1 _ HT.out.2 (HW.out.below hB3) HM.out).mono ?_
  rintro e w4 ⟨a4, n4, c4, rfl, hn4, hr4, -, hb4⟩
  have HN4 := Lib.hid hn4
  have hB4 := hB3.trans (hb4.mono (B' := w.heap.size) hB3.size)
  have bx4 := bx3.below hb4
  clear hb4 hB3 bx3 hn4
  go_wp2_with fail
  refine (parseR_n t _ HT.out.1 _ HT.out.2 HM.out).mono ?_
  rintro e w5 ⟨a5, n5, c5, rfl, hn5, hr5, -, hb5⟩
  have HN5 := Lib.hid hn5
  have hB5 := hB4.trans (hb5.mono (B' := w.heap.size) hB4.size)
  have bx5 := bx4.below hb5
  have hr45 := hr4.below hb5
  clear hb5 hB4 bx4 hr4 hn5
  go_wp2_with fail
  refine (fmtR_n a L ln c _ HLN.out (hL.below hB5) (by omega) HC.out HFS.out).mono ?_
  rintro e w6 ⟨rfl, hb6⟩
  have hB6 := hB5.trans (hb6.mono (B' := w.heap.size) hB5.size)
  have bx6 := bx5.below hb6
  have hr46 := hr45.below hb6
  have hr56 := hr5.below hb6
  clear hb6 hB5 bx5 hr45 hr5
  have hqq : (M.2 != M.2) = false := by simp
  have hss : (fs.toList == fs.toList) = true := by simp
  go_wp2_with fail
  refine (sameF_w a4 a5 n4 n5 M.1 c4 c5 _ HN4.out HN5.out hr46 hr56 HML.out).mono ?_
  rintro e w7 ⟨rfl, hb7⟩
  have hB7 := hB6.trans (hb7.mono (B' := w.heap.size) hB6.size)
  have bx7 := bx6.below hb7
  have c0 := bx7.cell 0; have c1 := bx7.cell 1
  simp at c0 c1
  clear hb7 hB6 bx6 hr46 hr56
  go_wp2_with fail
  refine (refCk_n C R a L ln c _ HLN.out (hL.below hB7) HLL.out HPP.out HQ.out).mono ?_
  rintro e w8 ⟨rfl, hb8⟩
  have hB8 := hB7.trans (hb8.mono (B' := w.heap.size) hB7.size)
  clear hb8 hB7 bx7 c0 c1
  by_cases hq0 : q = 0
  · subst hq0
    go_wp2_with fail
    refine (parse_n fs _ HFS.out.symm _ HFL.out (HW.out.below hB8) (right_back HQ.out)).mono ?_
    rintro e w9 ⟨a9, n9, c9, rfl, hn9, hr9, -, hb9⟩
    have HN9 := Lib.hid hn9
    have hB9 := hB8.trans (hb9.mono (B' := w.heap.size) hB8.size)
    clear hb9 hB8 hn9
    go_wp2_with fail
    refine (sameF_w a9 a n9 ln L c9 c _ HN9.out HLN.out hr9 (hL.below hB9) HLL.out).mono ?_
    rintro e w10 ⟨rfl, hb10⟩
    go_wp2_with fail
    go_ret
    exact ⟨rfl, hB9.trans (hb10.mono (B' := w.heap.size) hB9.size)⟩
  · have hqb : (q != 0) = true := by simpa using hq0
    go_wp2_with fail
    go_ret
    exact ⟨rfl, hB8⟩
end Go.Proofs.YtccfcdhnplodgaaGreatDoor
