/-
  The law on folds and piles: its walk.
-/
import Derived.Test.YtdnbhjcckhbhaaaRI
import Derived.Test.YtdnbhjcckhbhaaaRJ
import Derived.Test.YtdnbhjcckhbhaaaYD
namespace Go.Proofs.Ytdnbhjcckhbhaaa
open Go.RowKit

theorem checkFo_n (C R : Int) (a : Option Addr) (n : Nat) (L : List Fold) (c : Nat) (w : World) (hn : n = L.length) (hL : RowsAt 2 Fold.l w a L) (hl : L.length ≤ maxLen) (hI : ∀ x ∈ L, OkI x.c) {p q : Int} (h1 : (checkFo C R L).1 = p) (h2 : (checkFo C R L).2 = q) :
    Calls Try.prog 17 #[.agg #[.int .i64 C, .int .i64 R], .slice a n c] w fun e w' => e = .returned (.tuple #[.int .i64 p, .int .i64 q]) ∧ Below w.heap.size w w' := by
  subst hn; rw [← h1, ← h2]; exact checkFolds_any C R a L c w hL hl hI
theorem refCheckFo_n (C R : Int) (a : Option Addr) (n : Nat) (L : List Fold) (c : Nat) (w : World) (hn : n = L.length) (hL : RowsAt 2 Fold.l w a L) (hl : L.length ≤ maxLen) {p q : Int} (h1 : (checkFo C R L).1 = p) (h2 : (checkFo C R L).2 = q) :
    Calls Try.prog 20 #[.agg #[.int .i64 C, .int .i64 R], .slice a n c] w fun e w' => e = .returned (.tuple #[.int .i64 p, .int .i64 q]) ∧ Below w.heap.size w w' := by
  subst hn; rw [← h1, ← h2]; exact refCheckFolds_any C R a L c w hL hl
theorem take_far {L : List Int} {k : Nat} (h : L.Nodup) (hk : k < L.length) : hasB (L.take k) L[k] = false := by
  refine contains_far fun j hj e => ?_
  have hjk : j < k := by rw [List.length_take] at hj; omega
  rw [List.getElem?_take_of_lt hjk, List.getElem?_eq_getElem (by omega)] at e
  have := (List.nodup_iff_pairwise_ne.1 h)
  exact (List.pairwise_iff_getElem.1 this j k (by omega) hk hjk) (Option.some.inj e)
set_option maxRecDepth 100000 in
set_option maxHeartbeats 8000000 in
theorem folds_walk (x y : Int) (a : Option Addr) (L : List Fold) (c : Nat) (w : World) (hL : RowsAt 2 Fold.l w a L) (hl : L.length ≤ maxLen) (hn : a = none → c = 0) (hI : ∀ z ∈ L, OkI z.c) :
    Calls Try.prog 3 #[.agg #[.int .i64 x, .int .i64 y], .slice a L.length c] w fun e w' => e = .returned (.bool true) ∧ Below w.heap.size w w' := by
  unfold maxLen at hl
  go_enter Try.func3, Try.ntmps3
  go_wp2_with fail
  refine (awake_any _).mono ?_
  rintro e w1 ⟨rfl, hb1⟩
  have hB1 := ((Below.refl w.heap.size w).alloc (Nat.le_refl _) (.cells #[.int .i64 x, .int .i64 y] 22)).trans (hb1.mono (B' := w.heap.size) (by simp))
  have bx1 := (BoxAt.new w #[.int .i64 x, .int .i64 y] 22).below hb1
  have hL1 := (hL.alloc (.cells #[.int .i64 x, .int .i64 y] 22)).below hb1
  clear hb1
  by_cases h20 : 20 < L.length
  · go_wp2_with fail
    go_ret
    exact ⟨rfl, hB1⟩
  have h20' : L.length ≤ 20 := by omega
  obtain ⟨p, hp⟩ : ∃ p, (checkFo x y L).1 = p := ⟨_, rfl⟩
  obtain ⟨q, hq⟩ : ∃ q, (checkFo x y L).2 = q := ⟨_, rfl⟩
  have HP := Lib.hid hp; have HQ := Lib.hid hq; have HI := Lib.hid hI; have HNC := Lib.hid hn
  have HLM : Hid (L.length ≤ maxLen) := Lib.hid (by unfold maxLen; omega)
  have HLL : Hid (L.length ≤ 1000000) := Lib.hid (by omega)
  have HPL := Lib.hid (fun a n c W hn hL => pile_n x y a n L c W hn hL HLM.out HI.out)
  have c0 := bx1.cell 0; have c1 := bx1.cell 1
  simp at c0 c1
  have hbl := bx1.lt
  have hq1 : Below w1.heap.size w1 w1.drew := (Below.refl _ w1).drew
  clear hp hq hI hn h20
  go_wp2_with fail
  go_region_held3 (fun w' => w'.cell? ⟨w.heap.size, 0, none⟩ = some (.int .i64 x) ∧ w'.cell? ⟨w.heap.size, 1, none⟩ = some (.int .i64 y)) (first | exact ⟨j0, j1⟩ | go_keep)
    (first
      | (go_at_call 18; refine (folds_any a L.length L c _ rfl (hL1.below hq1) HLL.out HNC.out).mono ?_; rintro e w2 ⟨v2, rfl, hO2, hb2⟩; obtain ⟨a2, d2, e2, hr2, -, -, -, -⟩ := hO2.rows fold_l; obtain ⟨n2, hn2⟩ : ∃ n, n = L.length := ⟨_, rfl⟩; rw [← hn2] at e2; subst e2; have HN2 := Lib.hid hn2; clear hn2; have hq1 := hq1.trans (hb2.mono (B' := w1.heap.size) hq1.size); have j0 := (hq1.cell (p := ⟨w.heap.size, 0, none⟩) hbl).trans c0; have j1 := (hq1.cell (p := ⟨w.heap.size, 1, none⟩) hbl).trans c1)
      | (go_at_call 17; refine (checkFo_n x y a2 n2 L d2 _ HN2.out hr2 HLM.out HI.out HP.out HQ.out).mono ?_; rintro e w3 ⟨rfl, hb3⟩; have hq1 := hq1.trans (hb3.mono (B' := w1.heap.size) hq1.size); have j0 := (hq1.cell (p := ⟨w.heap.size, 0, none⟩) hbl).trans c0; have j1 := (hq1.cell (p := ⟨w.heap.size, 1, none⟩) hbl).trans c1))
  have hB3 := hB1.trans (hq1.mono (B' := w.heap.size) hB1.size)
  have bx3 := bx1.below hq1
  have hL3 := hL1.below hq1
  clear hb2 hb3 hq1 bx1 hL1 hO2 hr2 hB1 c0 c1 j0 j1 hbl
  have c0 := bx3.cell 0; have c1 := bx3.cell 1
  simp at c0 c1
  have hbl := bx3.lt
  have hq3 : Below w3.heap.size w3 w3.drew := (Below.refl _ w3).drew
  go_wp2_with fail
  go_region_held3 (fun w' => w'.cell? ⟨w.heap.size, 0, none⟩ = some (.int .i64 x) ∧ w'.cell? ⟨w.heap.size, 1, none⟩ = some (.int .i64 y)) (first | exact ⟨j0, j1⟩ | go_keep)
    (first
      | (go_at_call 18; refine (folds_any a L.length L c _ rfl (hL3.below hq3) HLL.out HNC.out).mono ?_; rintro e w4 ⟨v4, rfl, hO4, hb4⟩; obtain ⟨a4, d4, e4, hr4, -, -, -, -⟩ := hO4.rows fold_l; obtain ⟨n4, hn4⟩ : ∃ n, n = L.length := ⟨_, rfl⟩; rw [← hn4] at e4; subst e4; have HN4 := Lib.hid hn4; clear hn4; have hq3 := hq3.trans (hb4.mono (B' := w3.heap.size) hq3.size); have j0 := (hq3.cell (p := ⟨w.heap.size, 0, none⟩) hbl).trans c0; have j1 := (hq3.cell (p := ⟨w.heap.size, 1, none⟩) hbl).trans c1)
      | (go_at_call 19; refine (HPL.out a4 n4 d4 _ HN4.out hr4).mono ?_; rintro e w5 ⟨pa, pn, pc, rfl, hpn, hpr, hpnil, hb5⟩; rw [HQ.out]; have HPN := Lib.hid hpn; clear hpn; have hq3 := hq3.trans (hb5.mono (B' := w3.heap.size) hq3.size); have j0 := (hq3.cell (p := ⟨w.heap.size, 0, none⟩) hbl).trans c0; have j1 := (hq3.cell (p := ⟨w.heap.size, 1, none⟩) hbl).trans c1))
  have hB5 := hB3.trans (hq3.mono (B' := w.heap.size) hB3.size)
  have bx5 := bx3.below hq3
  have hL5 := hL3.below hq3
  have HPNIL := Lib.hid hpnil
  clear hb4 hb5 hq3 bx3 hL3 hO4 hr4 hB3 c0 c1 j0 j1 hbl hpnil
  have c0 := bx5.cell 0; have c1 := bx5.cell 1
  simp at c0 c1
  have hbl := bx5.lt
  go_wp2_with fail
  refine (refCheckFo_n x y a L.length L c _ rfl hL5 HLM.out HP.out HQ.out).mono ?_
  rintro e w6 ⟨rfl, hb6⟩
  have hB6 := hB5.trans (hb6.mono (B' := w.heap.size) hB5.size)
  have bx6 := bx5.below hb6
  have hL6 := hL5.below hb6
  have hpr6 := hpr.below hb6
  clear hb6 bx5 hL5 hB5 c0 c1 hbl hpr
  have c0 := bx6.cell 0; have c1 := bx6.cell 1
  simp at c0 c1
  have hbl := bx6.lt
  by_cases he : q = 0
  · subst he
    have hE : pileE x y L = pileP x y L := by unfold pileE; rw [if_pos HQ.out]
    have HPN2 : Hid (pn = (pileP x y L).length) := Lib.hid (by rw [← hE]; exact HPN.out)
    have hprP : RowsAt 4 Leaf.l w6 pa (pileP x y L) := by rw [← hE]; exact hpr6
    obtain ⟨hs, -, -⟩ := checkFo_ok HQ.out
    obtain ⟨sC, sR, sm⟩ := side_ok hs
    obtain ⟨cn, rfl⟩ : ∃ n : Nat, x = n := ⟨x.toNat, by omega⟩
    obtain ⟨rn, rfl⟩ : ∃ n : Nat, y = n := ⟨y.toNat, by omega⟩
    have hplen : (pileP cn rn L).length = cn * rn := by have := pileP_len HQ.out; simpa using this
    have hp64 : cn * rn ≤ 64 := Nat.mul_le_mul (show cn ≤ 8 by omega) (show rn ≤ 8 by omega)
    have HL64 : Hid ((pileP cn rn L).length ≤ 64) := Lib.hid (by omega)
    have HIN := Lib.hid (pileP_in (C := (cn : Int)) (R := (rn : Int)) (L := L) (by omega) (by omega))
    have HND := Lib.hid (pile_once HQ.out)
    have HCR : Hid ((1 ≤ cn ∧ cn ≤ 8) ∧ (1 ≤ rn ∧ rn ≤ 8)) := Lib.hid (by omega)
    have hpnI : (cn : Int) * (rn : Int) = (pn : Int) := by rw [HPN2.out, hplen, Int.natCast_mul]
    have hpn64 : pn ≤ 64 := by rw [HPN2.out]; exact HL64.out
    clear hE hpr6 hs sC sR sm hplen hp64
    go_wp2_with (first
      | (go_at_call 22; refine (refPile_any (cn : Int) (rn : Int) a L c _ hL6 HQ.out).mono ?_; rintro e w7 ⟨ra, rn', rc, rfl, hrn, hrr, -, hb7⟩; have HRN := Lib.hid hrn; clear hrn; have hB7 := hB6.trans (hb7.mono (B' := w.heap.size) hB6.size); have bx7 := bx6.below hb7; have hprP7 := hprP.below hb7))
    refine (sameL_n pa ra pn rn' (pileP cn rn L) pc rc _ HPN2.out HRN.out hprP7 hrr HL64.out).mono ?_
    rintro e w8 ⟨rfl, hd8⟩
    have hB8 := hd8.below hB7
    have hpr8 := hd8.rows hprP7
    have bx8 : BoxAt w8 w.heap.size #[.int .i64 cn, .int .i64 rn] 22 := by
      obtain ⟨m, rfl⟩ := hd8
      exact bx7.drewN m
    clear hd8 bx7 hprP7 hB7 hrr bx6 hprP hL6 hB6 c0 c1 hbl hb7
    have c0 := bx8.cell 0; have c1 := bx8.cell 1
    simp at c0 c1
    have hbl := bx8.lt
    go_wp2_with fail
    go_loopw [11, 12] (fun v i wr => ∃ k : Nat, k ≤ pn ∧ i = .int .i64 k ∧ OwnR 1 3 intL wr w8.heap.size v (((pileP cn rn L).map (cellKey cn)).take k) ∧ Below w8.heap.size w8 wr) (fun v i _ => pn - (intOf i).toNat)
    case atStart => exact ⟨0, Nat.zero_le _, rfl, OwnR.nil _ _, Below.refl _ _⟩
    case round =>
      obtain ⟨k, hk, rfl, hO, hb⟩ := hrel
      have bx := bx8.below hb
      have hpr := hpr8.below hb
      have d0 := bx.cell 0; have d1 := bx.cell 1
      have hdl := bx.lt
      simp at d0 d1
      by_cases hkl : k < pn
      · have hkI : (k : Int) < (pn : Int) := by omega
        have hkP : k < (pileP cn rn L).length := by rw [← HPN2.out]; exact hkl
        have hkM : k < ((pileP cn rn L).map (cellKey cn)).length := by rw [List.length_map]; exact hkP
        obtain ⟨ad, rfl, had, s0, s1, -, -⟩ := hpr.leaf hkP
        obtain ⟨z, ez⟩ : ∃ z, z = (pileP cn rn L)[k] := ⟨_, rfl⟩
        have hin := HIN.out _ (List.getElem_mem hkP)
        rw [← ez] at s0 s1 hin
        obtain ⟨at_, hat⟩ : ∃ t, cellKey cn z = t := ⟨_, rfl⟩
        have hgk : ((pileP cn rn L).map (cellKey cn))[k] = at_ := by rw [List.getElem_map, ← ez, hat]
        have HFAR : Hid (hasB (((pileP cn rn L).map (cellKey cn)).take k) at_ = false) := Lib.hid (by rw [← hgk]; exact take_far HND.out hkM)
        have HST : Hid (((pileP cn rn L).map (cellKey cn)).take k ++ [at_] = ((pileP cn rn L).map (cellKey cn)).take (k + 1)) := Lib.hid (by rw [List.take_succ_eq_append_getElem hkM, hgk])
        obtain ⟨hz1, hz2, -, -⟩ := hin
        obtain ⟨zc, zr, zo, zt⟩ := z
        have hz1 : 0 ≤ zc ∧ zc < cn := hz1
        have hz2 : 0 ≤ zr ∧ zr < rn := hz2
        have hidx : zr * (cn : Int) + zc = at_ := hat
        have hcr := HCR.out
        have hyc : 0 ≤ zr * (cn : Int) ∧ zr * (cn : Int) ≤ 64 := ⟨Int.mul_nonneg (by omega) (by omega), by have := Int.mul_le_mul (show zr ≤ 8 by omega) (show (cn : Int) ≤ 8 by omega) (by omega) (by omega); omega⟩
        obtain ⟨hyc0, hyc1⟩ := hyc
        have hat0 : 0 ≤ at_ ∧ at_ ≤ 100 := by omega
        have q1 : IntKind.i64.wrap (zr * (cn : Int)) = zr * (cn : Int) := IntWalk.i64_in _ (by omega)
        have q2 : IntKind.i64.wrap at_ = at_ := IntWalk.i64_in _ (by omega)
        obtain ⟨M, hM⟩ : ∃ M, M = ((pileP cn rn L).map (cellKey cn)).take k := ⟨_, rfl⟩
        have hMl : M.length ≤ 100 := by rw [hM, List.length_take]; have := HL64.out; omega
        rw [← hM] at hO HFAR HST
        have HM := Lib.hid hM
        have HML := Lib.hid hMl
        obtain ⟨sa, sc, ev, hsr, -, -, -, -⟩ := hO.rows int_l
        obtain ⟨sn, hsn⟩ : ∃ n, n = M.length := ⟨_, rfl⟩
        rw [← hsn] at ev
        subst ev
        have HSN := Lib.hid hsn
        obtain ⟨hz1a, hz1b⟩ := hz1
        obtain ⟨hz2a, hz2b⟩ := hz2
        clear hsn hM hMl hat ez hgk hkM hkP hat0 hcr hz1a hz1b hz2a hz2b hyc0 hyc1
        go_wp2_with fail
        go_quiet (fail)
        have hO9 := hO.drewN nq
        have hb9 : Below w8.heap.size w8 (wr.drewN nq) := below_drewN hb nq
        have hs9 := hsr.drewN nq
        obtain ⟨w9, hw9⟩ : ∃ W, W = wr.drewN nq := ⟨_, rfl⟩
        rw [← hw9] at hO9 hb9 hs9 ⊢
        clear hw9 hO hb hsr bx hpr d0 d1 hdl s0 s1 had
        go_wp2_with fail
        refine (has_any sa M sn sc at_ _ hs9 HSN.out (Nat.le_trans HML.out (by unfold maxLen; decide))).mono ?_
        rintro e w10 ⟨rfl, rfl⟩
        rw [HFAR.out]
        go_wp2_with (at_builtin; refine wpList_appX tInt int_l _ at_ _ rfl rfl _ _ rfl w8.heap.size _ M rfl hO9 rfl (by have := HML.out; omega) (by exact hb9.size) ?_; intro gg cg wg hOg hgg hBg)
        rw [HST.out] at hOg
        go_roundw
        case rel => exact ⟨k + 1, by omega, by go_num, hOg, hb9.trans hBg⟩
        case measure => simp [intOf]; omega
      · have hkP : k = pn := by omega
        have hkI : ¬ (k : Int) < (pn : Int) := by omega
        clear hkP
        go_wp2
        go_ret
        exact ⟨rfl, hB8.trans (hb.mono (B' := w.heap.size) hB8.size)⟩
  · have hE : pileE x y L = [] := by unfold pileE; rw [if_neg (by rw [HQ.out]; exact he)]
    have e1 := HPN.out
    rw [hE] at e1
    simp at e1
    subst e1
    have heb : (q != 0) = true := by simpa using he
    clear he hE
    go_wp2
    go_ret
    exact ⟨rfl, hB6⟩
end Go.Proofs.Ytdnbhjcckhbhaaa
