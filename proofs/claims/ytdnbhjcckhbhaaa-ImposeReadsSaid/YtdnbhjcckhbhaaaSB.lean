/-
  The law on what folds read of a scheme: its walk.
-/
import Derived.Test.YtdnbhjcckhbhaaaSA
import Derived.Test.YtdnbhjcckhbhaaaRK
import Derived.Test.YtdnbhjcckhbhaaaY4
namespace Go.Proofs.Ytdnbhjcckhbhaaa
open Go.RowKit

theorem samePg_n (a1 a2 : Option Addr) (n1 n2 : Nat) (L : List Page) (c1 c2 : Nat) (w : World) (e1 : n1 = L.length) (e2 : n2 = L.length) (h1 : RowsAt 2 Page.l w a1 L) (h2 : RowsAt 2 Page.l w a2 L) (hl : L.length ≤ maxLen) :
    Calls Try.prog 40 #[.slice a1 n1 c1, .slice a2 n2 c2] w fun e w' => e = .returned (.bool true) ∧ Below w.heap.size w w' := by
  subst e1; subst e2
  refine (samePages_any a1 L c1 a2 L c2 w h1 h2 hl hl).mono fun e w' ⟨he, hd⟩ => ⟨?_, hd.below (Below.refl _ _)⟩
  rw [he]; exact ret_bool (decide_eq_true rfl)
set_option maxRecDepth 100000 in
set_option maxHeartbeats 8000000 in
theorem reads_walk (C R : Int) (a : Option Addr) (L : List Cell) (c : Nat) (fa : Option Addr) (F : List Fold) (fc : Nat) (w : World) (hL : RowsAt 4 Cell.l w a L) (hl : L.length ≤ maxLen) (hn : a = none → c = 0)
    (hF : RowsAt 2 Fold.l w fa F) (hfl : F.length ≤ maxLen) (hfn : fa = none → fc = 0) (hI : ∀ z ∈ F, OkI z.c) :
    Calls Try.prog 6 #[.agg #[.int .i64 C, .int .i64 R, .slice a L.length c], .slice fa F.length fc] w fun e w' => e = .returned (.bool true) ∧ Below w.heap.size w w' := by
  unfold maxLen at hl hfl
  go_enter Try.func6, Try.ntmps6
  go_wp2_with fail
  refine (awake_any _).mono ?_
  rintro e w1 ⟨rfl, hb1⟩
  have hB1 := ((Below.refl w.heap.size w).alloc (Nat.le_refl _) (.cells #[.int .i64 C, .int .i64 R, .slice a L.length c] 43)).trans (hb1.mono (B' := w.heap.size) (by simp))
  have bx1 := (BoxAt.new w #[.int .i64 C, .int .i64 R, .slice a L.length c] 43).below hb1
  clear hb1
  have c0 := bx1.cell 0; have c1 := bx1.cell 1; have c2 := bx1.cell 2
  simp at c0 c1 c2
  rcases Nat.lt_or_ge 40 L.length with h40 | h40
  · have hd : decide (L.length ≤ 40) = false := decide_eq_false (by omega)
    have HD := Lib.hid hd
    clear hd h40
    go_wp2_with (go_at_call 32; refine (light_any _ _ _ _ _ _).mono ?_; rintro e w2 ⟨rfl, hb2⟩; rw [HD.out])
    go_ret
    exact ⟨rfl, hB1.trans (hb2.mono (B' := w.heap.size) hB1.size)⟩
  have HD : Hid (decide (L.length ≤ 40) = true) := Lib.hid (decide_eq_true h40)
  by_cases h20 : 20 < F.length
  · go_wp2_with (go_at_call 32; refine (light_any _ _ _ _ _ _).mono ?_; rintro e w2 ⟨rfl, hb2⟩; rw [HD.out])
    go_ret
    exact ⟨rfl, hB1.trans (hb2.mono (B' := w.heap.size) hB1.size)⟩
  have h20' : F.length ≤ 20 := by omega
  obtain ⟨p1, hp1⟩ : ∃ x, (checkSc C R L).1 = x := ⟨_, rfl⟩
  obtain ⟨q1, hq1⟩ : ∃ x, (checkSc C R L).2 = x := ⟨_, rfl⟩
  obtain ⟨p2, hp2⟩ : ∃ x, (checkFo C R F).1 = x := ⟨_, rfl⟩
  obtain ⟨q2, hq2⟩ : ∃ x, (checkFo C R F).2 = x := ⟨_, rfl⟩
  obtain ⟨E, hE⟩ : ∃ x, readE C R L F = x := ⟨_, rfl⟩
  obtain ⟨P, hP⟩ : ∃ x, readP C R L F = x := ⟨_, rfl⟩
  have HP1 := Lib.hid hp1; have HQ1 := Lib.hid hq1; have HP2 := Lib.hid hp2; have HQ2 := Lib.hid hq2; have HE := Lib.hid hE; have HP := Lib.hid hP
  have HLL : Hid (L.length ≤ 1000000) := Lib.hid (by omega)
  have HFL : Hid (F.length ≤ 1000000) := Lib.hid (by omega)
  have HFM : Hid (F.length ≤ maxLen) := Lib.hid (by unfold maxLen; omega)
  have HNC := Lib.hid hn; have HFC := Lib.hid hfn; have HI := Lib.hid hI
  clear hp1 hq1 hp2 hq2 hE hP h40 hn hfn hI h20
  go_wp2_with (first
    | (go_at_call 32; refine (light_any _ _ _ _ _ _).mono ?_; rintro e w2 ⟨rfl, hb2⟩; rw [HD.out]; have hB2 := hB1.trans (hb2.mono (B' := w.heap.size) hB1.size); have bx2 := bx1.below hb2; clear hb2 hB1 bx1 c0 c1 c2; have c0 := bx2.cell 0; have c1 := bx2.cell 1; have c2 := bx2.cell 2; simp at c0 c1 c2))
  refine (copyScheme_any C R a L c _ (hL.below hB2) HLL.out HNC.out).mono ?_
  rintro e w3 ⟨a3, n3, d3, rfl, hn3, hr3, -, hb3⟩
  have HN3 := Lib.hid hn3
  have hB3 := hB2.trans (hb3.mono (B' := w.heap.size) hB2.size)
  have bx3 := bx2.below hb3
  clear hb3 hB2 bx2 c0 c1 c2 hn3
  go_wp2_with fail
  refine (folds_any fa F.length F fc _ rfl (hF.below hB3) HFL.out HFC.out).mono ?_
  rintro e w4 ⟨v4, rfl, hO4, hb4⟩
  obtain ⟨a4, d4, e4, hr4, -, -, -, -⟩ := hO4.rows fold_l
  obtain ⟨n4, hn4⟩ : ∃ n, n = F.length := ⟨_, rfl⟩
  rw [← hn4] at e4
  subst e4
  have HN4 := Lib.hid hn4
  have hr34 := hr3.below hb4
  have hB4 := hB3.trans (hb4.mono (B' := w.heap.size) hB3.size)
  have bx4 := bx3.below hb4
  clear hn4 hb4 hB3 bx3 hr3 hO4
  go_wp2_with fail
  refine (reads_n C R a3 n3 L d3 a4 n4 F d4 _ HN3.out hr34 HLL.out HN4.out hr4 HFM.out HI.out HE.out HP.out).mono ?_
  rintro e w5 ⟨pa, pn, pc, rfl, hpn, hpr, -, hb5⟩
  have HPN := Lib.hid hpn
  have hB5 := hB4.trans (hb5.mono (B' := w.heap.size) hB4.size)
  have bx5 := bx4.below hb5
  clear hpn hb5 hB4 bx4 hr4 hr34
  have c0 := bx5.cell 0; have c1 := bx5.cell 1; have c2 := bx5.cell 2
  simp at c0 c1 c2
  go_wp2_with fail
  refine (refScN C R a L c _ (hL.below hB5) HLL.out HP1.out HQ1.out).mono ?_
  rintro e w6 ⟨rfl, hb6⟩
  have hB6 := hB5.trans (hb6.mono (B' := w.heap.size) hB5.size)
  have bx6 := bx5.below hb6
  have hpr6 := hpr.below hb6
  clear hb6 hB5 bx5 hpr c0 c1 c2
  have c0 := bx6.cell 0; have c1 := bx6.cell 1; have c2 := bx6.cell 2
  simp at c0 c1 c2
  by_cases he1 : q1 = 0
  · subst he1
    have hE2 : E = q2 := by rw [← HE.out]; unfold readE; rw [if_pos HQ1.out, HQ2.out]
    subst hE2
    go_wp2_with fail
    refine (refCheckFo_n C R fa F.length F fc _ rfl (hF.below hB6) HFM.out HP2.out HQ2.out).mono ?_
    rintro e w7 ⟨rfl, hb7⟩
    have hB7 := hB6.trans (hb7.mono (B' := w.heap.size) hB6.size)
    have bx7 := bx6.below hb7
    have hpr7 := hpr6.below hb7
    clear hb7 hB6 bx6 hpr6 c0 c1 c2
    have c0 := bx7.cell 0; have c1 := bx7.cell 1; have c2 := bx7.cell 2
    have hxl := bx7.lt
    simp at c0 c1 c2
    by_cases he2 : E = 0
    · subst he2
      obtain ⟨cn, rn, hs⟩ := sc_side HQ1.out
      obtain ⟨rfl, rfl, h8, r8, hlen⟩ := hs
      have hPe : P = rdTo cn L (pileP cn rn F) (pileP cn rn F).length := by rw [← HP.out]; unfold readP; rw [if_pos ⟨HQ1.out, HQ2.out⟩]
      have HS := Lib.hid (And.intro h8 r8); have HLEN := Lib.hid hlen
      have HPF := Lib.hid (pile_fine h8 r8 HQ2.out)
      have HBT := Lib.hid (checkSc_bits HQ1.out)
      have HPL : Hid (P.length ≤ maxLen) := Lib.hid (by rw [hPe, rdTo_len (Nat.le_refl _)]; have := HPF.out.2; unfold maxLen; omega)
      have HPE := Lib.hid hPe
      have hL7 := hL.below hB7; have hF7 := hF.below hB7
      have hq : Below w7.heap.size w7 w7.drew := (Below.refl _ w7).drew
      clear h8 r8 hlen hPe
      go_wp2_with fail
      go_region_held3 (fun w' => w'.cell? ⟨w.heap.size, 0, none⟩ = some (.int .i64 cn) ∧ w'.cell? ⟨w.heap.size, 1, none⟩ = some (.int .i64 rn) ∧ w'.cell? ⟨w.heap.size, 2, none⟩ = some (.slice a L.length c)) (first | exact ⟨j0, j1, j2⟩ | go_keep)
        (first
          | (go_at_call 22; refine (refPile_any (cn : Int) (rn : Int) fa F fc _ (hF7.below hq) HQ2.out).mono ?_; rintro e v ⟨ra, rn', rc, rfl, hrn, hrr, -, hbv⟩; have HRN := Lib.hid hrn; clear hrn; have hq := hq.trans (hbv.mono (B' := w7.heap.size) hq.size); have j0 := (hq.cell (p := ⟨w.heap.size, 0, none⟩) hxl).trans c0; have j1 := (hq.cell (p := ⟨w.heap.size, 1, none⟩) hxl).trans c1; have j2 := (hq.cell (p := ⟨w.heap.size, 2, none⟩) hxl).trans c2)
          | (go_at_call 41; refine (refReadPile_any cn rn a L L.length c ra (pileP cn rn F) rn' rc _ HS.out.1 HS.out.2 rfl HLEN.out (hL7.below hq) HBT.out HRN.out hrr HPF.out.1 (Nat.le_trans HPF.out.2 (by decide))).mono ?_; rintro e v ⟨sa, sn, sc, rfl, hsn, hss, -, hbv⟩; have HSN := Lib.hid hsn; clear hsn; have hq := hq.trans (hbv.mono (B' := w7.heap.size) hq.size); have j0 := (hq.cell (p := ⟨w.heap.size, 0, none⟩) hxl).trans c0; have j1 := (hq.cell (p := ⟨w.heap.size, 1, none⟩) hxl).trans c1; have j2 := (hq.cell (p := ⟨w.heap.size, 2, none⟩) hxl).trans c2)
          | (go_at_call 40; refine (samePg_n pa sa pn sn P pc sc _ HPN.out (by rw [HPE.out]; exact HSN.out) (hpr7.below hq) (by rw [HPE.out]; exact hss) HPL.out).mono ?_; rintro e v ⟨rfl, hbv⟩; have hq := hq.trans (hbv.mono (B' := w7.heap.size) hq.size); have j0 := (hq.cell (p := ⟨w.heap.size, 0, none⟩) hxl).trans c0; have j1 := (hq.cell (p := ⟨w.heap.size, 1, none⟩) hxl).trans c1; have j2 := (hq.cell (p := ⟨w.heap.size, 2, none⟩) hxl).trans c2))
      all_goals
        go_wp2_with fail
        go_ret
        exact ⟨rfl, hB7.trans (hq.mono (B' := w.heap.size) hB7.size)⟩
    · have e1 := HPN.out
      rw [show P = [] by rw [← HP.out]; unfold readP; rw [if_neg (fun h => he2 (by rw [← HQ2.out]; exact h.2))]] at e1
      simp at e1
      subst e1
      have heb : (E != 0) = true := by simpa using he2
      have hqq : (E == E) = true := by simp
      clear he2
      go_wp2
      go_ret
      exact ⟨rfl, hB7⟩
  · have hE2 : E = q1 := by rw [← HE.out]; unfold readE; rw [if_neg (by rw [HQ1.out]; exact he1), HQ1.out]
    subst hE2
    have e1 := HPN.out
    rw [show P = [] by rw [← HP.out]; unfold readP; rw [if_neg (fun h => he1 (by rw [← HQ1.out]; exact h.1))]] at e1
    simp at e1
    subst e1
    have heb : (E != 0) = true := by simpa using he1
    have heb2 : (E == 0) = false := by simpa using he1
    have hqq : (E == E) = true := by simp
    go_wp2
    go_ret
    exact ⟨rfl, hB6⟩
end Go.Proofs.Ytdnbhjcckhbhaaa
