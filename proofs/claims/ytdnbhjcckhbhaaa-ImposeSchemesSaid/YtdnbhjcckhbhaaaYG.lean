/-
  The law on schemes and their views: its walk.
-/
import Derived.Test.YtdnbhjcckhbhaaaYF
import Derived.Test.YtdnbhjcckhbhaaaYD
import Derived.Test.YtdnbhjcckhbhaaaY4
namespace Go.Proofs.Ytdnbhjcckhbhaaa
open Go.RowKit

theorem sameVw (C R : Int) (L : List Page) (a1 a2 : Option Addr) (n1 n2 c1 c2 : Nat) (w : World) (e1 : n1 = L.length) (e2 : n2 = L.length) (h1 : RowsAt 2 Page.l w a1 L) (h2 : RowsAt 2 Page.l w a2 L) (hl : L.length ≤ maxLen) :
    Calls Try.prog 37 #[.agg #[.int .i64 C, .int .i64 R, .slice a1 n1 c1], .agg #[.int .i64 C, .int .i64 R, .slice a2 n2 c2]] w fun e w' => e = .returned (.bool true) ∧ Below w.heap.size w w' := by
  subst e1; subst e2
  refine (sameViews_any ⟨C, R, L⟩ a1 c1 ⟨C, R, L⟩ a2 c2 w h1 h2 hl hl).mono fun e w' ⟨he, hb⟩ => ⟨?_, hb⟩
  rw [he]; exact ret_bool (by unfold sameV; simp)
theorem checkSc_n (C R : Int) (a : Option Addr) (n : Nat) (L : List Cell) (c : Nat) (w : World) (hn : n = L.length) (hL : RowsAt 4 Cell.l w a L) (hl : L.length ≤ 1000000) {p q : Int} (h1 : (checkSc C R L).1 = p) (h2 : (checkSc C R L).2 = q) :
    Calls Try.prog 28 #[.agg #[.int .i64 C, .int .i64 R, .slice a n c]] w fun e w' => e = .returned (.tuple #[.int .i64 p, .int .i64 q]) ∧ Below w.heap.size w w' := by
  subst hn; rw [← h1, ← h2]; exact checkScheme_any C R a L c w hL hl
theorem frontV_n (C R : Int) (a : Option Addr) (n : Nat) (L : List Cell) (c : Nat) (w : World) (hn : n = L.length) (hL : RowsAt 4 Cell.l w a L) (hl : L.length ≤ 1000000) {q : Int} {D : Int × Int} {M : List Page} (h1 : (checkSc C R L).2 = q) (h2 : schD C R L = D) (h3 : frontL C R L = M) :
    Calls Try.prog 33 #[.agg #[.int .i64 C, .int .i64 R, .slice a n c]] w (FvPost w q D M) := by
  subst hn; rw [← h1, ← h2, ← h3]; exact frontView_any C R a L c w hL hl
theorem backV_n (C R : Int) (a : Option Addr) (n : Nat) (L : List Cell) (c : Nat) (w : World) (hn : n = L.length) (hL : RowsAt 4 Cell.l w a L) (hl : L.length ≤ 1000000) {q : Int} {D : Int × Int} {M : List Page} (h1 : (checkSc C R L).2 = q) (h2 : schD C R L = D) (h3 : backL C R L = M) :
    Calls Try.prog 34 #[.agg #[.int .i64 C, .int .i64 R, .slice a n c]] w (FvPost w q D M) := by
  subst hn; rw [← h1, ← h2, ← h3]; exact backView_any C R a L c w hL hl
theorem refSc_n (C R : Int) (a : Option Addr) (L : List Cell) (c : Nat) (w : World) (hL : RowsAt 4 Cell.l w a L) (hl : L.length ≤ 1000000) {p q : Int} (h1 : (checkSc C R L).1 = p) (h2 : (checkSc C R L).2 = q) :
    Calls Try.prog 35 #[.agg #[.int .i64 C, .int .i64 R, .slice a L.length c]] w fun e w' => e = .returned (.tuple #[.int .i64 p, .int .i64 q]) ∧ Below w.heap.size w w' := by
  rw [← h1, ← h2]; exact refCheckScheme_any C R a L c w hL hl
theorem sch_bad {C R : Int} {L : List Cell} (h : (checkSc C R L).2 ≠ 0) : schD C R L = (0, 0) ∧ frontL C R L = [] ∧ backL C R L = [] := by
  unfold schD frontL backL; rw [if_neg h, if_neg h, if_neg h]; exact ⟨rfl, rfl, rfl⟩
theorem sch_good {C R : Int} {L : List Cell} (h : (checkSc C R L).2 = 0) : schD C R L = (C, R) ∧ frontL C R L = frontTo L L.length ∧ backL C R L = backTo C.toNat L R.toNat 0 := by
  unfold schD frontL backL; rw [if_pos h, if_pos h, if_pos h]; exact ⟨rfl, rfl, rfl⟩
set_option maxRecDepth 100000 in
set_option maxHeartbeats 8000000 in
theorem schemes_walk (C R : Int) (a : Option Addr) (L : List Cell) (c : Nat) (w : World) (hL : RowsAt 4 Cell.l w a L) (hl : L.length ≤ maxLen) (hn : a = none → c = 0) :
    Calls Try.prog 5 #[.agg #[.int .i64 C, .int .i64 R, .slice a L.length c]] w fun e w' => e = .returned (.bool true) ∧ Below w.heap.size w w' := by
  unfold maxLen at hl
  go_enter Try.func5, Try.ntmps5
  go_wp2_with fail
  refine (awake_any _).mono ?_
  rintro e w1 ⟨rfl, hb1⟩
  have hB1 := ((Below.refl w.heap.size w).alloc (Nat.le_refl _) (.cells #[.int .i64 C, .int .i64 R, .slice a L.length c] 43)).trans (hb1.mono (B' := w.heap.size) (by simp))
  have bx1 := (BoxAt.new w #[.int .i64 C, .int .i64 R, .slice a L.length c] 43).below hb1
  clear hb1
  have c0 := bx1.cell 0; have c1 := bx1.cell 1; have c2 := bx1.cell 2
  simp at c0 c1 c2
  rcases Nat.lt_or_ge 40 L.length with h40 | h40
  · have hd : decide (L.length ≤ 40) = false := decide_eq_false (by omega)
    have HD := Lib.hid hd
    clear hd h40
    go_wp2_with (go_at_call 32; refine (light_any _ _ _ _ _ _).mono ?_; rintro e w2 ⟨rfl, hb2⟩; rw [HD.out])
    go_ret
    exact ⟨rfl, hB1.trans (hb2.mono (B' := w.heap.size) hB1.size)⟩
  have HD : Hid (decide (L.length ≤ 40) = true) := Lib.hid (decide_eq_true h40)
  obtain ⟨p, hp⟩ : ∃ x, (checkSc C R L).1 = x := ⟨_, rfl⟩
  obtain ⟨q, hq⟩ : ∃ x, (checkSc C R L).2 = x := ⟨_, rfl⟩
  obtain ⟨D, hDD⟩ : ∃ x, schD C R L = x := ⟨_, rfl⟩
  obtain ⟨F, hF⟩ : ∃ x, frontL C R L = x := ⟨_, rfl⟩
  obtain ⟨G, hG⟩ : ∃ x, backL C R L = x := ⟨_, rfl⟩
  have HP := Lib.hid hp; have HQ := Lib.hid hq; have HDD := Lib.hid hDD; have HF := Lib.hid hF; have HG := Lib.hid hG
  have HLL : Hid (L.length ≤ 1000000) := Lib.hid (by omega)
  have HLK : Hid (L.length ≤ 1000) := Lib.hid (by omega)
  have HNC := Lib.hid hn
  clear hp hq hDD hF hG h40 hn
  go_wp2_with (first
    | (go_at_call 32; refine (light_any _ _ _ _ _ _).mono ?_; rintro e w2 ⟨rfl, hb2⟩; rw [HD.out]; have hB2 := hB1.trans (hb2.mono (B' := w.heap.size) hB1.size); have bx2 := bx1.below hb2; clear hb2 hB1 bx1 c0 c1 c2; have c0 := bx2.cell 0; have c1 := bx2.cell 1; have c2 := bx2.cell 2; simp at c0 c1 c2))
  refine (copyScheme_any C R a L c _ (hL.below hB2) HLL.out HNC.out).mono ?_
  rintro e w3 ⟨a3, n3, d3, rfl, hn3, hr3, -, hb3⟩
  have HN3 := Lib.hid hn3
  have hB3 := hB2.trans (hb3.mono (B' := w.heap.size) hB2.size)
  have bx3 := bx2.below hb3
  clear hb3 hB2 bx2 c0 c1 c2 hn3
  have c0 := bx3.cell 0; have c1 := bx3.cell 1; have c2 := bx3.cell 2
  simp at c0 c1 c2
  go_wp2_with fail
  refine (checkSc_n C R a3 n3 L d3 _ HN3.out hr3 HLL.out HP.out HQ.out).mono ?_
  rintro e w4 ⟨rfl, hb4⟩
  have hB4 := hB3.trans (hb4.mono (B' := w.heap.size) hB3.size)
  have bx4 := bx3.below hb4
  clear hb4 hB3 bx3 c0 c1 c2 hr3
  have c0 := bx4.cell 0; have c1 := bx4.cell 1; have c2 := bx4.cell 2
  simp at c0 c1 c2
  go_wp2_with fail
  refine (copyScheme_any C R a L c _ (hL.below hB4) HLL.out HNC.out).mono ?_
  rintro e w5 ⟨a5, n5, d5, rfl, hn5, hr5, -, hb5⟩
  have HN5 := Lib.hid hn5
  have hB5 := hB4.trans (hb5.mono (B' := w.heap.size) hB4.size)
  have bx5 := bx4.below hb5
  clear hb5 hB4 bx4 c0 c1 c2 hn5
  go_wp2_with fail
  refine (frontV_n C R a5 n5 L d5 _ HN5.out hr5 HLL.out HQ.out HDD.out HF.out).mono ?_
  rintro e w6 ⟨fa, fn, fc, rfl, hfn, hfr, -, hb6⟩
  have HFN := Lib.hid hfn
  have hB6 := hB5.trans (hb6.mono (B' := w.heap.size) hB5.size)
  have bx6 := bx5.below hb6
  clear hb6 hB5 bx5 hfn hr5
  obtain ⟨D1, D2⟩ := D
  have bf7 := BoxAt.new w6 #[.int .i64 D1, .int .i64 D2, .slice fa fn fc] 56
  have bx7 := bx6.alloc (.cells #[.int .i64 D1, .int .i64 D2, .slice fa fn fc] 56)
  have hB7 := hB6.alloc hB6.size (.cells #[.int .i64 D1, .int .i64 D2, .slice fa fn fc] 56)
  have hfr7 := hfr.alloc (.cells #[.int .i64 D1, .int .i64 D2, .slice fa fn fc] 56)
  have c0 := bx6.cell 0; have c1 := bx6.cell 1; have c2 := bx6.cell 2
  have hxl := bx6.lt
  simp at c0 c1 c2
  go_wp2_with fail
  obtain ⟨gf, hgf⟩ : ∃ g, w6.heap.size = g := ⟨_, rfl⟩
  refine (copyScheme_any C R a L c _ (hL.below hB7) HLL.out HNC.out).mono ?_
  rintro e w8 ⟨a8, n8, d8, rfl, hn8, hr8, -, hb8⟩
  have HN8 := Lib.hid hn8
  have hB8 := hB7.trans (hb8.mono (B' := w.heap.size) hB7.size)
  have bx8 := bx7.below hb8; have bf8 := bf7.below hb8; have hfr8 := hfr7.below hb8
  rw [hgf] at bf8 ⊢
  clear hb8 hB7 bx7 bf7 hfr7 hfr hB6 bx6 c0 c1 c2 hxl hn8 hgf
  go_wp2_with fail
  refine (backV_n C R a8 n8 L d8 _ HN8.out hr8 HLL.out HQ.out HDD.out HG.out).mono ?_
  rintro e w9 ⟨ga, gn, gc, rfl, hgn, hgr, -, hb9⟩
  have HGN := Lib.hid hgn
  have hB9 := hB8.trans (hb9.mono (B' := w.heap.size) hB8.size)
  have bx9 := bx8.below hb9; have bf9 := bf8.below hb9; have hfr9 := hfr8.below hb9
  clear hb9 hB8 bx8 bf8 hfr8 hgn hr8
  have bg10 := BoxAt.new w9 #[.int .i64 D1, .int .i64 D2, .slice ga gn gc] 56
  have bx10 := bx9.alloc (.cells #[.int .i64 D1, .int .i64 D2, .slice ga gn gc] 56)
  have bf10 := bf9.alloc (.cells #[.int .i64 D1, .int .i64 D2, .slice ga gn gc] 56)
  have hB10 := hB9.alloc hB9.size (.cells #[.int .i64 D1, .int .i64 D2, .slice ga gn gc] 56)
  have hfr10 := hfr9.alloc (.cells #[.int .i64 D1, .int .i64 D2, .slice ga gn gc] 56)
  have hgr10 := hgr.alloc (.cells #[.int .i64 D1, .int .i64 D2, .slice ga gn gc] 56)
  have c0 := bx9.cell 0; have c1 := bx9.cell 1; have c2 := bx9.cell 2
  have hxl := bx9.lt
  simp at c0 c1 c2
  go_wp2_with fail
  obtain ⟨gg, hgg⟩ : ∃ g, w9.heap.size = g := ⟨_, rfl⟩
  refine (refSc_n C R a L c _ (hL.below hB10) HLL.out HP.out HQ.out).mono ?_
  rintro e w11 ⟨rfl, hb11⟩
  have hB11 := hB10.trans (hb11.mono (B' := w.heap.size) hB10.size)
  have bx11 := bx10.below hb11; have bf11 := bf10.below hb11; have bg11 := bg10.below hb11; have hfr11 := hfr10.below hb11; have hgr11 := hgr10.below hb11
  rw [hgg] at bg11 ⊢
  clear hb11 hB10 bx10 bf10 bg10 hfr10 hgr10 hgr hfr9 hB9 bx9 bf9 c0 c1 c2 hxl hgg
  have c0 := bx11.cell 0; have c1 := bx11.cell 1; have c2 := bx11.cell 2
  have f0 := bf11.cell 0; have f1 := bf11.cell 1; have f2 := bf11.cell 2
  have g0 := bg11.cell 0; have g1 := bg11.cell 1; have g2 := bg11.cell 2
  have hxl := bx11.lt; have hfl := bf11.lt; have hgl := bg11.lt
  simp at c0 c1 c2 f0 f1 f2 g0 g1 g2
  by_cases he : q = 0
  · subst he
    obtain ⟨s1, s2, s3⟩ := sch_good HQ.out
    rw [HDD.out] at s1; rw [HF.out] at s2; rw [HG.out] at s3
    injection s1 with s1 s1'
    have h1 := checkSc_ok HQ.out
    obtain ⟨hs, hnn⟩ := cells_ok h1
    obtain ⟨sC, sR, sm⟩ := side_ok hs
    obtain ⟨cn, rfl⟩ : ∃ n : Nat, C = n := ⟨C.toNat, by omega⟩
    obtain ⟨rn, rfl⟩ : ∃ n : Nat, R = n := ⟨R.toNat, by omega⟩
    subst s1 s1'
    have HCR : Hid ((1 ≤ cn ∧ cn ≤ 8) ∧ (1 ≤ rn ∧ rn ≤ 8)) := Lib.hid (by omega)
    have HN : Hid (L.length = cn * rn) := Lib.hid (by have : (L.length : Int) = ((cn * rn : Nat) : Int) := by rw [hnn, Int.natCast_mul]
                                                      omega)
    have HFM : Hid (fn = (frontTo L L.length).length ∧ (frontTo L L.length).length ≤ maxLen) := Lib.hid ⟨by rw [← s2]; exact HFN.out, by rw [frontTo_len (Nat.le_refl _)]; unfold maxLen; have := HLL.out; omega⟩
    have HGM : Hid (gn = (backTo cn L rn 0).length ∧ (backTo cn L rn 0).length ≤ maxLen) := Lib.hid ⟨by rw [HGN.out, s3]; rfl, by rw [backTo_len]; unfold maxLen; have := Nat.mul_le_mul (show rn ≤ 8 by omega) (show cn ≤ 8 by omega); omega⟩
    have hrF : RowsAt 2 Page.l w11 fa (frontTo L L.length) := by rw [← s2]; exact hfr11
    have hGe : backTo cn L rn 0 = G := by rw [s3]; rfl
    have hrG : RowsAt 2 Page.l w11 ga (backTo cn L rn 0) := by rw [hGe]; exact hgr11
    clear hGe
    have hL11 := hL.below hB11
    have hq : Below w11.heap.size w11 w11.drew := (Below.refl _ w11).drew
    clear s2 s3 h1 hs hnn sC sR sm hfr11 hgr11
    go_wp2_with fail
    go_region_held3 (fun w' => w'.cell? ⟨w.heap.size, 0, none⟩ = some (.int .i64 cn) ∧ w'.cell? ⟨w.heap.size, 1, none⟩ = some (.int .i64 rn) ∧ w'.cell? ⟨w.heap.size, 2, none⟩ = some (.slice a L.length c) ∧ w'.cell? ⟨gf, 0, none⟩ = some (.int .i64 cn) ∧ w'.cell? ⟨gf, 1, none⟩ = some (.int .i64 rn) ∧ w'.cell? ⟨gf, 2, none⟩ = some (.slice fa fn fc) ∧ w'.cell? ⟨gg, 0, none⟩ = some (.int .i64 cn) ∧ w'.cell? ⟨gg, 1, none⟩ = some (.int .i64 rn) ∧ w'.cell? ⟨gg, 2, none⟩ = some (.slice ga gn gc)) (first | exact ⟨j0, j1, j2, j3, j4, j5, j6, j7, j8⟩ | go_keep)
      (first
        | (go_at_call 38; refine (refFront_any (cn : Int) (rn : Int) a L c _ HLK.out (hL11.below hq)).mono ?_; rintro e v ⟨ra, rn', rc, rfl, hrn, hrr, -, hbv⟩; have HRN := Lib.hid hrn; clear hrn; have hq := hq.trans (hbv.mono (B' := w11.heap.size) hq.size); have j0 := (hq.cell (p := ⟨w.heap.size, 0, none⟩) hxl).trans c0; have j1 := (hq.cell (p := ⟨w.heap.size, 1, none⟩) hxl).trans c1; have j2 := (hq.cell (p := ⟨w.heap.size, 2, none⟩) hxl).trans c2; have j3 := (hq.cell (p := ⟨gf, 0, none⟩) hfl).trans f0; have j4 := (hq.cell (p := ⟨gf, 1, none⟩) hfl).trans f1; have j5 := (hq.cell (p := ⟨gf, 2, none⟩) hfl).trans f2; have j6 := (hq.cell (p := ⟨gg, 0, none⟩) hgl).trans g0; have j7 := (hq.cell (p := ⟨gg, 1, none⟩) hgl).trans g1; have j8 := (hq.cell (p := ⟨gg, 2, none⟩) hgl).trans g2)
        | (go_at_call 39; refine (refBack_any cn rn a L c _ HCR.out.1 HCR.out.2 HN.out (hL11.below hq)).mono ?_; rintro e v ⟨sa, sn', sc, rfl, hrn, hss, -, hbv⟩; have HSN := Lib.hid hrn; clear hrn; have hq := hq.trans (hbv.mono (B' := w11.heap.size) hq.size); have j0 := (hq.cell (p := ⟨w.heap.size, 0, none⟩) hxl).trans c0; have j1 := (hq.cell (p := ⟨w.heap.size, 1, none⟩) hxl).trans c1; have j2 := (hq.cell (p := ⟨w.heap.size, 2, none⟩) hxl).trans c2; have j3 := (hq.cell (p := ⟨gf, 0, none⟩) hfl).trans f0; have j4 := (hq.cell (p := ⟨gf, 1, none⟩) hfl).trans f1; have j5 := (hq.cell (p := ⟨gf, 2, none⟩) hfl).trans f2; have j6 := (hq.cell (p := ⟨gg, 0, none⟩) hgl).trans g0; have j7 := (hq.cell (p := ⟨gg, 1, none⟩) hgl).trans g1; have j8 := (hq.cell (p := ⟨gg, 2, none⟩) hgl).trans g2)
        | (go_at_call 37; (with_reducible refine (sameVw (cn : Int) (rn : Int) (frontTo L L.length) fa ra fn rn' fc rc _ HFM.out.1 HRN.out (hrF.below hq) hrr HFM.out.2).mono ?_); rintro e v ⟨rfl, hbv⟩; have hq := hq.trans (hbv.mono (B' := w11.heap.size) hq.size); have j0 := (hq.cell (p := ⟨w.heap.size, 0, none⟩) hxl).trans c0; have j1 := (hq.cell (p := ⟨w.heap.size, 1, none⟩) hxl).trans c1; have j2 := (hq.cell (p := ⟨w.heap.size, 2, none⟩) hxl).trans c2; have j3 := (hq.cell (p := ⟨gf, 0, none⟩) hfl).trans f0; have j4 := (hq.cell (p := ⟨gf, 1, none⟩) hfl).trans f1; have j5 := (hq.cell (p := ⟨gf, 2, none⟩) hfl).trans f2; have j6 := (hq.cell (p := ⟨gg, 0, none⟩) hgl).trans g0; have j7 := (hq.cell (p := ⟨gg, 1, none⟩) hgl).trans g1; have j8 := (hq.cell (p := ⟨gg, 2, none⟩) hgl).trans g2)
        | (go_at_call 37; (with_reducible refine (sameVw (cn : Int) (rn : Int) (backTo cn L rn 0) ga sa gn sn' gc sc _ HGM.out.1 HSN.out (hrG.below hq) hss HGM.out.2).mono ?_); rintro e v ⟨rfl, hbv⟩; have hq := hq.trans (hbv.mono (B' := w11.heap.size) hq.size); have j0 := (hq.cell (p := ⟨w.heap.size, 0, none⟩) hxl).trans c0; have j1 := (hq.cell (p := ⟨w.heap.size, 1, none⟩) hxl).trans c1; have j2 := (hq.cell (p := ⟨w.heap.size, 2, none⟩) hxl).trans c2; have j3 := (hq.cell (p := ⟨gf, 0, none⟩) hfl).trans f0; have j4 := (hq.cell (p := ⟨gf, 1, none⟩) hfl).trans f1; have j5 := (hq.cell (p := ⟨gf, 2, none⟩) hfl).trans f2; have j6 := (hq.cell (p := ⟨gg, 0, none⟩) hgl).trans g0; have j7 := (hq.cell (p := ⟨gg, 1, none⟩) hgl).trans g1; have j8 := (hq.cell (p := ⟨gg, 2, none⟩) hgl).trans g2))
    go_wp2_with fail
    go_ret
    exact ⟨rfl, hB11.trans (hq.mono (B' := w.heap.size) hB11.size)⟩
  · obtain ⟨s1, s2, s3⟩ := sch_bad (by rw [HQ.out]; exact he)
    rw [HDD.out] at s1; rw [HF.out] at s2; rw [HG.out] at s3
    injection s1 with s1 s1'
    have e1 := HFN.out
    have e2 := HGN.out
    rw [s2] at e1; rw [s3] at e2
    simp at e1 e2
    subst s1 s1' e1 e2
    have heb : (q != 0) = true := by simpa using he
    have hqq : (q == q) = true := by simp
    clear he s2 s3
    go_wp2_with (go_at_call 36; refine (noView_any _ _ _).mono ?_; rintro e v ⟨rfl, hbv⟩; have hB11 := hB11.trans (hbv.mono (B' := w.heap.size) hB11.size); have bx11 := bx11.below hbv; have bf11 := bf11.below hbv; have bg11 := bg11.below hbv; have f0 := bf11.cell 0; have f1 := bf11.cell 1; have f2 := bf11.cell 2; have g0 := bg11.cell 0; have g1 := bg11.cell 1; have g2 := bg11.cell 2; simp at f0 f1 f2 g0 g1 g2)
    go_ret
    exact ⟨rfl, hB11⟩
end Go.Proofs.Ytdnbhjcckhbhaaa
