/-
  The law on books: its walk.
-/
import Derived.Test.YtjkjfmahcjcniaaTA
import Derived.Test.YtjkjfmahcjcniaaT0
namespace Go.Proofs.Ytjkjfmahcjcniaa
open Go.RowKit

theorem places_nil (lo hi st : Int) : placesE lo hi st [] = (0, 0) := rfl
theorem sig_facts {P S : Int} (hS : 2 ≤ S) (hP : 1 ≤ P) : 1 ≤ sigN P S ∧ P ≤ (sigN P S : Int) * S ∧ (sigN P S : Int) * S < P + S ∧ (sigN P S : Int) ≤ P := by
  have h0 : 0 ≤ (P + S - 1) / S := Int.ediv_nonneg (by omega) (by omega)
  have h1 : (P + S - 1) / S * S ≤ P + S - 1 := Int.ediv_mul_le _ (by omega)
  have h2 : P + S - 1 < ((P + S - 1) / S + 1) * S := Int.lt_ediv_add_one_mul_self _ (by omega)
  have h3 : ((sigN P S : Nat) : Int) = (P + S - 1) / S := by unfold sigN; omega
  rw [← h3] at h0 h1 h2
  rw [Int.add_mul, Int.one_mul] at h2
  generalize (sigN P S) = n at *
  have h4 : (1 : Int) ≤ n := by
    rcases Nat.eq_zero_or_pos n with e | e
    · subst e; simp at h2; omega
    · omega
  refine ⟨by omega, by omega, by omega, ?_⟩
  have h5 : (n : Int) * 2 ≤ n * S := Int.mul_le_mul_of_nonneg_left hS (by omega)
  have h6 : (n : Int) - 1 ≤ P - 1 := by
    have h7 : ((n : Int) - 1) * S ≤ P - 1 := by rw [Int.sub_mul, Int.one_mul]; omega
    have h8 : ((n : Int) - 1) * 1 ≤ ((n : Int) - 1) * S := Int.mul_le_mul_of_nonneg_left (by omega) (by omega)
    omega
  omega
set_option maxRecDepth 100000 in
set_option maxHeartbeats 8000000 in
theorem books_walk (x y P : Int) (a : Option Addr) (L : List Fold) (c : Nat) (w : World) (hL : RowsAt 2 Fold.l w a L) (hl : L.length ≤ maxLen) (hn : a = none → c = 0) (hI : ∀ z ∈ L, OkI z.c) :
    Calls Try.prog 15 #[.agg #[.int .i64 x, .int .i64 y], .slice a L.length c, .int .i64 P] w fun e w' => e = .returned (.bool true) ∧ Below w.heap.size w w' := by
  unfold maxLen at hl
  go_enter Try.func15, Try.ntmps15
  go_wp2_with fail
  refine (imposed_any _).mono ?_
  rintro e w1 ⟨rfl, hb1⟩
  have hB1 := ((Below.refl w.heap.size w).alloc (Nat.le_refl _) (.cells #[.int .i64 x, .int .i64 y] 22)).trans (hb1.mono (B' := w.heap.size) (by simp))
  have bx1 := (BoxAt.new w #[.int .i64 x, .int .i64 y] 22).below hb1
  have hL1 := (hL.alloc (.cells #[.int .i64 x, .int .i64 y] 22)).below hb1
  clear hb1
  by_cases h20 : 12 < L.length
  · go_wp2_with fail
    go_ret
    exact ⟨rfl, hB1⟩
  have h20' : L.length ≤ 12 := by omega
  have h20I : ¬ (12 : Int) < (L.length : Int) := by omega
  by_cases hPB : inB P 1 300 = true
  case neg =>
    have hPf : inB P 1 300 = false := by simpa using hPB
    go_wp2_with (go_at_call 42; refine (within_any _ _ _ _).mono ?_; rintro e w' ⟨rfl, rfl⟩)
    go_ret
    exact ⟨rfl, hB1⟩
  obtain ⟨P1, P2⟩ := inB_iff.1 hPB
  obtain ⟨p, hp⟩ : ∃ p, (checkFo x y L).1 = p := ⟨_, rfl⟩
  obtain ⟨q, hq⟩ : ∃ q, (checkFo x y L).2 = q := ⟨_, rfl⟩
  obtain ⟨D, hD⟩ : ∃ D, schemeD x y L = D := ⟨_, rfl⟩
  obtain ⟨M, hM⟩ : ∃ M, schemeC x y L = M := ⟨_, rfl⟩
  have HP := Lib.hid hp; have HQ := Lib.hid hq; have HD := Lib.hid hD; have HM := Lib.hid hM; have HI := Lib.hid hI; have HNC := Lib.hid hn
  have HLM : Hid (L.length ≤ maxLen) := Lib.hid (by unfold maxLen; omega)
  have HLL : Hid (L.length ≤ 1000000) := Lib.hid (by omega)
  obtain ⟨D1, D2⟩ := D
  have c0 := bx1.cell 0; have c1 := bx1.cell 1
  simp at c0 c1
  have hbl := bx1.lt
  have hq : Below w1.heap.size w1 w1.drew := (Below.refl _ w1).drew
  have jn0 := World.new_ne _ _ c0; have jn1 := World.new_ne _ _ c1
  clear hp hD hM hI hn h20
  go_wp2_with (go_at_call 42; refine (within_any _ _ _ _).mono ?_; rintro e w' ⟨rfl, rfl⟩)
  have OA : OwnR 2 74 Fold.l (w1.alloc (.cells #[] 74)) w1.heap.size (.slice (some ⟨w1.heap.size, 0, none⟩) 0 0) [] := World.ownsRow_made (e := 74) (size := 2) (base := w1.heap.size) w1 #[] 0 (Nat.le_refl _) (Nat.zero_le _) rfl
  have OC : OwnR 2 74 Fold.l ((w1.alloc (.cells #[.int .i64 0, .int .i64 0, .slice none 0 0] 43)).alloc (.cells #[] 74)) w1.heap.size (.slice (some ⟨w1.heap.size + 1, 0, none⟩) 0 0) [] := by
    have h := World.ownsRow_made (e := 74) (size := 2) (base := w1.heap.size) (w1.alloc (.cells #[.int .i64 0, .int .i64 0, .slice none 0 0] 43)) #[] 0 (by simp) (Nat.zero_le _) rfl
    rw [show (w1.alloc (.cells #[.int .i64 0, .int .i64 0, .slice none 0 0] 43)).heap.size = w1.heap.size + 1 by simp] at h
    exact h
  have HA := (Below.refl w1.heap.size w1).alloc (Nat.le_refl _) (.cells #[] 74)
  have HC := (Below.refl w1.heap.size w1).alloc (Nat.le_refl _) (.cells #[.int .i64 0, .int .i64 0, .slice none 0 0] 43)
  have BZ2 : BoxAt ((w1.alloc (.cells #[] 74)).alloc (.cells #[.int .i64 0, .int .i64 0, .slice none 0 0] 43)).drew (w1.heap.size + 1) #[.int .i64 0, .int .i64 0, .slice none 0 0] 43 := by
    have h := BoxAt.new (w1.alloc (.cells #[] 74)) #[.int .i64 0, .int .i64 0, .slice none 0 0] 43
    rw [show (w1.alloc (.cells #[] 74)).heap.size = w1.heap.size + 1 by simp] at h
    exact h
  have BZ3 : BoxAt ((w1.alloc (.cells #[.int .i64 0, .int .i64 0, .slice none 0 0] 43)).alloc (.cells #[] 74)).drew w1.heap.size #[.int .i64 0, .int .i64 0, .slice none 0 0] 43 := (BoxAt.new w1 _ _).alloc _
  go_cut [7, 8] from 30 to 166 (fun v5 v6 wx => v6 = .int .i64 q ∧ ∃ sa sn sc, Hid (sn = M.length) ∧ Hid (sa = none → sc = 0) ∧ ∃ b5, v5 = .pointer (some ⟨b5, 0, none⟩) ∧ BoxAt wx b5 #[.int .i64 D1, .int .i64 D2, .slice sa sn sc] 43 ∧ RowsAt 4 Cell.l wx sa M ∧ Below w1.heap.size w1 wx)
  case first =>
    rename_i J9 K9 hR9 hM9
    go_region_held3 (fun w' => w'.cell? ⟨w.heap.size, 0, none⟩ = some (.int .i64 x) ∧ w'.cell? ⟨w.heap.size, 1, none⟩ = some (.int .i64 y)) (first | exact ⟨j0, j1⟩ | go_keep)
      (first
        | (refine step_appL tFold fold_l _ (by rfl) _ _ (by rfl) w1.heap.size _ [] (by rfl) OA.drew a L L.length c rfl (by rfl) (hL1.alloc _).drew HNC.out (by simp) HLL.out (by simp <;> omega) ?_; intro v2 v hO2 hg2 hbv ho2; obtain ⟨a2, d2, e2, hr2, -, -, -, -⟩ := hO2.rows fold_l; obtain ⟨n2, hn2⟩ : ∃ n, n = L.length := ⟨_, rfl⟩; rw [List.nil_append] at hr2 e2; rw [← hn2] at e2; subst e2; have HN2 := Lib.hid hn2; clear hn2; have hq := HA.drew.trans hbv; have j0 := (hq.cell (p := ⟨w.heap.size, 0, none⟩) hbl).trans c0; have jn0 := World.new_ne _ _ j0; have j1 := (hq.cell (p := ⟨w.heap.size, 1, none⟩) hbl).trans c1; have jn1 := World.new_ne _ _ j1)
        | (refine step_appL tFold fold_l _ (by rfl) _ _ (by rfl) w1.heap.size _ [] (by rfl) (OA.alloc _).drew a L L.length c rfl (by rfl) ((hL1.alloc _).alloc _).drew HNC.out (by simp) HLL.out (by simp <;> omega) ?_; intro v2 v hO2 hg2 hbv ho2; obtain ⟨a2, d2, e2, hr2, -, -, -, -⟩ := hO2.rows fold_l; obtain ⟨n2, hn2⟩ : ∃ n, n = L.length := ⟨_, rfl⟩; rw [List.nil_append] at hr2 e2; rw [← hn2] at e2; subst e2; have HN2 := Lib.hid hn2; clear hn2; have hq := (HA.alloc HA.size _).drew.trans hbv; have bal : BoxAt v (w1.heap.size + 1) #[.int .i64 0, .int .i64 0, .slice none 0 0] 43 := BZ2.grown hg2 (fun e => absurd (show w1.heap.size + 1 = w1.heap.size from Option.some.inj e) (by omega)); have hle := Nat.le_succ w1.heap.size; have fz := fun j => bal.free j; have hbl8 := bal.lt; have y0 := bal.cell 0; have y1 := bal.cell 1; have y2 := bal.cell 2; simp at y0 y1 y2; obtain ⟨nx1, ny1⟩ := lt_ne (show w.heap.size < w1.heap.size + 1 from Nat.lt_succ_of_lt hbl); have j0 := (hq.cell (p := ⟨w.heap.size, 0, none⟩) hbl).trans c0; have jn0 := World.new_ne _ _ j0; have j1 := (hq.cell (p := ⟨w.heap.size, 1, none⟩) hbl).trans c1; have jn1 := World.new_ne _ _ j1)
        | (refine step_appL tFold fold_l _ (by rfl) _ _ (by rfl) w1.heap.size _ [] (by rfl) OC.drew a L L.length c rfl (by rfl) ((hL1.alloc _).alloc _).drew HNC.out (by simp) HLL.out (by simp <;> omega) ?_; intro v2 v hO2 hg2 hbv ho2; obtain ⟨a2, d2, e2, hr2, -, -, -, -⟩ := hO2.rows fold_l; obtain ⟨n2, hn2⟩ : ∃ n, n = L.length := ⟨_, rfl⟩; rw [List.nil_append] at hr2 e2; rw [← hn2] at e2; subst e2; have HN2 := Lib.hid hn2; clear hn2; have hq := (HC.alloc HC.size _).drew.trans hbv; have bal : BoxAt v w1.heap.size #[.int .i64 0, .int .i64 0, .slice none 0 0] 43 := BZ3.grown hg2 (fun e => absurd (show w1.heap.size = w1.heap.size + 1 from Option.some.inj e) (by omega)); have hle := Nat.le_refl w1.heap.size; have fz := fun j => bal.free j; have hbl8 := bal.lt; have y0 := bal.cell 0; have y1 := bal.cell 1; have y2 := bal.cell 2; simp at y0 y1 y2; obtain ⟨nx1, ny1⟩ := lt_ne hbl; have j0 := (hq.cell (p := ⟨w.heap.size, 0, none⟩) hbl).trans c0; have jn0 := World.new_ne _ _ j0; have j1 := (hq.cell (p := ⟨w.heap.size, 1, none⟩) hbl).trans c1; have jn1 := World.new_ne _ _ j1)
        | (go_at_call 24; refine (schemeOf_n x y a2 n2 L d2 _ HN2.out (by first | exact hr2 | exact hr2.alloc _) HLM.out HI.out HQ.out HD.out HM.out).mono ?_; rintro e v ⟨sa, sn, sc, rfl, hsn, hsr, hsnil, hbv⟩; have HSN := Lib.hid hsn; have HSX := Lib.hid hsnil; clear hsn hsnil; first | ((with_reducible have hq := keep_same hq hbv); (try (have bal := bal.below hbv; have fz := fun j => bal.free j; have hbl8 := bal.lt; have y0 := bal.cell 0; have y1 := bal.cell 1; have y2 := bal.cell 2; simp at y0 y1 y2)); have j0 := (hq.cell (p := ⟨w.heap.size, 0, none⟩) hbl).trans c0; have jn0 := World.new_ne _ _ j0; have j1 := (hq.cell (p := ⟨w.heap.size, 1, none⟩) hbl).trans c1; have jn1 := World.new_ne _ _ j1) | ((with_reducible have bal := box_new hbv); have fz := fun j => bal.free j; have hbl8 := bal.lt; have y0 := bal.cell 0; have y1 := bal.cell 1; have y2 := bal.cell 2; simp at y0 y1 y2; have hle := hq.size; obtain ⟨nx1, ny1⟩ := lt_ne (Nat.lt_of_lt_of_le hbl hq.size); (with_reducible have hq := keep_new hq hbv); have j0 := (hq.cell (p := ⟨w.heap.size, 0, none⟩) hbl).trans c0; have jn0 := World.new_ne _ _ j0; have j1 := (hq.cell (p := ⟨w.heap.size, 1, none⟩) hbl).trans c1; have jn1 := World.new_ne _ _ j1)))
    all_goals
      refine hM9 _ _ ?_
      refine Met.intro ?_
      refine hR9 _ _ ?_
      (repeat apply Exists.intro)
      refine ⟨?_, rfl⟩
    all_goals
      first
        | exact ⟨rfl, sa, sn, sc, HSN, HSX, (sc_fin1 hq hsr q).2⟩
        | exact ⟨rfl, sa, sn, sc, HSN, HSX, (sc_fin2 bal hle hq hsr q).2⟩
  case rest =>
  obtain ⟨rfl, sa, sn, sc, HSN, HSX, b5, rfl, bs, hsr, hq1⟩ := hcut
  rename World => w2
  have hB2 := hB1.trans (hq1.mono (B' := w.heap.size) hB1.size)
  have bx2 := bx1.below hq1
  have hL2 := hL1.below hq1
  clear hq1 hq bx1 hL1 hB1 c0 c1 hbl jn0 jn1 OA OC HA HC BZ2 BZ3
  have c0 := bx2.cell 0; have c1 := bx2.cell 1
  simp at c0 c1
  go_wp2_with fail
  refine (refCheckFo_n x y a L.length L c _ rfl hL2 HLM.out HP.out HQ.out).mono ?_
  rintro e w3 ⟨rfl, hb3⟩
  have hB3 := hB2.trans (hb3.mono (B' := w.heap.size) hB2.size)
  have bx3 := bx2.below hb3; have bs3 := bs.below hb3
  have hL3 := hL2.below hb3; have hsr3 := hsr.below hb3
  clear hb3 hB2 bx2 bs hL2 hsr c0 c1
  have c0 := bx3.cell 0; have c1 := bx3.cell 1
  simp at c0 c1
  by_cases he : q = 0
  case neg =>
    have heb : (q != 0) = true := by simpa using he
    go_wp2_with fail
    go_ret
    exact ⟨rfl, hB3⟩
  subst he
  have s1 : (D1, D2) = (x, y) := by rw [← HD.out]; unfold schemeD; rw [if_pos HQ.out]
  injection s1 with e1 e2
  subst e1 e2
  have HMS : Hid (M = schemeP D1 D2 L) := Lib.hid (by rw [← HM.out]; unfold schemeC; rw [if_pos HQ.out])
  obtain ⟨hs, -, -⟩ := checkFo_ok HQ.out
  obtain ⟨sC, sR, sm⟩ := side_ok hs
  obtain ⟨cn, rfl⟩ : ∃ n : Nat, D1 = n := ⟨D1.toNat, by omega⟩
  obtain ⟨rn, rfl⟩ : ∃ n : Nat, D2 = n := ⟨D2.toNat, by omega⟩
  have hcr8 : cn ≤ 8 ∧ rn ≤ 8 := by omega
  have hp32 : cn * rn ≤ 32 := by have h : ((cn * rn : Nat) : Int) ≤ 32 := by rw [Int.natCast_mul]; exact sm
                                 omega
  have hp1 : 1 ≤ cn * rn := Nat.mul_pos (show 0 < cn by omega) (show 0 < rn by omega)
  have HML : Hid (M.length ≤ 64) := Lib.hid (by rw [HMS.out, schemeP_len]; omega)
  obtain ⟨N, hN⟩ : ∃ N : Int, N = 2 * (cn : Int) * (rn : Int) := ⟨_, rfl⟩
  have hNN : N = ((2 * (cn * rn) : Nat) : Int) := by rw [hN, Int.mul_assoc]; push_cast; rfl
  have hw1 : IntKind.i64.wrap (2 * (cn : Int)) = 2 * (cn : Int) := IntWalk.i64_in _ (by omega)
  have hw2 : IntKind.i64.wrap (2 * (cn : Int) * (rn : Int)) = N := by rw [← hN]; exact IntWalk.i64_in _ (by omega)
  have HBK : Hid ((bookE P N [] []).2 = 0) := Lib.hid (by
    unfold bookE
    rw [if_pos ⟨inB_iff.2 (by omega), inB_iff.2 (by omega)⟩, if_neg (by omega), if_neg (by rw [places_nil]; decide), places_nil])
  obtain ⟨n, hn⟩ : ∃ n, sigN P N = n := ⟨_, rfl⟩
  obtain ⟨f1, f2, f3, f4⟩ := sig_facts (P := P) (S := N) (by omega) (by omega)
  rw [hn] at f1 f2 f3 f4
  have HNS := Lib.hid hn
  have HN := Lib.hid hN; have HNN := Lib.hid hNN
  obtain ⟨BL, hBL⟩ : ∃ BL : Int, (n : Int) * N - P = BL := ⟨_, rfl⟩
  obtain ⟨EN, hEN⟩ : ∃ EN : Int, (n : Int) * N = EN := ⟨_, rfl⟩
  have hn300 : n ≤ 300 := by omega
  have hN64 : 2 ≤ N ∧ N ≤ 64 := by omega
  rw [hEN] at hBL f2 f3
  have HBL := Lib.hid hBL; have HEN := Lib.hid hEN
  have F1 : Hid (P ≤ EN ∧ EN < P + N) := Lib.hid ⟨f2, f3⟩
  have hbl2 : 0 ≤ BL ∧ BL ≤ 64 := by omega
  have hpb : P + BL = EN := by omega
  clear hs sC sR sm hn hN hNN hBL hEN f2 f3
  go_wp2_with fail
  refine (signatures_any P N none [] 0 none [] 0 _ (RowsAt.nil _ _) (by decide) (RowsAt.nil _ _) (by decide)).mono ?_
  rintro e w4 ⟨hb4, h4⟩
  obtain ⟨_, a4, n4, c4, he4, hn4, hr4⟩ := h4.resolve_left (fun h => h.1 HBK.out)
  rw [HNS.out] at he4 hn4 hr4
  rw [sigTo_len] at hn4
  rw [HEN.out, HBL.out] at he4
  subst he4
  subst hn4
  have hB4 := hB3.trans (hb4.mono (B' := w.heap.size) hB3.size)
  have bx4 := bx3.below hb4; have bs4 := bs3.below hb4
  have hL4 := hL3.below hb4; have hsr4 := hsr3.below hb4
  clear hb4 h4 hB3 bx3 bs3 hL3 hsr3 c0 c1
  have hf4 : ¬ P < (n4 : Int) := by omega
  go_wp2_with fail
  go_loopw [14, 15] (fun nx i wr => ∃ (k : Nat) (E : Int), k ≤ n4 ∧ i = .int .i64 k ∧ nx = .int .i64 (E + 1) ∧ Hid (E = k * N) ∧ 0 ≤ E ∧ E ≤ EN ∧ Below w4.heap.size w4 wr) (fun _ i _ => n4 - (intOf i).toNat)
  case atStart => exact ⟨0, 0, Nat.zero_le _, rfl, by simp, Lib.hid (by simp), by omega, by omega, Below.refl _ _⟩
  case round =>
    obtain ⟨k, E, hk, rfl, rfl, HE, e0, e1, hB⟩ := hrel
    by_cases hkn : k < n4
    · have hknI : (k : Int) < (n4 : Int) := by omega
      have bs5 := bs4.below hB
      have d0 := bs5.cell 0; have d1 := bs5.cell 1; have d2 := bs5.cell 2
      simp at d0 d1 d2
      have HM6 : Hid (M.length ≤ 1000000) := Lib.hid (Nat.le_trans HML.out (by decide))
      go_wp2_with fail
      refine (copySc_n (cn : Int) (rn : Int) sa sn M sc _ HSN.out (hsr4.below hB) HM6.out HSX.out).mono ?_
      rintro e w5 ⟨a5, n5, e5, rfl, hn5, hr5, -, hb5⟩
      have HN5 := Lib.hid hn5
      have hB5 := hB.trans (hb5.mono (B' := w4.heap.size) hB.size)
      clear hb5 hn5 d0 d1 d2
      have hown : OwnR 2 74 Fold.l (w5.alloc (.cells #[] 74)) w5.heap.size (.slice (some ⟨w5.heap.size, 0, none⟩) 0 0) [] := World.ownsRow_made (e := 74) (size := 2) (base := w5.heap.size) w5 #[] 0 (Nat.le_refl _) (Nat.zero_le _) rfl
      have hbE := (Below.refl w5.heap.size w5).alloc (Nat.le_refl _) (.cells #[] 74)
      have h0 : (0 : Nat) ≤ 1000000 := by decide
      go_wp2_with (at_builtin; refine wpList_appL tFold fold_l _ rfl _ _ rfl w5.heap.size _ [] rfl hown a L c rfl ((hL4.below hB5).alloc _) HNC.out (by simp) HLL.out (by simp) ?_; intro v6 w6 hown6 hg6 hb6 hor6; obtain ⟨a6, d6, e6, hr6, -, -, -, -⟩ := hown6.rows fold_l; obtain ⟨n6, hn6⟩ : ∃ n, n = L.length := ⟨_, rfl⟩; rw [List.nil_append] at hr6 e6; rw [← hn6] at e6; subst e6; have HN6 := Lib.hid hn6; clear hn6)
      have hbX := hbE.trans hb6
      have hr56 := hr5.below hbX
      have hB6 := hB5.trans (hbX.mono (B' := w4.heap.size) hB5.size)
      clear hown6 hg6 hor6 hb6 hown hbE
      have HSR : Hid ((checkSc cn rn M).2 = 0) := Lib.hid (by rw [HMS.out]; exact schemeP_right HQ.out)
      have hpl := pileP_len HQ.out
      rw [Int.toNat_natCast, Int.toNat_natCast] at hpl
      have HRE : Hid (readE cn rn M L = 0) := Lib.hid (by unfold readE; rw [if_pos HSR.out, HQ.out])
      have HRP : Hid (readP cn rn M L = ordP (2 * (cn * rn))) := Lib.hid (by unfold readP; rw [if_pos ⟨HSR.out, HQ.out⟩, HMS.out, rd_ord HQ.out _ (Nat.le_refl _), hpl])
      clear hpl
      refine (reads_n (cn : Int) (rn : Int) a5 n5 M e5 a6 n6 L d6 _ HN5.out hr56 HM6.out HN6.out hr6 HLM.out HI.out HRE.out HRP.out).mono ?_
      rintro e w9 ⟨pa, pn, pc, rfl, hpn, hpr, -, hb9⟩
      have hB9 := hB6.trans (hb9.mono (B' := w4.heap.size) hB6.size)
      rw [ordP_len] at hpn
      rw [← hpn] at hpr
      have hpnN : N = (pn : Int) := by rw [hpn]; exact HNN.out
      have hpn64 : pn ≤ 64 := by omega
      clear hb9 hr56 hr6 hB6 hB5 hB bs5 hpn
      have bx9 := bx4.below hB9
      have c0 := bx9.cell 0; have c1 := bx9.cell 1
      simp at c0 c1
      obtain ⟨al, ea, hal, l0, l1⟩ := (hr4.below hB9).rng (k := k) (by rw [sigTo_len]; exact hkn)
      subst ea
      have eS : ((sigTo P N n4)[k]'(by rw [sigTo_len]; exact hkn)) = ⟨E + 1, min (E + N) P⟩ := by unfold sigTo; rw [List.getElem_map, List.getElem_range, ← HE.out]
      rw [eS] at l0 l1
      clear eS
      subst hpnN
      simp only at l0 l1
      have hwE : IntKind.i64.wrap ((pn : Int) * (k : Int)) = E := by rw [Int.mul_comm, ← HE.out]; exact IntWalk.i64_in _ (by omega)
      go_wp2_with fail
      go_loopw [14, 18] (fun nx j wr => ∃ m : Nat, m ≤ pn ∧ j = .int .i64 m ∧ nx = .int .i64 (E + 1 + m) ∧ Below w9.heap.size w9 wr) (fun _ j _ => pn - (intOf j).toNat)
      case atStart => exact ⟨0, Nat.zero_le _, rfl, by simp, Below.refl _ _⟩
      case round =>
        obtain ⟨m, hm, rfl, rfl, hBm⟩ := hrel
        by_cases hmn : m < pn
        · have hmnI : (m : Int) < (pn : Int) := by omega
          have bxm := bx9.below hBm
          clear c0 c1 l0 l1
          have c0 := bxm.cell 0; have c1 := bxm.cell 1
          simp at c0 c1
          obtain ⟨p1, rfl, hp1, x0, x1⟩ := (hpr.below hBm).page (k := m) (by rw [ordP_len]; exact hmn)
          have eO : ((ordP pn)[m]'(by rw [ordP_len]; exact hmn)) = ⟨(m : Int) + 1, 0⟩ := by unfold ordP; rw [List.getElem_map, List.getElem_range]
          rw [eO] at x0 x1
          simp only at x0 x1
          clear eO
          have hsum : IntKind.i64.wrap ((m : Int) + 1 + E) = E + 1 + m := by rw [show (m : Int) + 1 + E = E + 1 + m by omega]; exact IntWalk.i64_in _ (by omega)
          go_wp2_with fail
          go_quiet (fail)
          clear hsum x0 x1
          go_wp2_with fail
          go_roundw
          case rel => exact ⟨m + 1, by omega, by go_num, by go_num, below_drewN hBm _⟩
          case measure => simp [intOf]; omega
        · have hmn2 : m = pn := by omega
          subst hmn2
          have hEn : E + 1 + m = E + m + 1 := by omega
          have HE2 : Hid (E + (m : Int) = ((k + 1 : Nat) : Int) * (m : Int)) := Lib.hid (by rw [HE.out]; push_cast; rw [Int.add_mul, Int.one_mul])
          have hE3 : E + m ≤ EN := by rw [HE2.out, ← HEN.out]; exact Int.mul_le_mul_of_nonneg_right (by omega) (by omega)
          have hBw : Below w4.heap.size w4 wr := hB9.trans (hBm.mono (B' := w4.heap.size) hB9.size)
          have hrel2 : (n4 : Int) ≤ 300 := by omega
          by_cases hlast : k + 1 < n4
          · have hlI : (k : Int) < (n4 : Int) - 1 := by omega
            have hE4 : E + m ≤ P := by
              have h5 : ((k + 2 : Nat) : Int) * m ≤ n4 * m := Int.mul_le_mul_of_nonneg_right (by omega) (by omega)
              have h6 : ((k + 2 : Nat) : Int) * m = ((k + 1 : Nat) : Int) * m + m := by push_cast; rw [Int.add_mul, Int.add_mul]; omega
              rw [h6, ← HE2.out, HEN.out] at h5
              have := F1.out.2
              omega
            obtain ⟨_, ea, hal, l0, l1⟩ := (hr4.below hBw).rng (k := k) (by rw [sigTo_len]; exact hkn)
            cases ea
            have eS : ((sigTo P m n4)[k]'(by rw [sigTo_len]; exact hkn)) = ⟨E + 1, min (E + m) P⟩ := by unfold sigTo; rw [List.getElem_map, List.getElem_range, ← HE.out]
            rw [eS, Int.min_eq_left hE4] at l1
            clear eS l0
            simp only at l1
            go_wp2_with fail
            go_roundw
            case rel => exact ⟨k + 1, E + m, by omega, by go_num, by rw [hEn], HE2, by omega, hE3, hBw⟩
            case measure => simp [intOf]; omega
          · have hlI : ¬ (k : Int) < (n4 : Int) - 1 := by omega
            clear l0 l1
            go_wp2_with fail
            go_roundw
            case rel => exact ⟨k + 1, E + m, by omega, by go_num, by rw [hEn], HE2, by omega, hE3, hBw⟩
            case measure => simp [intOf]; omega
    · have hkL : k = n4 := by omega
      subst hkL
      have hEE : E = EN := by rw [HE.out, HEN.out]
      subst hEE
      obtain ⟨m, rfl⟩ : ∃ m, k = m + 1 := ⟨k - 1, by omega⟩
      obtain ⟨al, ea, hal, l0, l1⟩ := (hr4.below hB).rng (k := m) (by rw [sigTo_len]; omega)
      subst ea
      have eS : ((sigTo P N (m + 1))[m]'(by rw [sigTo_len]; omega)).hi = P := by
        unfold sigTo; rw [List.getElem_map, List.getElem_range]
        have h1 := HE.out
        rw [Int.natCast_add, Int.add_mul, show ((1 : Nat) : Int) * N = N from Int.one_mul N] at h1
        show min ((m : Int) * N + N) P = P
        rw [← h1]; exact Int.min_eq_right F1.out.1
      rw [eS] at l1
      clear eS l0
      go_wp2_with fail
      go_ret
      exact ⟨rfl, hB4.trans (hB.mono (B' := w.heap.size) hB4.size)⟩
end Go.Proofs.Ytjkjfmahcjcniaa
