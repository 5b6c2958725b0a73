/-
  The law on folded sheets: its walk.
-/
import Derived.Test.YtdnbhjcckhbhaaaSE
import Derived.Test.YtdnbhjcckhbhaaaSF
import Derived.Test.YtdnbhjcckhbhaaaRK
import Derived.Test.YtdnbhjcckhbhaaaY4
import Derived.Test.YtdnbhjcckhbhaaaRM
namespace Go.Proofs.Ytdnbhjcckhbhaaa
open Go.RowKit

theorem rows_box {v : World} {a : Option Addr} {M : List Cell} {b : Nat} {x0 x1 x2 u0 u1 u2 : Value} {T : TypeId} (h : RowsAt 4 Cell.l v a M) (hb : BoxAt v b #[x0, x1, x2] T) : RowsAt 4 Cell.l (((v.setCell ⟨b, 0, none⟩ u0).setCell ⟨b, 1, none⟩ u1).setCell ⟨b, 2, none⟩ u2) a M := by
  intro k hk
  obtain ⟨ad, e, hlt, hs⟩ := h k hk
  have hne : ad.block ≠ b := fun e2 => by
    have h3 := hs 3 (by decide)
    have e4 : fld (ad.add (k * 4)) 3 = ⟨b, (ad.add (k * 4)).off + 3, none⟩ := by
      show (⟨(ad.add (k * 4)).block, (ad.add (k * 4)).off + 3, none⟩ : Addr) = _
      rw [add_block, e2]
    rw [e4, hb.cell] at h3
    simp at h3
  have hq : (((v.setCell ⟨b, 0, none⟩ u0).setCell ⟨b, 1, none⟩ u1).setCell ⟨b, 2, none⟩ u2).heap[ad.block]? = v.heap[ad.block]? :=
    (Below.heap_setCell _ _ _ _ hne).trans ((Below.heap_setCell _ _ _ _ hne).trans (Below.heap_setCell _ _ _ _ hne))
  exact ⟨ad, e, by simpa using hlt, fun j hj => (cell_block (by rw [fld_block, add_block]; exact hq)).trans (hs j hj)⟩
theorem copySc_n (C R : Int) (a : Option Addr) (n : Nat) (L : List Cell) (c : Nat) (w : World) (hn : n = L.length) (hL : RowsAt 4 Cell.l w a L) (hl : L.length ≤ 1000000) (hc : a = none → c = 0) :
    Calls Try.prog 29 #[.agg #[.int .i64 C, .int .i64 R, .slice a n c]] w (CopySchemePost C R L w) := by
  subst hn; exact copyScheme_any C R a L c w hL hl hc
theorem sameSc_n (C R : Int) (L : List Cell) (a1 a2 : Option Addr) (n1 n2 c1 c2 : Nat) (w : World) (e1 : n1 = L.length) (e2 : n2 = L.length) (h1 : RowsAt 4 Cell.l w a1 L) (h2 : RowsAt 4 Cell.l w a2 L) (hl : L.length ≤ maxLen) :
    Calls Try.prog 26 #[.agg #[.int .i64 C, .int .i64 R, .slice a1 n1 c1], .agg #[.int .i64 C, .int .i64 R, .slice a2 n2 c2]] w fun e w' => e = .returned (.bool true) ∧ Below w.heap.size w w' := by
  subst e1; subst e2
  refine (same_any ⟨C, R, L⟩ a1 c1 ⟨C, R, L⟩ a2 c2 w h1 h2 hl hl).mono fun e w' ⟨he, hb⟩ => ⟨?_, hb⟩
  rw [he]; exact ret_bool (by unfold sameS; simp)
theorem sc_fin1 {w1 v : World} {sa : Option Addr} {M : List Cell} {D1 D2 : Int} {sn sc : Nat} (hq : Below w1.heap.size w1 v) (h : RowsAt 4 Cell.l v sa M) (q : Int) :
    Value.int .i64 q = Value.int .i64 q ∧ ∃ b5, Value.pointer (some ⟨v.heap.size, 0, none⟩) = .pointer (some ⟨b5, 0, none⟩) ∧ BoxAt (v.alloc (.cells #[.int .i64 D1, .int .i64 D2, .slice sa sn sc] 43)) b5 #[.int .i64 D1, .int .i64 D2, .slice sa sn sc] 43 ∧ RowsAt 4 Cell.l (v.alloc (.cells #[.int .i64 D1, .int .i64 D2, .slice sa sn sc] 43)) sa M ∧ Below w1.heap.size w1 (v.alloc (.cells #[.int .i64 D1, .int .i64 D2, .slice sa sn sc] 43)) :=
  ⟨rfl, _, rfl, BoxAt.new _ _ _, h.alloc _, hq.alloc hq.size _⟩
theorem sc_fin2 {w1 v : World} {b : Nat} {x0 x1 x2 : Value} {sa : Option Addr} {M : List Cell} {D1 D2 : Int} {sn sc : Nat} (hb : BoxAt v b #[x0, x1, x2] 43) (hle : w1.heap.size ≤ b) (hq : Below w1.heap.size w1 v) (h : RowsAt 4 Cell.l v sa M) (q : Int) :
    Value.int .i64 q = Value.int .i64 q ∧ ∃ b5, Value.pointer (some ⟨b, 0, none⟩) = .pointer (some ⟨b5, 0, none⟩) ∧ BoxAt (((v.setCell ⟨b, 0, none⟩ (.int .i64 D1)).setCell ⟨b, 1, none⟩ (.int .i64 D2)).setCell ⟨b, 2, none⟩ (.slice sa sn sc)) b5 #[.int .i64 D1, .int .i64 D2, .slice sa sn sc] 43 ∧
      RowsAt 4 Cell.l (((v.setCell ⟨b, 0, none⟩ (.int .i64 D1)).setCell ⟨b, 1, none⟩ (.int .i64 D2)).setCell ⟨b, 2, none⟩ (.slice sa sn sc)) sa M ∧ Below w1.heap.size w1 (((v.setCell ⟨b, 0, none⟩ (.int .i64 D1)).setCell ⟨b, 1, none⟩ (.int .i64 D2)).setCell ⟨b, 2, none⟩ (.slice sa sn sc)) :=
  ⟨rfl, _, rfl, ((hb.set 0 _).set 1 _).set 2 _, rows_box h hb, ((hq.setCell (p := ⟨b, 0, none⟩) hle _).setCell (p := ⟨b, 1, none⟩) hle _).setCell (p := ⟨b, 2, none⟩) hle _⟩
theorem schemeOf_n (C R : Int) (a : Option Addr) (n : Nat) (L : List Fold) (c : Nat) (w : World) (hn : n = L.length) (hL : RowsAt 2 Fold.l w a L) (hl : L.length ≤ maxLen) (hI : ∀ x ∈ L, OkI x.c) {q : Int} {D : Int × Int} {M : List Cell} (h1 : (checkFo C R L).2 = q) (h2 : schemeD C R L = D) (h3 : schemeC C R L = M) :
    Calls Try.prog 24 #[.agg #[.int .i64 C, .int .i64 R], .slice a n c] w fun e w' => ∃ (a : Option Addr) (n c : Nat), e = .returned (.tuple #[.agg #[.int .i64 D.1, .int .i64 D.2, .slice a n c], .int .i64 q]) ∧ n = M.length ∧ RowsAt 4 Cell.l w' a M ∧ (a = none → c = 0) ∧ Below w.heap.size w w' := by
  subst hn; rw [← h1, ← h2, ← h3]; exact schemeOf_any C R a L c w hL hl hI
set_option maxRecDepth 100000 in
set_option maxHeartbeats 8000000 in
theorem folded_walk (x y : Int) (a : Option Addr) (L : List Fold) (c : Nat) (w : World) (hL : RowsAt 2 Fold.l w a L) (hl : L.length ≤ maxLen) (hn : a = none → c = 0) (hI : ∀ z ∈ L, OkI z.c) :
    Calls Try.prog 4 #[.agg #[.int .i64 x, .int .i64 y], .slice a L.length c] w fun e w' => e = .returned (.bool true) ∧ Below w.heap.size w w' := by
  unfold maxLen at hl
  go_enter Try.func4, Try.ntmps4
  go_wp2_with fail
  refine (awake_any _).mono ?_
  rintro e w1 ⟨rfl, hb1⟩
  have hB1 := ((Below.refl w.heap.size w).alloc (Nat.le_refl _) (.cells #[.int .i64 x, .int .i64 y] 22)).trans (hb1.mono (B' := w.heap.size) (by simp))
  have bx1 := (BoxAt.new w #[.int .i64 x, .int .i64 y] 22).below hb1
  have hL1 := (hL.alloc (.cells #[.int .i64 x, .int .i64 y] 22)).below hb1
  clear hb1
  by_cases h20 : 20 < L.length
  · go_wp2_with fail
    go_ret
    exact ⟨rfl, hB1⟩
  have h20' : L.length ≤ 20 := by omega
  obtain ⟨p, hp⟩ : ∃ p, (checkFo x y L).1 = p := ⟨_, rfl⟩
  obtain ⟨q, hq⟩ : ∃ q, (checkFo x y L).2 = q := ⟨_, rfl⟩
  obtain ⟨D, hD⟩ : ∃ D, schemeD x y L = D := ⟨_, rfl⟩
  obtain ⟨M, hM⟩ : ∃ M, schemeC x y L = M := ⟨_, rfl⟩
  have HP := Lib.hid hp; have HQ := Lib.hid hq; have HD := Lib.hid hD; have HM := Lib.hid hM; have HI := Lib.hid hI; have HNC := Lib.hid hn
  have HLM : Hid (L.length ≤ maxLen) := Lib.hid (by unfold maxLen; omega)
  have HLL : Hid (L.length ≤ 1000000) := Lib.hid (by omega)
  obtain ⟨D1, D2⟩ := D
  have c0 := bx1.cell 0; have c1 := bx1.cell 1
  simp at c0 c1
  have hbl := bx1.lt
  have hq : Below w1.heap.size w1 w1.drew := (Below.refl _ w1).drew
  have jn0 := World.new_ne _ _ c0; have jn1 := World.new_ne _ _ c1
  clear hp hD hM hI hn h20
  go_wp2_with fail
  go_cut [5, 6] from 18 to 84 (fun v5 v6 wx => v6 = .int .i64 q ∧ ∃ sa sn sc, Hid (sn = M.length) ∧ Hid (sa = none → sc = 0) ∧ ∃ b5, v5 = .pointer (some ⟨b5, 0, none⟩) ∧ BoxAt wx b5 #[.int .i64 D1, .int .i64 D2, .slice sa sn sc] 43 ∧ RowsAt 4 Cell.l wx sa M ∧ Below w1.heap.size w1 wx)
  case first =>
    rename_i J9 K9 hR9 hM9
    go_region_held3 (fun w' => w'.cell? ⟨w.heap.size, 0, none⟩ = some (.int .i64 x) ∧ w'.cell? ⟨w.heap.size, 1, none⟩ = some (.int .i64 y)) (first | exact ⟨j0, j1⟩ | go_keep)
      (first
        | (go_at_call 18; refine (folds_any a L.length L c _ rfl (by first | exact hL1.below hq | exact (hL1.below hq).alloc _ | exact (hL1.alloc _).drew) HLL.out HNC.out).mono ?_; rintro e v ⟨v2, rfl, hO2, hbv⟩; obtain ⟨a2, d2, e2, hr2, -, -, -, -⟩ := hO2.rows fold_l; obtain ⟨n2, hn2⟩ : ∃ n, n = L.length := ⟨_, rfl⟩; rw [← hn2] at e2; subst e2; have HN2 := Lib.hid hn2; clear hn2; first | ((with_reducible have hq := keep_same hq hbv); (try (have bal := bal.below hbv; have fz := fun j => bal.free j; have hbl8 := bal.lt; have y0 := bal.cell 0; have y1 := bal.cell 1; have y2 := bal.cell 2; simp at y0 y1 y2)); have j0 := (hq.cell (p := ⟨w.heap.size, 0, none⟩) hbl).trans c0; have jn0 := World.new_ne _ _ j0; have j1 := (hq.cell (p := ⟨w.heap.size, 1, none⟩) hbl).trans c1; have jn1 := World.new_ne _ _ j1) | ((with_reducible have bal := box_new hbv); have fz := fun j => bal.free j; have hbl8 := bal.lt; have y0 := bal.cell 0; have y1 := bal.cell 1; have y2 := bal.cell 2; simp at y0 y1 y2; have hle := hq.size; obtain ⟨nx1, ny1⟩ := lt_ne (Nat.lt_of_lt_of_le hbl hq.size); (with_reducible have hq := keep_new hq hbv); have j0 := (hq.cell (p := ⟨w.heap.size, 0, none⟩) hbl).trans c0; have jn0 := World.new_ne _ _ j0; have j1 := (hq.cell (p := ⟨w.heap.size, 1, none⟩) hbl).trans c1; have jn1 := World.new_ne _ _ j1) | ((with_reducible have bal := box_newD hbv); have fz := fun j => bal.free j; have hbl8 := bal.lt; have y0 := bal.cell 0; have y1 := bal.cell 1; have y2 := bal.cell 2; simp at y0 y1 y2; have hle := Nat.le_refl w1.heap.size; obtain ⟨nx1, ny1⟩ := lt_ne (Nat.lt_of_lt_of_le hbl (Nat.le_refl w1.heap.size)); (with_reducible have hq := keep_newD hbv); have j0 := (hq.cell (p := ⟨w.heap.size, 0, none⟩) hbl).trans c0; have jn0 := World.new_ne _ _ j0; have j1 := (hq.cell (p := ⟨w.heap.size, 1, none⟩) hbl).trans c1; have jn1 := World.new_ne _ _ j1))
        | (go_at_call 24; refine (schemeOf_n x y a2 n2 L d2 _ HN2.out (by first | exact hr2 | exact hr2.alloc _) HLM.out HI.out HQ.out HD.out HM.out).mono ?_; rintro e v ⟨sa, sn, sc, rfl, hsn, hsr, hsnil, hbv⟩; have HSN := Lib.hid hsn; have HSX := Lib.hid hsnil; clear hsn hsnil; first | ((with_reducible have hq := keep_same hq hbv); (try (have bal := bal.below hbv; have fz := fun j => bal.free j; have hbl8 := bal.lt; have y0 := bal.cell 0; have y1 := bal.cell 1; have y2 := bal.cell 2; simp at y0 y1 y2)); have j0 := (hq.cell (p := ⟨w.heap.size, 0, none⟩) hbl).trans c0; have jn0 := World.new_ne _ _ j0; have j1 := (hq.cell (p := ⟨w.heap.size, 1, none⟩) hbl).trans c1; have jn1 := World.new_ne _ _ j1) | ((with_reducible have bal := box_new hbv); have fz := fun j => bal.free j; have hbl8 := bal.lt; have y0 := bal.cell 0; have y1 := bal.cell 1; have y2 := bal.cell 2; simp at y0 y1 y2; have hle := hq.size; obtain ⟨nx1, ny1⟩ := lt_ne (Nat.lt_of_lt_of_le hbl hq.size); (with_reducible have hq := keep_new hq hbv); have j0 := (hq.cell (p := ⟨w.heap.size, 0, none⟩) hbl).trans c0; have jn0 := World.new_ne _ _ j0; have j1 := (hq.cell (p := ⟨w.heap.size, 1, none⟩) hbl).trans c1; have jn1 := World.new_ne _ _ j1) | ((with_reducible have bal := box_newD hbv); have fz := fun j => bal.free j; have hbl8 := bal.lt; have y0 := bal.cell 0; have y1 := bal.cell 1; have y2 := bal.cell 2; simp at y0 y1 y2; have hle := Nat.le_refl w1.heap.size; obtain ⟨nx1, ny1⟩ := lt_ne (Nat.lt_of_lt_of_le hbl (Nat.le_refl w1.heap.size)); (with_reducible have hq := keep_newD hbv); have j0 := (hq.cell (p := ⟨w.heap.size, 0, none⟩) hbl).trans c0; have jn0 := World.new_ne _ _ j0; have j1 := (hq.cell (p := ⟨w.heap.size, 1, none⟩) hbl).trans c1; have jn1 := World.new_ne _ _ j1)))
    all_goals
      refine hM9 _ _ ?_
      refine Met.intro ?_
      refine hR9 _ _ ?_
      (repeat apply Exists.intro)
      refine ⟨?_, rfl⟩
    all_goals
      first
        | exact ⟨rfl, sa, sn, sc, HSN, HSX, (sc_fin1 hq hsr q).2⟩
        | exact ⟨rfl, sa, sn, sc, HSN, HSX, (sc_fin2 bal hle hq hsr q).2⟩
  case rest =>
  obtain ⟨rfl, sa, sn, sc, HSN, HSX, b5, rfl, bs, hsr, hq1⟩ := hcut
  rename World => w2
  have hB2 := hB1.trans (hq1.mono (B' := w.heap.size) hB1.size)
  have bx2 := bx1.below hq1
  have hL2 := hL1.below hq1
  clear hq1 hq bx1 hL1 hB1 c0 c1 hbl jn0 jn1
  have c0 := bx2.cell 0; have c1 := bx2.cell 1
  simp at c0 c1
  go_wp2_with fail
  refine (refCheckFo_n x y a L.length L c _ rfl hL2 HLM.out HP.out HQ.out).mono ?_
  rintro e w3 ⟨rfl, hb3⟩
  have hB3 := hB2.trans (hb3.mono (B' := w.heap.size) hB2.size)
  have bx3 := bx2.below hb3; have bs3 := bs.below hb3
  have hL3 := hL2.below hb3; have hsr3 := hsr.below hb3
  clear hb3 hB2 bx2 bs hL2 hsr c0 c1
  have c0 := bx3.cell 0; have c1 := bx3.cell 1
  have d0 := bs3.cell 0; have d1 := bs3.cell 1; have d2 := bs3.cell 2
  have hbl := bx3.lt; have hsl := bs3.lt
  simp at c0 c1 d0 d1 d2
  by_cases he : q = 0
  · subst he
    have s1 : (D1, D2) = (x, y) := by rw [← HD.out]; unfold schemeD; rw [if_pos HQ.out]
    injection s1 with e1 e2
    subst e1 e2
    have HMS : Hid (M = schemeP D1 D2 L) := Lib.hid (by rw [← HM.out]; unfold schemeC; rw [if_pos HQ.out])
    obtain ⟨hs, -, -⟩ := checkFo_ok HQ.out
    obtain ⟨sC, sR, sm⟩ := side_ok hs
    obtain ⟨cn, rfl⟩ : ∃ n : Nat, D1 = n := ⟨D1.toNat, by omega⟩
    obtain ⟨rn, rfl⟩ : ∃ n : Nat, D2 = n := ⟨D2.toNat, by omega⟩
    have hp64 : cn * rn ≤ 64 := Nat.mul_le_mul (show cn ≤ 8 by omega) (show rn ≤ 8 by omega)
    have hcr8 : cn ≤ 8 ∧ rn ≤ 8 := by omega
    have HML : Hid (M.length ≤ 64) := Lib.hid (by rw [HMS.out, schemeP_len]; exact hp64)
    have hq : Below w3.heap.size w3 w3.drew := (Below.refl _ w3).drew
    clear hs sC sR sm
    go_wp2_with fail
    go_region_held3 (fun w' => w'.cell? ⟨w.heap.size, 0, none⟩ = some (.int .i64 cn) ∧ w'.cell? ⟨w.heap.size, 1, none⟩ = some (.int .i64 rn) ∧ w'.cell? ⟨b5, 0, none⟩ = some (.int .i64 cn) ∧ w'.cell? ⟨b5, 1, none⟩ = some (.int .i64 rn) ∧ w'.cell? ⟨b5, 2, none⟩ = some (.slice sa sn sc)) (first | exact ⟨j0, j1, j2, j3, j4⟩ | go_keep)
      (first
        | (go_at_call 27; refine (refSchemeOf_any (cn : Int) (rn : Int) a L c _ (hL3.below hq) HQ.out).mono ?_; rintro e v ⟨ra, rn', rc, rfl, hrn, hrr, -, hbv⟩; have HRN := Lib.hid hrn; clear hrn; have hq := keep_same hq hbv; have j0 := (hq.cell (p := ⟨w.heap.size, 0, none⟩) hbl).trans c0; have jn0 := World.new_ne _ _ j0; have j1 := (hq.cell (p := ⟨w.heap.size, 1, none⟩) hbl).trans c1; have jn1 := World.new_ne _ _ j1; have j2 := (hq.cell (p := ⟨b5, 0, none⟩) hsl).trans d0; have jn2 := World.new_ne _ _ j2; have j3 := (hq.cell (p := ⟨b5, 1, none⟩) hsl).trans d1; have jn3 := World.new_ne _ _ j3; have j4 := (hq.cell (p := ⟨b5, 2, none⟩) hsl).trans d2; have jn4 := World.new_ne _ _ j4)
        | (go_at_call 26; refine (sameSc_n (cn : Int) (rn : Int) M sa ra sn rn' sc rc _ HSN.out (by rw [HMS.out]; exact HRN.out) (hsr3.below hq) (by rw [HMS.out]; exact hrr) (Nat.le_trans HML.out (by unfold maxLen; decide))).mono ?_; rintro e v ⟨rfl, hbv⟩; have hq := keep_same hq hbv; have j0 := (hq.cell (p := ⟨w.heap.size, 0, none⟩) hbl).trans c0; have jn0 := World.new_ne _ _ j0; have j1 := (hq.cell (p := ⟨w.heap.size, 1, none⟩) hbl).trans c1; have jn1 := World.new_ne _ _ j1; have j2 := (hq.cell (p := ⟨b5, 0, none⟩) hsl).trans d0; have jn2 := World.new_ne _ _ j2; have j3 := (hq.cell (p := ⟨b5, 1, none⟩) hsl).trans d1; have jn3 := World.new_ne _ _ j3; have j4 := (hq.cell (p := ⟨b5, 2, none⟩) hsl).trans d2; have jn4 := World.new_ne _ _ j4))
    all_goals
      have hB4 := hB3.trans (hq.mono (B' := w.heap.size) hB3.size)
      have bx4 := bx3.below hq; have bs4 := bs3.below hq
      have hL4 := hL3.below hq; have hsr4 := hsr3.below hq
      clear hq
      have HSR : Hid ((checkSc cn rn M).2 = 0) := Lib.hid (by rw [HMS.out]; exact schemeP_right HQ.out)
      obtain ⟨p1, hp1⟩ : ∃ p1, (checkSc cn rn M).1 = p1 := ⟨_, rfl⟩
      have HP1 := Lib.hid hp1
      clear hp1
      have hpl := pileP_len HQ.out
      rw [Int.toNat_natCast, Int.toNat_natCast] at hpl
      have HRE : Hid (readE cn rn M L = 0) := Lib.hid (by unfold readE; rw [if_pos HSR.out, HQ.out])
      have HRP : Hid (readP cn rn M L = ordP (2 * (cn * rn))) := Lib.hid (by unfold readP; rw [if_pos ⟨HSR.out, HQ.out⟩, HMS.out, rd_ord HQ.out _ (Nat.le_refl _), hpl])
      have HM6 : Hid (M.length ≤ 1000000) := Lib.hid (Nat.le_trans HML.out (by decide))
      clear hpl
      have d0 := bs4.cell 0; have d1 := bs4.cell 1; have d2 := bs4.cell 2
      simp at d0 d1 d2
      go_wp2_with fail
      refine (copySc_n (cn : Int) (rn : Int) sa sn M sc _ HSN.out hsr4 HM6.out HSX.out).mono ?_
      rintro e w5 ⟨a5, n5, e5, rfl, hn5, hr5, -, hb5⟩
      have HN5 := Lib.hid hn5
      have hB5 := hB4.trans (hb5.mono (B' := w.heap.size) hB4.size)
      have bx5 := bx4.below hb5; have bs5 := bs4.below hb5; have hL5 := hL4.below hb5; have hsr5 := hsr4.below hb5
      clear hb5 hB4 bx4 bs4 hL4 hsr4 d0 d1 d2 hn5
      go_wp2_with fail
      refine (scN (cn : Int) (rn : Int) a5 n5 M e5 _ HN5.out hr5 HM6.out HP1.out HSR.out).mono ?_
      rintro e w6 ⟨rfl, hb6⟩
      have hB6 := hB5.trans (hb6.mono (B' := w.heap.size) hB5.size)
      have bx6 := bx5.below hb6; have bs6 := bs5.below hb6; have hL6 := hL5.below hb6; have hsr6 := hsr5.below hb6
      clear hb6 hB5 bx5 bs5 hL5 hsr5 hr5
      have d0 := bs6.cell 0; have d1 := bs6.cell 1; have d2 := bs6.cell 2
      simp at d0 d1 d2
      go_wp2_with fail
      refine (copySc_n (cn : Int) (rn : Int) sa sn M sc _ HSN.out hsr6 HM6.out HSX.out).mono ?_
      rintro e w7 ⟨a7, n7, e7, rfl, hn7, hr7, -, hb7⟩
      have HN7 := Lib.hid hn7
      have hB7 := hB6.trans (hb7.mono (B' := w.heap.size) hB6.size)
      have bx7 := bx6.below hb7; have hL7 := hL6.below hb7
      clear hb7 hB6 bx6 bs6 hL6 hsr6 d0 d1 d2 hn7
      go_wp2_with fail
      refine (folds_any a L.length L c _ rfl hL7 HLL.out HNC.out).mono ?_
      rintro e w8 ⟨v8, rfl, hO8, hb8⟩
      obtain ⟨a8, d8, e8, hr8, -, -, -, -⟩ := hO8.rows fold_l
      obtain ⟨n8, hn8⟩ : ∃ n, n = L.length := ⟨_, rfl⟩
      rw [← hn8] at e8
      subst e8
      have HN8 := Lib.hid hn8
      have hr78 := hr7.below hb8
      have hB8 := hB7.trans (hb8.mono (B' := w.heap.size) hB7.size)
      have bx8 := bx7.below hb8
      clear hn8 hb8 hB7 bx7 hr7 hO8 hL7
      go_wp2_with fail
      refine (reads_n (cn : Int) (rn : Int) a7 n7 M e7 a8 n8 L d8 _ HN7.out hr78 HM6.out HN8.out hr8 HLM.out HI.out HRE.out HRP.out).mono ?_
      rintro e w9 ⟨pa, pn, pc, rfl, hpn, hpr, -, hb9⟩
      have hB9 := hB8.trans (hb9.mono (B' := w.heap.size) hB8.size)
      have bx9 := bx8.below hb9
      rw [ordP_len] at hpn
      have HPN := Lib.hid hpn
      have hw1 : IntKind.i64.wrap (2 * (cn : Int)) = 2 * (cn : Int) := IntWalk.i64_in _ (by omega)
      have hpnI : 2 * (cn : Int) * (rn : Int) = (pn : Int) := by rw [hpn, Int.mul_assoc]; push_cast; rfl
      have hpn2 : pn ≤ 128 := by rw [hpn]; omega
      have hw2 : IntKind.i64.wrap (pn : Int) = (pn : Int) := IntWalk.i64_in _ (by omega)
      have c0 := bx9.cell 0; have c1 := bx9.cell 1
      simp at c0 c1
      clear hb9 hB8 bx8 hr8 hr78 hpn
      go_wp2_with (go_at_call 31; refine (inOrder_any pa pn (2 * (cn * rn)) pc _ HPN.out hpr (by omega)).mono ?_; rintro e v ⟨rfl, hbv⟩; have hB10 := hB9.trans (hbv.mono (B' := w.heap.size) hB9.size))
      go_ret
      exact ⟨rfl, hB10⟩
  · have s1 : (D1, D2) = (0, 0) := by rw [← HD.out]; unfold schemeD; rw [if_neg (by rw [HQ.out]; exact he)]
    injection s1 with e1 e2
    subst e1 e2
    have e1 := HSN.out
    rw [show M = [] by rw [← HM.out]; unfold schemeC; rw [if_neg (by rw [HQ.out]; exact he)]] at e1
    simp at e1
    subst e1
    have heb : (q != 0) = true := by simpa using he
    have hqq : (q == q) = true := by simp
    clear he
    go_wp2_with (go_at_call 25; refine (none_any _ _ _).mono ?_; rintro e v ⟨rfl, hbv⟩; have hB4 := hB3.trans (hbv.mono (B' := w.heap.size) hB3.size))
    go_ret
    exact ⟨rfl, hB4⟩
end Go.Proofs.Ytdnbhjcckhbhaaa
