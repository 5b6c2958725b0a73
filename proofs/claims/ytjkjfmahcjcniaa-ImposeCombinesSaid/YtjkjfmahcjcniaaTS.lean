/-
  The law on schemes printed on both halves: its walk.
-/
import Derived.Test.YtjkjfmahcjcniaaTD
import Derived.Test.YtjkjfmahcjcniaaTQ
import Derived.Test.YtjkjfmahcjcniaaTR
import Derived.Test.YtjkjfmahcjcniaaTX
import Derived.Test.YtjkjfmahcjcniaaYD
namespace Go.Proofs.Ytjkjfmahcjcniaa
open Go.RowKit

theorem comb_n (C R : Int) (a : Option Addr) (n : Nat) (L : List Cell) (c : Nat) (b : Bool) (w : World) (hn : n = L.length) (hL : RowsAt 4 Cell.l w a L) (hl : L.length ≤ 1000000) {q : Int} {D : Int × Int} {V : List Page} (h1 : cbErr C R L b = q) (h2 : cbD C R L b = D) (h3 : cbL C R L b = V) :
    Calls Try.prog 48 #[.agg #[.int .i64 C, .int .i64 R, .slice a n c], .bool b] w (CombPost w (.int .i64 q) D V) := by
  subst hn; rw [← h1, ← h2, ← h3]; exact combined_any C R a L c b w hL hl
theorem twC_n (C R : Int) (a : Option Addr) (n : Nat) (L : List Page) (c : Nat) (b : Bool) (w : World) (hn : n = L.length) (hL : RowsAt 2 Page.l w a L) (hl : L.length ≤ 1000000) {D : Int × Int} {X : List Cell} (h1 : twErr C R L = 0) (h2 : twD C R L = D) (h3 : twL C R L b = X) :
    Calls Try.prog 50 #[.agg #[.int .i64 C, .int .i64 R, .slice a n c], .bool b] w fun e w' => ∃ (a : Option Addr) (n c : Nat), e = .returned (.tuple #[.agg #[.int .i64 D.1, .int .i64 D.2, .slice a n c], .int .i64 0]) ∧ n = X.length ∧ RowsAt 4 Cell.l w' a X ∧ (a = none → c = 0) ∧ Below w.heap.size w w' := by
  subst hn
  have h := printedTwice_any C R a L c b w hL hl
  unfold TwPost at h
  rw [h1, h2, h3] at h
  exact h
theorem hvC_n (C R : Int) (a : Option Addr) (n : Nat) (L : List Cell) (c : Nat) (b : Bool) (w : World) (hn : n = L.length) (hL : RowsAt 4 Cell.l w a L) (hl : L.length ≤ 1000000) {q : Int} {D : Int × Int} {H1 H2 : List Cell} (h1 : hvErr C R L b = q) (h2 : hvD C R L b = D) (h3 : hv1 C R L b = H1) (h4 : hv2 C R L b = H2) :
    Calls Try.prog 51 #[.agg #[.int .i64 C, .int .i64 R, .slice a n c], .bool b] w (HalvesPost w q D H1 H2) := by
  subst hn; rw [← h1, ← h2, ← h3, ← h4]; exact halves_any C R a L c b w hL hl
set_option maxRecDepth 100000 in
set_option maxHeartbeats 16000000 in
theorem combines_walk (C R : Int) (a : Option Addr) (L : List Cell) (c : Nat) (b : Bool) (w : World) (hL : RowsAt 4 Cell.l w a L) (hl : L.length ≤ maxLen) (hn : a = none → c = 0) :
    Calls Try.prog 10 #[.agg #[.int .i64 C, .int .i64 R, .slice a L.length c], .bool b] w fun e w' => e = .returned (.bool true) ∧ Below w.heap.size w w' := by
  unfold maxLen at hl
  go_enter Try.func10, Try.ntmps10
  go_wp2_with fail
  refine (awake_any _).mono ?_
  rintro e w1 ⟨rfl, hb1⟩
  have hB1 := ((Below.refl w.heap.size w).alloc (Nat.le_refl _) (.cells #[.int .i64 C, .int .i64 R, .slice a L.length c] 43)).trans (hb1.mono (B' := w.heap.size) (by simp))
  have bx1 := (BoxAt.new w #[.int .i64 C, .int .i64 R, .slice a L.length c] 43).below hb1
  clear hb1
  have c0 := bx1.cell 0; have c1 := bx1.cell 1; have c2 := bx1.cell 2
  simp at c0 c1 c2
  go_wp2_with fail
  refine (light_any C R a L.length c _).mono ?_
  rintro e w2 ⟨rfl, hb2⟩
  have bx2 := bx1.below hb2
  have hB2 := hB1.trans (hb2.mono (B' := w.heap.size) hB1.size)
  clear hb2 bx1 hB1 c0 c1 c2
  have c0 := bx2.cell 0; have c1 := bx2.cell 1; have c2 := bx2.cell 2
  simp at c0 c1 c2
  by_cases h40 : L.length ≤ 40
  case neg =>
    have hd : decide (L.length ≤ 40) = false := by simpa using h40
    go_wp2_with fail
    go_ret
    exact ⟨rfl, hB2⟩
  have hd : decide (L.length ≤ 40) = true := by simpa using h40
  obtain ⟨q, hq⟩ : ∃ q, cbErr C R L b = q := ⟨_, rfl⟩
  obtain ⟨D, hD⟩ : ∃ D, cbD C R L b = D := ⟨_, rfl⟩
  obtain ⟨V, hV⟩ : ∃ V, cbL C R L b = V := ⟨_, rfl⟩
  obtain ⟨p1, hp1⟩ : ∃ x, (checkSc C R L).1 = x := ⟨_, rfl⟩
  obtain ⟨p2, hp2⟩ : ∃ x, (checkSc C R L).2 = x := ⟨_, rfl⟩
  obtain ⟨D1, D2⟩ := D
  have HQ := Lib.hid hq; have HD := Lib.hid hD; have HV := Lib.hid hV; have HP1 := Lib.hid hp1; have HP2 := Lib.hid hp2
  have HVL : Hid (V.length ≤ 64) := Lib.hid (by rw [← hV]; exact cbL_len C R L b)
  have HL6 : Hid (L.length ≤ 1000000) := Lib.hid (by omega)
  have HLM : Hid (L.length ≤ maxLen) := Lib.hid (by unfold maxLen; omega)
  have HNC := Lib.hid hn
  have HCK := Lib.hid (fun W h => refCheckScheme_any C R a L c W h HL6.out)
  rw [hp1, hp2] at HCK
  clear hq hD hV hp1 hp2 hn
  go_wp2_with fail
  refine (copySc2 C R a L.length L c _ rfl (hL.below hB2) HL6.out HNC.out).mono ?_
  rintro e w3 ⟨a3, n3, d3, rfl, hn3, hr3, -, hb3⟩
  have HN3 := Lib.hid hn3
  have bx3 := bx2.below hb3
  have hB3 := hB2.trans (hb3.mono (B' := w.heap.size) hB2.size)
  clear hb3 bx2 hB2 c0 c1 c2 hn3 hd
  go_wp2_with fail
  refine (comb_n C R a3 n3 L d3 b _ HN3.out hr3 HL6.out HQ.out HD.out HV.out).mono ?_
  rintro e w4 ⟨a4, n4, d4, rfl, hn4, hr4, hc4, hb4⟩
  have HN4 := Lib.hid hn4
  have bx4 := bx3.below hb4
  have hB4 := hB3.trans (hb4.mono (B' := w.heap.size) hB3.size)
  clear hb4 bx3 hB3 hn4 hr3 hc4
  obtain ⟨w5, hw5⟩ : ∃ w5, w5 = w4.alloc (.cells #[.int .i64 D1, .int .i64 D2, .slice a4 n4 d4] 56) := ⟨_, rfl⟩
  have hA5 : Below w4.heap.size w4 w5 := by rw [hw5]; exact (Below.refl _ _).alloc (Nat.le_refl _) _
  obtain ⟨g5, hg5⟩ : ∃ g, g = w4.heap.size := ⟨_, rfl⟩
  have bv5 : BoxAt w5 g5 #[.int .i64 D1, .int .i64 D2, .slice a4 n4 d4] 56 := by rw [hw5, hg5]; exact BoxAt.new _ _ _
  have bx5 := bx4.below hA5; have hr45 := hr4.below hA5
  have hB5 := hB4.trans (hA5.mono (B' := w.heap.size) hB4.size)
  have c0 := bx4.cell 0; have c1 := bx4.cell 1; have c2 := bx4.cell 2
  simp at c0 c1 c2
  have hbl := bx4.lt
  have HW5 := Lib.hid hw5; have HG5 := Lib.hid hg5
  clear hw5 hg5 hA5 hr4
  go_wp2_with fail
  rw [← HW5.out, ← HG5.out]
  refine (HCK.out _ (hL.below hB5)).mono ?_
  rintro e w6 ⟨rfl, hb6⟩
  have bx6 := bx5.below hb6; have bv6 := bv5.below hb6; have hr46 := hr45.below hb6
  have hB6 := hB5.trans (hb6.mono (B' := w.heap.size) hB5.size)
  clear hb6 bx5 bv5 hr45 hB5 bx4 hB4 c0 c1 c2 hbl
  have e0 := bv6.cell 0; have e1 := bv6.cell 1; have e2 := bv6.cell 2
  simp at e0 e1 e2
  by_cases he : p2 = 0
  case neg =>
    have hqp : q = p2 := by rw [← HQ.out]; unfold cbErr; rw [HP2.out, if_pos he]
    subst hqp
    have s1 : (D1, D2) = (0, 0) := by rw [← HD.out]; unfold cbD; rw [if_neg (by rw [HQ.out]; exact he)]
    injection s1 with s1 s2
    subst s1 s2
    have s3 : n4 = 0 := by rw [HN4.out, ← HV.out]; unfold cbL; rw [if_neg (by rw [HQ.out]; exact he)]; rfl
    subst s3
    have heb : (q != 0) = true := by simpa using he
    have hqq : (q == q) = true := by simp
    clear he
    go_wp2_with (go_at_call 36; refine (noView_any _ _ _).mono ?_; rintro e v ⟨rfl, hbv⟩; have hB7 := hB6.trans (hbv.mono (B' := w.heap.size) hB6.size))
    go_ret
    exact ⟨rfl, hB7⟩
  subst he
  have hnat : ∃ cn rn : Nat, C = cn ∧ R = rn := by
    have h : cellsErr C R L.length = 0 := by
      have h' := HP2.out
      unfold checkSc at h'
      by_cases h1 : cellsErr C R L.length = 0
      · exact h1
      · rw [if_pos h1] at h'; exact absurd h' h1
    obtain ⟨hs, -⟩ := cells_ok h
    obtain ⟨sC, sR, -⟩ := side_ok hs
    exact ⟨C.toNat, R.toNat, by omega, by omega⟩
  obtain ⟨cn, rn, rfl, rfl⟩ := hnat
  have c0 := bx6.cell 0; have c1 := bx6.cell 1; have c2 := bx6.cell 2
  simp at c0 c1 c2
  go_wp2_with fail
  refine (refCombined_any cn rn a L c b _ (hL.below hB6) HL6.out HP2.out (sc_bits HP2.out)).mono ?_
  rw [HQ.out, HD.out, HV.out]
  rintro e w7 ⟨a7, n7, d7, rfl, hn7, hr7, hc7, hb7⟩
  have HN7 := Lib.hid hn7
  have bx7 := bx6.below hb7; have bv7 := bv6.below hb7; have hr47 := hr46.below hb7
  have hB7 := hB6.trans (hb7.mono (B' := w.heap.size) hB6.size)
  have hsz7 := bv7.lt
  clear hb7 bx6 bv6 hr46 hB6 hn7 hc7 c0 c1 c2 e0 e1 e2
  obtain ⟨w8, hw8⟩ : ∃ w8, w8 = w7.alloc (.cells #[.int .i64 D1, .int .i64 D2, .slice a7 n7 d7] 56) := ⟨_, rfl⟩
  have hA8 : Below w7.heap.size w7 w8 := by rw [hw8]; exact (Below.refl _ _).alloc (Nat.le_refl _) _
  obtain ⟨g8, hg8⟩ : ∃ g, g = w7.heap.size := ⟨_, rfl⟩
  have bt8 : BoxAt w8 g8 #[.int .i64 D1, .int .i64 D2, .slice a7 n7 d7] 56 := by rw [hw8, hg8]; exact BoxAt.new _ _ _
  have bx8 := bx7.below hA8; have bv8 := bv7.below hA8; have hr48 := hr47.below hA8; have hr78 := hr7.below hA8
  have hB8 := hB7.trans (hA8.mono (B' := w.heap.size) hB7.size)
  have HW8 := Lib.hid hw8; have HG8 := Lib.hid hg8
  clear hw8 hg8 hA8 hr7 hr47
  by_cases hq0 : q = 0
  case neg =>
    have hq8 : q = 8 := by
      have h := HQ.out
      unfold cbErr at h
      rw [HP2.out, if_neg (by simp)] at h
      by_cases h1 : sideErr (cC (cn : Int).toNat b : Nat) (cR (rn : Int).toNat b : Nat) = 0
      · rw [if_neg (fun hh => hh h1)] at h; exact absurd h.symm hq0
      · rw [if_pos h1] at h; exact h.symm
    subst hq8
    have s1 : (D1, D2) = (0, 0) := by rw [← HD.out]; unfold cbD; rw [if_neg (by rw [HQ.out]; decide)]
    injection s1 with s1 s2
    subst s1 s2
    have s3 : n4 = 0 := by rw [HN4.out, ← HV.out]; unfold cbL; rw [if_neg (by rw [HQ.out]; decide)]; rfl
    subst s3
    have hqb : ((8 : Int) == 0) = false := rfl
    clear hq0
    go_upto_region 11 with fail
    rw [← HW8.out]
    have e0 := bv8.cell 0; have e1 := bv8.cell 1; have e2 := bv8.cell 2
    simp at e0 e1 e2
    go_wp2_with (go_at_call 36; refine (noView_any _ _ _).mono ?_; rintro e v ⟨rfl, hbv⟩; have hB9 := hB8.trans (hbv.mono (B' := w.heap.size) hB8.size))
    go_ret
    exact ⟨rfl, hB9⟩
  subst hq0
  obtain ⟨t1, t2, t3, t4, t5, t6⟩ := cb_right HP2.out HQ.out
  have hDD : (D1, D2) = (((cC cn b : Nat) : Int), ((cR rn b : Nat) : Int)) := by rw [← HD.out]; unfold cbD; rw [if_pos HQ.out, Int.toNat_natCast, Int.toNat_natCast]
  injection hDD with s1 s2
  subst s1 s2
  have hVV : V = cbAll cn rn b L := by rw [← HV.out]; unfold cbL; rw [if_pos HQ.out, Int.toNat_natCast, Int.toNat_natCast]
  rw [← hVV] at t1 t2 t3 t4 t5 t6
  obtain ⟨X, hX⟩ : ∃ X, twL (cC cn b : Nat) (cR rn b : Nat) V b = X := ⟨_, rfl⟩
  rw [hX] at t3 t4 t5 t6
  have T1 := Lib.hid t1; have T2 := Lib.hid t2; have T3 := Lib.hid t3; have T4 := Lib.hid t4; have T5 := Lib.hid t5; have T6 := Lib.hid t6; have HX := Lib.hid hX
  have HXL : Hid (X.length ≤ 1000000) := Lib.hid (by
    rw [← hX]; unfold twL
    rw [if_pos t1, twTo_len (Nat.le_refl _)]; have := HVL.out; omega)
  clear t1 t2 t3 t4 t5 t6 hVV hX
  have hqb : ((0 : Int) == 0) = true := rfl
  go_upto_region 12 with fail
  rw [← HW8.out, ← HG8.out]
  have e0 := bv8.cell 0; have e1 := bv8.cell 1; have e2 := bv8.cell 2
  have f0 := bt8.cell 0; have f1 := bt8.cell 1; have f2 := bt8.cell 2
  simp at e0 e1 e2 f0 f1 f2
  clear bx7 bv7 hB7 hsz7
  go_wp2_with fail
  refine (sameVw2 _ _ V a4 a7 n4 n7 d4 d7 _ HN4.out HN7.out hr48 hr78 (Nat.le_trans HVL.out (by unfold maxLen; decide))).mono ?_
  rintro e w9 ⟨rfl, hb9⟩
  have bx9 := bx8.below hb9; have bv9 := bv8.below hb9; have hr49 := hr48.below hb9
  have hB9 := hB8.trans (hb9.mono (B' := w.heap.size) hB8.size)
  clear hb9 bx8 bv8 bt8 hr48 hr78 hB8 e0 e1 e2 f0 f1 f2
  have e0 := bv9.cell 0; have e1 := bv9.cell 1; have e2 := bv9.cell 2
  simp at e0 e1 e2
  go_wp2_with fail
  refine (twC_n _ _ a4 n4 V d4 b _ HN4.out hr49 (Nat.le_trans HVL.out (by decide)) T1.out T2.out HX.out).mono ?_
  rintro e w10 ⟨a10, n10, d10, rfl, hn10, hr10, -, hb10⟩
  have HN10 := Lib.hid hn10
  have bx10 := bx9.below hb10
  have hB10 := hB9.trans (hb10.mono (B' := w.heap.size) hB9.size)
  clear hb10 hn10 bx9 bv9 hr49 hB9 e0 e1 e2
  obtain ⟨w11, hw11⟩ : ∃ w11, w11 = w10.alloc (.cells #[.int .i64 (cC cn b : Nat), .int .i64 (cR rn b : Nat), .slice a10 n10 d10] 43) := ⟨_, rfl⟩
  have hA11 : Below w10.heap.size w10 w11 := by rw [hw11]; exact (Below.refl _ _).alloc (Nat.le_refl _) _
  obtain ⟨g11, hg11⟩ : ∃ g, g = w10.heap.size := ⟨_, rfl⟩
  have bs11 : BoxAt w11 g11 #[.int .i64 (cC cn b : Nat), .int .i64 (cR rn b : Nat), .slice a10 n10 d10] 43 := by rw [hw11, hg11]; exact BoxAt.new _ _ _
  have bx11 := bx10.below hA11; have hr11 := hr10.below hA11
  have hB11 := hB10.trans (hA11.mono (B' := w.heap.size) hB10.size)
  have HW11 := Lib.hid hw11; have HG11 := Lib.hid hg11
  clear hw11 hg11 hA11 hr10
  go_upto_region 15 with fail
  rw [← HW11.out, ← HG11.out]
  have e0 := bs11.cell 0; have e1 := bs11.cell 1; have e2 := bs11.cell 2
  simp at e0 e1 e2
  go_wp2_with fail
  refine (hvC_n _ _ a10 n10 X d10 b _ HN10.out hr11 HXL.out T3.out T4.out T5.out T6.out).mono ?_
  rintro e w12 ⟨a12, n12, d12, a13, n13, d13, rfl, hn12, hn13, hr12, hr13, -, -, hb12⟩
  have HN12 := Lib.hid hn12; have HN13 := Lib.hid hn13
  have bx12 := bx11.below hb12
  have hB12 := hB11.trans (hb12.mono (B' := w.heap.size) hB11.size)
  clear hb12 hn12 hn13 bx11 bs11 hr11 hB11 bx10 hB10 e0 e1 e2
  obtain ⟨w13, hw13⟩ : ∃ w13, w13 = w12.alloc (.cells #[.int .i64 cn, .int .i64 rn, .slice a12 n12 d12, .int .i64 cn, .int .i64 rn, .slice a13 n13 d13] 80) := ⟨_, rfl⟩
  have hA13 : Below w12.heap.size w12 w13 := by rw [hw13]; exact (Below.refl _ _).alloc (Nat.le_refl _) _
  obtain ⟨g13, hg13⟩ : ∃ g, g = w12.heap.size := ⟨_, rfl⟩
  have bg13 : BoxAt w13 g13 #[.int .i64 cn, .int .i64 rn, .slice a12 n12 d12, .int .i64 cn, .int .i64 rn, .slice a13 n13 d13] 80 := by rw [hw13, hg13]; exact BoxAt.new _ _ _
  have bx13 := bx12.below hA13; have hr1213 := hr12.below hA13; have hr1313 := hr13.below hA13
  have hB13 := hB12.trans (hA13.mono (B' := w.heap.size) hB12.size)
  have HW13 := Lib.hid hw13; have HG13 := Lib.hid hg13
  clear hw13 hg13 hA13 bx12 hr12 hr13 hB12
  go_upto_region 16 with fail
  rw [← HW13.out, ← HG13.out]
  have e0 := bg13.cell 0; have e1 := bg13.cell 1; have e2 := bg13.cell 2
  have c0 := bx13.cell 0; have c1 := bx13.cell 1; have c2 := bx13.cell 2
  simp at e0 e1 e2 c0 c1 c2
  go_wp2_with fail
  refine (sameSc2 cn rn L a12 a n12 L.length d12 c _ HN12.out rfl hr1213 (hL.below hB13) HLM.out).mono ?_
  rintro e w14 ⟨rfl, hb14⟩
  have bg14 := bg13.below hb14; have bx14 := bx13.below hb14; have hr1314 := hr1313.below hb14
  have hB14 := hB13.trans (hb14.mono (B' := w.heap.size) hB13.size)
  clear hb14 bg13 bx13 hr1213 hr1313 hB13 e0 e1 e2 c0 c1 c2
  have e0 := bg14.cell 3; have e1 := bg14.cell 4; have e2 := bg14.cell 5
  have c0 := bx14.cell 0; have c1 := bx14.cell 1; have c2 := bx14.cell 2
  simp at e0 e1 e2 c0 c1 c2
  go_wp2_with fail
  refine (sameSc2 cn rn L a13 a n13 L.length d13 c _ HN13.out rfl hr1314 (hL.below hB14) HLM.out).mono ?_
  rintro e w15 ⟨rfl, hb15⟩
  have hB15 := hB14.trans (hb15.mono (B' := w.heap.size) hB14.size)
  go_wp2_with fail
  go_ret
  exact ⟨rfl, hB15⟩
end Go.Proofs.Ytjkjfmahcjcniaa
