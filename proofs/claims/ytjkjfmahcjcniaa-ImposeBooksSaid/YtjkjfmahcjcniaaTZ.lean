/-
  The law on books: its walk.
-/
import Derived.Test.YtjkjfmahcjcniaaTH
import Derived.Test.YtjkjfmahcjcniaaIZ
namespace Go.Proofs.Ytjkjfmahcjcniaa
open Go.RowKit

theorem bsig_facts {P S : Int} (hS : 2 ≤ S) (hP : 1 ≤ P) : 1 ≤ sigN P S ∧ P ≤ (sigN P S : Int) * S ∧ (sigN P S : Int) * S < P + S ∧ (sigN P S : Int) ≤ P := by
  have h0 : 0 ≤ (P + S - 1) / S := Int.ediv_nonneg (by omega) (by omega)
  have h1 : (P + S - 1) / S * S ≤ P + S - 1 := Int.ediv_mul_le _ (by omega)
  have h2 : P + S - 1 < ((P + S - 1) / S + 1) * S := Int.lt_ediv_add_one_mul_self _ (by omega)
  have h3 : ((sigN P S : Nat) : Int) = (P + S - 1) / S := by unfold sigN; omega
  rw [← h3] at h0 h1 h2
  rw [Int.add_mul, Int.one_mul] at h2
  generalize (sigN P S) = n at *
  have h4 : (1 : Int) ≤ n := by
    rcases Nat.eq_zero_or_pos n with e | e
    · subst e; simp at h2; omega
    · omega
  refine ⟨by omega, by omega, by omega, ?_⟩
  have h7 : ((n : Int) - 1) * S ≤ P - 1 := by rw [Int.sub_mul, Int.one_mul]; omega
  have h8 : ((n : Int) - 1) * 1 ≤ ((n : Int) - 1) * S := Int.mul_le_mul_of_nonneg_left (by omega) (by omega)
  omega
theorem rangesB {L : List Rng} {n : Nat} (hn : L.length = n) (a1 : Option Addr) (c1 : Nat) (a2 : Option Addr) (c2 : Nat) (w : World) (h1 : RowsAt 2 Rng.l w a1 L) (h2 : RowsAt 2 Rng.l w a2 L) (hl : L.length ≤ maxLen) :
    Calls Try.prog 61 #[.slice a1 n c1, .slice a2 n c2] w fun e w' => e = .returned (.bool true) ∧ Drew w w' := by
  subst hn
  exact (ranges_any a1 L c1 a2 L c2 w h1 h2 hl hl).mono fun _ _ ⟨he, hd⟩ => ⟨by rw [he]; exact ret_bool (by simp), hd⟩
theorem intsB {L : List Int} {n1 n2 : Nat} (e1 : n1 = L.length) (e2 : n2 = L.length) (a1 : Option Addr) (c1 : Nat) (a2 : Option Addr) (c2 : Nat) (w : World) (h1 : RowsAt 1 intL w a1 L) (h2 : RowsAt 1 intL w a2 L) (hl : L.length ≤ maxLen) :
    Calls Try.prog 62 #[.slice a1 n1 c1, .slice a2 n2 c2] w fun e w' => e = .returned (.bool true) ∧ Drew w w' := by
  subst e1; subst e2
  exact (ints_any a1 L c1 a2 L c2 w h1 h2 hl hl).mono fun _ _ ⟨he, hd⟩ => ⟨by rw [he]; exact ret_bool (by simp), hd⟩
set_option maxRecDepth 100000 in
set_option maxHeartbeats 16000000 in
theorem booksLaw_walk (P S : Int) (pa : Option Addr) (pl : List Int) (pc : Nat) (ca : Option Addr) (cl : List Int) (cc : Nat) (w : World) (hp : RowsAt 1 intL w pa pl) (hpl : pl.length ≤ maxLen) (hpn : pa = none → pc = 0) (hc : RowsAt 1 intL w ca cl) (hcl : cl.length ≤ maxLen) (hcn : ca = none → cc = 0)
    (hwp : ∀ x ∈ pl, OkI x) (hwc : ∀ x ∈ cl, OkI x) :
    Calls Try.prog 13 #[.agg #[.int .i64 P, .int .i64 S, .slice pa pl.length pc, .slice ca cl.length cc]] w fun e w' => e = .returned (.bool true) ∧ Below w.heap.size w w' := by
  unfold maxLen at hpl hcl
  go_enter Try.func13, Try.ntmps13
  go_wp2_with fail
  refine (awake_any _).mono ?_
  rintro e w1 ⟨rfl, hb1⟩
  have hB1 := ((Below.refl w.heap.size w).alloc (Nat.le_refl _) (.cells #[.int .i64 P, .int .i64 S, .slice pa pl.length pc, .slice ca cl.length cc] 93)).trans (hb1.mono (B' := w.heap.size) (by simp))
  have bx1 := (BoxAt.new w #[.int .i64 P, .int .i64 S, .slice pa pl.length pc, .slice ca cl.length cc] 93).below hb1
  clear hb1
  have hwl := bx1.lt
  have c0 := bx1.cell 0; have c1 := bx1.cell 1; have c2 := bx1.cell 2; have c3 := bx1.cell 3
  simp at c0 c1 c2 c3
  cases hP5 : inB P 501 4000
  case true =>
    go_wp2_with (go_at_call 42; refine (within_any _ _ _ _).mono ?_; rintro e w' ⟨rfl, rfl⟩)
    go_ret
    exact ⟨rfl, hB1⟩
  by_cases hp45 : 45 < pl.length
  · go_wp2_with (go_at_call 42; refine (within_any _ _ _ _).mono ?_; rintro e w' ⟨rfl, rfl⟩)
    go_ret
    exact ⟨rfl, hB1⟩
  by_cases hc45 : 45 < cl.length
  · have h45I : ¬ (45 : Int) < (pl.length : Int) := by omega
    go_wp2_with (go_at_call 42; refine (within_any _ _ _ _).mono ?_; rintro e w' ⟨rfl, rfl⟩)
    go_ret
    exact ⟨rfl, hB1⟩
  have h45I : ¬ (45 : Int) < (pl.length : Int) := by omega
  have h46I : ¬ (45 : Int) < (cl.length : Int) := by omega
  have HP45 : Hid (pl.length ≤ 45) := Lib.hid (by omega)
  have HC45 : Hid (cl.length ≤ 45) := Lib.hid (by omega)
  have HPM : Hid (pl.length ≤ maxLen ∧ cl.length ≤ maxLen) := Lib.hid (by unfold maxLen; omega)
  have HPN := Lib.hid hpn; have HCN := Lib.hid hcn; have HWP := Lib.hid hwp; have HWC := Lib.hid hwc
  obtain ⟨q1, hq1⟩ : ∃ x, (bookE P S pl cl).1 = x := ⟨_, rfl⟩
  obtain ⟨q, hq⟩ : ∃ x, (bookE P S pl cl).2 = x := ⟨_, rfl⟩
  have HQ1 := Lib.hid hq1; have HQ := Lib.hid hq
  have hp500 : P ≤ 4000 → P ≤ 500 := fun h => by
    by_cases h2 : 501 ≤ P
    · have := inB_iff.2 ⟨h2, h⟩; rw [this] at hP5; cases hP5
    · omega
  have HP500 := Lib.hid hp500
  clear hp45 hc45 hpn hcn hwp hwc hq1 hq hp500 hpl hcl
  go_upto_region 5 with (go_at_call 42; refine (within_any _ _ _ _).mono ?_; rintro e w' ⟨rfl, rfl⟩)
  go_wp2_with fail
  refine (book_any P S pa pl pc ca cl cc _ (hp.below hB1) HP45.out HPN.out (hc.below hB1) HC45.out HCN.out).mono ?_
  rintro e w2 ⟨a2, n2, d2, b2, m2, e2, rfl, hn2, hm2, hr2, hs2, hb2⟩
  have hB2 := hB1.trans (hb2.mono (B' := w.heap.size) hB1.size)
  have bx2 := bx1.below hb2
  subst hn2 hm2
  clear hb2 c0 c1 c2 c3
  go_wp2_with fail
  refine (checkBook_any P S a2 pl d2 b2 cl e2 _ hr2 HPM.out.1 hs2 HPM.out.2).mono ?_
  rintro e w3 ⟨rfl, hb3⟩
  rw [HQ1.out, HQ.out]
  have hB3 := hB2.trans (hb3.mono (B' := w.heap.size) hB2.size)
  have bx3 := bx2.below hb3
  clear hb3 hr2 hs2 bx1 bx2 hB1 hB2 h45I h46I hP5
  have c0 := bx3.cell 0; have c1 := bx3.cell 1; have c2 := bx3.cell 2; have c3 := bx3.cell 3
  simp at c0 c1 c2 c3
  go_wp2_with fail
  refine (book_any P S pa pl pc ca cl cc _ (hp.below hB3) HP45.out HPN.out (hc.below hB3) HC45.out HCN.out).mono ?_
  rintro e w4 ⟨a4, n4, d4, b4, m4, e4, rfl, hn4, hm4, hr4, hs4, hb4⟩
  have hB4 := hB3.trans (hb4.mono (B' := w.heap.size) hB3.size)
  have bx4 := bx3.below hb4
  subst hn4 hm4
  clear hb4 c0 c1 c2 c3
  go_wp2_with fail
  refine (signatures_any P S a4 pl d4 b4 cl e4 _ hr4 HPM.out.1 hs4 HPM.out.2).mono ?_
  rintro e w5 ⟨hb5, h5⟩
  have hB5 := hB4.trans (hb5.mono (B' := w.heap.size) hB4.size)
  have bx5 := bx4.below hb5
  clear hb5 hr4 hs4 bx3 bx4 hB3 hB4
  rw [HQ.out] at h5
  have c0 := bx5.cell 0; have c1 := bx5.cell 1; have c2 := bx5.cell 2; have c3 := bx5.cell 3
  simp at c0 c1 c2 c3
  by_cases hq0 : q = 0
  case neg =>
    obtain ⟨-, rfl⟩ := h5.resolve_right (fun h => hq0 h.1)
    have hbv : Hid (bdV P S pl cl = []) := Lib.hid (by unfold bdV; rw [HQ.out, if_neg hq0])
    go_wp2_with fail
    refine (book_any P S pa pl pc ca cl cc _ (hp.below hB5) HP45.out HPN.out (hc.below hB5) HC45.out HCN.out).mono ?_
    rintro e w6 ⟨a6, n6, d6, b6, m6, e6, rfl, hn6, hm6, hr6, hs6, hb6⟩
    have hB6 := hB5.trans (hb6.mono (B' := w.heap.size) hB5.size)
    have bx6 := bx5.below hb6
    subst hn6 hm6
    clear hb6 c0 c1 c2 c3
    go_wp2_with fail
    refine (bound_any P S a6 pl d6 b6 cl e6 _ hr6 HP45.out hs6 HC45.out HWP.out HWC.out).mono ?_
    rw [HQ.out]
    rintro e w7 ⟨a7, n7, d7, rfl, hn7, hr7, hb7⟩
    rw [hbv.out] at hn7
    have hn7' : n7 = 0 := hn7
    subst hn7'
    have hB7 := hB6.trans (hb7.mono (B' := w.heap.size) hB6.size)
    have bx7 := bx6.below hb7
    clear hb7 hr6 hs6 hr7 bx5 bx6 hB5 hB6 hn7
    have c0 := bx7.cell 0; have c1 := bx7.cell 1; have c2 := bx7.cell 2; have c3 := bx7.cell 3
    simp at c0 c1 c2 c3
    go_wp2_with fail
    refine (refCheckBook_any P S pa pl pc ca cl cc _ (hp.below hB7) HP45.out (hc.below hB7) HC45.out).mono ?_
    rw [HQ1.out, HQ.out]
    rintro e w8 ⟨rfl, hb8⟩
    have hB8 := hB7.trans (hb8.mono (B' := w.heap.size) hB7.size)
    have heb : (q != 0) = true := by simpa using hq0
    have hqq : (q == q) = true := by simp
    have hqn : (q != q) = false := by simp
    have hqn1 : (q1 != q1) = false := by simp
    clear hq0
    go_wp2_with fail
    go_ret
    exact ⟨rfl, hB8⟩
  subst hq0
  obtain ⟨-, a5, n5, d5, rfl, hn5, hr5⟩ := h5.resolve_left (fun h => h.1 rfl)
  obtain ⟨⟨g1, g2⟩, ⟨g3, g4⟩, -⟩ := book_ok HQ.out
  have g5 := HP500.out g2
  obtain ⟨Pn, rfl⟩ : ∃ n : Nat, P = n := ⟨P.toNat, by omega⟩
  have HV : Hid (bdV Pn S pl cl = bdTo pl cl (Pn + 1)) := Lib.hid (by unfold bdV; rw [HQ.out, if_pos rfl, Int.toNat_natCast])
  obtain ⟨sn, hsn⟩ : ∃ n, sigN Pn S = n := ⟨_, rfl⟩
  rw [hsn] at hn5 hr5
  rw [hsn]
  have hsl : (sigTo Pn S sn).length = sn := sigTo_len _ _ _
  rw [hsl] at hn5
  subst hn5
  obtain ⟨f1, f2, f3, f4⟩ := bsig_facts (P := Pn) (S := S) g3 g1
  rw [hsn] at f1 f2 f3 f4
  obtain ⟨EN, hEN⟩ : ∃ EN : Int, (n5 : Int) * S = EN := ⟨_, rfl⟩
  rw [hEN] at f2 f3
  rw [hEN]
  have HEN := Lib.hid hEN; have HSN := Lib.hid hsn; have HSL := Lib.hid hsl
  clear hsn hsl hEN
  go_wp2_with fail
  refine (book_any Pn S pa pl pc ca cl cc _ (hp.below hB5) HP45.out HPN.out (hc.below hB5) HC45.out HCN.out).mono ?_
  rintro e w6 ⟨a6, n6, d6, b6, m6, e6, rfl, hn6, hm6, hr6, hs6, hb6⟩
  have hB6 := hB5.trans (hb6.mono (B' := w.heap.size) hB5.size)
  have bx6 := bx5.below hb6
  subst hn6 hm6
  have hb6x := hb6
  clear hb6 c0 c1 c2 c3
  go_wp2_with fail
  refine (bound_any Pn S a6 pl d6 b6 cl e6 _ hr6 HP45.out hs6 HC45.out HWP.out HWC.out).mono ?_
  rw [HQ.out, HV.out]
  rintro e w7 ⟨a7, n7, d7, rfl, hn7, hr7, hb7⟩
  have hB7 := hB6.trans (hb7.mono (B' := w.heap.size) hB6.size)
  have bx7 := bx6.below hb7
  have hr57 := (hr5.below hb6x).below hb7
  clear hb7 hr6 hs6 hr5 bx5 bx6 hB5 hB6 hb6x
  have c0 := bx7.cell 0; have c1 := bx7.cell 1; have c2 := bx7.cell 2; have c3 := bx7.cell 3
  simp at c0 c1 c2 c3
  go_wp2_with fail
  refine (refCheckBook_any Pn S pa pl pc ca cl cc _ (hp.below hB7) HP45.out (hc.below hB7) HC45.out).mono ?_
  rw [HQ1.out, HQ.out]
  rintro e w8 ⟨rfl, hb8⟩
  have hB8 := hB7.trans (hb8.mono (B' := w.heap.size) hB7.size)
  have bx8 := bx7.below hb8; have hr58 := hr57.below hb8; have hr78 := hr7.below hb8
  clear hb8 bx7 hB7 hr57 hr7 c0 c1 c2 c3
  have c0 := bx8.cell 0; have c1 := bx8.cell 1; have c2 := bx8.cell 2; have c3 := bx8.cell 3
  simp at c0 c1 c2 c3
  have hqn1 : (q1 != q1) = false := by simp
  go_wp2_with fail
  refine (refSignatures_any Pn S pa pl.length pc ca cl.length cc _ g1 g2 g3 g4).mono ?_
  rintro e w9 ⟨a9, n9, d9, rfl, hn9, hr9, hb9⟩
  rw [HSN.out] at hn9 hr9
  rw [HSN.out, HEN.out]
  rw [HSL.out] at hn9
  subst hn9
  have hB9 := hB8.trans (hb9.mono (B' := w.heap.size) hB8.size)
  have bx9 := bx8.below hb9; have hr59 := hr58.below hb9; have hr79 := hr78.below hb9
  clear hb9 bx8 hB8 hr58 hr78 c0 c1 c2 c3
  have c0 := bx9.cell 0; have c1 := bx9.cell 1; have c2 := bx9.cell 2; have c3 := bx9.cell 3
  simp at c0 c1 c2 c3
  obtain ⟨V, hV⟩ : ∃ V, bdTo pl cl (Pn + 1) = V := ⟨_, rfl⟩
  rw [hV] at hr79 hn7
  have HVV := Lib.hid hV
  have hVL : V.length ≤ 30000 := by
    rw [← hV]
    have h1 := bdTo_len pl cl (Pn + 1); have h2 : (Pn + 1) * (1 + pl.length) ≤ 501 * 46 := Nat.mul_le_mul (by omega) (by have := HP45.out; omega)
    omega
  have HVM : Hid (V.length ≤ maxLen) := Lib.hid (by unfold maxLen; omega)
  have HN7 := Lib.hid hn7
  clear hV hn7
  have HSM : Hid ((sigTo Pn S n9).length ≤ maxLen) := Lib.hid (by rw [sigTo_len]; unfold maxLen; omega)
  have HRG := Lib.hid (fun W h1 h2 => rangesB (L := sigTo Pn S n9) (sigTo_len _ _ _) a5 d5 a9 d9 W h1 h2 HSM.out)
  have hee : (EN - (Pn : Int) != EN - (Pn : Int)) = false := by simp
  go_wp2_with fail
  refine (HRG.out _ hr59 hr9).mono ?_
  rintro e w10 ⟨rfl, hd10⟩
  have hb10 : Below w9.heap.size w9 w10 := hd10.below (Below.refl _ _)
  have hB10 := hB9.trans (hb10.mono (B' := w.heap.size) hB9.size)
  have bx10 := bx9.below hb10; have hr510 := hr59.below hb10; have hr710 := hr79.below hb10
  clear hb10 hd10 bx9 hB9 hr59 hr79 hr9 c0 c1 c2 c3
  have c0 := bx10.cell 0; have c1 := bx10.cell 1; have c2 := bx10.cell 2; have c3 := bx10.cell 3
  simp at c0 c1 c2 c3
  go_wp2_with fail
  refine (refBound_any Pn S pa pl pc ca cl cc _ (hp.below hB10) HP45.out (hc.below hB10) HC45.out (by omega)).mono ?_
  rw [HVV.out]
  rintro e w11 ⟨a11, n11, d11, rfl, hn11, hr11, hb11⟩
  have HN11 := Lib.hid hn11
  have hB11 := hB10.trans (hb11.mono (B' := w.heap.size) hB10.size)
  have bx11 := bx10.below hb11; have hr511 := hr510.below hb11; have hr711 := hr710.below hb11
  clear hb11 hn11 bx10 hB10 hr510 hr710 c0 c1 c2 c3
  go_wp2_with fail
  refine (intsB rfl HN11.out a7 d7 a11 d11 _ hr711 hr11 HVM.out).mono ?_
  rintro e w12 ⟨rfl, hd12⟩
  have hb12 : Below w11.heap.size w11 w12 := hd12.below (Below.refl _ _)
  have hB12 := hB11.trans (hb12.mono (B' := w.heap.size) hB11.size)
  have bx12 := bx11.below hb12; have hr512 := hr511.below hb12; have hr712 := hr711.below hb12
  clear hb12 hd12 bx11 hB11 hr511 hr711 hr11
  have hn300 : n9 ≤ 500 := by omega
  have hEN0 : EN ≤ 600 := by omega
  go_wp2_with fail
  go_loopw [14, 15] (fun nx i wr => ∃ (k : Nat) (E F : Int), k ≤ n9 ∧ i = .int .i64 k ∧ nx = .int .i64 (F + 1) ∧ Hid (E = k * S) ∧ 0 ≤ E ∧ E ≤ EN ∧ Hid (F = min E Pn) ∧ 0 ≤ F ∧ F ≤ Pn ∧ Below w12.heap.size w12 wr) (fun _ i _ => n9 - (intOf i).toNat)
  case atStart => exact ⟨0, 0, 0, Nat.zero_le _, rfl, rfl, Lib.hid (by simp), by omega, by omega, Lib.hid (by omega), by omega, by omega, Below.refl _ _⟩
  case round =>
    obtain ⟨k, E, F, hk, rfl, rfl, HE, e0, e1, HF, e2, e3, hB⟩ := hrel
    by_cases hkn : k < n9
    · have hknI : (k : Int) < (n9 : Int) := by omega
      have HE2 : Hid (E + S = ((k + 1 : Nat) : Int) * S) := Lib.hid (by rw [HE.out]; push_cast; rw [Int.add_mul, Int.one_mul])
      have hE3 : E + S ≤ EN := by rw [HE2.out, ← HEN.out]; exact Int.mul_le_mul_of_nonneg_right (by omega) (by omega)
      have hFE : F = E := by rw [HF.out]; omega
      obtain ⟨H, hH⟩ : ∃ H : Int, min (E + S) (Pn : Int) = H := ⟨_, rfl⟩
      have hH1 : E + 1 ≤ H := by omega
      have hH2 : H ≤ E + S := by omega
      have hH3 : H ≤ Pn := by omega
      have HHH : Hid (H = min (E + S) (Pn : Int)) := Lib.hid hH.symm
      obtain ⟨al, ea, hal, l0, l1⟩ := (hr512.below hB).rng (k := k) (by rw [sigTo_len]; exact hkn)
      subst ea
      have eS : ((sigTo Pn S n9)[k]'(by rw [sigTo_len]; exact hkn)) = ⟨E + 1, H⟩ := by unfold sigTo; rw [List.getElem_map, List.getElem_range, ← HE.out, hH]
      rw [eS] at l0 l1
      simp only at l0 l1
      clear eS hH
      subst hFE
      have bxr := bx12.below hB
      have c1 := bxr.cell 1
      simp at c1
      have d1 : ¬ H < F + 1 := by omega
      have d2 : ¬ S ≤ H - (F + 1) := by omega
      go_wp2_with fail
      go_quiet (fail)
      clear d1 d2
      have l1' := l1
      have hw1 : IntKind.i64.wrap (H - (F + 1)) = H - (F + 1) := IntWalk.i64_in _ (by omega)
      go_wp2_with fail
      go_roundw
      case rel => exact ⟨k + 1, F + S, H, by omega, by go_num, rfl, HE2, by omega, hE3, HHH, by omega, hH3, below_drewN hB _⟩
      case measure => simp [intOf]; omega
    · have hkE : k = n9 := by omega
      have hkI : ¬ (k : Int) < (n9 : Int) := by omega
      have hFP : F = Pn := by
        have h1 : E = EN := by rw [HE.out, hkE, HEN.out]
        rw [HF.out]; omega
      subst hFP
      clear hkE
      have bx13 := bx12.below hB; have hr713 := hr712.below hB
      have hB13 := hB12.trans (hB.mono (B' := w.heap.size) hB12.size)
      obtain ⟨w13, hw13⟩ : ∃ w13, w13 = wr := ⟨_, rfl⟩
      rw [← hw13] at bx13 hr713 hB13
      go_wp2_with fail
      rw [← hw13]
      clear hw13 hB HF HE
      go_loopw [16, 17, 18] (fun pg pt i wr => ∃ k : Nat, k ≤ V.length ∧ i = .int .i64 k ∧ pg = .int .i64 (nonP (V.take k) : Nat) ∧ pt = .int .i64 (nonM (V.take k) : Nat) ∧ Below w13.heap.size w13 wr) (fun _ _ i _ => V.length - (intOf i).toNat)
      case atStart => exact ⟨0, Nat.zero_le _, rfl, rfl, rfl, Below.refl _ _⟩
      case round =>
        obtain ⟨k, hk, rfl, rfl, rfl, hB⟩ := hrel
        obtain ⟨A, hA⟩ : ∃ A, nonP (V.take k) = A := ⟨_, rfl⟩
        obtain ⟨M, hM⟩ : ∃ M, nonM (V.take k) = M := ⟨_, rfl⟩
        have hAl : A ≤ 30000 := by rw [← hA]; exact Nat.le_trans (List.countP_le_length) (by rw [List.length_take]; omega)
        have hMl : M ≤ 30000 := by rw [← hM]; exact Nat.le_trans (List.countP_le_length) (by rw [List.length_take]; omega)
        rw [hA, hM]
        by_cases hkl : k < V.length
        · have hkI : (k : Int) < ((n7 : Nat) : Int) := by have := HN7.out; omega
          obtain ⟨ad, rfl, had, s0⟩ := (hr713.below hB).int hkl
          obtain ⟨x, ex⟩ : ∃ x, x = V[k] := ⟨_, rfl⟩
          rw [← ex] at s0
          have htk : V.take (k + 1) = V.take k ++ [x] := by rw [ex]; exact List.take_succ_eq_append_getElem hkl
          by_cases hx : x = -1
          · have HP1 : Hid (nonP (V.take (k + 1)) = A ∧ nonM (V.take (k + 1)) = M + 1) := Lib.hid (by
              rw [htk, nonP_app, nonM_app, hA, hM, hx]; exact ⟨rfl, rfl⟩)
            clear ex htk hA hM
            subst hx
            go_wp2_with fail
            go_roundw
            case rel => exact ⟨k + 1, by omega, by go_num, by rw [HP1.out.1], by rw [HP1.out.2]; push_cast; rfl, hB⟩
            case measure => simp [intOf]; omega
          · have HP1 : Hid (nonP (V.take (k + 1)) = A + 1 ∧ nonM (V.take (k + 1)) = M) := Lib.hid (by
              rw [htk, nonP_app, nonM_app, hA, hM]
              have e1 : nonP [x] = 1 := by unfold nonP; simp [hx]
              have e2 : nonM [x] = 0 := by unfold nonM; simp [hx]
              rw [e1, e2]; exact ⟨rfl, rfl⟩)
            have hbd : x = if hasB cl ((A + 1 : Nat) : Int) = true then 0 else ((A + 1 : Nat) : Int) := by
              have h1 := HVV.out
              subst h1
              have := bd_at pl cl _ k hkl (by rw [← ex]; exact hx)
              rw [hA, ← ex] at this; exact this
            have hpc : ((A + 1 : Nat) : Int) = (A : Int) + 1 := by push_cast; rfl
            rw [hpc] at hbd
            have hcr := hc.below (hB13.trans (hB.mono (B' := w.heap.size) hB13.size))
            have bxr := bx13.below hB
            have c3 := bxr.cell 3
            simp at c3
            have hxb : (x == -1) = false := by simpa using hx
            clear ex htk hA hM hpc
            cases hh : hasB cl ((A : Int) + 1)
            · rw [hh, if_neg (by simp)] at hbd
              subst hbd
              have hxx : ((A : Int) + 1 != (A : Int) + 1) = false := by simp
              go_wp2_with fail
              go_roundw
              case rel => exact ⟨k + 1, by omega, by go_num, by rw [HP1.out.1]; push_cast; rfl, by rw [HP1.out.2], hB⟩
              case measure => simp [intOf]; omega
            · rw [hh, if_pos rfl] at hbd
              subst hbd
              have hne0 : ((0 : Int) != (A : Int) + 1) = true := by simp; omega
              go_wp2_with (go_at_call 23; refine (has_any ca cl cl.length cc ((A : Int) + 1) _ hcr rfl HPM.out.2).mono ?_; rintro e w' ⟨rfl, rfl⟩; rw [hh])
              go_roundw
              case rel => exact ⟨k + 1, by omega, by go_num, by rw [HP1.out.1]; push_cast; rfl, by rw [HP1.out.2], hB⟩
              case measure => simp [intOf]; omega
        · have hkE : k = V.length := by omega
          have hkI : ¬ (k : Int) < ((n7 : Nat) : Int) := by have := HN7.out; omega
          have hAP : A = Pn := by rw [← hA, hkE, List.take_length, ← HVV.out]; exact nonP_bd pl cl Pn
          have hMP : M = pl.length := by rw [← hM, hkE, List.take_length, ← HVV.out, nonM_bd]; exact book_plates HQ.out
          subst hAP hMP
          have bxr := bx13.below hB
          have c0 := bxr.cell 0; have c1 := bxr.cell 1; have c2 := bxr.cell 2
          simp at c0 c1 c2
          have hin : inB (EN - (A : Int)) 0 (S - 1) = true := inB_iff.2 (by omega)
          clear hkE hA hM
          go_wp2_with (go_at_call 42; refine (within_any _ _ _ _).mono ?_; rintro e w' ⟨rfl, rfl⟩; rw [hin])
          go_ret
          exact ⟨rfl, hB13.trans (hB.mono (B' := w.heap.size) hB13.size)⟩
end Go.Proofs.Ytjkjfmahcjcniaa
