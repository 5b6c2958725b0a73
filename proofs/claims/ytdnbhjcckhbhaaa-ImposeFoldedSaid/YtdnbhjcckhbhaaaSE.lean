/-
  The reference's scheme of folds.
-/
import Derived.Test.YtdnbhjcckhbhaaaRI
import Derived.Test.YtdnbhjcckhbhaaaRJ
import Derived.Test.YtdnbhjcckhbhaaaIR
namespace Go.Proofs.Ytdnbhjcckhbhaaa
open Go.RowKit

def SchemePost2 (w : World) (C R : Int) (M : List Cell) (e : Ending) (w' : World) : Prop :=
  ∃ (a : Option Addr) (n c : Nat), e = .returned (.agg #[.int .i64 C, .int .i64 R, .slice a n c]) ∧ n = M.length ∧ RowsAt 4 Cell.l w' a M ∧ (a = none → c = 0) ∧ Below w.heap.size w w'
structure ScEnv (w : World) (cn rn N g q : Nat) (M : List Cell) (wr : World) : Prop where
  bs : BoxAt wr w.heap.size #[.int .i64 cn, .int .i64 rn] 22
  br : BoxAt wr (w.heap.size + 1) #[.int .i64 0, .int .i64 0, .slice none 0 0] 43
  bv : BoxAt wr g #[.int .i64 cn, .int .i64 rn, .slice (some ⟨q, 0, none⟩) N N] 43
  own : OwnR 4 91 Cell.l wr (w.heap.size + 2) (.slice (some ⟨q, 0, none⟩) N N) M
  ne : ¬ g = q
  hg : w.heap.size + 2 ≤ g
  hq : w.heap.size + 2 ≤ q
  low : Below w.heap.size w wr
theorem ScEnv.below {w : World} {cn rn N g q : Nat} {M : List Cell} {wr w1 : World} (h : ScEnv w cn rn N g q M wr) (hb : Below wr.heap.size wr w1) : ScEnv w cn rn N g q M w1 :=
  ⟨h.bs.below hb, h.br.below hb, h.bv.below hb, h.own.below hb, h.ne, h.hg, h.hq, h.low.trans (hb.mono h.low.size)⟩
/-- The leaves of a pile, known by their type. -/
def PilePost3 (w : World) (M : List Leaf) (e : Ending) (w' : World) : Prop :=
  ∃ (a : Option Addr) (n c : Nat), e = .returned (.slice a n c) ∧ n = M.length ∧ LRow w' ⟨a, c, M⟩ ∧ Below w.heap.size w w'
set_option maxRecDepth 100000 in
set_option maxHeartbeats 4000000 in
theorem refPileT_any (C R : Int) (a : Option Addr) (L : List Fold) (c : Nat) (w : World) (hL : RowsAt 2 Fold.l w a L) (h0 : (checkFo C R L).2 = 0) :
    Calls Try.prog 22 #[.agg #[.int .i64 C, .int .i64 R], .slice a L.length c] w (PilePost3 w (pileP C R L)) := by
  obtain ⟨h1, h12, h3⟩ := checkFo_ok h0
  obtain ⟨sC, sR, sm⟩ := side_ok h1
  obtain ⟨cn, rfl⟩ : ∃ n : Nat, C = n := ⟨C.toNat, by omega⟩
  obtain ⟨rn, rfl⟩ : ∃ n : Nat, R = n := ⟨R.toNat, by omega⟩
  have HCR : Hid ((1 ≤ cn ∧ cn ≤ 8) ∧ (1 ≤ rn ∧ rn ≤ 8)) := Lib.hid (by omega)
  have HLL : Hid (L.length ≤ 100) := Lib.hid (by omega)
  have HFE : Hid ((foldsErr cn rn L 0).2 = 0) := Lib.hid h3
  have hB := (Below.refl w.heap.size w).alloc (Nat.le_refl _) (.cells #[.int .i64 cn, .int .i64 rn] 22)
  have hL1 := hL.alloc (.cells #[.int .i64 cn, .int .i64 rn] 22)
  clear h0 h1 h12 h3 sC sR sm
  go_enter Try.func22, Try.ntmps22
  go_wp2_with fail
  refine (refFolded_any cn rn a L c _ HCR.out.1 HCR.out.2 hL1 HLL.out).mono ?_
  rintro e w2 ⟨C', R', A, n, cp, Ps, i, s, rfl, hO, hb2, hPO, hC8, hR8, hs1, hs2⟩
  have hB2 := hB.trans (hb2.mono (B' := w.heap.size) hB.size)
  have hn := hO.heap.1
  have hnC : n = C' * R' := by rw [hn, ← List.length_map (f := (·.l)), hPO.len]
  have hs0 : s = 0 := by
    by_cases h : s = 0
    · exact h
    · have := hs1 h
      have h2 := HFE.out
      rw [this] at h2
      exact absurd h2 h
  have HRF := Lib.hid (hs2 hs0).2
  have hpos : 0 < Ps.length := by rw [← hn, hnC]; exact Nat.mul_pos (by omega) (by omega)
  obtain ⟨ad, rfl, had, hcell⟩ := hO.heap.2.1 0 hpos
  have hlr := hO.lv _ (List.getElem_mem hpos)
  obtain ⟨x, ex⟩ : ∃ x, x = Ps[0] := ⟨_, rfl⟩
  have HPP : Hid (pileP cn rn L = x.l) := Lib.hid (by
    unfold pileP
    rw [Int.toNat_natCast, Int.toNat_natCast, HRF.out]
    show (Ps.map (·.l)).getD 0 [] = _
    rw [map_in hpos, ex])
  rw [← ex] at hcell hlr
  obtain ⟨xa, xc, xl⟩ := x
  obtain ⟨xm, hxm⟩ : ∃ m, m = xl.length := ⟨_, rfl⟩
  have had0 : ad.add 0 = ad := by unfold Addr.add; rw [if_pos rfl]
  have hcell : w2.cell? ad = some (.slice xa xm xc) := by rw [hxm]; rw [had0] at hcell; exact hcell
  have HXM := Lib.hid hxm
  have hnI : (0 : Int) < (n : Int) := by omega
  have hBx := hB2.alloc hB2.size (.cells #[.int .i64 C', .int .i64 R', .slice (some ad) n cp] 135)
  have hne := World.new_ne w2 _ hcell
  have hcX := (((Below.refl w2.heap.size w2).alloc (Nat.le_refl _) (.cells #[.int .i64 C', .int .i64 R', .slice (some ad) n cp] 135)).cell (p := ad) had).trans hcell
  clear ex hxm hn hnC hs0 hs1 hs2
  go_wp2_with fail
  go_ret
  exact ⟨xa, xm, xc, rfl, by rw [HPP.out]; exact HXM.out, by rw [HPP.out]; exact hlr.alloc _, hBx⟩
theorem sc_new1 {w w1 : World} {cn rn N : Nat} {l : List Leaf} (hsz : w1.heap.size = w.heap.size + 2) (hN : N ≤ 1000000) (bs1 : BoxAt w1 w.heap.size #[.int .i64 cn, .int .i64 rn] 22) (br1 : BoxAt w1 (w.heap.size + 1) #[.int .i64 0, .int .i64 0, .slice none 0 0] 43) (hB1 : Below w.heap.size w w1) :
    ∃ g q, Value.pointer (some ⟨w.heap.size + 2 + 1, 0, none⟩) = .pointer (some ⟨g, 0, none⟩) ∧ ScEnv w cn rn N g q (cellsP cn N l 0)
      ((w1.alloc (.cells (madeCells #[.int .i64 0, .int .i64 0, .int .i64 0, .int .i64 0] (N * 4)) 91)).alloc (.cells #[.int .i64 cn, .int .i64 rn, .slice (some ⟨w.heap.size + 2, 0, none⟩) N N] 43)).drew := by
  have O := OwnR.made4 (E := 91) cell_l w1 ⟨0, 0, 0, 0⟩ rfl N hN
  rw [hsz] at O
  have bv := BoxAt.new (w1.alloc (.cells (madeCells #[.int .i64 0, .int .i64 0, .int .i64 0, .int .i64 0] (N * 4)) 91)) #[.int .i64 cn, .int .i64 rn, .slice (some ⟨w.heap.size + 2, 0, none⟩) N N] 43
  simp only [World.size_alloc, hsz] at bv
  exact ⟨_, w.heap.size + 2, rfl, ((bs1.alloc _).alloc _).drew, ((br1.alloc _).alloc _).drew, bv.drew, (O.alloc _).drew, by omega, by omega, Nat.le_refl _, ((hB1.alloc hB1.size _).alloc (by simp; omega) _).drew⟩
theorem sc_new2 {w w1 : World} {cn rn N : Nat} {l : List Leaf} (hsz : w1.heap.size = w.heap.size + 2) (hN : N ≤ 1000000) (bs1 : BoxAt w1 w.heap.size #[.int .i64 cn, .int .i64 rn] 22) (br1 : BoxAt w1 (w.heap.size + 1) #[.int .i64 0, .int .i64 0, .slice none 0 0] 43) (hB1 : Below w.heap.size w w1) :
    ∃ g q, Value.pointer (some ⟨w.heap.size + 2, 0, none⟩) = .pointer (some ⟨g, 0, none⟩) ∧ ScEnv w cn rn N g q (cellsP cn N l 0)
      ((w1.alloc (.cells #[.int .i64 cn, .int .i64 rn, .slice (some ⟨w.heap.size + 2 + 1, 0, none⟩) N N] 43)).alloc (.cells (madeCells #[.int .i64 0, .int .i64 0, .int .i64 0, .int .i64 0] (N * 4)) 91)).drew := by
  have O := OwnR.made4 (E := 91) cell_l (w1.alloc (.cells #[.int .i64 cn, .int .i64 rn, .slice (some ⟨w.heap.size + 2 + 1, 0, none⟩) N N] 43)) ⟨0, 0, 0, 0⟩ rfl N hN
  simp only [World.size_alloc, hsz] at O
  have bv := BoxAt.new w1 #[.int .i64 cn, .int .i64 rn, .slice (some ⟨w.heap.size + 2 + 1, 0, none⟩) N N] 43
  rw [hsz] at bv
  exact ⟨_, w.heap.size + 2 + 1, rfl, ((bs1.alloc _).alloc _).drew, ((br1.alloc _).alloc _).drew, (bv.alloc _).drew, (O.mono (by omega)).drew, by omega, Nat.le_refl _, by omega, ((hB1.alloc hB1.size _).alloc (by simp; omega) _).drew⟩
set_option maxRecDepth 100000 in
set_option maxHeartbeats 8000000 in
theorem refSchemeOf_any (C R : Int) (a : Option Addr) (L : List Fold) (c : Nat) (w : World) (hL : RowsAt 2 Fold.l w a L) (h0 : (checkFo C R L).2 = 0) :
    Calls Try.prog 27 #[.agg #[.int .i64 C, .int .i64 R], .slice a L.length c] w (SchemePost2 w C R (schemeP C R L)) := by
  obtain ⟨hs, hl12, hfe⟩ := checkFo_ok h0
  obtain ⟨sC, sR, sm⟩ := side_ok hs
  have hpl := pileP_len h0
  have hpi := pileP_in (L := L) sC.1 sR.1
  obtain ⟨cn, rfl⟩ : ∃ n : Nat, C = n := ⟨C.toNat, by omega⟩
  obtain ⟨rn, rfl⟩ : ∃ n : Nat, R = n := ⟨R.toNat, by omega⟩
  have hC8 : 1 ≤ cn ∧ cn ≤ 8 := by omega
  have hR8 : 1 ≤ rn ∧ rn ≤ 8 := by omega
  rw [Int.toNat_natCast, Int.toNat_natCast] at hpl
  have H0 := Lib.hid h0; have HC8 := Lib.hid hC8; have HR8 := Lib.hid hR8
  obtain ⟨l, hle⟩ : ∃ l, l = pileP cn rn L := ⟨_, rfl⟩
  have HL := Lib.hid hle
  rw [← hle] at hpl hpi
  obtain ⟨N, hN⟩ : ∃ N : Nat, cn * rn = N := ⟨_, rfl⟩
  have hN64 : N ≤ 64 := by rw [← hN]; exact Nat.mul_le_mul hC8.2 hR8.2
  rw [hN] at hpl
  have hmk := fun W => run_make_rowX (t := 41) Try.underlying41 info_cell .i64 .i64 N (by omega) (by omega) W
  have hz4 : (Value.agg #[.int .i64 0, .int .i64 0, .int .i64 0, .int .i64 0]).cells = #[.int .i64 0, .int .i64 0, .int .i64 0, .int .i64 0] := rfl
  rw [hz4] at hmk
  have hmul : (cn : Int) * (rn : Int) = (N : Int) := by rw [← hN, Int.natCast_mul]
  have hwr : IntKind.i64.wrap (N : Int) = (N : Int) := IntWalk.i64_in _ (by omega)
  have HN := Lib.hid hN; have HPL := Lib.hid hpl; have HPI := Lib.hid hpi
  have HSC : Hid (schemeP cn rn L = cellsP cn N l l.length) := Lib.hid (by rw [HL.out]; unfold schemeP; rw [Int.toNat_natCast, Int.toNat_natCast, hN])
  clear h0 hfe sC sR sm hC8 hR8 hs hpl hpi hle hN hz4
  obtain ⟨w1, hw1⟩ : ∃ w1, w1 = (w.alloc (.cells #[.int .i64 cn, .int .i64 rn] 22)).alloc (.cells #[.int .i64 0, .int .i64 0, .slice none 0 0] 43) := ⟨_, rfl⟩
  have hsz : w1.heap.size = w.heap.size + 2 := by rw [hw1]; simp
  have bs1 : BoxAt w1 w.heap.size #[.int .i64 cn, .int .i64 rn] 22 := by rw [hw1]; exact (BoxAt.new w _ _).alloc _
  have br1 : BoxAt w1 (w.heap.size + 1) #[.int .i64 0, .int .i64 0, .slice none 0 0] 43 := by
    rw [hw1]
    have := BoxAt.new (w.alloc (.cells #[.int .i64 cn, .int .i64 rn] 22)) #[.int .i64 0, .int .i64 0, .slice none 0 0] 43
    simpa using this
  have hB1 : Below w.heap.size w w1 := by rw [hw1]; exact ((Below.refl w.heap.size w).alloc (Nat.le_refl _) _).alloc (by simp) _
  have W1 := Lib.hid hw1
  clear hw1
  have c0 := bs1.cell 0; have c1 := bs1.cell 1
  have hbl := bs1.lt
  simp at c0 c1
  have z0 := World.new_ne w1 _ c0; have z1 := World.new_ne w1 _ c1
  have hA := (Below.refl w1.heap.size w1).alloc (Nat.le_refl _) (.cells #[.int .i64 0, .int .i64 0, .slice none 0 0] 43)
  have a0 := (hA.cell (p := ⟨w.heap.size, 0, none⟩) hbl).trans c0; have a1 := (hA.cell (p := ⟨w.heap.size, 1, none⟩) hbl).trans c1
  go_enter Try.func27, Try.ntmps27
  go_wp2_with fail
  rw [← W1.out]
  go_cut [5] from 9 to 75 (fun v5 wx => ∃ g q, v5 = .pointer (some ⟨g, 0, none⟩) ∧ ScEnv w cn rn N g q (cellsP cn N l 0) wx)
  case first =>
    rename_i J9 K9 hR9 hM9
    go_region
    all_goals
      refine hM9 _ _ ?_
      refine Met.intro ?_
      refine hR9 _ _ ?_
      (repeat apply Exists.intro)
      refine ⟨?_, rfl⟩
    · exact sc_new1 hsz (by omega) bs1 br1 hB1
    · exact sc_new2 hsz (by omega) bs1 br1 hB1
  case rest =>
  obtain ⟨g, q, rfl, E⟩ := hcut
  rename World => w2
  clear a0 a1 hA z0 z1 hbl c0 c1 bs1 br1 hB1 W1 hsz hmk hwr
  have c0 := E.bs.cell 0; have c1 := E.bs.cell 1
  simp at c0 c1
  go_wp2_with fail
  refine (refPileT_any (cn : Int) (rn : Int) a L c _ (hL.below E.low) H0.out).mono ?_
  rintro e w3 ⟨pa, pn, pc, rfl, hpn, hpr, hb3⟩
  have E3 := E.below hb3
  rw [← HL.out] at hpn hpr
  have HPN := Lib.hid hpn
  clear E hb3 c0 c1 hpn hL
  go_wp2_with fail
  go_loopw [7] (fun i wr => ∃ k : Nat, k ≤ pn ∧ i = .int .i64 k ∧ ScEnv w cn rn N g q (cellsP cn N l k) wr ∧ LRow wr ⟨pa, pc, l⟩) (fun i _ => pn - (intOf i).toNat)
  case atStart => exact ⟨0, Nat.zero_le _, rfl, E3, hpr⟩
  case round =>
    obtain ⟨k, hk, rfl, E, hR⟩ := hrel
    clear hpr
    by_cases hkl : k < pn
    · have hkI : (k : Int) < (pn : Int) := by omega
      have hlt : k < l.length := by rw [← HPN.out]; exact hkl
      have hk64 : k ≤ 64 := by have := HPL.out; omega
      obtain ⟨ad, rfl, had, s0, s1, s2, s3⟩ := hR.1.leaf hlt
      obtain ⟨x, ex⟩ : ∃ x, x = l[k] := ⟨_, rfl⟩
      have hxi := HPI.out l[k] (List.getElem_mem hlt)
      rw [← ex] at s0 s1 s2 s3 hxi
      obtain ⟨j, hj⟩ : ∃ j : Nat, x.r * (cn : Int) + x.c = (j : Int) := ⟨(x.r * (cn : Int) + x.c).toNat, by
        have h2 : 0 ≤ x.r * (cn : Int) := Int.mul_nonneg hxi.2.1.1 (by omega)
        have h3 := hxi.1.1
        omega⟩
      have hyc : 0 ≤ x.r * (cn : Int) ∧ x.r * (cn : Int) ≤ 64 := ⟨Int.mul_nonneg hxi.2.1.1 (by omega), by
        have h8 := HC8.out; have h9 := HR8.out; have h1 := hxi.2.1.2
        have := Int.mul_le_mul (show x.r ≤ 8 by omega) (show (cn : Int) ≤ 8 by omega) (by omega) (by omega); omega⟩
      have hjN : j < N := by
        have h2 := hxi.2.1.2
        have h4 := hxi.2.1.1
        have h5 := hxi.1.2
        have h3 : (x.r + 1) * (cn : Int) ≤ (rn : Int) * (cn : Int) := Int.mul_le_mul_of_nonneg_right (by omega) (by omega)
        have h6 : (x.r + 1) * (cn : Int) = x.r * (cn : Int) + (cn : Int) := by rw [Int.add_mul, Int.one_mul]
        have h7 : (rn : Int) * (cn : Int) = (N : Int) := by rw [← HN.out, Int.natCast_mul, Int.mul_comm]
        omega
      have hset : Hid ((cellsP cn N l k).set j (cellP k x) = cellsP cn N l (k + 1)) := Lib.hid (by
        show _ = (cellsP cn N l k).set (((l.getD k default).r * (cn : Int) + (l.getD k default).c).toNat) (cellP k (l.getD k default))
        rw [getD_in default hlt, ← ex, hj, Int.toNat_natCast])
      have HO : Hid (Bit x.o) := Lib.hid hxi.2.2.1
      obtain ⟨xc, xr', xo, xt⟩ := x
      simp only at s0 s1 s2 s3 hj hyc
      have q1 : IntKind.i64.wrap (xr' * (cn : Int)) = xr' * (cn : Int) := IntWalk.i64_in _ (by omega)
      have q2 : IntKind.i64.wrap (j : Int) = (j : Int) := IntWalk.i64_in _ (by omega)
      have q3 : IntKind.i64.wrap (2 * (k : Int)) = 2 * (k : Int) := IntWalk.i64_in _ (by omega)
      have q4 : IntKind.i64.wrap (2 * (k : Int) + 1) = 2 * (k : Int) + 1 := IntWalk.i64_in _ (by omega)
      have q5 : IntKind.i64.wrap (2 * (k : Int) + 2) = 2 * (k : Int) + 2 := IntWalk.i64_in _ (by omega)
      have EX := Lib.hid ex
      clear ex hxi E3
      have hab : (ad.add (k * 4)).block < wr.heap.size := by rw [add_block]; exact had
      have hA := (Below.refl wr.heap.size wr).alloc (Nat.le_refl _) (.cells #[.int .i64 0, .int .i64 0, .int .i64 0, .int .i64 0] 91)
      have a3 := (hA.cell (p := ⟨(ad.add (k * 4)).block, (ad.add (k * 4)).off + 3, none⟩) hab).trans s3
      have hvo : q < wr.heap.size := (E.own.lt q rfl).2
      go_wp2_with fail
      go_cut [8] from 23 to 75 (fun v8 wx => ∃ al, v8 = .pointer (some ⟨al, 0, none⟩) ∧ BoxAt wx al #[.int .i64 (2 * (k : Int) + 1), .int .i64 xt, .int .i64 (2 * (k : Int) + 2), .int .i64 xt] 91 ∧ wr.heap.size ≤ al ∧ Below wr.heap.size wr wx)
      case first =>
        rename_i J9 K9 hR9 hM9
        go_region
        all_goals
          refine hM9 _ _ ?_
          refine Met.intro ?_
          refine hR9 _ _ ?_
          (repeat apply Exists.intro)
          refine ⟨?_, rfl⟩
        exact ⟨_, rfl, BoxAt.new wr _ _, Nat.le_refl _, ((Below.refl wr.heap.size wr).alloc (Nat.le_refl _) _).drew⟩
      case rest =>
      obtain ⟨al, rfl, bl, hal, hb7⟩ := hcut
      rename World => w7
      have E7 := E.below hb7
      have hR7 := hR.below hb7
      have s0 := (hb7.cell (p := ad.add (k * 4)) hab).trans s0
      have s1 := (hb7.cell (p := ⟨(ad.add (k * 4)).block, (ad.add (k * 4)).off + 1, none⟩) hab).trans s1
      have s2 := (hb7.cell (p := ⟨(ad.add (k * 4)).block, (ad.add (k * 4)).off + 2, none⟩) hab).trans s2
      have hlg : ¬ g = al := fun e => by have := E.bv.lt; omega
      have hlq : ¬ q = al := fun e => by omega
      have hlw : w.heap.size + 2 ≤ al := by have := E.hg; have := E.bv.lt; omega
      have hl3a : ¬ (ad.add (k * 4)).block = al := Nat.ne_of_lt (Nat.lt_of_lt_of_le hab hal)
      have hab7 := Nat.lt_of_lt_of_le hab hb7.size
      clear E hR hA a3 s3 hal hb7 hvo hab had
      have l0 := bl.cell 0; have l2 := bl.cell 2
      have fl := fun i => bl.free i
      have hll := bl.lt
      simp at l0 l2
      go_upto_if 51 with fail
      go_cut [8] from 23 to 75 (fun v8 wx => v8 = .pointer (some ⟨al, 0, none⟩) ∧ BoxAt wx al #[.int .i64 (cellP k ⟨xc, xr', xo, xt⟩).f, .int .i64 (cellP k ⟨xc, xr', xo, xt⟩).ft, .int .i64 (cellP k ⟨xc, xr', xo, xt⟩).b, .int .i64 (cellP k ⟨xc, xr', xo, xt⟩).bt] 91 ∧ ScEnv w cn rn N g q (cellsP cn N l k) wx ∧ LRow wx ⟨some ad, pc, l⟩ ∧ wx.cell? (ad.add (k * 4)) = some (.int .i64 xc) ∧ wx.cell? ⟨(ad.add (k * 4)).block, (ad.add (k * 4)).off + 1, none⟩ = some (.int .i64 xr'))
      case first =>
        rcases HO.out with h0 | h1
        · have h0 : xo = 0 := h0
          subst h0
          go_wp2
          go_meet
          exact ⟨rfl, by unfold cellP; rw [if_neg (show ¬ (0 : Int) = 1 by decide)]; exact bl, E7, hR7, s0, s1⟩
        · have h1 : xo = 1 := h1
          subst h1
          have hnl0 : (w7.setCell ⟨al, 0, none⟩ (.int .i64 (2 * (k : Int) + 2))).cell? (ad.add (k * 4)) = some (.int .i64 xc) := (World.cell?_setCell_other _ _ _ _ (fun e => hl3a (congrArg Addr.block e).symm)).trans s0
          have hnl1 : (w7.setCell ⟨al, 0, none⟩ (.int .i64 (2 * (k : Int) + 2))).cell? ⟨(ad.add (k * 4)).block, (ad.add (k * 4)).off + 1, none⟩ = some (.int .i64 xr') := (World.cell?_setCell_other _ _ _ _ (fun e => hl3a (congrArg Addr.block e).symm)).trans s1
          go_wp2
          go_meet
          refine ⟨rfl, ?_, ?_, ?_, ?_, ?_⟩
          · unfold cellP; rw [if_pos rfl]; exact (bl.set 0 _).set 2 _
          · exact ⟨(E7.bs.set_other (p := ⟨al, 0, none⟩) (by show w.heap.size ≠ al; omega) _).set_other (p := ⟨al, 2, none⟩) (by show w.heap.size ≠ al; omega) _,
              (E7.br.set_other (p := ⟨al, 0, none⟩) (by show w.heap.size + 1 ≠ al; omega) _).set_other (p := ⟨al, 2, none⟩) (by show w.heap.size + 1 ≠ al; omega) _,
              (E7.bv.set_other (p := ⟨al, 0, none⟩) hlg _).set_other (p := ⟨al, 2, none⟩) hlg _,
              (E7.own.set (p := ⟨al, 0, none⟩) (fun e => hlq (Option.some.inj e)) _).set (p := ⟨al, 2, none⟩) (fun e => hlq (Option.some.inj e)) _,
              E7.ne, E7.hg, E7.hq, (E7.low.setCell (p := ⟨al, 0, none⟩) (by show w.heap.size ≤ al; omega) _).setCell (p := ⟨al, 2, none⟩) (by show w.heap.size ≤ al; omega) _⟩
          · exact (hR7.set bl (by decide) 0 _).set (bl.set 0 _) (by decide) 2 _
          · exact (World.cell?_setCell_other _ _ _ _ (fun e => hl3a (congrArg Addr.block e).symm)).trans hnl0
          · exact (World.cell?_setCell_other _ _ _ _ (fun e => hl3a (congrArg Addr.block e).symm)).trans hnl1
      case rest =>
      obtain ⟨rfl, bx, E8, hR8, t0, t1⟩ := hcut
      rename World => w8
      clear l0 l2 fl hll s0 s1 s2 E7 hR7 bl q3 q4 q5
      obtain ⟨y, hy⟩ : ∃ y, cellP k ⟨xc, xr', xo, xt⟩ = y := ⟨_, rfl⟩
      rw [hy] at bx hset
      clear hy
      have l0 := bx.cell 0; have l1 := bx.cell 1; have l2 := bx.cell 2; have l3 := bx.cell 3
      have v2 := E8.bv.cell 2; have c0 := E8.bs.cell 0
      have fq := fun i => E8.own.free i
      have hjI : (0 : Int) ≤ (j : Int) := by omega
      have hjI2 : (j : Int) < (N : Int) := by omega
      have m1 := E8.ne; have m2 : ¬ q = g := fun e => m1 e.symm
      have hq2 := E8.hq
      have m3 : ¬ w.heap.size = q := by omega
      have m4 : ¬ q = w.heap.size := by omega
      have m5 : ¬ al = q := fun e => hlq e.symm
      have hql : q < w8.heap.size := (E8.own.lt q rfl).2
      simp at l0 l1 l2 l3 v2 c0
      obtain ⟨a', d', e', hrow, -, -, -, -⟩ := E8.own.rows cell_l
      rw [cellsP_len] at e'
      injection e' with e1 e2 e3
      subst e1
      obtain ⟨_, e4, -, y0, y1, y2, y3⟩ := hrow.cell (k := j) (by rw [cellsP_len]; exact hjN)
      cases e4
      rw [add0] at y0 y1 y2 y3
      simp only at y0 y1 y2 y3
      clear hrow e2 e3
      go_wp2_with fail
      go_region
      have hO9 := E8.own.put4c (by rw [cellsP_len]) (k := j) (by rw [cellsP_len]; exact hjN) y
      rw [hset.out] at hO9
      have E9 : ScEnv w cn rn N g q (cellsP cn N l (k + 1)) ((((w8.setCell ⟨q, j * 4, none⟩ (.int .i64 y.f)).setCell ⟨q, j * 4 + 1, none⟩ (.int .i64 y.ft)).setCell ⟨q, j * 4 + 2, none⟩ (.int .i64 y.b)).setCell ⟨q, j * 4 + 3, none⟩ (.int .i64 y.bt)) := by
        have p1 : w.heap.size ≠ q := m3
        have p2 : w.heap.size + 1 ≠ q := by omega
        have p3 : w.heap.size ≤ q := by omega
        exact ⟨(((E8.bs.set_other (p := ⟨q, j * 4, none⟩) p1 _).set_other (p := ⟨q, j * 4 + 1, none⟩) p1 _).set_other (p := ⟨q, j * 4 + 2, none⟩) p1 _).set_other (p := ⟨q, j * 4 + 3, none⟩) p1 _,
          (((E8.br.set_other (p := ⟨q, j * 4, none⟩) p2 _).set_other (p := ⟨q, j * 4 + 1, none⟩) p2 _).set_other (p := ⟨q, j * 4 + 2, none⟩) p2 _).set_other (p := ⟨q, j * 4 + 3, none⟩) p2 _,
          (((E8.bv.set_other (p := ⟨q, j * 4, none⟩) m1 _).set_other (p := ⟨q, j * 4 + 1, none⟩) m1 _).set_other (p := ⟨q, j * 4 + 2, none⟩) m1 _).set_other (p := ⟨q, j * 4 + 3, none⟩) m1 _,
          hO9, m1, E8.hg, hq2,
          (((E8.low.setCell (p := ⟨q, j * 4, none⟩) p3 _).setCell (p := ⟨q, j * 4 + 1, none⟩) p3 _).setCell (p := ⟨q, j * 4 + 2, none⟩) p3 _).setCell (p := ⟨q, j * 4 + 3, none⟩) p3 _⟩
      obtain ⟨cur, hcur⟩ := E8.own.block
      have hR9 : LRow ((((w8.setCell ⟨q, j * 4, none⟩ (.int .i64 y.f)).setCell ⟨q, j * 4 + 1, none⟩ (.int .i64 y.ft)).setCell ⟨q, j * 4 + 2, none⟩ (.int .i64 y.b)).setCell ⟨q, j * 4 + 3, none⟩ (.int .i64 y.bt)) ⟨some ad, pc, l⟩ := by
        refine hR8.keep fun b cs fr hb => ?_
        have hbq : b ≠ q := fun e => by
          subst e
          rw [hcur] at hb
          injection hb with hb
          injection hb with _ hb _
          exact absurd hb (by decide)
        exact (Below.heap_setCell _ _ _ _ hbq).trans ((Below.heap_setCell _ _ _ _ hbq).trans ((Below.heap_setCell _ _ _ _ hbq).trans (Below.heap_setCell _ _ _ _ hbq)))
      have E10 := E9.below ((Below.refl _ _).drew)
      have hR10 := hR9.below ((Below.refl _ _).drew)
      go_wp2
      go_roundw
      case rel => exact ⟨k + 1, by omega, by go_num, E10, hR10⟩
      case measure => simp [intOf]; omega
    · have hkp : k = pn := by omega
      have hkI : ¬ (k : Int) < (pn : Int) := by omega
      have hMM : Hid (cellsP cn N l k = schemeP cn rn L) := Lib.hid (by rw [HSC.out, hkp, HPN.out])
      obtain ⟨a', d', e', hrow, -, -, -, -⟩ := E.own.rows cell_l
      injection e' with e1 e2 e3
      subst e1
      clear hkp e2 e3
      have v0 := E.bv.cell 0; have v1 := E.bv.cell 1; have v2 := E.bv.cell 2
      have u0 := E.br.cell 0; have u1 := E.br.cell 1; have u2 := E.br.cell 2
      have z := fun i => E.br.free i
      have hvl := E.bv.lt; have hul := E.br.lt
      have hg := E.hg
      have m1 : ¬ g = w.heap.size + 1 := by omega
      have m2 : ¬ w.heap.size + 1 = g := by omega
      simp at v0 v1 v2 u0 u1 u2
      have bq := (((E.br.set 0 (.int .i64 cn)).set 1 (.int .i64 rn)).set 2 (.slice (some ⟨q, 0, none⟩) N N))
      have x0 := bq.cell 0; have x1 := bq.cell 1; have x2 := bq.cell 2
      simp at x0 x1 x2
      have hq := E.hq
      have hrow2 := ((E.own.set (p := ⟨w.heap.size + 1, 0, none⟩) (fun e => by have := Option.some.inj e; simp at this; omega) (.int .i64 cn)).set (p := ⟨w.heap.size + 1, 1, none⟩) (fun e => by have := Option.some.inj e; simp at this; omega) (.int .i64 rn)).set (p := ⟨w.heap.size + 1, 2, none⟩) (fun e => by have := Option.some.inj e; simp at this; omega) (.slice (some ⟨q, 0, none⟩) N N)
      have hB2 := ((E.low.setCell (p := ⟨w.heap.size + 1, 0, none⟩) (by show w.heap.size ≤ w.heap.size + 1; omega) (.int .i64 cn)).setCell (p := ⟨w.heap.size + 1, 1, none⟩) (by show w.heap.size ≤ w.heap.size + 1; omega) (.int .i64 rn)).setCell (p := ⟨w.heap.size + 1, 2, none⟩) (by show w.heap.size ≤ w.heap.size + 1; omega) (.slice (some ⟨q, 0, none⟩) N N)
      go_wp2
      refine bodyPost_ret (v := .agg #[.int .i64 cn, .int .i64 rn, .slice (some ⟨q, 0, none⟩) N N]) ?_ rfl ?_
      · simp [results, Try.results27, go_sem, x0, x1, x2]
      · refine ⟨some ⟨q, 0, none⟩, N, N, rfl, ?_, ?_, (fun e => by cases e), hB2⟩
        · rw [← hMM.out, cellsP_len]
        · rw [← hMM.out]
          obtain ⟨a9, d9, e9, hrow9, -, -, -, -⟩ := hrow2.rows cell_l
          injection e9 with e1 e2 e3
          subst e1
          exact hrow9
end Go.Proofs.Ytdnbhjcckhbhaaa
