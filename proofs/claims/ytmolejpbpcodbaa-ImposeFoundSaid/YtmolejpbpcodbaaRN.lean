/-
  Package tympanref06: what a pile reads.
-/
import Derived.Test.YtmolejpbpcodbaaYB
import Derived.Test.YtmolejpbpcodbaaRA
namespace Go.Proofs.Ytmolejpbpcodbaa
open Go.RowKit

theorem bits_wrap {a b : Int} (ha : Bit a) (hb : Bit b) : IntKind.i64.wrap (a + b) = a + b := by rcases ha with rfl | rfl <;> rcases hb with rfl | rfl <;> decide
def cellAt (C : Int) (L : List Cell) (x : Leaf) : Cell := L.getD (x.r * C + x.c).toNat default
/-- The two pages of a leaf, the upper one first. -/
def rdP (C : Int) (L : List Cell) (x : Leaf) : List Page :=
  if x.o = 1 then [⟨(cellAt C L x).b, xr (cellAt C L x).bt x.t⟩, ⟨(cellAt C L x).f, xr (cellAt C L x).ft x.t⟩] else [⟨(cellAt C L x).f, xr (cellAt C L x).ft x.t⟩, ⟨(cellAt C L x).b, xr (cellAt C L x).bt x.t⟩]
def rdTo (C : Int) (L : List Cell) (M : List Leaf) (k : Nat) : List Page := (M.take k).flatMap (rdP C L)
theorem rdP_len (C : Int) (L : List Cell) (x : Leaf) : (rdP C L x).length = 2 := by unfold rdP; split <;> rfl
theorem rdTo_len {C : Int} {L : List Cell} {M : List Leaf} {k : Nat} (hk : k ≤ M.length) : (rdTo C L M k).length = 2 * k := by
  unfold rdTo
  rw [List.length_flatMap]
  have : (M.take k).map (fun x => (rdP C L x).length) = (M.take k).map fun _ => 2 := List.map_congr_left fun x _ => rdP_len C L x
  rw [this, List.map_const', List.sum_replicate_nat, List.length_take, Nat.min_eq_left hk, Nat.mul_comm]
theorem rdTo_succ {C : Int} {L : List Cell} {M : List Leaf} {k : Nat} (hk : k < M.length) : rdTo C L M k ++ rdP C L M[k] = rdTo C L M (k + 1) := by
  unfold rdTo; rw [List.take_succ_eq_append_getElem hk, List.flatMap_append]; simp
def PagesPost (w : World) (P : List Page) (e : Ending) (w' : World) : Prop :=
  ∃ (a : Option Addr) (n c : Nat), e = .returned (.slice a n c) ∧ n = P.length ∧ RowsAt 2 Page.l w' a P ∧ (a = none → c = 0) ∧ Below w.heap.size w w'
structure PgEnv (w : World) (C R : Nat) (a : Option Addr) (n c : Nat) (v : Value) (M : List Page) (wr : World) : Prop where
  bs : BoxAt wr w.heap.size #[.int .i64 C, .int .i64 R, .slice a n c] 24
  own : OwnR 2 92 Page.l wr (w.heap.size + 1) v M
  low : Below w.heap.size w wr
theorem PgEnv.below {w : World} {C R : Nat} {a : Option Addr} {n c : Nat} {v : Value} {M : List Page} {wr w1 : World} (h : PgEnv w C R a n c v M wr) (hb : Below wr.heap.size wr w1) : PgEnv w C R a n c v M w1 :=
  ⟨h.bs.below hb, h.own.below hb, h.low.trans (hb.mono h.low.size)⟩
set_option maxRecDepth 100000 in
set_option maxHeartbeats 16000000 in
theorem refReadPile_any (C R : Nat) (a : Option Addr) (L : List Cell) (n c : Nat) (pa : Option Addr) (M : List Leaf) (pn pc : Nat) (w : World) (hC : 1 ≤ C ∧ C ≤ 8) (hR : 1 ≤ R ∧ R ≤ 8) (hn : n = L.length) (hlen : L.length = C * R) (hL : RowsAt 4 Cell.l w a L) (hLb : ∀ x ∈ L, Bit x.ft ∧ Bit x.bt)
    (hpn : pn = M.length) (hM : RowsAt 4 Leaf.l w pa M) (hMi : ∀ x ∈ M, LeafIn C R x) (hMl : M.length ≤ 1000) :
    Calls Try.prog 49 #[.agg #[.int .i64 C, .int .i64 R, .slice a n c], .slice pa pn pc] w (PagesPost w (rdTo C L M M.length)) := by
  have HLEN := Lib.hid hlen; have HNN := Lib.hid hn; have HPN := Lib.hid hpn; have HLB := Lib.hid hLb; have HMI := Lib.hid hMi; have HML := Lib.hid hMl; have HCR := Lib.hid (And.intro hC hR)
  obtain ⟨w0, hw0⟩ : ∃ w0, w0 = w.alloc (.cells #[.int .i64 C, .int .i64 R, .slice a n c] 24) := ⟨_, rfl⟩
  have E0 : PgEnv w C R a n c (.slice none 0 0) (rdTo C L M 0) w0 := by
    rw [hw0]; exact ⟨BoxAt.new w _ _, OwnR.nil _ _, (Below.refl w.heap.size w).alloc (Nat.le_refl _) _⟩
  have W0 := Lib.hid hw0
  clear hw0 hlen hn hpn hLb hMi hMl hC hR
  go_enter Try.func49, Try.ntmps49
  go_wp2
  rw [← W0.out]
  go_loopw [5, 6] (fun v i wr => ∃ k : Nat, k ≤ pn ∧ i = .int .i64 k ∧ PgEnv w C R a n c v (rdTo C L M k) wr) (fun v i _ => pn - (intOf i).toNat)
  case atStart => exact ⟨0, Nat.zero_le _, rfl, E0⟩
  case round =>
    obtain ⟨k, hk, rfl, E⟩ := hrel
    clear E0
    by_cases hkl : k < pn
    · have hkI : (k : Int) < (pn : Int) := by omega
      have hkM : k < M.length := by rw [← HPN.out]; exact hkl
      obtain ⟨pd, rfl, hpd, s0, s1, s2, s3⟩ := (hM.below E.low).leaf hkM
      obtain ⟨z, ez⟩ : ∃ z, z = M[k] := ⟨_, rfl⟩
      have hin := HMI.out _ (List.getElem_mem hkM)
      have HRD := Lib.hid (rdTo_succ (C := (C : Int)) (L := L) hkM)
      rw [← ez] at s0 s1 s2 s3 hin HRD
      obtain ⟨⟨hz1a, hz1b⟩, ⟨hz2a, hz2b⟩, hzo, hzt⟩ := hin
      obtain ⟨zc, zr, zo, zt⟩ := z
      have hz1a : 0 ≤ zc := hz1a
      have hz1b : zc < C := hz1b
      have hz2a : 0 ≤ zr := hz2a
      have hz2b : zr < R := hz2b
      have hzo : Bit zo := hzo
      have hzt : Bit zt := hzt
      obtain ⟨uc, rfl⟩ : ∃ u : Nat, zc = u := ⟨zc.toNat, by omega⟩
      obtain ⟨ur, rfl⟩ : ∃ u : Nat, zr = u := ⟨zr.toNat, by omega⟩
      obtain ⟨i, hi⟩ : ∃ i, ur * C + uc = i := ⟨_, rfl⟩
      have hil : i < L.length := by rw [← hi, HLEN.out]; exact mul_lt (by omega) (by omega)
      have hidx : (ur : Int) * (C : Int) + (uc : Int) = (i : Int) := by rw [← hi, Int.natCast_add, Int.natCast_mul]
      have hcr := HCR.out
      have hyc : 0 ≤ (ur : Int) * (C : Int) ∧ (ur : Int) * (C : Int) ≤ 64 := ⟨Int.mul_nonneg (by omega) (by omega), by have := Int.mul_le_mul (show (ur : Int) ≤ 8 by omega) (show (C : Int) ≤ 8 by omega) (by omega) (by omega); omega⟩
      obtain ⟨ad, rfl, had, t0, t1, t2, t3⟩ := (hL.below E.low).cell hil
      obtain ⟨y, ey⟩ : ∃ y, y = L[i] := ⟨_, rfl⟩
      obtain ⟨hyb1, hyb2⟩ : Bit y.ft ∧ Bit y.bt := by rw [ey]; exact HLB.out _ (List.getElem_mem hil)
      have HCE : Hid (cellAt C L ⟨uc, ur, zo, zt⟩ = y) := Lib.hid (by
        unfold cellAt
        show L.getD ((ur : Int) * (C : Int) + (uc : Int)).toNat default = y
        rw [hidx, Int.toNat_natCast, getD_in default hil, ey])
      rw [← ey] at t0 t1 t2 t3
      have hinI : (i : Int) < (n : Int) := by have := HNN.out; omega
      have hi64 : i ≤ 1000 := by have := HNN.out; have := HLEN.out; have : C * R ≤ 8 * 8 := Nat.mul_le_mul (by omega) (by omega); omega
      have q1 : IntKind.i64.wrap ((ur : Int) * (C : Int)) = (ur : Int) * (C : Int) := IntWalk.i64_in _ (by omega)
      have q2 : IntKind.i64.wrap (i : Int) = (i : Int) := IntWalk.i64_in _ (by omega)
      obtain ⟨f, ft, b, bt⟩ := y
      simp only at s0 s1 s2 s3 t0 t1 t2 t3
      have hyb1 : Bit ft := hyb1
      have hyb2 : Bit bt := hyb2
      have M1 := bits_mod hyb1 hzt
      have M2 := bits_mod hyb2 hzt
      have q3 : IntKind.i64.wrap (ft + zt) = ft + zt := bits_wrap hyb1 hzt
      have q4 : IntKind.i64.wrap (bt + zt) = bt + zt := bits_wrap hyb2 hzt
      have hx1 := Lib.hid (xr_bit ft zt); have hx2 := Lib.hid (xr_bit bt zt)
      obtain ⟨xf, hxf⟩ : ∃ v, xr ft zt = v := ⟨_, rfl⟩
      obtain ⟨xb, hxb⟩ : ∃ v, xr bt zt = v := ⟨_, rfl⟩
      rw [hxf] at M1 hx1; rw [hxb] at M2 hx2
      have q5 : IntKind.i64.wrap xf = xf := IntWalk.i64_in _ (by rcases hx1.out with h | h <;> rw [h] <;> decide)
      have q6 : IntKind.i64.wrap xb = xb := IntWalk.i64_in _ (by rcases hx2.out with h | h <;> rw [h] <;> decide)
      have HXF := Lib.hid hxf; have HXB := Lib.hid hxb; have HZO := Lib.hid hzo
      have EZ := Lib.hid ez; have EY := Lib.hid ey
      clear ez ey hi hyb1 hyb2 hxf hxb hcr hyc hzo hzt
      have c0 := E.bs.cell 0; have c2 := E.bs.cell 2
      have hxl := E.bs.lt
      simp at c0 c2
      have hpb : (pd.add (k * 4)).block < wr.heap.size := by rw [add_block]; exact hpd
      have hab : (ad.add (i * 4)).block < wr.heap.size := by rw [add_block]; exact had
      have hA := (Below.refl wr.heap.size wr).alloc (Nat.le_refl _) (.cells #[.int .i64 0, .int .i64 0, .int .i64 0, .int .i64 0] 61)
      have a0 := (hA.cell (p := ⟨w.heap.size, 0, none⟩) hxl).trans c0; have a2 := (hA.cell (p := ⟨w.heap.size, 2, none⟩) hxl).trans c2
      have a3 := (hA.cell (p := pd.add (k * 4)) hpb).trans s0; have a4 := (hA.cell (p := ⟨(pd.add (k * 4)).block, (pd.add (k * 4)).off + 1, none⟩) hpb).trans s1
      have a5 := (hA.cell (p := ad.add (i * 4)) hab).trans t0; have a6 := (hA.cell (p := ⟨(ad.add (i * 4)).block, (ad.add (i * 4)).off + 1, none⟩) hab).trans t1; have a7 := (hA.cell (p := ⟨(ad.add (i * 4)).block, (ad.add (i * 4)).off + 2, none⟩) hab).trans t2; have a8 := (hA.cell (p := ⟨(ad.add (i * 4)).block, (ad.add (i * 4)).off + 3, none⟩) hab).trans t3
      go_wp2_with fail
      go_cut [7] from 10 to 70 (fun v7 wx => ∃ al, v7 = .pointer (some ⟨al, 0, none⟩) ∧ BoxAt wx al #[.int .i64 f, .int .i64 ft, .int .i64 b, .int .i64 bt] 61 ∧ wr.heap.size ≤ al ∧ Below wr.heap.size wr wx)
      case first =>
        rename_i J9 K9 hR9 hM9
        go_region
        all_goals
          refine hM9 _ _ ?_
          refine Met.intro ?_
          refine hR9 _ _ ?_
          (repeat apply Exists.intro)
          refine ⟨?_, rfl⟩
        exact ⟨_, rfl, BoxAt.new wr _ _, Nat.le_refl _, ((Below.refl wr.heap.size wr).alloc (Nat.le_refl _) _).drew⟩
      case rest =>
      obtain ⟨al, rfl, bl7, hal, hb7⟩ := hcut
      rename World => w7
      have E7 := E.below hb7
      have hpb7 := Nat.lt_of_lt_of_le hpb hb7.size
      have s2 := (hb7.cell (p := ⟨(pd.add (k * 4)).block, (pd.add (k * 4)).off + 2, none⟩) hpb).trans s2
      have s3 := (hb7.cell (p := ⟨(pd.add (k * 4)).block, (pd.add (k * 4)).off + 3, none⟩) hpb).trans s3
      have hvo : ∀ q, u5.ownBlock = some q → q < wr.heap.size := fun q e => (E.own.lt q e).2
      clear hA a0 a2 a3 a4 a5 a6 a7 a8 s0 s1 t0 t1 t2 t3 c0 c2 hxl hpb hab had hpd E q1 q2 hidx hinI
      have l0 := bl7.cell 0; have l1 := bl7.cell 1; have l2 := bl7.cell 2; have l3 := bl7.cell 3
      have hll := bl7.lt
      simp at l0 l1 l2 l3
      have hA := (Below.refl w7.heap.size w7).alloc (Nat.le_refl _) (.cells #[.int .i64 0, .int .i64 0] 92)
      have a0 := (hA.cell (p := ⟨al, 0, none⟩) hll).trans l0; have a1 := (hA.cell (p := ⟨al, 1, none⟩) hll).trans l1
      have a3 := (hA.cell (p := ⟨(pd.add (k * 4)).block, (pd.add (k * 4)).off + 3, none⟩) hpb7).trans s3
      go_wp2_with fail
      go_cut [8] from 10 to 70 (fun v8 wx => ∃ b8, v8 = .pointer (some ⟨b8, 0, none⟩) ∧ BoxAt wx b8 #[.int .i64 f, .int .i64 xf] 92 ∧ w7.heap.size ≤ b8 ∧ Below w7.heap.size w7 wx)
      case first =>
        rename_i J9 K9 hR9 hM9
        go_region
        all_goals
          refine hM9 _ _ ?_
          refine Met.intro ?_
          refine hR9 _ _ ?_
          (repeat apply Exists.intro)
          refine ⟨?_, rfl⟩
        exact ⟨_, rfl, BoxAt.new w7 _ _, Nat.le_refl _, ((Below.refl w7.heap.size w7).alloc (Nat.le_refl _) _).drew⟩
      case rest =>
      obtain ⟨b8, rfl, bu8, hw7b, hb8⟩ := hcut
      rename World => w8
      have E8 := E7.below hb8
      have bl8 := bl7.below hb8
      have hpb8 := Nat.lt_of_lt_of_le hpb7 hb8.size
      have s2 := (hb8.cell (p := ⟨(pd.add (k * 4)).block, (pd.add (k * 4)).off + 2, none⟩) hpb7).trans s2
      have s3 := (hb8.cell (p := ⟨(pd.add (k * 4)).block, (pd.add (k * 4)).off + 3, none⟩) hpb7).trans s3
      have hwb8 : wr.heap.size ≤ b8 := Nat.le_trans hb7.size hw7b
      have hlow8 : w.heap.size < b8 := Nat.lt_of_lt_of_le E7.bs.lt hw7b
      clear hA a0 a1 a3 l0 l1 l2 l3 hll hpb7 E7 bl7 M1 q3 q5 hal hw7b hb8 hb7
      have l2 := bl8.cell 2; have l3 := bl8.cell 3
      have hll := bl8.lt
      simp at l2 l3
      have hA := (Below.refl w8.heap.size w8).alloc (Nat.le_refl _) (.cells #[.int .i64 0, .int .i64 0] 92)
      have a0 := (hA.cell (p := ⟨al, 2, none⟩) hll).trans l2; have a1 := (hA.cell (p := ⟨al, 3, none⟩) hll).trans l3
      have a3 := (hA.cell (p := ⟨(pd.add (k * 4)).block, (pd.add (k * 4)).off + 3, none⟩) hpb8).trans s3
      go_wp2_with fail
      go_cut [9] from 10 to 70 (fun v9 wx => ∃ b9, v9 = .pointer (some ⟨b9, 0, none⟩) ∧ BoxAt wx b9 #[.int .i64 b, .int .i64 xb] 92 ∧ w8.heap.size ≤ b9 ∧ Below w8.heap.size w8 wx)
      case first =>
        rename_i J9 K9 hR9 hM9
        go_region
        all_goals
          refine hM9 _ _ ?_
          refine Met.intro ?_
          refine hR9 _ _ ?_
          (repeat apply Exists.intro)
          refine ⟨?_, rfl⟩
        exact ⟨_, rfl, BoxAt.new w8 _ _, Nat.le_refl _, ((Below.refl w8.heap.size w8).alloc (Nat.le_refl _) _).drew⟩
      case rest =>
      obtain ⟨b9, rfl, bv9, hw8b, hb9⟩ := hcut
      rename World => w9
      have E9 := E8.below hb9
      have bu9 := bu8.below hb9
      have s2 := (hb9.cell (p := ⟨(pd.add (k * 4)).block, (pd.add (k * 4)).off + 2, none⟩) hpb8).trans s2
      have hne : b8 < b9 := Nat.lt_of_lt_of_le bu8.lt hw8b
      have hvo9 : u5.ownBlock ≠ some b9 := fun e => by have := hvo _ e; omega
      have hvo8 : u5.ownBlock ≠ some b8 := fun e => by have := hvo _ e; omega
      clear hA a0 a1 a3 l2 l3 hll E8 bl8 bu8 s3 M2 q4 q6 hpb8 hvo hw8b hb9 hwb8
      have u0 := bu9.cell 0; have u1 := bu9.cell 1; have v0 := bv9.cell 0; have v1 := bv9.cell 1
      have fu := fun j => bu9.free j; have fv := fun j => bv9.free j
      have hul := bu9.lt; have hvl := bv9.lt
      simp at u0 u1 v0 v1
      have n1 : ¬ b8 = b9 := by omega
      have n2 : ¬ b9 = b8 := by omega
      go_upto_if 63 with fail
      go_cut [9] from 10 to 70 (fun v9 wx => v9 = .pointer (some ⟨b9, 0, none⟩) ∧ (∃ x y : Page, rdP C L ⟨uc, ur, zo, zt⟩ = [x, y] ∧ BoxAt wx b8 #[.int .i64 x.p, .int .i64 x.t] 92 ∧ BoxAt wx b9 #[.int .i64 y.p, .int .i64 y.t] 92) ∧ PgEnv w C R (some ad) n c u5 (rdTo C L M k) wx)
      case first =>
        rcases HZO.out with h0 | h1
        · subst h0
          go_wp2
          go_meet
          exact ⟨rfl, ⟨⟨f, xf⟩, ⟨b, xb⟩, by unfold rdP; rw [if_neg (show ¬ (0 : Int) = 1 by decide), HCE.out]; show [Page.mk f (xr ft zt), Page.mk b (xr bt zt)] = _; rw [HXF.out, HXB.out], bu9, bv9⟩, E9⟩
        · subst h1
          have EB : PgEnv w C R (some ad) n c u5 (rdTo C L M k) ((((w9.setCell ⟨b8, 0, none⟩ (.int .i64 b)).setCell ⟨b8, 1, none⟩ (.int .i64 xb)).setCell ⟨b9, 0, none⟩ (.int .i64 f)).setCell ⟨b9, 1, none⟩ (.int .i64 xf)) := by
            have hl8 : w.heap.size ≠ b8 := by omega
            have hl9 : w.heap.size ≠ b9 := by omega
            exact ⟨(((E9.bs.set_other (p := ⟨b8, 0, none⟩) hl8 _).set_other (p := ⟨b8, 1, none⟩) hl8 _).set_other (p := ⟨b9, 0, none⟩) hl9 _).set_other (p := ⟨b9, 1, none⟩) hl9 _,
              (((E9.own.set (p := ⟨b8, 0, none⟩) hvo8 _).set (p := ⟨b8, 1, none⟩) hvo8 _).set (p := ⟨b9, 0, none⟩) hvo9 _).set (p := ⟨b9, 1, none⟩) hvo9 _,
              (((E9.low.setCell (p := ⟨b8, 0, none⟩) (Nat.le_of_lt hlow8) _).setCell (p := ⟨b8, 1, none⟩) (Nat.le_of_lt hlow8) _).setCell (p := ⟨b9, 0, none⟩) (by show w.heap.size ≤ b9; omega) _).setCell (p := ⟨b9, 1, none⟩) (by show w.heap.size ≤ b9; omega) _⟩
          go_wp2
          go_meet
          exact ⟨rfl, ⟨⟨b, xb⟩, ⟨f, xf⟩, by unfold rdP; rw [if_pos rfl, HCE.out]; show [Page.mk b (xr bt zt), Page.mk f (xr ft zt)] = _; rw [HXF.out, HXB.out], (((bu9.set 0 _).set 1 _).set_other (p := ⟨b9, 0, none⟩) n1 _).set_other (p := ⟨b9, 1, none⟩) n1 _, ((((bv9.set_other (p := ⟨b8, 0, none⟩) n2 _).set_other (p := ⟨b8, 1, none⟩) n2 _).set 0 _).set 1 _)⟩, EB⟩
      case rest =>
      obtain ⟨rfl, ⟨⟨xp, xt⟩, ⟨yp, yt⟩, HXY, bx, by_⟩, EA⟩ := hcut
      rename World => wa
      rw [HXY] at HRD
      have x0 := bx.cell 0; have x1 := bx.cell 1; have y0 := by_.cell 0; have y1 := by_.cell 1
      have hxl := bx.lt; have hyl := by_.lt
      simp at x0 x1 y0 y1
      clear u0 u1 v0 v1 s2 bv9 E9 bu9 fu fv hul hvl
      have HLT : Hid (∀ q, u5.ownBlock = some q → w.heap.size + 1 ≤ q) := Lib.hid (fun q e => (EA.own.lt q e).1)
      have HRL : Hid ((rdTo C L M k).length ≤ 1000000) := Lib.hid (by rw [rdTo_len (by omega)]; have := HML.out; omega)
      have HWR := Lib.hid EA.bs.lt
      have hkb : k ≤ 1000 := by have := HML.out; omega
      go_wp2_with (at_builtin; refine wpList_appL tPage page_l _ rfl _ _ rfl (w.heap.size + 1) u5 (rdTo C L M k) rfl (EA.own.alloc _) (some ⟨wa.heap.size, 0, none⟩) [⟨xp, xt⟩, ⟨yp, yt⟩] 2 rfl (RowsAt.two wa ⟨xp, xt⟩ ⟨yp, yt⟩ _) (fun e => by cases e) HRL.out (by simp) (by have := HWR.out; simp; omega) ?_; intro v6 w6 hO6 hg6 hb6 ho6)
      have EC : PgEnv w C R (some ad) n c v6 (rdTo C L M (k + 1)) w6 := by
        refine ⟨?_, ?_, ?_⟩
        · exact (EA.bs.alloc _).grown hg6 (fun e => by have := HLT.out _ e.symm; omega)
        · have := hO6; rw [HRD.out] at this; exact this
        · exact (EA.low.alloc EA.low.size _).trans (hb6.mono (B' := w.heap.size) (by omega))
      go_roundw
      case rel => exact ⟨k + 1, by omega, by go_num, EC⟩
      case measure => simp [intOf]; omega
    · have hkp : k = pn := by omega
      have hkI : ¬ (k : Int) < (pn : Int) := by omega
      have HO : Hid (OwnR 2 92 Page.l wr (w.heap.size + 1) _ (rdTo C L M M.length)) := Lib.hid (by rw [← HPN.out, ← hkp]; exact E.own)
      obtain ⟨va, vc, ev, hrow, -, -, hnil, -⟩ := HO.out.rows page_l
      obtain ⟨vn, hvn⟩ : ∃ n, n = (rdTo C L M M.length).length := ⟨_, rfl⟩
      rw [← hvn] at ev
      subst ev
      have HVN := Lib.hid hvn
      have hlow := E.low
      clear hkp E hvn
      go_wp2
      go_ret
      exact ⟨va, vn, vc, rfl, HVN.out, hrow, hnil, hlow⟩
end Go.Proofs.Ytmolejpbpcodbaa
