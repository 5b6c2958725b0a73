/-
  Package impose: the walk of a fold of a pile.
-/
import Derived.Test.YtgoandhlcekmiaaGreatDoorKB
import Derived.Test.YtgoandhlcekmiaaGreatDoorIX
namespace Go.Proofs.YtgoandhlcekmiaaGreatDoor
open Go.RowKit

def FoldPost (w : World) (C' R' : Nat) (P' : List (List Leaf)) (e : Ending) (w' : World) : Prop :=
  ∃ (A : Option Addr) (n c : Nat) (Ps : List PS), e = .returned (.agg #[.int .i64 C', .int .i64 R', .slice A n c]) ∧ n = Ps.length ∧ PlacesAt w' A Ps ∧ FromB w.heap.size A Ps ∧ Ps.map (·.l) = P' ∧ Below w.heap.size w w'
theorem info_ls : (Tryz.prog.info? 69).map (fun i => (i.zero, i.size, i.bytes)) = some (some (.slice none 0 0), 1, 24) := by kernel_rfl
theorem mul_lt {r R C c : Nat} (hr : r < R) (hc : c < C) : r * C + c < C * R := by
  have : (r + 1) * C ≤ R * C := Nat.mul_le_mul_right _ hr
  rw [Nat.succ_mul] at this
  rw [Nat.mul_comm C R]; omega
set_option maxRecDepth 100000 in
set_option maxHeartbeats 4000000 in
theorem folded_any (C R C' R' : Nat) (A : Option Addr) (n c : Nat) (f : Fold) (Ps : List PS) (w : World) (hC : 1 ≤ C ∧ C ≤ 8) (hR : 1 ≤ R ∧ R ≤ 8) (hf : foldErr C R f = 0) (hC' : afterC C f = C') (hR' : afterR R f = R')
    (hn : n = Ps.length) (hP : PlacesAt w A Ps) (hlen : Ps.length = C * R) (hpos : ∀ x ∈ Ps, 0 < x.l.length) (hsum : sumL (Ps.map (·.l)) ≤ 1000) (hbits : ∀ x ∈ Ps, ∀ y ∈ x.l, LeafBits y) :
    Calls Tryz.prog 59 #[.agg #[.int .i64 C, .int .i64 R, .slice A n c], .agg #[.int .i64 f.k, .int .i64 f.c]] w (FoldPost w C' R' (accF C R C' R' f (Ps.map (·.l)) (C * R))) := by
  have hCI : 1 ≤ (C : Int) ∧ (C : Int) ≤ 8 := by omega
  have hRI : 1 ≤ (R : Int) ∧ (R : Int) ≤ 8 := by omega
  obtain ⟨g1, g2⟩ := after_ok hCI hRI hf
  rw [hC'] at g1
  rw [hR'] at g2
  have hC8 : 1 ≤ C' ∧ C' ≤ 8 := by omega
  have hR8 : 1 ≤ R' ∧ R' ≤ 8 := by omega
  have hfo := fold_ok hCI hRI hf
  have HF := Lib.hid hf; have HC' := Lib.hid hC'; have HR' := Lib.hid hR'; have HLEN := Lib.hid hlen; have HPOS := Lib.hid hpos; have HSUM := Lib.hid hsum; have HBITS := Lib.hid hbits; have HFO := Lib.hid hfo
  have HCI := Lib.hid hCI; have HRI := Lib.hid hRI; have HC8 := Lib.hid hC8; have HR8 := Lib.hid hR8
  have hm8 : C' * R' ≤ 64 := Nat.mul_le_mul hC8.2 hR8.2
  have haft := fun W => after_any (C : Int) (R : Int) f W hCI hRI (by have := HFO.out; omega)
  rw [hC', hR'] at haft
  have HAFT := Lib.hid haft
  have hmk := fun W => run_make_row' (P := Tryz.prog) 124 69 (.slice none 0 0) 24 Tryz.underlying124 info_ls rfl .i64 .i64 (C' * R') (by omega) (by omega) W
  obtain ⟨N, hN⟩ : ∃ N : Nat, C' * R' = N := ⟨_, rfl⟩
  rw [hN] at hmk hm8
  have HN := Lib.hid hN; have HNP := Lib.hid hn
  clear hf hC' hR' hlen hpos hsum hbits hfo hCI hRI hC8 hR8 g1 g2 hC hR haft hN hn
  go_enter Tryz.func59, Tryz.ntmps59
  go_wp2_with fail
  refine (HAFT.out _).mono ?_
  rintro e w1 ⟨rfl, hb1⟩
  have bp1 := (((BoxAt.new w #[.int .i64 C, .int .i64 R, .slice A n c] 126).alloc (.cells #[.int .i64 f.k, .int .i64 f.c] 59)).alloc (.cells #[.int .i64 0, .int .i64 0, .slice none 0 0] 126)).below hb1
  have bf1 := ((BoxAt.new (w.alloc (.cells #[.int .i64 C, .int .i64 R, .slice A n c] 126)) #[.int .i64 f.k, .int .i64 f.c] 59).alloc (.cells #[.int .i64 0, .int .i64 0, .slice none 0 0] 126)).below hb1
  have br1 := ((BoxAt.new ((w.alloc (.cells #[.int .i64 C, .int .i64 R, .slice A n c] 126)).alloc (.cells #[.int .i64 f.k, .int .i64 f.c] 59)) #[.int .i64 0, .int .i64 0, .slice none 0 0] 126)).below hb1
  simp at bf1 br1
  have hB1 := ((((Below.refl w.heap.size w).alloc (Nat.le_refl _) (.cells #[.int .i64 C, .int .i64 R, .slice A n c] 126)).alloc (by simp) (.cells #[.int .i64 f.k, .int .i64 f.c] 59)).alloc (by simp; omega) (.cells #[.int .i64 0, .int .i64 0, .slice none 0 0] 126)).trans (hb1.mono (B' := w.heap.size) (by simp; omega))
  have hz1 := br1.lt
  clear hb1
  obtain ⟨ga, hga⟩ : ∃ ga, w1.heap.size = ga := ⟨_, rfl⟩
  rw [hga] at hz1
  go_wp2_with fail
  refine (cells_any (C' : Int) (R' : Int) (N : Int) _ (by rw [← HN.out, Int.natCast_mul]) (by have := HN.out; rw [← Int.natCast_mul]; omega) (by have := HN.out; rw [← Int.natCast_mul]; omega)).mono ?_
  rintro e w2 ⟨rfl, hb2⟩
  have bp2 := (bp1.alloc (.cells #[.int .i64 C', .int .i64 R', .slice none 0 0] 126)).below hb2
  have bf2 := (bf1.alloc (.cells #[.int .i64 C', .int .i64 R', .slice none 0 0] 126)).below hb2
  have br2 := (br1.alloc (.cells #[.int .i64 C', .int .i64 R', .slice none 0 0] 126)).below hb2
  have ba2 := (BoxAt.new w1 #[.int .i64 C', .int .i64 R', .slice none 0 0] 126).below hb2
  have hB2 := (hB1.alloc hB1.size (.cells #[.int .i64 C', .int .i64 R', .slice none 0 0] 126)).trans (hb2.mono (B' := w.heap.size) (by simp; omega))
  rw [hga] at ba2
  have hz2 := ba2.lt
  have f2 := ba2.free 2
  have ca2 := ba2.cell 2
  have cp0 := bp2.cell 0; have cp1 := bp2.cell 1
  simp at ca2 cp0 cp1
  clear hb2 bp1 bf1 br1 hB1
  obtain ⟨g, hgg⟩ : ∃ g, w2.heap.size = g := ⟨_, rfl⟩
  rw [hgg] at hz2
  have hwg : w.heap.size < g := by omega
  have hwa : w.heap.size ≠ ga := by omega
  go_wp2_with fail
  have E0 : FEnv w C R A n c f ga g C' R' N ((w2.setCell ⟨ga, 2, none⟩ (.slice (some ⟨g, 0, none⟩) N N)).alloc (.cells (madeCells #[.slice none 0 0] N) 69)) := by
    refine ⟨?_, ?_, ?_, ?_, ?_⟩
    · exact (bp2.set_other (p := ⟨ga, 2, none⟩) (by show w.heap.size ≠ ga; omega) _).alloc _
    · exact (bf2.set_other (p := ⟨ga, 2, none⟩) (by show w.heap.size + 1 ≠ ga; omega) _).alloc _
    · exact (ba2.set 2 _).alloc _
    · exact (br2.set_other (p := ⟨ga, 2, none⟩) (by show w.heap.size + 1 + 1 ≠ ga; omega) _).alloc _
    · exact (hB2.setCell (p := ⟨ga, 2, none⟩) (by show w.heap.size ≤ ga; omega) _).alloc (by rw [World.size_setCell]; exact hB2.size) _
  have G0 : Grid (w.heap.size + 3) g (List.replicate N noPS) ((w2.setCell ⟨ga, 2, none⟩ (.slice (some ⟨g, 0, none⟩) N N)).alloc (.cells (madeCells #[.slice none 0 0] N) 69)) := by
    have hs := Grid.start (w := w2.setCell ⟨ga, 2, none⟩ (.slice (some ⟨g, 0, none⟩) N N)) (B := w.heap.size + 3) (by rw [World.size_setCell]; omega) N
    rw [World.size_setCell, hgg] at hs
    exact hs
  have hz1' : w.heap.size + 1 + 1 < ga := hz1
  clear ca2 cp0 cp1 f2 bp2 bf2 br2 ba2 hB2 hga hgg
  clear hwg hwa
  go_loopw [24] (fun i wr => ∃ (r : Nat) (Qs : List PS), r ≤ R ∧ i = .int .i64 r ∧ FEnv w C R A n c f ga g C' R' N wr ∧ Grid (w.heap.size + 3) g Qs wr ∧ Hid (Qs.map (·.l) = accF C R C' R' f (Ps.map (·.l)) (r * C)) ∧ Hid (sumL (Qs.map (·.l)) = sumL ((Ps.map (·.l)).take (r * C)))) (fun i _ => R - (intOf i).toNat)
  case atStart =>
    refine ⟨0, _, Nat.zero_le _, rfl, E0, G0, Lib.hid ?_, Lib.hid ?_⟩
    · rw [Nat.zero_mul, List.map_replicate, ← HN.out]; rfl
    · rw [Nat.zero_mul, List.map_replicate, List.take_zero]; exact sumL_rep N
  case round =>
    obtain ⟨r, Qs, hr, rfl, E, G, HQ, HS⟩ := hrel
    clear E0 G0
    have cp0 := E.bp.cell 0; have cp1 := E.bp.cell 1
    simp at cp0 cp1
    by_cases hlt : r < R
    · go_wp2
      obtain ⟨wo, rfl⟩ : ∃ wo : World, wo = wr := ⟨_, rfl⟩
      go_loopw [30] (fun i wr => ∃ (k : Nat) (Qs : List PS), k ≤ C ∧ i = .int .i64 k ∧ FEnv w C R A n c f ga g C' R' N wr ∧ Grid (w.heap.size + 3) g Qs wr ∧ Hid (Qs.map (·.l) = accF C R C' R' f (Ps.map (·.l)) (r * C + k)) ∧ Hid (sumL (Qs.map (·.l)) = sumL ((Ps.map (·.l)).take (r * C + k)))) (fun i _ => C - (intOf i).toNat)
      case atStart => exact ⟨0, Qs, Nat.zero_le _, rfl, E, G, HQ, HS⟩
      case round =>
        obtain ⟨k, Qs, hk, rfl, E, G, HQ, HS⟩ := hrel
        clear cp0 cp1
        by_cases hkC : k < C
        · obtain ⟨s, hs⟩ : ∃ s, r * C + k = s := ⟨_, rfl⟩
          have hsl : s < Ps.length := by rw [← hs, HLEN.out]; exact mul_lt hlt hkC
          have hsI : (r : Int) * (C : Int) + (k : Int) = (s : Int) := by rw [← hs]; push_cast; rfl
          have hrb : 0 ≤ (r : Int) * (C : Int) ∧ (r : Int) * (C : Int) ≤ 1000 := by
            have h8 := HCI.out; have h9 := HRI.out
            exact ⟨Int.mul_nonneg (by omega) (by omega), by have := Int.mul_le_mul (show (r : Int) ≤ 8 by omega) (show (C : Int) ≤ 8 by omega) (by omega) (by omega); omega⟩
          rw [hs] at HQ HS
          have HS1 := Lib.hid hs; have HSI := Lib.hid hsI; have HRB := Lib.hid hrb
          clear hs hsI hrb
          obtain ⟨ad, rfl, had, hcell, hrow, hnil⟩ := (hP.below E.low) s hsl
          obtain ⟨x, ex⟩ : ∃ x, x = Ps[s] := ⟨_, rfl⟩
          rw [← ex] at hcell hrow hnil
          have hxm : x ∈ Ps := by rw [ex]; exact List.getElem_mem hsl
          have HXP := Lib.hid (HPOS.out x hxm)
          have HXB := Lib.hid (HBITS.out x hxm)
          have HXL := Lib.hid (show x.l.length ≤ 1000 by
            have := sumL_mem (L := Ps.map (·.l)) (x := x.l) (List.mem_map.2 ⟨x, hxm, rfl⟩)
            have := HSUM.out; omega)
          have EX := Lib.hid ex; clear ex hxm
          have hwk := way_ok HCI.out HRI.out HF.out (c := k) (r := r) (by omega) (by omega)
          have hwc := fun W => wayOf_any (C : Int) (R : Int) (.slice (some ad) n c) ⟨_, _, _, rfl⟩ f k r W HCI.out HRI.out (by have := HFO.out; omega) (by omega) (by omega) HFO.out.1
          rw [HC'.out, HR'.out] at hwk
          obtain ⟨q, hq⟩ : ∃ q, q = wayOf C R f k r := ⟨_, rfl⟩
          rw [← hq] at hwk hwc
          have HQW := Lib.hid hq; have HWK := Lib.hid hwk; have HWC := Lib.hid hwc
          clear hq hwk hwc
          obtain ⟨qc, qr, qo, qt⟩ := q
          have cp0 := E.bp.cell 0; have cp1 := E.bp.cell 1; have cp2 := E.bp.cell 2
          have cf0 := E.bf.cell 0; have cf1 := E.bf.cell 1
          simp at cp0 cp1 cp2 cf0 cf1
          have hkC' : (k : Int) < (C : Int) := by omega
          go_wp2_with fail
          refine (HWC.out _).mono ?_
          rintro e w3 ⟨he, hb3⟩
          have he : e = .returned (.agg #[.int .i64 qc, .int .i64 qr, .int .i64 qo, .int .i64 qt]) := he
          subst he
          have E3 := E.below hb3; have G3 := G.below hb3
          have hcell3 := (hb3.cell (p := ad.add s) (by rw [add_block]; exact had)).trans hcell
          have hrow3 := hrow.below hb3
          have had3 : ad.block < w3.heap.size := Nat.lt_of_lt_of_le had hb3.size
          clear hb3 cp0 cp1 cp2 cf0 cf1 hcell hrow had E G
          have cp0 := E3.bp.cell 0; have cp1 := E3.bp.cell 1; have cp2 := E3.bp.cell 2
          have hbl := E3.bp.lt
          simp at cp0 cp1 cp2
          obtain ⟨bw, hbw⟩ : ∃ bw, w3.heap.size = bw := ⟨_, rfl⟩
          have hbl' : w.heap.size < bw := by rw [← hbw]; exact hbl
          have had4 : ad.block < bw := by rw [← hbw]; exact had3
          have E4 := E3.below ((Below.refl _ w3).alloc (Nat.le_refl _) (.cells #[.int .i64 qc, .int .i64 qr, .int .i64 qo, .int .i64 qt] 151))
          have G4 := G3.below ((Below.refl _ w3).alloc (Nat.le_refl _) (.cells #[.int .i64 qc, .int .i64 qr, .int .i64 qo, .int .i64 qt] 151))
          have bq4 := BoxAt.new w3 #[.int .i64 qc, .int .i64 qr, .int .i64 qo, .int .i64 qt] 151
          rw [hbw] at bq4
          have hrow4 := hrow3.alloc (.cells #[.int .i64 qc, .int .i64 qr, .int .i64 qo, .int .i64 qt] 151)
          have hsl1 : (0 : Int) ≤ (s : Int) := by omega
          have hsl2 : (s : Int) < (n : Int) := by rw [HNP.out]; omega
          have had5 : (ad.add s).block < bw := by rw [add_block]; exact had4
          have hwz : (w3.alloc (.cells #[.int .i64 qc, .int .i64 qr, .int .i64 qo, .int .i64 qt] 151)).heap.size = bw + 1 := by simp [hbw]
          have HWZ := Lib.hid hwz; clear hwz
          unfold PS.sl at hcell3
          have hcell4 : (w3.alloc (.cells #[.int .i64 qc, .int .i64 qr, .int .i64 qo, .int .i64 qt] 151)).cell? (ad.add s) = some (.slice x.a x.l.length x.c) := (((Below.refl w3.heap.size w3).alloc (Nat.le_refl _) _).cell (p := ad.add s) (by rw [hbw]; exact had5)).trans hcell3
          go_wp2_with fail
          obtain ⟨w4, e4⟩ : ∃ w4, w4 = w3.alloc (.cells #[.int .i64 qc, .int .i64 qr, .int .i64 qo, .int .i64 qt] 151) := ⟨_, rfl⟩
          rw [← e4] at E4 G4 bq4 hrow4 HWZ hcell4 ⊢
          clear cp0 cp1 cp2 hcell3 hrow3 had3 E3 G3 hbl
          have hwz := HWZ.out
          have cp0 := E4.bp.cell 0; have cp1 := E4.bp.cell 1; have cp2 := E4.bp.cell 2
          have q0 := bq4.cell 0; have q1 := bq4.cell 1; have q2 := bq4.cell 2; have q3 := bq4.cell 3
          simp at cp0 cp1 cp2 q0 q1 q2 q3
          have hl0 : w.heap.size < w4.heap.size := by omega
          have hl1 : bw < w4.heap.size := by omega
          have hl2 : (ad.add s).block < w4.heap.size := by omega
          clear hwz e4
          go_region_held3 (fun w' => w'.cell? ⟨bw, 0, none⟩ = some (.int .i64 qc) ∧ w'.cell? ⟨bw, 1, none⟩ = some (.int .i64 qr) ∧ w'.cell? ⟨bw, 2, none⟩ = some (.int .i64 qo) ∧ w'.cell? ⟨bw, 3, none⟩ = some (.int .i64 qt) ∧ w'.cell? ⟨w.heap.size, 0, none⟩ = some (.int .i64 C) ∧ w'.cell? ⟨w.heap.size, 1, none⟩ = some (.int .i64 R) ∧ w'.cell? ⟨w.heap.size, 2, none⟩ = some (.slice (some ad) n c) ∧ w'.cell? (ad.add s) = some (.slice x.a x.l.length x.c)) (go_keep)
            (first
              | (go_at_call 27; refine (at_any (C : Int) (R : Int) (k : Int) (r : Int) (s : Int) _ HSI.out (by have := HRB.out; omega) (by have := HRB.out; omega) (by omega) (by have := HCI.out; omega)).mono ?_; rintro e w5 ⟨rfl, hb5⟩; have k0 := (hb5.cell (p := ⟨bw, 0, none⟩) hl1).trans q0; have k1 := (hb5.cell (p := ⟨bw, 1, none⟩) hl1).trans q1; have k2 := (hb5.cell (p := ⟨bw, 2, none⟩) hl1).trans q2; have k3 := (hb5.cell (p := ⟨bw, 3, none⟩) hl1).trans q3; have k4 := (hb5.cell (p := ⟨w.heap.size, 0, none⟩) hl0).trans cp0; have k5 := (hb5.cell (p := ⟨w.heap.size, 1, none⟩) hl0).trans cp1; have k6 := (hb5.cell (p := ⟨w.heap.size, 2, none⟩) hl0).trans cp2; have k7 := (hb5.cell (p := ad.add s) hl2).trans hcell4)
              | (go_at_call 79; refine (turn_any ⟨qc, qr, qo, qt⟩ x.a x.l x.c _ (by exact hrow4.drew.below hb5) (by have := HXL.out; omega) HXP.out hnil HXB.out HWK.out.2.2.1 HWK.out.2.2.2).mono ?_; rintro e w6 ⟨v6, rfl, ho6, hb6⟩; have j0 := (hb6.cell (p := ⟨bw, 0, none⟩) (Nat.lt_of_lt_of_le hl1 hb5.size)).trans k0; have j1 := (hb6.cell (p := ⟨bw, 1, none⟩) (Nat.lt_of_lt_of_le hl1 hb5.size)).trans k1; have j2 := (hb6.cell (p := ⟨bw, 2, none⟩) (Nat.lt_of_lt_of_le hl1 hb5.size)).trans k2; have j3 := (hb6.cell (p := ⟨bw, 3, none⟩) (Nat.lt_of_lt_of_le hl1 hb5.size)).trans k3; have j4 := (hb6.cell (p := ⟨w.heap.size, 0, none⟩) (Nat.lt_of_lt_of_le hl0 hb5.size)).trans k4; have j5 := (hb6.cell (p := ⟨w.heap.size, 1, none⟩) (Nat.lt_of_lt_of_le hl0 hb5.size)).trans k5; have j6 := (hb6.cell (p := ⟨w.heap.size, 2, none⟩) (Nat.lt_of_lt_of_le hl0 hb5.size)).trans k6; have j7 := (hb6.cell (p := ad.add s) (Nat.lt_of_lt_of_le hl2 hb5.size)).trans k7))
          have hb46 : Below w4.heap.size w4 w6 := ((Below.refl _ w4).drew.trans hb5).trans (hb6.mono (B' := w4.heap.size) hb5.size)
          have hsz5 : w4.heap.size ≤ w5.heap.size := hb5.size
          have htl : 0 < (turnL qo qt x.l).length := by rw [turnL_len]; exact HXP.out
          obtain ⟨b6, c6, rfl, hb6l, hb6r⟩ := ho6.form htl
          have E6 := E4.below hb46; have G6 := G4.below hb46; have bq6 := bq4.below hb46
          obtain ⟨j, hj⟩ : ∃ j : Nat, qr * (C' : Int) + qc = (j : Int) := ⟨(qr * (C' : Int) + qc).toNat, by
            have h1 := HWK.out
            have h2 : 0 ≤ qr * (C' : Int) := Int.mul_nonneg h1.2.1.1 (by omega)
            have h3 : (0 : Int) ≤ qc := h1.1.1
            omega⟩
          have hjN : j < N := by
            have h1 := HWK.out
            have h2 : qr + 1 ≤ (R' : Int) := h1.2.1.2
            have h4 : 0 ≤ qr := h1.2.1.1
            have h5 : qc < (C' : Int) := h1.1.2
            have h3 : (qr + 1) * (C' : Int) ≤ (R' : Int) * (C' : Int) := Int.mul_le_mul_of_nonneg_right h2 (by omega)
            have h6 : (qr + 1) * (C' : Int) = qr * (C' : Int) + (C' : Int) := by rw [Int.add_mul, Int.one_mul]
            have h7 : (R' : Int) * (C' : Int) = (N : Int) := by rw [← HN.out, Int.natCast_mul, Int.mul_comm]
            omega
          have hjb : 0 ≤ qr * (C' : Int) ∧ qr * (C' : Int) ≤ 1000 ∧ 0 ≤ qc ∧ qc ≤ 1000 := by
            have h1 := HWK.out
            have h2 : 0 ≤ qr * (C' : Int) := Int.mul_nonneg h1.2.1.1 (by omega)
            have h3 : (0 : Int) ≤ qc := h1.1.1
            have h5 : qc < (C' : Int) := h1.1.2
            have h8 := HC8.out
            omega
          have HJ := Lib.hid hj; have HJB := Lib.hid hjb
          clear hj hjb
          have hga4 : ga < w4.heap.size := E4.ba.lt
          have hk8 : k < 8 := by have := HCI.out; omega
          have hQN : Hid (Qs.length = N) := by
            have h1 := congrArg List.length HQ.out
            rw [List.length_map, accF_len, HN.out] at h1
            exact h1
          clear k0 k1 k2 k3 k4 k5 k6 k7 j0 j1 j2 j3 j4 j5 j6 j7 cp0 cp1 cp2 q0 q1 q2 q3 hl0 hl1 hl2 hcell4 hrow4 E4 bq4 hb5 hb6
          rename_i hHeld
          clear hHeld
          have ca0 := E6.ba.cell 0; have ca1 := E6.ba.cell 1; have ca2 := E6.ba.cell 2
          have q0 := bq6.cell 0; have q1 := bq6.cell 1; have q2 := bq6.cell 2
          simp at ca0 ca1 ca2 q0 q1 q2
          have hla := E6.ba.lt
          have hlq := bq6.lt
          have hjI : (0 : Int) ≤ (j : Int) := by omega
          have hjI2 : (j : Int) < (N : Int) := by omega
          go_wp2_with fail
          go_region_held3 (fun w' => w'.cell? ⟨bw, 0, none⟩ = some (.int .i64 qc) ∧ w'.cell? ⟨bw, 1, none⟩ = some (.int .i64 qr) ∧ w'.cell? ⟨ga, 0, none⟩ = some (.int .i64 C') ∧ w'.cell? ⟨ga, 1, none⟩ = some (.int .i64 R') ∧ w'.cell? ⟨ga, 2, none⟩ = some (.slice (some ⟨g, 0, none⟩) N N)) (go_keep)
            ((go_at_call 27; refine (at_any (C' : Int) (R' : Int) qc qr (j : Int) _ HJ.out (by have := HJB.out; omega) (by have := HJB.out; omega) (by have := HJB.out; omega) (by have := HJB.out; omega)).mono ?_; rintro e w7 ⟨rfl, hb7⟩; have k0 := (hb7.cell (p := ⟨bw, 0, none⟩) hlq).trans q0; have k1 := (hb7.cell (p := ⟨bw, 1, none⟩) hlq).trans q1; have k2 := (hb7.cell (p := ⟨ga, 0, none⟩) hla).trans ca0; have k3 := (hb7.cell (p := ⟨ga, 1, none⟩) hla).trans ca1; have k4 := (hb7.cell (p := ⟨ga, 2, none⟩) hla).trans ca2))
          have hb47 : Below w4.heap.size w4 w7 := hb46.trans (((Below.refl _ w6).drew.trans hb7).mono (B' := w4.heap.size) hb46.size)
          have E7 := (E6.below (Below.refl _ w6).drew).below hb7
          have G7 := (G6.below (Below.refl _ w6).drew).below hb7
          have bq7 := (bq6.below (Below.refl _ w6).drew).below hb7
          have ho7 := (ho6.drew).below hb7
          clear k0 k1 k2 k3 k4 ca0 ca1 ca2 q0 q1 q2 hla hlq E6 G6 bq6 ho6 hb7 hb46
          rename_i hHeld
          clear hHeld
          have q2 := bq7.cell 2
          simp at q2
          have hjQ : j < Qs.length := by rw [hQN.out]; exact hjN
          obtain ⟨y, ey⟩ : ∃ y, y = Qs[j] := ⟨_, rfl⟩
          have hym : y ∈ Qs := by rw [ey]; exact List.getElem_mem hjQ
          have g0 := G7.cell hjQ
          have g1 := G7.free j
          have hgl := G7.lt
          rw [← ey] at g0
          unfold PS.sl at g0
          have hyo := G7.own y hym
          have hyr := sl_rows hyo
          have hgj : (PS.sl y).ownBlock ≠ some g := hyo.off G7.row leaf_line
          have hyl : y.l.length ≤ 1000 := by
            have h1 := sumL_mem (L := Qs.map (·.l)) (x := y.l) (List.mem_map.2 ⟨y, hym, rfl⟩)
            have h2 := HS.out
            have h3 := sumL_take_le (Ps.map (·.l)) s
            have h4 := HSUM.out
            omega
          have htl2 : (turnL qo qt x.l).length ≤ 1000 := by rw [turnL_len]; exact HXL.out
          have EY := Lib.hid ey
          clear ey
          obtain ⟨at6, ct6, et6, htr, -, -, htn, -⟩ := ho7.rows leaf_l
          injection et6 with et1 _ et3
          subst et1 et3
          have hgb6 : (some b6 : Option Nat) ≠ some g := ho7.off G7.row leaf_line
          have hB7 : w.heap.size + 3 ≤ w7.heap.size := by have := G7.hg; omega
          have hB5 : w.heap.size + 3 ≤ w5.heap.size := by have := (G4.below ((Below.refl _ w4).alloc (Nat.le_refl _) (.cells #[] 0))).hg; have := G4.lt; omega
          have ho7' := ho7.mono hB5
          have hacc : Hid (∀ z : PS, z.l = (if qo = 1 then turnL qo qt x.l ++ y.l else y.l ++ turnL qo qt x.l) → (Qs.set j z).map (·.l) = accF C R C' R' f (Ps.map (·.l)) (s + 1)) := Lib.hid (fun z hz => by
            rw [accF_succ, stepF_eq HS1.out hkC HQW.out HJ.out, ← HQ.out, List.map_set, hz, map_getD _ hjQ, map_getD _ hsl, ← EY.out, ← EX.out])
          have hsums : Hid (∀ z : PS, z.l.length = y.l.length + x.l.length → sumL ((Qs.set j z).map (·.l)) = sumL ((Ps.map (·.l)).take (s + 1))) := Lib.hid (fun z hz => by
            have h1 := sumL_set (L := Qs.map (·.l)) (j := j) (by simpa using hjQ) z.l
            have h2 := sumL_take (L := Ps.map (·.l)) (k := s) (by simpa using hsl)
            rw [List.map_set]
            have h3 := HS.out
            simp only [List.getElem_map] at h1 h2
            rw [← EY.out] at h1
            rw [← EX.out] at h2
            omega)
          by_cases ho1 : qo = 1
          · subst ho1
            go_wp2_with (at_builtin; refine wpList_appL tLeaf leaf_l _ rfl _ _ rfl (w.heap.size + 3) _ (turnL 1 qt x.l) rfl ho7' y.a y.l y.c rfl hyr.1 hyr.2 (by omega) (by omega) hB7 ?_; intro v8 w8 hown8 hg8 hb8 hor8; obtain ⟨b8, c8, e8, hb8l, hb8r⟩ := hown8.form (by rw [List.length_append]; omega); subst e8; have x8 := (hg8.cell_far ⟨g, j, none⟩ hgl (fun e => hgb6 e.symm)).trans g0; have z8 := (hg8.frozen_far ⟨g, j, none⟩ hgl (fun e => hgb6 e.symm)).trans g1)
            have hz : PS.sl ⟨some ⟨b8, 0, none⟩, c8, turnL 1 qt x.l ++ y.l⟩ = .slice (some ⟨b8, 0, none⟩) ((turnL 1 qt x.l).length + y.l.length) c8 := by unfold PS.sl; rw [List.length_append]
            have G8 := G4.put hb47 hg8 hjQ (Or.inr (fun q e => by have e : b6 = q := Option.some.inj e; omega)) (x := ⟨some ⟨b8, 0, none⟩, c8, turnL 1 qt x.l ++ y.l⟩) hown8 (fun q e => by
              have e : b8 = q := Option.some.inj e
              rcases hor8 with h | h
              · have h : b8 = b6 := Option.some.inj h
                right; omega
              · have h : b8 = w7.heap.size := Option.some.inj h
                right; have := hb47.size; omega)
            rw [hz] at G8
            have E8 := (E7.grown hg8 (fun q e => by have e : b6 = q := Option.some.inj e; exact ⟨by omega, by omega⟩)).set (b := g) (by have := G7.hg; omega) (by omega) j (.slice (some ⟨b8, 0, none⟩) ((turnL 1 qt x.l).length + y.l.length) c8)
            go_roundw
            case rel => exact ⟨k + 1, _, by omega, by go_num, E8, G8, Lib.hid (by rw [← Nat.add_assoc, HS1.out]; exact hacc.out _ (by rw [if_pos rfl])), Lib.hid (by rw [← Nat.add_assoc, HS1.out]; exact hsums.out _ (by rw [List.length_append, turnL_len]; omega))⟩
            case measure => simp [intOf]; omega
          · have ho1' : (qo == 1) = false := by simpa using ho1
            have HO1 := Lib.hid ho1; clear ho1
            go_wp2_with (at_builtin; refine wpList_appL tLeaf leaf_l _ rfl _ _ rfl (w.heap.size + 3) (.slice y.a y.l.length y.c) y.l rfl hyo (some ⟨b6, 0, none⟩) (turnL qo qt x.l) c6 rfl htr htn (by omega) (by omega) hB7 ?_; intro v8 w8 hown8 hg8 hb8 hor8; obtain ⟨b8, c8, e8, hb8l, hb8r⟩ := hown8.form (by rw [List.length_append]; omega); subst e8; have x8 := (hg8.cell_far ⟨g, j, none⟩ hgl (fun e => hgj e.symm)).trans g0; have z8 := (hg8.frozen_far ⟨g, j, none⟩ hgl (fun e => hgj e.symm)).trans g1)
            have hz : PS.sl ⟨some ⟨b8, 0, none⟩, c8, y.l ++ turnL qo qt x.l⟩ = .slice (some ⟨b8, 0, none⟩) (y.l.length + (turnL qo qt x.l).length) c8 := by unfold PS.sl; rw [List.length_append]
            have hysl : (.slice y.a y.l.length y.c : Value).ownBlock = Qs[j].sl.ownBlock := by rw [← EY.out]; rfl
            have G8 := G4.put hb47 hg8 hjQ (Or.inl hysl) (x := ⟨some ⟨b8, 0, none⟩, c8, y.l ++ turnL qo qt x.l⟩) hown8 (fun q e => by
              have e : b8 = q := Option.some.inj e
              rcases hor8 with h | h
              · left; rw [← hysl, ← h, ← e]; rfl
              · have h : b8 = w7.heap.size := Option.some.inj h
                right; have := hb47.size; omega)
            rw [hz] at G8
            have E8 := (E7.grown hg8 (fun q e => ⟨by have := (hyo.lt q e).1; omega, fun e2 => (hyo.off E7.ba (by decide)) (by rw [e2]; exact e)⟩)).set (b := g) (by have := G7.hg; omega) (by omega) j (.slice (some ⟨b8, 0, none⟩) (y.l.length + (turnL qo qt x.l).length) c8)
            go_roundw
            case rel => exact ⟨k + 1, _, by omega, by go_num, E8, G8, Lib.hid (by rw [← Nat.add_assoc, HS1.out]; exact hacc.out _ (by rw [if_neg HO1.out])), Lib.hid (by rw [← Nat.add_assoc, HS1.out]; exact hsums.out _ (by rw [List.length_append, turnL_len]))⟩
            case measure => simp [intOf]; omega
        · have hkC' : k = C := by omega
          have cp0 := E.bp.cell 0
          simp at cp0
          have hrs : r * C + k = (r + 1) * C := by rw [hkC', Nat.succ_mul]
          rw [hrs] at HQ HS
          have hr8 : r < 8 := by have := HRI.out; omega
          clear hrs
          go_wp2
          go_roundw
          case rel => exact ⟨r + 1, _, by omega, by go_num, E, G, HQ, HS⟩
          case measure => simp [intOf]; omega
    · have hrR : r = R := by omega
      have hrs : r * C = C * R := by rw [hrR, Nat.mul_comm]
      rw [hrs] at HQ
      have ca0 := E.ba.cell 0; have ca1 := E.ba.cell 1; have ca2 := E.ba.cell 2
      have cr0 := E.br.cell 0; have cr1 := E.br.cell 1; have cr2 := E.br.cell 2
      have fr := fun j => E.br.free j
      have hlr := E.br.lt
      simp at ca0 ca1 ca2 cr0 cr1 cr2
      clear hrs
      go_wp2
      refine bodyPost_ret (v := .agg #[.int .i64 C', .int .i64 R', .slice (some ⟨g, 0, none⟩) N N]) (by simp [results, Tryz.results59, go_sem, cr0, cr1, cr2]) rfl ?_
      refine ⟨_, N, N, Qs, rfl, ?_, ?_, ⟨fun ad e => Nat.le_trans (by omega) (G.fromB.1 ad e), fun x hx ad e => Nat.le_trans (by omega) (G.fromB.2 x hx ad e)⟩, HQ.out, ?_⟩
      · have h1 := congrArg List.length HQ.out
        rw [List.length_map, accF_len, HN.out] at h1
        exact h1.symm
      · exact (((G.set (b := w.heap.size + 1 + 1) (by omega) 0 _).set (b := w.heap.size + 1 + 1) (by omega) 1 _).set (b := w.heap.size + 1 + 1) (by omega) 2 _).places
      · exact ((E.low.setCell (p := ⟨w.heap.size + 1 + 1, 0, none⟩) (by show w.heap.size ≤ w.heap.size + 1 + 1; omega) _).setCell (p := ⟨w.heap.size + 1 + 1, 1, none⟩) (by show w.heap.size ≤ w.heap.size + 1 + 1; omega) _).setCell (p := ⟨w.heap.size + 1 + 1, 2, none⟩) (by show w.heap.size ≤ w.heap.size + 1 + 1; omega) _
end Go.Proofs.YtgoandhlcekmiaaGreatDoor
