/-
  Package tympanref06: a sheet that is not folded; folds, one behind the other.
-/
import Derived.Test.YtccfcdhnplodgaaGreatDoorRG
namespace Go.Proofs.YtccfcdhnplodgaaGreatDoor
open Go.RowKit

structure FlEnv (w : World) (C R : Nat) (v : Value) (Ps : List PS) (wr : World) : Prop where
  br : BoxAt wr w.heap.size #[.int .i64 0, .int .i64 0, .slice none 0 0] 71
  bv : BoxAt wr (w.heap.size + 1) #[.int .i64 C, .int .i64 R, v] 71
  own : Bld (w.heap.size + 1 + 1) Ps v wr
  low : Below w.heap.size w wr
theorem FlEnv.below {w : World} {C R : Nat} {v : Value} {Ps : List PS} {wr w1 : World} (h : FlEnv w C R v Ps wr) (hb : Below wr.heap.size wr w1) : FlEnv w C R v Ps w1 :=
  ⟨h.br.below hb, h.bv.below hb, h.own.below hb, h.low.trans (hb.mono h.low.size)⟩
theorem FlEnv.push {w : World} {C R : Nat} {v : Value} {Ps : List PS} {wr w6 : World} {x : PS} {g m k : Nat} (h : FlEnv w C R v Ps wr) (hO : Bld (w.heap.size + 1 + 1) (Ps ++ [x]) (.slice (some ⟨g, 0, none⟩) m k) w6) (hg : wr.grownBy w6 v.ownBlock) (hb : Below (w.heap.size + 1 + 1) wr w6) :
    FlEnv w C R (.slice (some ⟨g, 0, none⟩) m k) (Ps ++ [x]) (w6.setCell ⟨w.heap.size + 1, 2, none⟩ (.slice (some ⟨g, 0, none⟩) m k)) := by
  have brg := h.br.grow h.own.row (Ne.symm heap_place) hg
  have bvg := h.bv.grow h.own.row (Ne.symm heap_place) hg
  refine ⟨?_, bvg.set 2 _, hO.set bvg heap_place heap_leaf 2 _, (h.low.trans (hb.mono (B' := w.heap.size) (by omega))).setCell (p := ⟨w.heap.size + 1, 2, none⟩) (by show w.heap.size ≤ w.heap.size + 1; omega) _⟩
  exact brg.set_other (p := ⟨w.heap.size + 1, 2, none⟩) (by show w.heap.size ≠ w.heap.size + 1; omega) _
set_option maxRecDepth 100000 in
set_option maxHeartbeats 4000000 in
theorem refFlat_any (C R : Nat) (w : World) (hC : 1 ≤ C ∧ C ≤ 8) (hR : 1 ≤ R ∧ R ≤ 8) :
    Calls Tryz.prog 46 #[.int .i64 C, .int .i64 R] w (HeapPost w C R (flatP C (R * C))) := by
  obtain ⟨W0, hW0⟩ : ∃ W0, W0 = (w.alloc (.cells #[.int .i64 0, .int .i64 0, .slice none 0 0] 71)).alloc (.cells #[.int .i64 C, .int .i64 R, .slice none 0 0] 71) := ⟨_, rfl⟩
  have E0 : FlEnv w C R (.slice none 0 0) [] W0 := by
    rw [hW0]
    refine ⟨(BoxAt.new w _ _).alloc _, ?_, Bld.nil _ _, ((Below.refl w.heap.size w).alloc (Nat.le_refl _) _).alloc (by simp) _⟩
    have := BoxAt.new (w.alloc (.cells #[.int .i64 0, .int .i64 0, .slice none 0 0] 71)) #[.int .i64 C, .int .i64 R, .slice none 0 0] 71
    simpa using this
  have HW0 := Lib.hid hW0
  clear hW0
  go_enter Tryz.func46, Tryz.ntmps46
  go_wp2
  rw [← HW0.out]
  go_loopw [6] (fun i wr => ∃ (r : Nat) (Ps : List PS) (v : Value), r ≤ R ∧ i = .int .i64 r ∧ FlEnv w C R v Ps wr ∧ Hid (Ps.map (·.l) = flatP C (r * C))) (fun i _ => R - (intOf i).toNat)
  case atStart => exact ⟨0, [], _, Nat.zero_le _, rfl, E0, Lib.hid (by rw [Nat.zero_mul]; rfl)⟩
  case round =>
    obtain ⟨r, Ps, v, hr, rfl, E, HQ⟩ := hrel
    clear E0
    by_cases hlt : r < R
    · have hrI : (r : Int) < (R : Int) := by omega
      go_wp2
      obtain ⟨wo, hwo⟩ : ∃ wo : World, wo = wr := ⟨_, rfl⟩
      go_loopw [7] (fun i wr => ∃ (k : Nat) (Ps : List PS) (v : Value), k ≤ C ∧ i = .int .i64 k ∧ FlEnv w C R v Ps wr ∧ Hid (Ps.map (·.l) = flatP C (r * C + k))) (fun i _ => C - (intOf i).toNat)
      case atStart => exact ⟨0, Ps, v, Nat.zero_le _, rfl, E, HQ⟩
      case round =>
        clear hwo
        obtain ⟨k, Ps, v, hk, rfl, E, HQ⟩ := hrel
        by_cases hkC : k < C
        · have hkI : (k : Int) < (C : Int) := by omega
          have HLF : Hid (leafAt C (r * C + k) = ⟨k, r, 0, 0⟩) := Lib.hid (leafAt_eq rfl hkC)
          have HBL : Hid (Ps.length ≤ 1000) := Lib.hid (by
            have h := congrArg List.length HQ.out
            simp [flatP] at h
            have : r * C ≤ 8 * 8 := Nat.mul_le_mul (by omega) (by omega)
            omega)
          have hO1 := new_leaf wr ⟨k, r, 0, 0⟩
          have hb1 := (Below.refl wr.heap.size wr).alloc (Nat.le_refl _) (.cells #[.int .i64 k, .int .i64 r, .int .i64 0, .int .i64 0] 82)
          have hE1 := E.below hb1
          obtain ⟨w1, hw1⟩ : ∃ w1, w1 = wr.alloc (.cells #[.int .i64 k, .int .i64 r, .int .i64 0, .int .i64 0] 82) := ⟨_, rfl⟩
          have hO1 : OwnR 4 82 Leaf.l w1 wr.heap.size (.slice (some ⟨wr.heap.size, 0, none⟩) 1 1) [⟨k, r, 0, 0⟩] := by rw [hw1]; exact hO1
          rw [← hw1] at hE1
          have hs1 : w1.heap.size = wr.heap.size + 1 := by rw [hw1]; simp
          have HW1 := Lib.hid hw1
          have HS1 := Lib.hid hs1
          have v2 := E.bv.cell 2
          have hvl := E.bv.lt
          simp at v2
          have m1 : ¬ w.heap.size + 1 = wr.heap.size := by omega
          have m2 : ¬ w.heap.size + 1 = wr.heap.size + 1 := by omega
          clear hb1 hw1 hs1
          go_wp2_with (at_builtin; rw [← HW1.out]; refine wpList_push _ rfl _ _ rfl (w.heap.size + 1 + 1) v Ps ⟨some ⟨wr.heap.size, 0, none⟩, 1, [⟨k, r, 0, 0⟩]⟩ rfl (hE1.own.alloc _) (hO1.lrow.2.alloc _) ⟨wr.heap.size + 1, 0, none⟩ rfl (by rw [← HS1.out]; exact (BoxAt.new w1 _ _).cell 0) (by have := HBL.out; omega) (by have := hE1.low.size; have := HS1.out; simp; omega) ?_; intro g6 m6 k6 w6 hO6 hg6 hb6; have hE6 := (hE1.below ((Below.refl _ _).alloc (Nat.le_refl _) (.cells #[.slice (some ⟨wr.heap.size, 0, none⟩) 1 1] 116))); have bvg := hE6.bv.grow hE6.own.row (Ne.symm heap_place) hg6; have x8 := bvg.cell 2; have z8 := bvg.free 2; have l8 := bvg.lt; simp at x8)
          have hEP := hE6.push hO6 hg6 hb6
          have HF : Hid ((Ps ++ [PS.mk (some ⟨wr.heap.size, 0, none⟩) 1 [⟨k, r, 0, 0⟩]]).map (·.l) = flatP C (r * C + (k + 1))) := Lib.hid (by
            rw [List.map_append, HQ.out, ← Nat.add_assoc, flatP_succ, HLF.out]; rfl)
          go_wp2
          go_roundw
          case rel => exact ⟨k + 1, _, _, by omega, by go_num, hEP, HF⟩
          case measure => simp [intOf]; omega
        · have hkC' : k = C := by omega
          have hkI : ¬ (k : Int) < (C : Int) := by omega
          have hrs : r * C + k = (r + 1) * C := by rw [hkC', Nat.succ_mul]
          rw [hrs] at HQ
          clear hrs hkC'
          go_wp2
          go_roundw
          case rel => exact ⟨r + 1, Ps, v, by omega, by go_num, E, HQ⟩
          case measure => simp [intOf]; omega
    · have hrR : r = R := by omega
      have hrI : ¬ (r : Int) < (R : Int) := by omega
      rw [hrR] at HQ
      clear hrR
      have r0 := E.br.cell 0; have r1 := E.br.cell 1; have r2 := E.br.cell 2
      have z := fun j => E.br.free j
      have v0 := E.bv.cell 0; have v1 := E.bv.cell 1; have v2 := E.bv.cell 2
      have hvl := E.bv.lt; have hrl := E.br.lt
      simp at r0 r1 r2 v0 v1 v2
      obtain ⟨va, vc, ev, -⟩ := E.own.form
      obtain ⟨vm, hvm⟩ : ∃ m, Ps.length = m := ⟨_, rfl⟩
      rw [hvm] at ev
      subst ev
      clear hvm
      go_wp2
      refine bodyPost_ret (v := .agg #[.int .i64 C, .int .i64 R, .slice va vm vc]) (by simp [results, Tryz.results46, go_sem, r0, r1, r2]) rfl ?_
      have hO := E.own.mono (B' := w.heap.size) (by omega)
      exact heap_post (W := w) hO HQ.out rfl (Nat.le_refl _) E.low E.br (Nat.le_refl _)
theorem ret_bld {w w' : World} {C R : Nat} {A : Option Addr} {n c g : Nat} {Ps : List PS} (hO : Bld w.heap.size Ps (.slice A n c) w') (hlow : Below w.heap.size w w') (br : BoxAt w' g #[.int .i64 0, .int .i64 0, .slice none 0 0] 71) (hg : w.heap.size ≤ g) :
    Bld w.heap.size Ps (.slice A n c) (((w'.setCell ⟨g, 0, none⟩ (.int .i64 C)).setCell ⟨g, 1, none⟩ (.int .i64 R)).setCell ⟨g, 2, none⟩ (.slice A n c)) ∧ Below w.heap.size w (((w'.setCell ⟨g, 0, none⟩ (.int .i64 C)).setCell ⟨g, 1, none⟩ (.int .i64 R)).setCell ⟨g, 2, none⟩ (.slice A n c)) := by
  have b1 := (hO.set br heap_place heap_leaf 0 (.int .i64 C))
  have b2 := b1.set (br.set 0 _) heap_place heap_leaf 1 (.int .i64 R)
  have b3 := b2.set ((br.set 0 _).set 1 _) heap_place heap_leaf 2 (.slice A n c)
  exact ⟨b3, ((hlow.setCell (p := ⟨g, 0, none⟩) hg _).setCell (p := ⟨g, 1, none⟩) hg _).setCell (p := ⟨g, 2, none⟩) hg _⟩
/-- What folds, one behind the other, come to. -/
def FoldedPost (w : World) (C R : Nat) (L : List Fold) (e : Ending) (w' : World) : Prop :=
  ∃ (C' R' : Nat) (A : Option Addr) (n c : Nat) (Ps : List PS) (i s : Int), e = .returned (.tuple #[.agg #[.int .i64 C', .int .i64 R', .slice A n c], .int .i64 i, .int .i64 s]) ∧ Bld w.heap.size Ps (.slice A n c) w' ∧ Below w.heap.size w w' ∧ PileOk C' R' (Ps.map (·.l)) ∧ (1 ≤ C' ∧ C' ≤ 8) ∧ (1 ≤ R' ∧ R' ≤ 8) ∧
    (s ≠ 0 → foldsErr C R L 0 = (i, s)) ∧ (s = 0 → foldsErr C R L 0 = (if 1 < (C' : Int) * R' then ((L.length : Int), 25) else (0, 0)) ∧ runF C R (flatP C (C * R)) L = (C', R', Ps.map (·.l)))
set_option maxRecDepth 100000 in
set_option maxHeartbeats 8000000 in
theorem refFolded_any (C R : Nat) (a : Option Addr) (L : List Fold) (c : Nat) (w : World) (hC : 1 ≤ C ∧ C ≤ 8) (hR : 1 ≤ R ∧ R ≤ 8) (hL : RowsAt 2 Fold.l w a L) (hl : L.length ≤ 100) :
    Calls Tryz.prog 28 #[.int .i64 C, .int .i64 R, .slice a L.length c] w (FoldedPost w C R L) := by
  have HC := Lib.hid hC; have HR := Lib.hid hR
  clear hC hR
  go_enter Tryz.func28, Tryz.ntmps28
  go_wp2_with fail
  refine (refFlat_any C R _ HC.out HR.out).mono ?_
  rintro e w1 ⟨A, n, cp, Ps, rfl, hO1, hM1, hb1⟩
  have br1 := (BoxAt.new w #[.int .i64 0, .int .i64 0, .slice none 0 0] 71).below hb1
  have hB1 := ((Below.refl w.heap.size w).alloc (Nat.le_refl _) (.cells #[.int .i64 0, .int .i64 0, .slice none 0 0] 71)).trans (hb1.mono (B' := w.heap.size) (by simp))
  have hO1 := hO1.mono (B' := w.heap.size) (by simp)
  obtain ⟨gh, hgh⟩ : ∃ g, w1.heap.size = g := ⟨_, rfl⟩
  have bh0 : BoxAt (w1.alloc (.cells #[.int .i64 C, .int .i64 R, .slice A n cp] 71)) gh #[.int .i64 C, .int .i64 R, .slice A n cp] 71 := by rw [← hgh]; exact BoxAt.new _ _ _
  have br0 := br1.alloc (.cells #[.int .i64 C, .int .i64 R, .slice A n cp] 71)
  have hO0 := hO1.alloc (.cells #[.int .i64 C, .int .i64 R, .slice A n cp] 71)
  have hB0 := hB1.alloc hB1.size (.cells #[.int .i64 C, .int .i64 R, .slice A n cp] 71)
  have hwg : w.heap.size < gh := by rw [← hgh]; exact br1.lt
  have hP0 : PileOk C R (Ps.map (·.l)) := by rw [hM1, Nat.mul_comm]; exact PileOk.flat HC.out HR.out
  have HR0 : Hid (runF C R (flatP C (C * R)) (L.drop 0) = runF C R (Ps.map (·.l)) (L.drop 0)) := Lib.hid (by rw [hM1, Nat.mul_comm C R])
  have HP0 := Lib.hid hP0
  clear hb1 hM1 br1 hO1 hB1 hP0
  go_wp2_with fail
  clear hgh
  go_loopw [10] (fun i wr => ∃ (k C' R' : Nat) (A : Option Addr) (n cp : Nat) (Ps : List PS), k ≤ L.length ∧ i = .int .i64 k ∧ Hid ((1 ≤ C' ∧ C' ≤ 8) ∧ (1 ≤ R' ∧ R' ≤ 8)) ∧ Hid (PileOk C' R' (Ps.map (·.l))) ∧ BoxAt wr gh #[.int .i64 C', .int .i64 R', .slice A n cp] 71 ∧ BoxAt wr w.heap.size #[.int .i64 0, .int .i64 0, .slice none 0 0] 71 ∧ Bld w.heap.size Ps (.slice A n cp) wr ∧ Below w.heap.size w wr ∧
      Hid (foldsErr C R (L.drop 0) ((0 : Nat) : Int) = foldsErr C' R' (L.drop k) k) ∧ Hid (runF C R (flatP C (C * R)) (L.drop 0) = runF C' R' (Ps.map (·.l)) (L.drop k))) (fun i _ => L.length - (intOf i).toNat)
  case atStart => exact ⟨0, C, R, A, n, cp, Ps, Nat.zero_le _, rfl, Lib.hid ⟨HC.out, HR.out⟩, HP0, bh0, br0, hO0, hB0, Lib.hid rfl, HR0⟩
  case round =>
    obtain ⟨k, C', R', A', n', cp', Qs, hk, rfl, HCR, HPO, bh, br, hO, hB, HFE, HRF⟩ := hrel
    clear bh0 br0 hO0 hB0 HP0 HR0
    have h0 := bh.cell 0; have h1 := bh.cell 1; have h2 := bh.cell 2
    have hhl := bh.lt
    simp at h0 h1 h2
    by_cases hlt : k < L.length
    · have hkI : (k : Int) < (L.length : Int) := by omega
      obtain ⟨ad, rfl, had, s0, s1⟩ := (hL.below hB).fold hlt
      obtain ⟨f, ef⟩ : ∃ f, f = L[k] := ⟨_, rfl⟩
      rw [← ef] at s0 s1
      have EF := Lib.hid ef
      have had1 : (⟨(ad.add (k * 2)).block, (ad.add (k * 2)).off + 1, none⟩ : Addr).block < wr.heap.size := by show (ad.add (k * 2)).block < _; rw [add_block]; exact had
      have had0 : (ad.add (k * 2)).block < wr.heap.size := by rw [add_block]; exact had
      obtain ⟨E, hE⟩ : ∃ E, foldErr C' R' f = E := ⟨_, rfl⟩
      have HFD := Lib.hid (fun W => refFoldErr_any (C' : Int) (R' : Int) f W (by have := HCR.out; omega) (by have := HCR.out; omega))
      rw [hE] at HFD
      have HE := Lib.hid hE
      have hq : Below wr.heap.size wr wr.drew := (Below.refl _ wr).drew
      clear ef hE
      go_wp2_with fail
      go_region_held3 (fun w' => w'.cell? ⟨gh, 0, none⟩ = some (.int .i64 C') ∧ w'.cell? ⟨gh, 1, none⟩ = some (.int .i64 R') ∧ w'.cell? (ad.add (k * 2)) = some (.int .i64 f.k) ∧ w'.cell? ⟨(ad.add (k * 2)).block, (ad.add (k * 2)).off + 1, none⟩ = some (.int .i64 f.c)) (first | exact ⟨j0, j1, j2, j3⟩ | go_keep)
        (first | (go_at_call 47; refine (HFD.out _).mono ?_; rintro e w4 ⟨rfl, hb4⟩; have hq := hq.trans (hb4.mono (B' := wr.heap.size) hq.size); have j0 := (hq.cell (p := ⟨gh, 0, none⟩) hhl).trans h0; have j1 := (hq.cell (p := ⟨gh, 1, none⟩) hhl).trans h1; have j2 := (hq.cell (p := ad.add (k * 2)) had0).trans s0; have j3 := (hq.cell (p := ⟨(ad.add (k * 2)).block, (ad.add (k * 2)).off + 1, none⟩) had1).trans s1))
      have bh4 := bh.below hq; have br4 := br.below hq; have hO4 := hO.below hq
      have hB4 := hB.trans (hq.mono (B' := w.heap.size) hB.size)
      clear h0 h1 h2 s0 s1 had0 had1 had hhl bh br hO hB hb4 hq j0 j1 j2 j3 HFD
      have h0 := bh4.cell 0; have h1 := bh4.cell 1; have h2 := bh4.cell 2
      have hhl := bh4.lt
      simp at h0 h1 h2
      by_cases he : E = 0
      · subst he
        obtain ⟨hC8, hR8⟩ := HCR.out
        obtain ⟨g1, g2⟩ := after_ok (C := (C' : Int)) (R := (R' : Int)) (f := f) (by omega) (by omega) HE.out
        obtain ⟨C2, hC2⟩ : ∃ n : Nat, afterC C' f = n := ⟨(afterC C' f).toNat, by omega⟩
        obtain ⟨R2, hR2⟩ : ∃ n : Nat, afterR R' f = n := ⟨(afterR R' f).toNat, by omega⟩
        rw [hC2] at g1
        rw [hR2] at g2
        have HCR2 : Hid ((1 ≤ C2 ∧ C2 ≤ 8) ∧ (1 ≤ R2 ∧ R2 ≤ 8)) := Lib.hid (by omega)
        have HPO2 : Hid (PileOk C2 R2 (outF C' R' C2 R2 f (Qs.map (·.l)))) := Lib.hid (HPO.out.fold hC8 hR8 HE.out hC2 hR2)
        have HFE2 : Hid (foldsErr C R (L.drop 0) ((0 : Nat) : Int) = foldsErr C2 R2 (L.drop (k + 1)) ((k + 1 : Nat) : Int)) := Lib.hid (by
          rw [HFE.out, foldsErr_go hlt (by rw [← EF.out]; exact HE.out), ← EF.out, hC2, hR2])
        have HRF2 : Hid (runF C R (flatP C (C * R)) (L.drop 0) = runF C2 R2 (outF C' R' C2 R2 f (Qs.map (·.l))) (L.drop (k + 1))) := Lib.hid (by
          rw [HRF.out, runF_step hlt, ← EF.out, hC2, hR2, Int.toNat_natCast, Int.toNat_natCast])
        have HFD := Lib.hid (fun W hW => refFold_any C' R' C2 R2 A' n' cp' f Qs W HCR.out.1 HCR.out.2 HE.out hC2 hR2 (hO4.heap.1) hW HPO.out)
        obtain ⟨_, e2, had, s0, s1⟩ := (hL.below hB4).fold hlt
        cases e2
        rw [← EF.out] at s0 s1
        clear hC8 hR8 g1 g2 hC2 hR2
        go_wp2_with fail
        go_region_law (first
          | (go_simp; refine (HFD.out _ (hO4.heap.2.below (Below.refl _ w4).drew)).mono ?_; rintro e w6 ⟨A6, n6, c6, Qs6, rfl, hO6, hM6, hb6⟩; have hB6 : Below w4.heap.size w4 w6 := (Below.refl _ w4).drew.trans hb6; have bh6 := bh4.below hB6; have x0 := bh6.cell 0; have x1 := bh6.cell 1; have x2 := bh6.cell 2; have x3 := fun j => bh6.free j; have x4 := bh6.lt; simp at x0 x1 x2))
        all_goals
          have br6 := br4.below hB6
          have hlow6 := hB4.trans (hB6.mono (B' := w.heap.size) hB4.size)
          have hO6' := hO6.mono (B' := w.heap.size) hB4.size
          have m1 : w.heap.size ≠ gh := by omega
          have hwl : w.heap.size ≤ gh := by omega
          have b1 := hO6'.set bh6 heap_place heap_leaf 0 (.int .i64 C2)
          have b2 := b1.set (bh6.set 0 _) heap_place heap_leaf 1 (.int .i64 R2)
          have b3 := b2.set ((bh6.set 0 _).set 1 _) heap_place heap_leaf 2 (.slice A6 n6 c6)
          have bh7 := ((bh6.set 0 (.int .i64 C2)).set 1 (.int .i64 R2)).set 2 (.slice A6 n6 c6)
          have br7 := ((br6.set_other (p := ⟨gh, 0, none⟩) m1 (.int .i64 C2)).set_other (p := ⟨gh, 1, none⟩) m1 (.int .i64 R2)).set_other (p := ⟨gh, 2, none⟩) m1 (.slice A6 n6 c6)
          have hlow7 := ((hlow6.setCell (p := ⟨gh, 0, none⟩) hwl (.int .i64 C2)).setCell (p := ⟨gh, 1, none⟩) hwl (.int .i64 R2)).setCell (p := ⟨gh, 2, none⟩) hwl (.slice A6 n6 c6)
          rw [← hM6] at HPO2 HRF2
          clear x0 x1 x2 x3 x4 h0 h1 h2 s0 s1 hM6 b1 b2 m1 hwl bh6 br6 hlow6 hO6 hO6'
          go_wp2
          go_roundw
          case rel => exact ⟨k + 1, C2, R2, A6, n6, c6, Qs6, by omega, by go_num, HCR2, HPO2, bh7, br7, b3, hlow7, HFE2, HRF2⟩
          case measure => simp [intOf]; omega
      · have heb : (E != 0) = true := by simpa using he
        have r0 := br4.cell 0; have r1 := br4.cell 1; have r2 := br4.cell 2
        have z := fun j => br4.free j
        have hrl := br4.lt
        simp at r0 r1 r2
        clear he
        go_wp2
        have HFS : Hid (foldsErr C R L 0 = ((k : Int), E)) := Lib.hid (by
          have h := HFE.out
          rw [foldsErr_stop hlt (by rw [← EF.out, HE.out]; intro h; rw [h] at heb; exact absurd heb (by decide)), ← EF.out, HE.out] at h
          exact h)
        have hE0 : Hid (E ≠ 0) := Lib.hid (by intro h; rw [h] at heb; exact absurd heb (by decide))
        have hfin := ret_bld (C := C') (R := R') hO4 hB4 br4 (Nat.le_refl _)
        refine bodyPost_ret (v := .tuple #[.agg #[.int .i64 C', .int .i64 R', .slice A' n' cp'], .int .i64 k, .int .i64 E]) (by simp [results, Tryz.results28, go_sem, r0, r1, r2]) rfl ?_
        exact ⟨C', R', A', n', cp', Qs, k, E, rfl, hfin.1, hfin.2, HPO.out, HCR.out.1, HCR.out.2, fun _ => HFS.out, fun h => absurd h hE0.out⟩
    · have hkI : ¬ (k : Int) < (L.length : Int) := by omega
      have hkL : k = L.length := by omega
      have r0 := br.cell 0; have r1 := br.cell 1; have r2 := br.cell 2
      have z := fun j => br.free j
      have hrl := br.lt
      simp at r0 r1 r2
      have HFS : Hid (foldsErr C R L 0 = (if 1 < (C' : Int) * R' then ((L.length : Int), 25) else (0, 0))) := Lib.hid (by
        have h := HFE.out
        rw [foldsErr_end hlt, hkL] at h
        exact h)
      have HRS : Hid (runF C R (flatP C (C * R)) L = (C', R', Qs.map (·.l))) := Lib.hid (by
        have h := HRF.out
        rw [runF_end hlt] at h
        exact h)
      clear hkL
      go_wp2
      have hfin := ret_bld (C := C') (R := R') hO hB br (Nat.le_refl _)
      refine bodyPost_ret (v := .tuple #[.agg #[.int .i64 C', .int .i64 R', .slice A' n' cp'], .int .i64 0, .int .i64 0]) (by simp [results, Tryz.results28, go_sem, r0, r1, r2]) rfl ?_
      exact ⟨C', R', A', n', cp', Qs, 0, 0, rfl, hfin.1, hfin.2, HPO.out, HCR.out.1, HCR.out.2, fun h => absurd rfl h, fun _ => ⟨HFS.out, HRS.out⟩⟩
end Go.Proofs.YtccfcdhnplodgaaGreatDoor
