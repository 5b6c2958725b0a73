/-
  Package tympanref06: a sheet that is not folded; folds, one behind the other.
-/
import Derived.Test.YtmolejpbpcodbaaRG
namespace Go.Proofs.Ytmolejpbpcodbaa
open Go.RowKit

structure FlEnv (w : World) (C R : Nat) (v : Value) (Ps : List PS) (wr : World) : Prop where
  br : BoxAt wr w.heap.size #[.int .i64 0, .int .i64 0, .slice none 0 0] 82
  bv : BoxAt wr (w.heap.size + 1) #[.int .i64 C, .int .i64 R, v] 82
  own : Bld (w.heap.size + 1 + 1) Ps v wr
  low : Below w.heap.size w wr
theorem FlEnv.below {w : World} {C R : Nat} {v : Value} {Ps : List PS} {wr w1 : World} (h : FlEnv w C R v Ps wr) (hb : Below wr.heap.size wr w1) : FlEnv w C R v Ps w1 :=
  ⟨h.br.below hb, h.bv.below hb, h.own.below hb, h.low.trans (hb.mono h.low.size)⟩
theorem FlEnv.push {w : World} {C R : Nat} {v : Value} {Ps : List PS} {wr w6 : World} {x : PS} {g m k : Nat} (h : FlEnv w C R v Ps wr) (hO : Bld (w.heap.size + 1 + 1) (Ps ++ [x]) (.slice (some ⟨g, 0, none⟩) m k) w6) (hg : wr.grownBy w6 v.ownBlock) (hb : Below (w.heap.size + 1 + 1) wr w6) :
    FlEnv w C R (.slice (some ⟨g, 0, none⟩) m k) (Ps ++ [x]) (w6.setCell ⟨w.heap.size + 1, 2, none⟩ (.slice (some ⟨g, 0, none⟩) m k)) := by
  have brg := h.br.grow h.own.row (Ne.symm heap_place) hg
  have bvg := h.bv.grow h.own.row (Ne.symm heap_place) hg
  refine ⟨?_, bvg.set 2 _, hO.set bvg heap_place heap_leaf 2 _, (h.low.trans (hb.mono (B' := w.heap.size) (by omega))).setCell (p := ⟨w.heap.size + 1, 2, none⟩) (by show w.heap.size ≤ w.heap.size + 1; omega) _⟩
  exact brg.set_other (p := ⟨w.heap.size + 1, 2, none⟩) (by show w.heap.size ≠ w.heap.size + 1; omega) _
set_option maxRecDepth 100000 in
set_option maxHeartbeats 4000000 in
theorem refFlat_any (C R : Nat) (w : World) (hC : 1 ≤ C ∧ C ≤ 8) (hR : 1 ≤ R ∧ R ≤ 8) :
    Calls Try.prog 33 #[.int .i64 C, .int .i64 R] w (HeapPost w C R (flatP C (R * C))) := by
  obtain ⟨W0, hW0⟩ : ∃ W0, W0 = (w.alloc (.cells #[.int .i64 0, .int .i64 0, .slice none 0 0] 82)).alloc (.cells #[.int .i64 C, .int .i64 R, .slice none 0 0] 82) := ⟨_, rfl⟩
  have E0 : FlEnv w C R (.slice none 0 0) [] W0 := by
    rw [hW0]
    refine ⟨(BoxAt.new w _ _).alloc _, ?_, Bld.nil _ _, ((Below.refl w.heap.size w).alloc (Nat.le_refl _) _).alloc (by simp) _⟩
    have := BoxAt.new (w.alloc (.cells #[.int .i64 0, .int .i64 0, .slice none 0 0] 82)) #[.int .i64 C, .int .i64 R, .slice none 0 0] 82
    simpa using this
  have HW0 := Lib.hid hW0
  clear hW0
  go_enter Try.func33, Try.ntmps33
  go_wp2
  rw [← HW0.out]
  go_loopw [6] (fun i wr => ∃ (r : Nat) (Ps : List PS) (v : Value), r ≤ R ∧ i = .int .i64 r ∧ FlEnv w C R v Ps wr ∧ Hid (Ps.map (·.l) = flatP C (r * C))) (fun i _ => R - (intOf i).toNat)
  case atStart => exact ⟨0, [], _, Nat.zero_le _, rfl, E0, Lib.hid (by rw [Nat.zero_mul]; rfl)⟩
  case round =>
    obtain ⟨r, Ps, v, hr, rfl, E, HQ⟩ := hrel
    clear E0
    by_cases hlt : r < R
    · have hrI : (r : Int) < (R : Int) := by omega
      go_wp2
      obtain ⟨wo, hwo⟩ : ∃ wo : World, wo = wr := ⟨_, rfl⟩
      go_loopw [7] (fun i wr => ∃ (k : Nat) (Ps : List PS) (v : Value), k ≤ C ∧ i = .int .i64 k ∧ FlEnv w C R v Ps wr ∧ Hid (Ps.map (·.l) = flatP C (r * C + k))) (fun i _ => C - (intOf i).toNat)
      case atStart => exact ⟨0, Ps, v, Nat.zero_le _, rfl, E, HQ⟩
      case round =>
        clear hwo
        obtain ⟨k, Ps, v, hk, rfl, E, HQ⟩ := hrel
        by_cases hkC : k < C
        · have hkI : (k : Int) < (C : Int) := by omega
          have HLF : Hid (leafAt C (r * C + k) = ⟨k, r, 0, 0⟩) := Lib.hid (leafAt_eq rfl hkC)
          have HBL : Hid (Ps.length ≤ 1000) := Lib.hid (by
            have h := congrArg List.length HQ.out
            simp [flatP] at h
            have : r * C ≤ 8 * 8 := Nat.mul_le_mul (by omega) (by omega)
            omega)
          have hO1 := new_leaf wr ⟨k, r, 0, 0⟩
          have hb1 := (Below.refl wr.heap.size wr).alloc (Nat.le_refl _) (.cells #[.int .i64 k, .int .i64 r, .int .i64 0, .int .i64 0] 90)
          have hE1 := E.below hb1
          obtain ⟨w1, hw1⟩ : ∃ w1, w1 = wr.alloc (.cells #[.int .i64 k, .int .i64 r, .int .i64 0, .int .i64 0] 90) := ⟨_, rfl⟩
          have hO1 : OwnR 4 90 Leaf.l w1 wr.heap.size (.slice (some ⟨wr.heap.size, 0, none⟩) 1 1) [⟨k, r, 0, 0⟩] := by rw [hw1]; exact hO1
          rw [← hw1] at hE1
          have hs1 : w1.heap.size = wr.heap.size + 1 := by rw [hw1]; simp
          have HW1 := Lib.hid hw1
          have HS1 := Lib.hid hs1
          have v2 := E.bv.cell 2
          have hvl := E.bv.lt
          simp at v2
          have m1 : ¬ w.heap.size + 1 = wr.heap.size := by omega
          have m2 : ¬ w.heap.size + 1 = wr.heap.size + 1 := by omega
          clear hb1 hw1 hs1
          go_wp2_with (at_builtin; rw [← HW1.out]; refine wpList_push _ rfl _ _ rfl (w.heap.size + 1 + 1) v Ps ⟨some ⟨wr.heap.size, 0, none⟩, 1, [⟨k, r, 0, 0⟩]⟩ rfl (hE1.own.alloc _) (hO1.lrow.2.alloc _) ⟨wr.heap.size + 1, 0, none⟩ rfl (by rw [← HS1.out]; exact (BoxAt.new w1 _ _).cell 0) (by have := HBL.out; omega) (by have := hE1.low.size; have := HS1.out; simp; omega) ?_; intro g6 m6 k6 w6 hO6 hg6 hb6; have hE6 := (hE1.below ((Below.refl _ _).alloc (Nat.le_refl _) (.cells #[.slice (some ⟨wr.heap.size, 0, none⟩) 1 1] 102))); have bvg := hE6.bv.grow hE6.own.row (Ne.symm heap_place) hg6; have x8 := bvg.cell 2; have z8 := bvg.free 2; have l8 := bvg.lt; simp at x8)
          have hEP := hE6.push hO6 hg6 hb6
          have HF : Hid ((Ps ++ [PS.mk (some ⟨wr.heap.size, 0, none⟩) 1 [⟨k, r, 0, 0⟩]]).map (·.l) = flatP C (r * C + (k + 1))) := Lib.hid (by
            rw [List.map_append, HQ.out, ← Nat.add_assoc, flatP_succ, HLF.out]; rfl)
          go_wp2
          go_roundw
          case rel => exact ⟨k + 1, _, _, by omega, by go_num, hEP, HF⟩
          case measure => simp [intOf]; omega
        · have hkC' : k = C := by omega
          have hkI : ¬ (k : Int) < (C : Int) := by omega
          have hrs : r * C + k = (r + 1) * C := by rw [hkC', Nat.succ_mul]
          rw [hrs] at HQ
          clear hrs hkC'
          go_wp2
          go_roundw
          case rel => exact ⟨r + 1, Ps, v, by omega, by go_num, E, HQ⟩
          case measure => simp [intOf]; omega
    · have hrR : r = R := by omega
      have hrI : ¬ (r : Int) < (R : Int) := by omega
      rw [hrR] at HQ
      clear hrR
      have r0 := E.br.cell 0; have r1 := E.br.cell 1; have r2 := E.br.cell 2
      have z := fun j => E.br.free j
      have v0 := E.bv.cell 0; have v1 := E.bv.cell 1; have v2 := E.bv.cell 2
      have hvl := E.bv.lt; have hrl := E.br.lt
      simp at r0 r1 r2 v0 v1 v2
      obtain ⟨va, vc, ev, -⟩ := E.own.form
      obtain ⟨vm, hvm⟩ : ∃ m, Ps.length = m := ⟨_, rfl⟩
      rw [hvm] at ev
      subst ev
      clear hvm
      go_wp2
      refine bodyPost_ret (v := .agg #[.int .i64 C, .int .i64 R, .slice va vm vc]) (by simp [results, Try.results33, go_sem, r0, r1, r2]) rfl ?_
      have hO := E.own.mono (B' := w.heap.size) (by omega)
      exact heap_post (W := w) hO HQ.out rfl (Nat.le_refl _) E.low E.br (Nat.le_refl _)
theorem ret_bld {w w' : World} {C R : Nat} {A : Option Addr} {n c g : Nat} {Ps : List PS} (hO : Bld w.heap.size Ps (.slice A n c) w') (hlow : Below w.heap.size w w') (br : BoxAt w' g #[.int .i64 0, .int .i64 0, .slice none 0 0] 82) (hg : w.heap.size ≤ g) :
    Bld w.heap.size Ps (.slice A n c) (((w'.setCell ⟨g, 0, none⟩ (.int .i64 C)).setCell ⟨g, 1, none⟩ (.int .i64 R)).setCell ⟨g, 2, none⟩ (.slice A n c)) ∧ Below w.heap.size w (((w'.setCell ⟨g, 0, none⟩ (.int .i64 C)).setCell ⟨g, 1, none⟩ (.int .i64 R)).setCell ⟨g, 2, none⟩ (.slice A n c)) := by
  have b1 := (hO.set br heap_place heap_leaf 0 (.int .i64 C))
  have b2 := b1.set (br.set 0 _) heap_place heap_leaf 1 (.int .i64 R)
  have b3 := b2.set ((br.set 0 _).set 1 _) heap_place heap_leaf 2 (.slice A n c)
  exact ⟨b3, ((hlow.setCell (p := ⟨g, 0, none⟩) hg _).setCell (p := ⟨g, 1, none⟩) hg _).setCell (p := ⟨g, 2, none⟩) hg _⟩
/-- What folds, one behind the other, come to. -/
def FoldedPost (w : World) (C R : Nat) (L : List Fold) (e : Ending) (w' : World) : Prop :=
  ∃ (C' R' : Nat) (A : Option Addr) (n c : Nat) (Ps : List PS) (i s : Int), e = .returned (.tuple #[.agg #[.int .i64 C', .int .i64 R', .slice A n c], .int .i64 i, .int .i64 s]) ∧ Bld w.heap.size Ps (.slice A n c) w' ∧ Below w.heap.size w w' ∧ PileOk C' R' (Ps.map (·.l)) ∧ (1 ≤ C' ∧ C' ≤ 8) ∧ (1 ≤ R' ∧ R' ≤ 8) ∧
    (s ≠ 0 → foldsErr C R L 0 = (i, s)) ∧ (s = 0 → foldsErr C R L 0 = (if 1 < (C' : Int) * R' then ((L.length : Int), 25) else (0, 0)) ∧ runF C R (flatP C (C * R)) L = (C', R', Ps.map (·.l)))
end Go.Proofs.Ytmolejpbpcodbaa
