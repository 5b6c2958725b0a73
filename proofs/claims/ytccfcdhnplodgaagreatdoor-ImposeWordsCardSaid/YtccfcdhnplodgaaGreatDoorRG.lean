/-
  Package tympanref06: the error of a fold, and a fold.
-/
import Derived.Test.YtccfcdhnplodgaaGreatDoorRF
import Derived.Test.YtccfcdhnplodgaaGreatDoorI9
namespace Go.Proofs.YtccfcdhnplodgaaGreatDoor
open Go.RowKit

theorem half_in {n : Int} (h : 1 ≤ n ∧ n ≤ 8) : ∃ m, n.tdiv 2 = m ∧ 2 * m ≤ n ∧ n ≤ 2 * m + 1 := by
  refine ⟨_, rfl, ?_⟩
  rw [Int.tdiv_eq_ediv_of_nonneg (by omega)]; omega
set_option maxHeartbeats 2000000 in
theorem refFoldErr_any (C R : Int) (f : Fold) (w : World) (hC : 1 ≤ C ∧ C ≤ 8) (hR : 1 ≤ R ∧ R ≤ 8) :
    Calls Tryz.prog 47 #[.int .i64 C, .int .i64 R, .agg #[.int .i64 f.k, .int .i64 f.c]] w fun e w' => e = .returned (.int .i64 (foldErr C R f)) ∧ Below w.heap.size w w' := by
  have hb := (Below.refl w.heap.size w).alloc (Nat.le_refl _) (.cells #[.int .i64 f.k, .int .i64 f.c] 58)
  obtain ⟨k, c⟩ := f
  obtain ⟨hc2, q1, hC1, hC2⟩ := half_in hC
  obtain ⟨hr2, q2, hR1, hR2⟩ := half_in hR
  cases h1 : inB k 1 6
  · have HE := Lib.hid (fold_kind (C := C) (R := R) (f := ⟨k, c⟩) h1)
    clear hC hR
    go_enter Tryz.func47, Tryz.ntmps47
    go_wp2_with (go_at_call 24; refine (within_any _ _ _ _).mono ?_; rintro e w' ⟨rfl, rfl⟩)
    go_ret
    exact ⟨ret_int HE.out.symm, hb⟩
  have hk := inB_iff.1 h1
  obtain ⟨hk1, hk6⟩ := hk
  by_cases h2 : k = 5 ∨ k = 6
  · have HE := Lib.hid (fold_all (C := C) (R := R) (f := ⟨k, c⟩) h1 h2)
    have hk5 : k ≥ 5 := by omega
    clear hC hR h2
    by_cases h3 : c = 0
    · subst h3
      go_enter Tryz.func47, Tryz.ntmps47
      go_wp2_with (go_at_call 24; refine (within_any _ _ _ _).mono ?_; rintro e w' ⟨rfl, rfl⟩)
      go_ret
      exact ⟨ret_int HE.out.symm, hb⟩
    · have HX := Lib.hid (show foldErr C R ⟨k, c⟩ = 2 by rw [HE.out]; exact if_pos h3)
      have h3' : (c != 0) = true := by simpa using h3
      clear h3
      go_enter Tryz.func47, Tryz.ntmps47
      go_wp2_with (go_at_call 24; refine (within_any _ _ _ _).mono ?_; rintro e w' ⟨rfl, rfl⟩)
      go_ret
      exact ⟨ret_int HX.out.symm, hb⟩
  have HE := Lib.hid (fold_side (C := C) (R := R) (f := ⟨k, c⟩) h1 h2)
  have hk5 : ¬ k ≥ 5 := by omega
  clear h2
  by_cases h3 : c < 1
  · have HX := Lib.hid (show foldErr C R ⟨k, c⟩ = 2 by rw [HE.out]; exact if_pos h3)
    clear hC hR
    go_enter Tryz.func47, Tryz.ntmps47
    go_wp2_with (go_at_call 24; refine (within_any _ _ _ _).mono ?_; rintro e w' ⟨rfl, rfl⟩)
    go_ret
    exact ⟨ret_int HX.out.symm, hb⟩
  have HE2 := Lib.hid (show foldErr C R ⟨k, c⟩ = if alongI C R k - c < c then 26 else 0 by rw [HE.out]; exact if_neg h3)
  by_cases hk3 : k ≥ 3
  · have hal : alongI C R k = R := by unfold alongI; rw [if_neg (by omega)]
    rw [hal] at HE2
    by_cases h4 : c > hr2
    · have HX := Lib.hid (show foldErr C R ⟨k, c⟩ = 26 by rw [HE2.out]; exact if_pos (by omega))
      clear hal HE
      go_enter Tryz.func47, Tryz.ntmps47
      go_wp2_with (go_at_call 24; refine (within_any _ _ _ _).mono ?_; rintro e w' ⟨rfl, rfl⟩)
      go_ret
      exact ⟨ret_int HX.out.symm, hb⟩
    · have HX := Lib.hid (show foldErr C R ⟨k, c⟩ = 0 by rw [HE2.out]; exact if_neg (by omega))
      clear hal HE
      go_enter Tryz.func47, Tryz.ntmps47
      go_wp2_with (go_at_call 24; refine (within_any _ _ _ _).mono ?_; rintro e w' ⟨rfl, rfl⟩)
      go_ret
      exact ⟨ret_int HX.out.symm, hb⟩
  · have hal : alongI C R k = C := by unfold alongI; rw [if_pos (by omega)]
    rw [hal] at HE2
    by_cases h4 : c > hc2
    · have HX := Lib.hid (show foldErr C R ⟨k, c⟩ = 26 by rw [HE2.out]; exact if_pos (by omega))
      clear hal HE
      go_enter Tryz.func47, Tryz.ntmps47
      go_wp2_with (go_at_call 24; refine (within_any _ _ _ _).mono ?_; rintro e w' ⟨rfl, rfl⟩)
      go_ret
      exact ⟨ret_int HX.out.symm, hb⟩
    · have HX := Lib.hid (show foldErr C R ⟨k, c⟩ = 0 by rw [HE2.out]; exact if_neg (by omega))
      clear hal HE
      go_enter Tryz.func47, Tryz.ntmps47
      go_wp2_with (go_at_call 24; refine (within_any _ _ _ _).mono ?_; rintro e w' ⟨rfl, rfl⟩)
      go_ret
      exact ⟨ret_int HX.out.symm, hb⟩
/-- What is right of all places is so of all places of a heap in memory. -/
def GoodL (L : List Leaf) : Prop := L.length ≤ 1000 ∧ ∀ y ∈ L, LeafBits y
theorem good_nil : GoodL [] := ⟨by simp, fun y hy => by simp at hy⟩
theorem good_get {P : List (List Leaf)} (h : ∀ L ∈ P, GoodL L) (j : Nat) : GoodL (P.getD j []) := by
  rw [List.getD_eq_getElem?_getD]
  cases e : P[j]? with
  | none => exact good_nil
  | some L => exact h L (List.mem_of_getElem? e)
theorem good_mir {cs rs : Bool} {C R s : Nat} {P : List (List Leaf)} (h : ∀ L ∈ P, GoodL L) : ∀ L ∈ mirP cs rs C R P s, GoodL L := fun L hL => by
  unfold mirP at hL
  obtain ⟨j, _, rfl⟩ := List.mem_map.1 hL
  exact good_get h _
theorem good_pile {C R : Nat} {P : List (List Leaf)} (h : PileOk C R P) : ∀ L ∈ P, GoodL L := fun L hL => ⟨Nat.le_trans (sumL_mem hL) h.sum, h.bits L hL⟩
theorem good_ps {Ps : List PS} {P : List (List Leaf)} (h : Ps.map (·.l) = P) (hP : ∀ L ∈ P, GoodL L) : ∀ x ∈ Ps, GoodL x.l := fun x hx => hP _ (by rw [← h]; exact List.mem_map_of_mem hx)
theorem heap_post {w W w' : World} {C R : Nat} {Q P : List (List Leaf)} {A : Option Addr} {n c g : Nat} {Ps : List PS} (hO : Bld W.heap.size Ps (.slice A n c) w') (hM : Ps.map (·.l) = Q) (hQ : Q = P) (hs : w.heap.size ≤ W.heap.size) (hlow : Below w.heap.size w w') (br : BoxAt w' g #[.int .i64 0, .int .i64 0, .slice none 0 0] 71) (hg : w.heap.size ≤ g) :
    HeapPost w C R P (.returned (.agg #[.int .i64 C, .int .i64 R, .slice A n c])) (((w'.setCell ⟨g, 0, none⟩ (.int .i64 C)).setCell ⟨g, 1, none⟩ (.int .i64 R)).setCell ⟨g, 2, none⟩ (.slice A n c)) := by
  have b1 := ((hO.mono hs).set br heap_place heap_leaf 0 (.int .i64 C))
  have b2 := b1.set (br.set 0 _) heap_place heap_leaf 1 (.int .i64 R)
  have b3 := b2.set ((br.set 0 _).set 1 _) heap_place heap_leaf 2 (.slice A n c)
  exact ⟨_, _, _, _, rfl, b3, hM.trans hQ, ((hlow.setCell (p := ⟨g, 0, none⟩) hg _).setCell (p := ⟨g, 1, none⟩) hg _).setCell (p := ⟨g, 2, none⟩) hg _⟩
set_option maxRecDepth 100000 in
set_option maxHeartbeats 8000000 in
theorem refFold_any (C R C' R' : Nat) (A : Option Addr) (n c : Nat) (f : Fold) (Ps : List PS) (w : World) (hC : 1 ≤ C ∧ C ≤ 8) (hR : 1 ≤ R ∧ R ≤ 8) (hf : foldErr C R f = 0) (hC' : afterC C f = C') (hR' : afterR R f = R')
    (hn : n = Ps.length) (hH : HeapAt w A Ps) (hP : PileOk C R (Ps.map (·.l))) :
    Calls Tryz.prog 48 #[.agg #[.int .i64 C, .int .i64 R, .slice A n c], .agg #[.int .i64 f.k, .int .i64 f.c]] w (HeapPost w C' R' (outF C R C' R' f (Ps.map (·.l)))) := by
  have HOUT := Lib.hid (foldR_out hC hR hf hC' hR' hP)
  have hlen : Ps.length = C * R := by rw [← List.length_map (f := (·.l)), hP.len]
  have HG : Hid (∀ L ∈ Ps.map (·.l), GoodL L) := Lib.hid (good_pile hP)
  have HGP : Hid (∀ x ∈ Ps, GoodL x.l) := Lib.hid (good_ps rfl HG.out)
  obtain ⟨a, b, d, e, g, i⟩ := fold_ok (by omega) (by omega) hf
  obtain ⟨k, qi⟩ := f
  have a : 1 ≤ k ∧ k ≤ 6 := a
  have b : 0 ≤ qi ∧ qi ≤ 4 := b
  have d : k ≤ 4 → 1 ≤ qi := d
  have e : 5 ≤ k → qi = 0 := e
  have g : k ≤ 2 → 2 * qi ≤ C := g
  have i : 3 ≤ k → k ≤ 4 → 2 * qi ≤ R := i
  obtain ⟨q, rfl⟩ : ∃ q : Nat, qi = q := ⟨qi.toNat, by omega⟩
  have HLEN := Lib.hid hlen; have HNN := Lib.hid hn; have HC := Lib.hid hC; have HR := Lib.hid hR
  obtain ⟨w3, hw3⟩ : ∃ w3, w3 = ((w.alloc (.cells #[.int .i64 C, .int .i64 R, .slice A n c] 71)).alloc (.cells #[.int .i64 k, .int .i64 q] 58)).alloc (.cells #[.int .i64 0, .int .i64 0, .slice none 0 0] 71) := ⟨_, rfl⟩
  have bx : BoxAt w3 w.heap.size #[.int .i64 C, .int .i64 R, .slice A n c] 71 := by rw [hw3]; exact ((BoxAt.new w _ _).alloc _).alloc _
  have bf : BoxAt w3 (w.heap.size + 1) #[.int .i64 k, .int .i64 q] 58 := by
    rw [hw3]
    have := (BoxAt.new (w.alloc (.cells #[.int .i64 C, .int .i64 R, .slice A n c] 71)) #[.int .i64 k, .int .i64 q] 58).alloc (.cells #[.int .i64 0, .int .i64 0, .slice none 0 0] 71)
    simpa using this
  have br : BoxAt w3 (w.heap.size + 1 + 1) #[.int .i64 0, .int .i64 0, .slice none 0 0] 71 := by
    rw [hw3]
    have := BoxAt.new ((w.alloc (.cells #[.int .i64 C, .int .i64 R, .slice A n c] 71)).alloc (.cells #[.int .i64 k, .int .i64 q] 58)) #[.int .i64 0, .int .i64 0, .slice none 0 0] 71
    simpa using this
  have hB3 : Below w.heap.size w w3 := by rw [hw3]; exact (((Below.refl w.heap.size w).alloc (Nat.le_refl _) _).alloc (by simp) _).alloc (by simp; omega) _
  have W3 := Lib.hid hw3
  have hH3 := hH.below hB3
  have h6 : k = 1 ∨ k = 2 ∨ k = 3 ∨ k = 4 ∨ k = 5 ∨ k = 6 := by omega
  have hwg : w.heap.size ≤ w.heap.size + 1 + 1 := by omega
  have p1 : ¬ w.heap.size + 1 + 1 = w.heap.size := by omega
  have p2 : ¬ w.heap.size = w.heap.size + 1 + 1 := by omega
  have p3 : ¬ w.heap.size + 1 + 1 = w.heap.size + 1 := by omega
  have p4 : ¬ w.heap.size + 1 = w.heap.size + 1 + 1 := by omega
  clear hlen hn hP hw3 hf hH a b hC hR
  have c0 := bx.cell 0; have c1 := bx.cell 1; have c2 := bx.cell 2
  have f1 := bf.cell 1
  have hxl := bx.lt; have hfl := bf.lt
  simp at c0 c1 c2 f1
  rcases h6 with rfl | rfl | rfl | rfl | rfl | rfl
  all_goals
    simp [afterC, afterR] at hC' hR'
  · have hc2 : C' = C - q := by omega
    have hr2 : R' = R := by omega
    subst C'
    subst R'
    have HQ : Hid ((C - q) + q = C ∧ 1 ≤ C - q ∧ C ≤ 2 * (C - q)) := Lib.hid (by have := HC.out; omega)
    obtain ⟨b, hbb⟩ : ∃ b, C - q = b := ⟨_, rfl⟩
    rw [hbb] at HQ HOUT ⊢
    have HB8 : Hid (1 ≤ b ∧ b ≤ 8) := Lib.hid (by have := HC.out; omega)
    have HBB := Lib.hid hbb
    clear hbb
    clear hC' hR' d e g i
    go_enter Tryz.func48, Tryz.ntmps48
    go_wp2_with fail
    rw [← W3.out]
    refine (foldLeft_any C R b q A n c Ps _ HC.out HR.out HQ.out.1 HQ.out.2.1 HQ.out.2.2 HNN.out HLEN.out hH3 (fun x hx => (HGP.out x hx).2) (fun x hx => (HGP.out x hx).1)).mono ?_
    rintro e w4 ⟨A4, n4, c4, Qs, rfl, hO4, hM4, hb4⟩
    have br4 := br.below hb4
    have r0 := br4.cell 0; have r1 := br4.cell 1; have r2 := br4.cell 2
    have z := fun j => br4.free j
    have hrl := br4.lt
    simp at r0 r1 r2
    go_wp2_with fail
    refine bodyPost_ret (v := .agg #[.int .i64 b, .int .i64 R, .slice A4 n4 c4]) (by simp [results, Tryz.results48, go_sem, r0, r1, r2]) rfl ?_
    exact heap_post hO4 hM4 (by rw [← HOUT.out]; simp [foldR]; rw [HBB.out]) hB3.size (hB3.trans (hb4.mono (B' := w.heap.size) hB3.size)) br4 hwg
  · have hc2 : C' = C - q := by omega
    have hr2 : R' = R := by omega
    subst C'
    subst R'
    have HQ : Hid ((C - q) + q = C ∧ 1 ≤ C - q ∧ C ≤ 2 * (C - q)) := Lib.hid (by have := HC.out; omega)
    obtain ⟨b, hbb⟩ : ∃ b, C - q = b := ⟨_, rfl⟩
    rw [hbb] at HQ HOUT ⊢
    have HB8 : Hid (1 ≤ b ∧ b ≤ 8) := Lib.hid (by have := HC.out; omega)
    have HBB := Lib.hid hbb
    clear hbb
    clear hC' hR' d e g i
    go_enter Tryz.func48, Tryz.ntmps48
    have HB1 : Hid (1 ≤ b ∧ b ≤ 8) := HB8
    have HB2 : Hid (1 ≤ R ∧ R ≤ 8) := HR
    have hq : Below w3.heap.size w3 w3.drew := (Below.refl _ w3).drew
    go_wp2_with fail
    rw [← W3.out]
    go_region_held3 (fun w' => w'.cell? ⟨w.heap.size, 0, none⟩ = some (.int .i64 C) ∧ w'.cell? ⟨w.heap.size, 1, none⟩ = some (.int .i64 R) ∧ w'.cell? ⟨w.heap.size, 2, none⟩ = some (.slice A n c) ∧ w'.cell? ⟨w.heap.size + 1, 1, none⟩ = some (.int .i64 q)) (first | exact ⟨j0, j1, j2, j3⟩ | go_keep)
      (first
        | (go_at_call 63; refine (mirrored_any b R A6 n6 c6 Qs6 true false _ HB1.out HB2.out HN6.out HL6.out hO6.heap.2).mono ?_; rintro e w7 ⟨A7, n7, c7, Qs7, rfl, hO7, hM7, hb5⟩; have hq := hq.trans (hb5.mono (B' := w3.heap.size) hq.size); have j0 := (hq.cell (p := ⟨w.heap.size, 0, none⟩) hxl).trans c0; have j1 := (hq.cell (p := ⟨w.heap.size, 1, none⟩) hxl).trans c1; have j2 := (hq.cell (p := ⟨w.heap.size, 2, none⟩) hxl).trans c2; have j3 := (hq.cell (p := ⟨w.heap.size + 1, 1, none⟩) hfl).trans f1; have br5 := br.below hq; have r0 := br5.cell 0; have r1 := br5.cell 1; have r2 := br5.cell 2; have z := fun j => br5.free j; have hrl := br5.lt; simp at r0 r1 r2)
        | (go_at_call 62; refine (foldLeft_any C R b q A5 n5 c5 Qs5 _ HC.out HR.out HQ.out.1 HQ.out.2.1 HQ.out.2.2 HN5.out HL5.out hO5.heap.2 (fun x hx => (HG5.out x hx).2) (fun x hx => (HG5.out x hx).1)).mono ?_; rintro e w6 ⟨A6, n6, c6, Qs6, rfl, hO6, hM6, hb5⟩; have HN6 := Lib.hid hO6.heap.1; have HL6 : Hid (Qs6.length = b * R) := Lib.hid (by rw [← List.length_map (f := (·.l)), hM6, leftP_len, Nat.mul_comm]); have HM6 := Lib.hid hM6; clear hM6; have hs6 : w3.heap.size ≤ w6.heap.size := Nat.le_trans hq.size hb5.size; have hq := hq.trans (hb5.mono (B' := w3.heap.size) hq.size); have j0 := (hq.cell (p := ⟨w.heap.size, 0, none⟩) hxl).trans c0; have j1 := (hq.cell (p := ⟨w.heap.size, 1, none⟩) hxl).trans c1; have j2 := (hq.cell (p := ⟨w.heap.size, 2, none⟩) hxl).trans c2; have j3 := (hq.cell (p := ⟨w.heap.size + 1, 1, none⟩) hfl).trans f1; have br5 := br.below hq; have r0 := br5.cell 0; have r1 := br5.cell 1; have r2 := br5.cell 2; have z := fun j => br5.free j; have hrl := br5.lt; simp at r0 r1 r2)
        | (go_at_call 63; refine (mirrored_any C R A n c Ps true false _ HC.out HR.out HNN.out HLEN.out (hH3.below hq)).mono ?_; rintro e w5 ⟨A5, n5, c5, Qs5, rfl, hO5, hM5, hb5⟩; have HN5 := Lib.hid hO5.heap.1; have HL5 : Hid (Qs5.length = C * R) := Lib.hid (by rw [← List.length_map (f := (·.l)), hM5, mirP_len, Nat.mul_comm]); have HG5 : Hid (∀ x ∈ Qs5, GoodL x.l) := Lib.hid (good_ps hM5 (good_mir HG.out)); have HM5 := Lib.hid hM5; clear hM5; have hq := hq.trans (hb5.mono (B' := w3.heap.size) hq.size); have j0 := (hq.cell (p := ⟨w.heap.size, 0, none⟩) hxl).trans c0; have j1 := (hq.cell (p := ⟨w.heap.size, 1, none⟩) hxl).trans c1; have j2 := (hq.cell (p := ⟨w.heap.size, 2, none⟩) hxl).trans c2; have j3 := (hq.cell (p := ⟨w.heap.size + 1, 1, none⟩) hfl).trans f1; have br5 := br.below hq; have r0 := br5.cell 0; have r1 := br5.cell 1; have r2 := br5.cell 2; have z := fun j => br5.free j; have hrl := br5.lt; simp at r0 r1 r2))
    rw [HM6.out, HM5.out] at hM7
    go_wp2_with fail
    refine bodyPost_ret (v := .agg #[.int .i64 b, .int .i64 R, .slice A7 n7 c7]) (by simp [results, Tryz.results48, go_sem, r0, r1, r2]) rfl ?_
    exact heap_post hO7 hM7 (by rw [← HOUT.out]; simp [foldR]; rw [HBB.out]) (Nat.le_trans hB3.size hs6) (hB3.trans (hq.mono (B' := w.heap.size) hB3.size)) br5 hwg
  · have hc2 : C' = C := by omega
    have hr2 : R' = R - q := by omega
    subst C'
    subst R'
    have HQ : Hid ((R - q) + q = R ∧ 1 ≤ R - q ∧ R ≤ 2 * (R - q)) := Lib.hid (by have := HR.out; omega)
    obtain ⟨b, hbb⟩ : ∃ b, R - q = b := ⟨_, rfl⟩
    rw [hbb] at HQ HOUT ⊢
    have HB8 : Hid (1 ≤ b ∧ b ≤ 8) := Lib.hid (by have := HR.out; omega)
    have HBB := Lib.hid hbb
    clear hbb
    clear hC' hR' d e g i
    go_enter Tryz.func48, Tryz.ntmps48
    go_wp2_with fail
    rw [← W3.out]
    refine (foldUp_any C R b q A n c Ps _ HC.out HR.out HQ.out.1 HQ.out.2.1 HQ.out.2.2 HNN.out HLEN.out hH3 (fun x hx => (HGP.out x hx).2) (fun x hx => (HGP.out x hx).1)).mono ?_
    rintro e w4 ⟨A4, n4, c4, Qs, rfl, hO4, hM4, hb4⟩
    have br4 := br.below hb4
    have r0 := br4.cell 0; have r1 := br4.cell 1; have r2 := br4.cell 2
    have z := fun j => br4.free j
    have hrl := br4.lt
    simp at r0 r1 r2
    go_wp2_with fail
    refine bodyPost_ret (v := .agg #[.int .i64 C, .int .i64 b, .slice A4 n4 c4]) (by simp [results, Tryz.results48, go_sem, r0, r1, r2]) rfl ?_
    exact heap_post hO4 hM4 (by rw [← HOUT.out]; simp [foldR]; rw [HBB.out]) hB3.size (hB3.trans (hb4.mono (B' := w.heap.size) hB3.size)) br4 hwg
  · have hc2 : C' = C := by omega
    have hr2 : R' = R - q := by omega
    subst C'
    subst R'
    have HQ : Hid ((R - q) + q = R ∧ 1 ≤ R - q ∧ R ≤ 2 * (R - q)) := Lib.hid (by have := HR.out; omega)
    obtain ⟨b, hbb⟩ : ∃ b, R - q = b := ⟨_, rfl⟩
    rw [hbb] at HQ HOUT ⊢
    have HB8 : Hid (1 ≤ b ∧ b ≤ 8) := Lib.hid (by have := HR.out; omega)
    have HBB := Lib.hid hbb
    clear hbb
    clear hC' hR' d e g i
    go_enter Tryz.func48, Tryz.ntmps48
    have HB1 : Hid (1 ≤ C ∧ C ≤ 8) := HC
    have HB2 : Hid (1 ≤ b ∧ b ≤ 8) := HB8
    have hq : Below w3.heap.size w3 w3.drew := (Below.refl _ w3).drew
    go_wp2_with fail
    rw [← W3.out]
    go_region_held3 (fun w' => w'.cell? ⟨w.heap.size, 0, none⟩ = some (.int .i64 C) ∧ w'.cell? ⟨w.heap.size, 1, none⟩ = some (.int .i64 R) ∧ w'.cell? ⟨w.heap.size, 2, none⟩ = some (.slice A n c) ∧ w'.cell? ⟨w.heap.size + 1, 1, none⟩ = some (.int .i64 q)) (first | exact ⟨j0, j1, j2, j3⟩ | go_keep)
      (first
        | (go_at_call 63; refine (mirrored_any C b A6 n6 c6 Qs6 false true _ HB1.out HB2.out HN6.out HL6.out hO6.heap.2).mono ?_; rintro e w7 ⟨A7, n7, c7, Qs7, rfl, hO7, hM7, hb5⟩; have hq := hq.trans (hb5.mono (B' := w3.heap.size) hq.size); have j0 := (hq.cell (p := ⟨w.heap.size, 0, none⟩) hxl).trans c0; have j1 := (hq.cell (p := ⟨w.heap.size, 1, none⟩) hxl).trans c1; have j2 := (hq.cell (p := ⟨w.heap.size, 2, none⟩) hxl).trans c2; have j3 := (hq.cell (p := ⟨w.heap.size + 1, 1, none⟩) hfl).trans f1; have br5 := br.below hq; have r0 := br5.cell 0; have r1 := br5.cell 1; have r2 := br5.cell 2; have z := fun j => br5.free j; have hrl := br5.lt; simp at r0 r1 r2)
        | (go_at_call 64; refine (foldUp_any C R b q A5 n5 c5 Qs5 _ HC.out HR.out HQ.out.1 HQ.out.2.1 HQ.out.2.2 HN5.out HL5.out hO5.heap.2 (fun x hx => (HG5.out x hx).2) (fun x hx => (HG5.out x hx).1)).mono ?_; rintro e w6 ⟨A6, n6, c6, Qs6, rfl, hO6, hM6, hb5⟩; have HN6 := Lib.hid hO6.heap.1; have HL6 : Hid (Qs6.length = C * b) := Lib.hid (by rw [← List.length_map (f := (·.l)), hM6, upP_len, Nat.mul_comm]); have HM6 := Lib.hid hM6; clear hM6; have hs6 : w3.heap.size ≤ w6.heap.size := Nat.le_trans hq.size hb5.size; have hq := hq.trans (hb5.mono (B' := w3.heap.size) hq.size); have j0 := (hq.cell (p := ⟨w.heap.size, 0, none⟩) hxl).trans c0; have j1 := (hq.cell (p := ⟨w.heap.size, 1, none⟩) hxl).trans c1; have j2 := (hq.cell (p := ⟨w.heap.size, 2, none⟩) hxl).trans c2; have j3 := (hq.cell (p := ⟨w.heap.size + 1, 1, none⟩) hfl).trans f1; have br5 := br.below hq; have r0 := br5.cell 0; have r1 := br5.cell 1; have r2 := br5.cell 2; have z := fun j => br5.free j; have hrl := br5.lt; simp at r0 r1 r2)
        | (go_at_call 63; refine (mirrored_any C R A n c Ps false true _ HC.out HR.out HNN.out HLEN.out (hH3.below hq)).mono ?_; rintro e w5 ⟨A5, n5, c5, Qs5, rfl, hO5, hM5, hb5⟩; have HN5 := Lib.hid hO5.heap.1; have HL5 : Hid (Qs5.length = C * R) := Lib.hid (by rw [← List.length_map (f := (·.l)), hM5, mirP_len, Nat.mul_comm]); have HG5 : Hid (∀ x ∈ Qs5, GoodL x.l) := Lib.hid (good_ps hM5 (good_mir HG.out)); have HM5 := Lib.hid hM5; clear hM5; have hq := hq.trans (hb5.mono (B' := w3.heap.size) hq.size); have j0 := (hq.cell (p := ⟨w.heap.size, 0, none⟩) hxl).trans c0; have j1 := (hq.cell (p := ⟨w.heap.size, 1, none⟩) hxl).trans c1; have j2 := (hq.cell (p := ⟨w.heap.size, 2, none⟩) hxl).trans c2; have j3 := (hq.cell (p := ⟨w.heap.size + 1, 1, none⟩) hfl).trans f1; have br5 := br.below hq; have r0 := br5.cell 0; have r1 := br5.cell 1; have r2 := br5.cell 2; have z := fun j => br5.free j; have hrl := br5.lt; simp at r0 r1 r2))
    rw [HM6.out, HM5.out] at hM7
    go_wp2_with fail
    refine bodyPost_ret (v := .agg #[.int .i64 C, .int .i64 b, .slice A7 n7 c7]) (by simp [results, Tryz.results48, go_sem, r0, r1, r2]) rfl ?_
    exact heap_post hO7 hM7 (by rw [← HOUT.out]; simp [foldR]; rw [HBB.out]) (Nat.le_trans hB3.size hs6) (hB3.trans (hq.mono (B' := w.heap.size) hB3.size)) br5 hwg
  · have hc2 : C' = C := by omega
    have hr2 : R' = R := by omega
    subst C'
    subst R'
    have hq0 : (q : Int) = 0 := e (by decide)
    rw [hq0] at W3
    clear hq0
    clear hC' hR' d e g i
    go_enter Tryz.func48, Tryz.ntmps48
    go_wp2_with fail
    rw [← W3.out]
    refine (over_any C R A n c Ps _ HC.out HR.out HNN.out HLEN.out hH3 (fun x hx => (HGP.out x hx).2) (fun x hx => (HGP.out x hx).1)).mono ?_
    rintro e w4 ⟨A4, n4, c4, Qs, rfl, hO4, hM4, hb4⟩
    have br4 := br.below hb4
    have r0 := br4.cell 0; have r1 := br4.cell 1; have r2 := br4.cell 2
    have z := fun j => br4.free j
    have hrl := br4.lt
    simp at r0 r1 r2
    go_wp2_with fail
    refine bodyPost_ret (v := .agg #[.int .i64 C, .int .i64 R, .slice A4 n4 c4]) (by simp [results, Tryz.results48, go_sem, r0, r1, r2]) rfl ?_
    exact heap_post hO4 hM4 (by rw [← HOUT.out]; simp [foldR]) hB3.size (hB3.trans (hb4.mono (B' := w.heap.size) hB3.size)) br4 hwg
  · have hc2 : C' = C := by omega
    have hr2 : R' = R := by omega
    subst C'
    subst R'
    have hq0 : (q : Int) = 0 := e (by decide)
    rw [hq0] at W3
    clear hq0
    clear hC' hR' d e g i
    go_enter Tryz.func48, Tryz.ntmps48
    go_wp2_with fail
    rw [← W3.out]
    refine (round_any C R A n c Ps _ HC.out HR.out HNN.out HLEN.out hH3 (fun x hx => (HGP.out x hx).2) (fun x hx => (HGP.out x hx).1)).mono ?_
    rintro e w4 ⟨A4, n4, c4, Qs, rfl, hO4, hM4, hb4⟩
    have br4 := br.below hb4
    have r0 := br4.cell 0; have r1 := br4.cell 1; have r2 := br4.cell 2
    have z := fun j => br4.free j
    have hrl := br4.lt
    simp at r0 r1 r2
    go_wp2_with fail
    refine bodyPost_ret (v := .agg #[.int .i64 C, .int .i64 R, .slice A4 n4 c4]) (by simp [results, Tryz.results48, go_sem, r0, r1, r2]) rfl ?_
    exact heap_post hO4 hM4 (by rw [← HOUT.out]; simp [foldR]) hB3.size (hB3.trans (hb4.mono (B' := w.heap.size) hB3.size)) br4 hwg
end Go.Proofs.YtccfcdhnplodgaaGreatDoor
