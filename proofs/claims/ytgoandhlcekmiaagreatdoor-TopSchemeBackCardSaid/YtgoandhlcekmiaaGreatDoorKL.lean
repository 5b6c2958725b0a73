/-
  Package tympanref06: the error of a fold, and a fold.
-/
import Derived.Test.YtgoandhlcekmiaaGreatDoorKK
import Derived.Test.YtgoandhlcekmiaaGreatDoorKG
namespace Go.Proofs.YtgoandhlcekmiaaGreatDoor
open Go.RowKit

theorem half_in {n : Int} (h : 1 ≤ n ∧ n ≤ 8) : ∃ m, n.tdiv 2 = m ∧ 2 * m ≤ n ∧ n ≤ 2 * m + 1 := by
  refine ⟨_, rfl, ?_⟩
  rw [Int.tdiv_eq_ediv_of_nonneg (by omega)]; omega
set_option maxHeartbeats 2000000 in
theorem refFoldErr_any (C R : Int) (f : Fold) (w : World) (hC : 1 ≤ C ∧ C ≤ 8) (hR : 1 ≤ R ∧ R ≤ 8) :
    Calls Tryz.prog 56 #[.int .i64 C, .int .i64 R, .agg #[.int .i64 f.k, .int .i64 f.c]] w fun e w' => e = .returned (.int .i64 (foldErr C R f)) ∧ Below w.heap.size w w' := by
  have hb := (Below.refl w.heap.size w).alloc (Nat.le_refl _) (.cells #[.int .i64 f.k, .int .i64 f.c] 59)
  obtain ⟨k, c⟩ := f
  obtain ⟨hc2, q1, hC1, hC2⟩ := half_in hC
  obtain ⟨hr2, q2, hR1, hR2⟩ := half_in hR
  cases h1 : inB k 1 6
  · have HE := Lib.hid (fold_kind (C := C) (R := R) (f := ⟨k, c⟩) h1)
    clear hC hR
    go_enter Tryz.func56, Tryz.ntmps56
    go_wp2_with (go_at_call 54; refine (within_any _ _ _ _).mono ?_; rintro e w' ⟨rfl, rfl⟩)
    go_ret
    exact ⟨ret_int HE.out.symm, hb⟩
  have hk := inB_iff.1 h1
  obtain ⟨hk1, hk6⟩ := hk
  by_cases h2 : k = 5 ∨ k = 6
  · have HE := Lib.hid (fold_all (C := C) (R := R) (f := ⟨k, c⟩) h1 h2)
    have hk5 : k ≥ 5 := by omega
    clear hC hR h2
    by_cases h3 : c = 0
    · subst h3
      go_enter Tryz.func56, Tryz.ntmps56
      go_wp2_with (go_at_call 54; refine (within_any _ _ _ _).mono ?_; rintro e w' ⟨rfl, rfl⟩)
      go_ret
      exact ⟨ret_int HE.out.symm, hb⟩
    · have HX := Lib.hid (show foldErr C R ⟨k, c⟩ = 2 by rw [HE.out]; exact if_pos h3)
      have h3' : (c != 0) = true := by simpa using h3
      clear h3
      go_enter Tryz.func56, Tryz.ntmps56
      go_wp2_with (go_at_call 54; refine (within_any _ _ _ _).mono ?_; rintro e w' ⟨rfl, rfl⟩)
      go_ret
      exact ⟨ret_int HX.out.symm, hb⟩
  have HE := Lib.hid (fold_side (C := C) (R := R) (f := ⟨k, c⟩) h1 h2)
  have hk5 : ¬ k ≥ 5 := by omega
  clear h2
  by_cases h3 : c < 1
  · have HX := Lib.hid (show foldErr C R ⟨k, c⟩ = 2 by rw [HE.out]; exact if_pos h3)
    clear hC hR
    go_enter Tryz.func56, Tryz.ntmps56
    go_wp2_with (go_at_call 54; refine (within_any _ _ _ _).mono ?_; rintro e w' ⟨rfl, rfl⟩)
    go_ret
    exact ⟨ret_int HX.out.symm, hb⟩
  have HE2 := Lib.hid (show foldErr C R ⟨k, c⟩ = if alongI C R k - c < c then 26 else 0 by rw [HE.out]; exact if_neg h3)
  by_cases hk3 : k ≥ 3
  · have hal : alongI C R k = R := by unfold alongI; rw [if_neg (by omega)]
    rw [hal] at HE2
    by_cases h4 : c > hr2
    · have HX := Lib.hid (show foldErr C R ⟨k, c⟩ = 26 by rw [HE2.out]; exact if_pos (by omega))
      clear hal HE
      go_enter Tryz.func56, Tryz.ntmps56
      go_wp2_with (go_at_call 54; refine (within_any _ _ _ _).mono ?_; rintro e w' ⟨rfl, rfl⟩)
      go_ret
      exact ⟨ret_int HX.out.symm, hb⟩
    · have HX := Lib.hid (show foldErr C R ⟨k, c⟩ = 0 by rw [HE2.out]; exact if_neg (by omega))
      clear hal HE
      go_enter Tryz.func56, Tryz.ntmps56
      go_wp2_with (go_at_call 54; refine (within_any _ _ _ _).mono ?_; rintro e w' ⟨rfl, rfl⟩)
      go_ret
      exact ⟨ret_int HX.out.symm, hb⟩
  · have hal : alongI C R k = C := by unfold alongI; rw [if_pos (by omega)]
    rw [hal] at HE2
    by_cases h4 : c > hc2
    · have HX := Lib.hid (show foldErr C R ⟨k, c⟩ = 26 by rw [HE2.out]; exact if_pos (by omega))
      clear hal HE
      go_enter Tryz.func56, Tryz.ntmps56
      go_wp2_with (go_at_call 54; refine (within_any _ _ _ _).mono ?_; rintro e w' ⟨rfl, rfl⟩)
      go_ret
      exact ⟨ret_int HX.out.symm, hb⟩
    · have HX := Lib.hid (show foldErr C R ⟨k, c⟩ = 0 by rw [HE2.out]; exact if_neg (by omega))
      clear hal HE
      go_enter Tryz.func56, Tryz.ntmps56
      go_wp2_with (go_at_call 54; refine (within_any _ _ _ _).mono ?_; rintro e w' ⟨rfl, rfl⟩)
      go_ret
      exact ⟨ret_int HX.out.symm, hb⟩
/-- What is right of all places is so of all places of a heap in memory. -/
def GoodL (L : List Leaf) : Prop := L.length ≤ 1000 ∧ ∀ y ∈ L, LeafBits y
theorem good_nil : GoodL [] := ⟨by simp, fun y hy => by simp at hy⟩
theorem good_get {P : List (List Leaf)} (h : ∀ L ∈ P, GoodL L) (j : Nat) : GoodL (P.getD j []) := by
  rw [List.getD_eq_getElem?_getD]
  cases e : P[j]? with
  | none => exact good_nil
  | some L => exact h L (List.mem_of_getElem? e)
theorem good_mir {cs rs : Bool} {C R s : Nat} {P : List (List Leaf)} (h : ∀ L ∈ P, GoodL L) : ∀ L ∈ mirP cs rs C R P s, GoodL L := fun L hL => by
  unfold mirP at hL
  obtain ⟨j, _, rfl⟩ := List.mem_map.1 hL
  exact good_get h _
theorem good_pile {C R : Nat} {P : List (List Leaf)} (h : PileOk C R P) : ∀ L ∈ P, GoodL L := fun L hL => ⟨Nat.le_trans (sumL_mem hL) h.sum, h.bits L hL⟩
theorem good_ps {Ps : List PS} {P : List (List Leaf)} (h : Ps.map (·.l) = P) (hP : ∀ L ∈ P, GoodL L) : ∀ x ∈ Ps, GoodL x.l := fun x hx => hP _ (by rw [← h]; exact List.mem_map_of_mem hx)
theorem heap_post {w W w' : World} {C R : Nat} {Q P : List (List Leaf)} {A : Option Addr} {n c g : Nat} {Ps : List PS} (hO : Bld W.heap.size Ps (.slice A n c) w') (hM : Ps.map (·.l) = Q) (hQ : Q = P) (hs : w.heap.size ≤ W.heap.size) (hlow : Below w.heap.size w w') (br : BoxAt w' g #[.int .i64 0, .int .i64 0, .slice none 0 0] 66) (hg : w.heap.size ≤ g) :
    HeapPost w C R P (.returned (.agg #[.int .i64 C, .int .i64 R, .slice A n c])) (((w'.setCell ⟨g, 0, none⟩ (.int .i64 C)).setCell ⟨g, 1, none⟩ (.int .i64 R)).setCell ⟨g, 2, none⟩ (.slice A n c)) := by
  have b1 := ((hO.mono hs).set br heap_place heap_leaf 0 (.int .i64 C))
  have b2 := b1.set (br.set 0 _) heap_place heap_leaf 1 (.int .i64 R)
  have b3 := b2.set ((br.set 0 _).set 1 _) heap_place heap_leaf 2 (.slice A n c)
  exact ⟨_, _, _, _, rfl, b3, hM.trans hQ, ((hlow.setCell (p := ⟨g, 0, none⟩) hg _).setCell (p := ⟨g, 1, none⟩) hg _).setCell (p := ⟨g, 2, none⟩) hg _⟩
set_option maxRecDepth 100000 in
set_option maxHeartbeats 8000000 in
theorem refFold_any (C R C' R' : Nat) (A : Option Addr) (n c : Nat) (f : Fold) (Ps : List PS) (w : World) (hC : 1 ≤ C ∧ C ≤ 8) (hR : 1 ≤ R ∧ R ≤ 8) (hf : foldErr C R f = 0) (hC' : afterC C f = C') (hR' : afterR R f = R')
    (hn : n = Ps.length) (hH : HeapAt w A Ps) (hP : PileOk C R (Ps.map (·.l))) :
    Calls Tryz.prog 57 #[.agg #[.int .i64 C, .int .i64 R, .slice A n c], .agg #[.int .i64 f.k, .int .i64 f.c]] w (HeapPost w C' R' (outF C R C' R' f (Ps.map (·.l)))) := by
  have HOUT := Lib.hid (foldR_out hC hR hf hC' hR' hP)
  have hlen : Ps.length = C * R := by rw [← List.length_map (f := (·.l)), hP.len]
  have HG : Hid (∀ L ∈ Ps.map (·.l), GoodL L) := Lib.hid (good_pile hP)
  have HGP : Hid (∀ x ∈ Ps, GoodL x.l) := Lib.hid (good_ps rfl HG.out)
  obtain ⟨a, b, d, e, g, i⟩ := fold_ok (by omega) (by omega) hf
  obtain ⟨k, qi⟩ := f
  have a : 1 ≤ k ∧ k ≤ 6 := a
  have b : 0 ≤ qi ∧ qi ≤ 4 := b
  have d : k ≤ 4 → 1 ≤ qi := d
  have e : 5 ≤ k → qi = 0 := e
  have g : k ≤ 2 → 2 * qi ≤ C := g
  have i : 3 ≤ k → k ≤ 4 → 2 * qi ≤ R := i
  obtain ⟨q, rfl⟩ : ∃ q : Nat, qi = q := ⟨qi.toNat, by omega⟩
  have HLEN := Lib.hid hlen; have HNN := Lib.hid hn; have HC := Lib.hid hC; have HR := Lib.hid hR
  obtain ⟨w3, hw3⟩ : ∃ w3, w3 = ((w.alloc (.cells #[.int .i64 C, .int .i64 R, .slice A n c] 66)).alloc (.cells #[.int .i64 k, .int .i64 q] 59)).alloc (.cells #[.int .i64 0, .int .i64 0, .slice none 0 0] 66) := ⟨_, rfl⟩
  have bx : BoxAt w3 w.heap.size #[.int .i64 C, .int .i64 R, .slice A n c] 66 := by rw [hw3]; exact ((BoxAt.new w _ _).alloc _).alloc _
  have bf : BoxAt w3 (w.heap.size + 1) #[.int .i64 k, .int .i64 q] 59 := by
    rw [hw3]
    have := (BoxAt.new (w.alloc (.cells #[.int .i64 C, .int .i64 R, .slice A n c] 66)) #[.int .i64 k, .int .i64 q] 59).alloc (.cells #[.int .i64 0, .int .i64 0, .slice none 0 0] 66)
    simpa using this
  have br : BoxAt w3 (w.heap.size + 1 + 1) #[.int .i64 0, .int .i64 0, .slice none 0 0] 66 := by
    rw [hw3]
    have := BoxAt.new ((w.alloc (.cells #[.int .i64 C, .int .i64 R, .slice A n c] 66)).alloc (.cells #[.int .i64 k, .int .i64 q] 59)) #[.int .i64 0, .int .i64 0, .slice none 0 0] 66
    simpa using this
  have hB3 : Below w.heap.size w w3 := by rw [hw3]; exact (((Below.refl w.heap.size w).alloc (Nat.le_refl _) _).alloc (by simp) _).alloc (by simp; omega) _
  have W3 := Lib.hid hw3
  have hH3 := hH.below hB3
  have h6 : k = 1 ∨ k = 2 ∨ k = 3 ∨ k = 4 ∨ k = 5 ∨ k = 6 := by omega
  have hwg : w.heap.size ≤ w.heap.size + 1 + 1 := by omega
  have p1 : ¬ w.heap.size + 1 + 1 = w.heap.size := by omega
  have p2 : ¬ w.heap.size = w.heap.size + 1 + 1 := by omega
  have p3 : ¬ w.heap.size + 1 + 1 = w.heap.size + 1 := by omega
  have p4 : ¬ w.heap.size + 1 = w.heap.size + 1 + 1 := by omega
  clear hlen hn hP hw3 hf hH a b hC hR
  have c0 := bx.cell 0; have c1 := bx.cell 1; have c2 := bx.cell 2
  have f1 := bf.cell 1
  have hxl := bx.lt; have hfl := bf.lt
  simp at c0 c1 c2 f1
  rcases h6 with rfl | rfl | rfl | rfl | rfl | rfl
  all_goals
    simp [afterC, afterR] at hC' hR'
  · have hc2 : C' = C - q := by omega
    have hr2 : R' = R := by omega
    subst C'
    subst R'
    have HQ : Hid ((C - q) + q = C ∧ 1 ≤ C - q ∧ C ≤ 2 * (C - q)) := Lib.hid (by have := HC.out; omega)
    obtain ⟨b, hbb⟩ : ∃ b, C - q = b := ⟨_, rfl⟩
    rw [hbb] at HQ HOUT ⊢
    have HB8 : Hid (1 ≤ b ∧ b ≤ 8) := Lib.hid (by have := HC.out; omega)
    have HBB := Lib.hid hbb
    clear hbb
    clear hC' hR' d e g i
    go_enter Tryz.func57, Tryz.ntmps57
    go_wp2_with fail
    rw [← W3.out]
    refine (foldLeft_any C R b q A n c Ps _ HC.out HR.out HQ.out.1 HQ.out.2.1 HQ.out.2.2 HNN.out HLEN.out hH3 (fun x hx => (HGP.out x hx).2) (fun x hx => (HGP.out x hx).1)).mono ?_
    rintro e w4 ⟨A4, n4, c4, Qs, rfl, hO4, hM4, hb4⟩
    have br4 := br.below hb4
    have r0 := br4.cell 0; have r1 := br4.cell 1; have r2 := br4.cell 2
    have z := fun j => br4.free j
    have hrl := br4.lt
    simp at r0 r1 r2
    go_wp2_with fail
    refine bodyPost_ret (v := .agg #[.int .i64 b, .int .i64 R, .slice A4 n4 c4]) (by simp [results, Tryz.results57, go_sem, r0, r1, r2]) rfl ?_
    exact heap_post hO4 hM4 (by rw [← HOUT.out]; simp [foldR]; rw [HBB.out]) hB3.size (hB3.trans (hb4.mono (B' := w.heap.size) hB3.size)) br4 hwg
  · have hc2 : C' = C - q := by omega
    have hr2 : R' = R := by omega
    subst C'
    subst R'
    have HQ : Hid ((C - q) + q = C ∧ 1 ≤ C - q ∧ C ≤ 2 * (C - q)) := Lib.hid (by have := HC.out; omega)
    obtain ⟨b, hbb⟩ : ∃ b, C - q = b := ⟨_, rfl⟩
    rw [hbb] at HQ HOUT ⊢
    have HB8 : Hid (1 ≤ b ∧ b ≤ 8) := Lib.hid (by have := HC.out; omega)
    have HBB := Lib.hid hbb
    clear hbb
    clear hC' hR' d e g i
    go_enter Tryz.func57, Tryz.ntmps57
    have HB1 : Hid (1 ≤ b ∧ b ≤ 8) := HB8
    have HB2 : Hid (1 ≤ R ∧ R ≤ 8) := HR
    have hq : Below w3.heap.size w3 w3.drew := (Below.refl _ w3).drew
    go_wp2_with fail
    rw [← W3.out]
    go_region_held3 (fun w' => w'.cell? ⟨w.heap.size, 0, none⟩ = some (.int .i64 C) ∧ w'.cell? ⟨w.heap.size, 1, none⟩ = some (.int .i64 R) ∧ w'.cell? ⟨w.heap.size, 2, none⟩ = some (.slice A n c) ∧ w'.cell? ⟨w.heap.size + 1, 1, none⟩ = some (.int .i64 q)) (first | exact ⟨j0, j1, j2, j3⟩ | go_keep)
      (first
        | (go_at_call 74; refine (mirrored_any b R A6 n6 c6 Qs6 true false _ HB1.out HB2.out HN6.out HL6.out hO6.heap.2).mono ?_; rintro e w7 ⟨A7, n7, c7, Qs7, rfl, hO7, hM7, hb5⟩; have hq := hq.trans (hb5.mono (B' := w3.heap.size) hq.size); have j0 := (hq.cell (p := ⟨w.heap.size, 0, none⟩) hxl).trans c0; have j1 := (hq.cell (p := ⟨w.heap.size, 1, none⟩) hxl).trans c1; have j2 := (hq.cell (p := ⟨w.heap.size, 2, none⟩) hxl).trans c2; have j3 := (hq.cell (p := ⟨w.heap.size + 1, 1, none⟩) hfl).trans f1; have br5 := br.below hq; have r0 := br5.cell 0; have r1 := br5.cell 1; have r2 := br5.cell 2; have z := fun j => br5.free j; have hrl := br5.lt; simp at r0 r1 r2)
        | (go_at_call 73; refine (foldLeft_any C R b q A5 n5 c5 Qs5 _ HC.out HR.out HQ.out.1 HQ.out.2.1 HQ.out.2.2 HN5.out HL5.out hO5.heap.2 (fun x hx => (HG5.out x hx).2) (fun x hx => (HG5.out x hx).1)).mono ?_; rintro e w6 ⟨A6, n6, c6, Qs6, rfl, hO6, hM6, hb5⟩; have HN6 := Lib.hid hO6.heap.1; have HL6 : Hid (Qs6.length = b * R) := Lib.hid (by rw [← List.length_map (f := (·.l)), hM6, leftP_len, Nat.mul_comm]); have HM6 := Lib.hid hM6; clear hM6; have hs6 : w3.heap.size ≤ w6.heap.size := Nat.le_trans hq.size hb5.size; have hq := hq.trans (hb5.mono (B' := w3.heap.size) hq.size); have j0 := (hq.cell (p := ⟨w.heap.size, 0, none⟩) hxl).trans c0; have j1 := (hq.cell (p := ⟨w.heap.size, 1, none⟩) hxl).trans c1; have j2 := (hq.cell (p := ⟨w.heap.size, 2, none⟩) hxl).trans c2; have j3 := (hq.cell (p := ⟨w.heap.size + 1, 1, none⟩) hfl).trans f1; have br5 := br.below hq; have r0 := br5.cell 0; have r1 := br5.cell 1; have r2 := br5.cell 2; have z := fun j => br5.free j; have hrl := br5.lt; simp at r0 r1 r2)
        | (go_at_call 74; refine (mirrored_any C R A n c Ps true false _ HC.out HR.out HNN.out HLEN.out (hH3.below hq)).mono ?_; rintro e w5 ⟨A5, n5, c5, Qs5, rfl, hO5, hM5, hb5⟩; have HN5 := Lib.hid hO5.heap.1; have HL5 : Hid (Qs5.length = C * R) := Lib.hid (by rw [← List.length_map (f := (·.l)), hM5, mirP_len, Nat.mul_comm]); have HG5 : Hid (∀ x ∈ Qs5, GoodL x.l) := Lib.hid (good_ps hM5 (good_mir HG.out)); have HM5 := Lib.hid hM5; clear hM5; have hq := hq.trans (hb5.mono (B' := w3.heap.size) hq.size); have j0 := (hq.cell (p := ⟨w.heap.size, 0, none⟩) hxl).trans c0; have j1 := (hq.cell (p := ⟨w.heap.size, 1, none⟩) hxl).trans c1; have j2 := (hq.cell (p := ⟨w.heap.size, 2, none⟩) hxl).trans c2; have j3 := (hq.cell (p := ⟨w.heap.size + 1, 1, none⟩) hfl).trans f1; have br5 := br.below hq; have r0 := br5.cell 0; have r1 := br5.cell 1; have r2 := br5.cell 2; have z := fun j => br5.free j; have hrl := br5.lt; simp at r0 r1 r2))
    rw [HM6.out, HM5.out] at hM7
    go_wp2_with fail
    refine bodyPost_ret (v := .agg #[.int .i64 b, .int .i64 R, .slice A7 n7 c7]) (by simp [results, Tryz.results57, go_sem, r0, r1, r2]) rfl ?_
    exact heap_post hO7 hM7 (by rw [← HOUT.out]; simp [foldR]; rw [HBB.out]) (Nat.le_trans hB3.size hs6) (hB3.trans (hq.mono (B' := w.heap.size) hB3.size)) br5 hwg
  · have hc2 : C' = C := by omega
    have hr2 : R' = R - q := by omega
    subst C'
    subst R'
    have HQ : Hid ((R - q) + q = R ∧ 1 ≤ R - q ∧ R ≤ 2 * (R - q)) := Lib.hid (by have := HR.out; omega)
    obtain ⟨b, hbb⟩ : ∃ b, R - q = b := ⟨_, rfl⟩
    rw [hbb] at HQ HOUT ⊢
    have HB8 : Hid (1 ≤ b ∧ b ≤ 8) := Lib.hid (by have := HR.out; omega)
    have HBB := Lib.hid hbb
    clear hbb
    clear hC' hR' d e g i
    go_enter Tryz.func57, Tryz.ntmps57
    go_wp2_with fail
    rw [← W3.out]
    refine (foldUp_any C R b q A n c Ps _ HC.out HR.out HQ.out.1 HQ.out.2.1 HQ.out.2.2 HNN.out HLEN.out hH3 (fun x hx => (HGP.out x hx).2) (fun x hx => (HGP.out x hx).1)).mono ?_
    rintro e w4 ⟨A4, n4, c4, Qs, rfl, hO4, hM4, hb4⟩
    have br4 := br.below hb4
    have r0 := br4.cell 0; have r1 := br4.cell 1; have r2 := br4.cell 2
    have z := fun j => br4.free j
    have hrl := br4.lt
    simp at r0 r1 r2
    go_wp2_with fail
    refine bodyPost_ret (v := .agg #[.int .i64 C, .int .i64 b, .slice A4 n4 c4]) (by simp [results, Tryz.results57, go_sem, r0, r1, r2]) rfl ?_
    exact heap_post hO4 hM4 (by rw [← HOUT.out]; simp [foldR]; rw [HBB.out]) hB3.size (hB3.trans (hb4.mono (B' := w.heap.size) hB3.size)) br4 hwg
  · have hc2 : C' = C := by omega
    have hr2 : R' = R - q := by omega
    subst C'
    subst R'
    have HQ : Hid ((R - q) + q = R ∧ 1 ≤ R - q ∧ R ≤ 2 * (R - q)) := Lib.hid (by have := HR.out; omega)
    obtain ⟨b, hbb⟩ : ∃ b, R - q = b := ⟨_, rfl⟩
    rw [hbb] at HQ HOUT ⊢
    have HB8 : Hid (1 ≤ b ∧ b ≤ 8) := Lib.hid (by have := HR.out; omega)
    have HBB := Lib.hid hbb
    clear hbb
    clear hC' hR' d e g i
    go_enter Tryz.func57, Tryz.ntmps57
    have HB1 : Hid (1 ≤ C ∧ C ≤ 8) := HC
    have HB2 : Hid (1 ≤ b ∧ b ≤ 8) := HB8
    have hq : Below w3.heap.size w3 w3.drew := (Below.refl _ w3).drew
    go_wp2_with fail
    rw [← W3.out]
    go_region_held3 (fun w' => w'.cell? ⟨w.heap.size, 0, none⟩ = some (.int .i64 C) ∧ w'.cell? ⟨w.heap.size, 1, none⟩ = some (.int .i64 R) ∧ w'.cell? ⟨w.heap.size, 2, none⟩ = some (.slice A n c) ∧ w'.cell? ⟨w.heap.size + 1, 1, none⟩ = some (.int .i64 q)) (first | exact ⟨j0, j1, j2, j3⟩ | go_keep)
      (first
        | (go_at_call 74; refine (mirrored_any C b A6 n6 c6 Qs6 false true _ HB1.out HB2.out HN6.out HL6.out hO6.heap.2).mono ?_; rintro e w7 ⟨A7, n7, c7, Qs7, rfl, hO7, hM7, hb5⟩; have hq := hq.trans (hb5.mono (B' := w3.heap.size) hq.size); have j0 := (hq.cell (p := ⟨w.heap.size, 0, none⟩) hxl).trans c0; have j1 := (hq.cell (p := ⟨w.heap.size, 1, none⟩) hxl).trans c1; have j2 := (hq.cell (p := ⟨w.heap.size, 2, none⟩) hxl).trans c2; have j3 := (hq.cell (p := ⟨w.heap.size + 1, 1, none⟩) hfl).trans f1; have br5 := br.below hq; have r0 := br5.cell 0; have r1 := br5.cell 1; have r2 := br5.cell 2; have z := fun j => br5.free j; have hrl := br5.lt; simp at r0 r1 r2)
        | (go_at_call 75; refine (foldUp_any C R b q A5 n5 c5 Qs5 _ HC.out HR.out HQ.out.1 HQ.out.2.1 HQ.out.2.2 HN5.out HL5.out hO5.heap.2 (fun x hx => (HG5.out x hx).2) (fun x hx => (HG5.out x hx).1)).mono ?_; rintro e w6 ⟨A6, n6, c6, Qs6, rfl, hO6, hM6, hb5⟩; have HN6 := Lib.hid hO6.heap.1; have HL6 : Hid (Qs6.length = C * b) := Lib.hid (by rw [← List.length_map (f := (·.l)), hM6, upP_len, Nat.mul_comm]); have HM6 := Lib.hid hM6; clear hM6; have hs6 : w3.heap.size ≤ w6.heap.size := Nat.le_trans hq.size hb5.size; have hq := hq.trans (hb5.mono (B' := w3.heap.size) hq.size); have j0 := (hq.cell (p := ⟨w.heap.size, 0, none⟩) hxl).trans c0; have j1 := (hq.cell (p := ⟨w.heap.size, 1, none⟩) hxl).trans c1; have j2 := (hq.cell (p := ⟨w.heap.size, 2, none⟩) hxl).trans c2; have j3 := (hq.cell (p := ⟨w.heap.size + 1, 1, none⟩) hfl).trans f1; have br5 := br.below hq; have r0 := br5.cell 0; have r1 := br5.cell 1; have r2 := br5.cell 2; have z := fun j => br5.free j; have hrl := br5.lt; simp at r0 r1 r2)
        | (go_at_call 74; refine (mirrored_any C R A n c Ps false true _ HC.out HR.out HNN.out HLEN.out (hH3.below hq)).mono ?_; rintro e w5 ⟨A5, n5, c5, Qs5, rfl, hO5, hM5, hb5⟩; have HN5 := Lib.hid hO5.heap.1; have HL5 : Hid (Qs5.length = C * R) := Lib.hid (by rw [← List.length_map (f := (·.l)), hM5, mirP_len, Nat.mul_comm]); have HG5 : Hid (∀ x ∈ Qs5, GoodL x.l) := Lib.hid (good_ps hM5 (good_mir HG.out)); have HM5 := Lib.hid hM5; clear hM5; have hq := hq.trans (hb5.mono (B' := w3.heap.size) hq.size); have j0 := (hq.cell (p := ⟨w.heap.size, 0, none⟩) hxl).trans c0; have j1 := (hq.cell (p := ⟨w.heap.size, 1, none⟩) hxl).trans c1; have j2 := (hq.cell (p := ⟨w.heap.size, 2, none⟩) hxl).trans c2; have j3 := (hq.cell (p := ⟨w.heap.size + 1, 1, none⟩) hfl).trans f1; have br5 := br.below hq; have r0 := br5.cell 0; have r1 := br5.cell 1; have r2 := br5.cell 2; have z := fun j => br5.free j; have hrl := br5.lt; simp at r0 r1 r2))
    rw [HM6.out, HM5.out] at hM7
    go_wp2_with fail
    refine bodyPost_ret (v := .agg #[.int .i64 C, .int .i64 b, .slice A7 n7 c7]) (by simp [results, Tryz.results57, go_sem, r0, r1, r2]) rfl ?_
    exact heap_post hO7 hM7 (by rw [← HOUT.out]; simp [foldR]; rw [HBB.out]) (Nat.le_trans hB3.size hs6) (hB3.trans (hq.mono (B' := w.heap.size) hB3.size)) br5 hwg
  · have hc2 : C' = C := by omega
    have hr2 : R' = R := by omega
    subst C'
    subst R'
    have hq0 : (q : Int) = 0 := e (by decide)
    rw [hq0] at W3
    clear hq0
    clear hC' hR' d e g i
    go_enter Tryz.func57, Tryz.ntmps57
    go_wp2_with fail
    rw [← W3.out]
    refine (over_any C R A n c Ps _ HC.out HR.out HNN.out HLEN.out hH3 (fun x hx => (HGP.out x hx).2) (fun x hx => (HGP.out x hx).1)).mono ?_
    rintro e w4 ⟨A4, n4, c4, Qs, rfl, hO4, hM4, hb4⟩
    have br4 := br.below hb4
    have r0 := br4.cell 0; have r1 := br4.cell 1; have r2 := br4.cell 2
    have z := fun j => br4.free j
    have hrl := br4.lt
    simp at r0 r1 r2
    go_wp2_with fail
    refine bodyPost_ret (v := .agg #[.int .i64 C, .int .i64 R, .slice A4 n4 c4]) (by simp [results, Tryz.results57, go_sem, r0, r1, r2]) rfl ?_
    exact heap_post hO4 hM4 (by rw [← HOUT.out]; simp [foldR]) hB3.size (hB3.trans (hb4.mono (B' := w.heap.size) hB3.size)) br4 hwg
  · have hc2 : C' = C := by omega
    have hr2 : R' = R := by omega
    subst C'
    subst R'
    have hq0 : (q : Int) = 0 := e (by decide)
    rw [hq0] at W3
    clear hq0
    clear hC' hR' d e g i
    go_enter Tryz.func57, Tryz.ntmps57
    go_wp2_with fail
    rw [← W3.out]
    refine (round_any C R A n c Ps _ HC.out HR.out HNN.out HLEN.out hH3 (fun x hx => (HGP.out x hx).2) (fun x hx => (HGP.out x hx).1)).mono ?_
    rintro e w4 ⟨A4, n4, c4, Qs, rfl, hO4, hM4, hb4⟩
    have br4 := br.below hb4
    have r0 := br4.cell 0; have r1 := br4.cell 1; have r2 := br4.cell 2
    have z := fun j => br4.free j
    have hrl := br4.lt
    simp at r0 r1 r2
    go_wp2_with fail
    refine bodyPost_ret (v := .agg #[.int .i64 C, .int .i64 R, .slice A4 n4 c4]) (by simp [results, Tryz.results57, go_sem, r0, r1, r2]) rfl ?_
    exact heap_post hO4 hM4 (by rw [← HOUT.out]; simp [foldR]) hB3.size (hB3.trans (hb4.mono (B' := w.heap.size) hB3.size)) br4 hwg
end Go.Proofs.YtgoandhlcekmiaaGreatDoor

namespace Go.Proofs.YtgoandhlcekmiaaGreatDoor
open Go.RowKit

structure FlEnv (w : World) (C R : Nat) (v : Value) (Ps : List PS) (wr : World) : Prop where
  br : BoxAt wr w.heap.size #[.int .i64 0, .int .i64 0, .slice none 0 0] 66
  bv : BoxAt wr (w.heap.size + 1) #[.int .i64 C, .int .i64 R, v] 66
  own : Bld (w.heap.size + 1 + 1) Ps v wr
  low : Below w.heap.size w wr
theorem FlEnv.below {w : World} {C R : Nat} {v : Value} {Ps : List PS} {wr w1 : World} (h : FlEnv w C R v Ps wr) (hb : Below wr.heap.size wr w1) : FlEnv w C R v Ps w1 :=
  ⟨h.br.below hb, h.bv.below hb, h.own.below hb, h.low.trans (hb.mono h.low.size)⟩
theorem FlEnv.push {w : World} {C R : Nat} {v : Value} {Ps : List PS} {wr w6 : World} {x : PS} {g m k : Nat} (h : FlEnv w C R v Ps wr) (hO : Bld (w.heap.size + 1 + 1) (Ps ++ [x]) (.slice (some ⟨g, 0, none⟩) m k) w6) (hg : wr.grownBy w6 v.ownBlock) (hb : Below (w.heap.size + 1 + 1) wr w6) :
    FlEnv w C R (.slice (some ⟨g, 0, none⟩) m k) (Ps ++ [x]) (w6.setCell ⟨w.heap.size + 1, 2, none⟩ (.slice (some ⟨g, 0, none⟩) m k)) := by
  have brg := h.br.grow h.own.row (Ne.symm heap_place) hg
  have bvg := h.bv.grow h.own.row (Ne.symm heap_place) hg
  refine ⟨?_, bvg.set 2 _, hO.set bvg heap_place heap_leaf 2 _, (h.low.trans (hb.mono (B' := w.heap.size) (by omega))).setCell (p := ⟨w.heap.size + 1, 2, none⟩) (by show w.heap.size ≤ w.heap.size + 1; omega) _⟩
  exact brg.set_other (p := ⟨w.heap.size + 1, 2, none⟩) (by show w.heap.size ≠ w.heap.size + 1; omega) _
set_option maxRecDepth 100000 in
set_option maxHeartbeats 4000000 in
theorem refFlat_any (C R : Nat) (w : World) (hC : 1 ≤ C ∧ C ≤ 8) (hR : 1 ≤ R ∧ R ≤ 8) :
    Calls Tryz.prog 55 #[.int .i64 C, .int .i64 R] w (HeapPost w C R (flatP C (R * C))) := by
  obtain ⟨W0, hW0⟩ : ∃ W0, W0 = (w.alloc (.cells #[.int .i64 0, .int .i64 0, .slice none 0 0] 66)).alloc (.cells #[.int .i64 C, .int .i64 R, .slice none 0 0] 66) := ⟨_, rfl⟩
  have E0 : FlEnv w C R (.slice none 0 0) [] W0 := by
    rw [hW0]
    refine ⟨(BoxAt.new w _ _).alloc _, ?_, Bld.nil _ _, ((Below.refl w.heap.size w).alloc (Nat.le_refl _) _).alloc (by simp) _⟩
    have := BoxAt.new (w.alloc (.cells #[.int .i64 0, .int .i64 0, .slice none 0 0] 66)) #[.int .i64 C, .int .i64 R, .slice none 0 0] 66
    simpa using this
  have HW0 := Lib.hid hW0
  clear hW0
  go_enter Tryz.func55, Tryz.ntmps55
  go_wp2
  rw [← HW0.out]
  go_loopw [6] (fun i wr => ∃ (r : Nat) (Ps : List PS) (v : Value), r ≤ R ∧ i = .int .i64 r ∧ FlEnv w C R v Ps wr ∧ Hid (Ps.map (·.l) = flatP C (r * C))) (fun i _ => R - (intOf i).toNat)
  case atStart => exact ⟨0, [], _, Nat.zero_le _, rfl, E0, Lib.hid (by rw [Nat.zero_mul]; try rfl)⟩
  case round =>
    obtain ⟨r, Ps, v, hr, rfl, E, HQ⟩ := hrel
    clear E0
    by_cases hlt : r < R
    · have hrI : (r : Int) < (R : Int) := by omega
      go_wp2
      obtain ⟨wo, hwo⟩ : ∃ wo : World, wo = wr := ⟨_, rfl⟩
      go_loopw [7] (fun i wr => ∃ (k : Nat) (Ps : List PS) (v : Value), k ≤ C ∧ i = .int .i64 k ∧ FlEnv w C R v Ps wr ∧ Hid (Ps.map (·.l) = flatP C (r * C + k))) (fun i _ => C - (intOf i).toNat)
      case atStart => exact ⟨0, Ps, v, Nat.zero_le _, rfl, E, HQ⟩
      case round =>
        clear hwo
        obtain ⟨k, Ps, v, hk, rfl, E, HQ⟩ := hrel
        by_cases hkC : k < C
        · have hkI : (k : Int) < (C : Int) := by omega
          have HLF : Hid (leafAt C (r * C + k) = ⟨k, r, 0, 0⟩) := Lib.hid (leafAt_eq rfl hkC)
          have HBL : Hid (Ps.length ≤ 1000) := Lib.hid (by
            have h := congrArg List.length HQ.out
            simp [flatP] at h
            have : r * C ≤ 8 * 8 := Nat.mul_le_mul (by omega) (by omega)
            omega)
          have hO1 := new_leaf wr ⟨k, r, 0, 0⟩
          have hb1 := (Below.refl wr.heap.size wr).alloc (Nat.le_refl _) (.cells #[.int .i64 k, .int .i64 r, .int .i64 0, .int .i64 0] 77)
          have hE1 := E.below hb1
          obtain ⟨w1, hw1⟩ : ∃ w1, w1 = wr.alloc (.cells #[.int .i64 k, .int .i64 r, .int .i64 0, .int .i64 0] 77) := ⟨_, rfl⟩
          have hO1 : OwnR 4 77 Leaf.l w1 wr.heap.size (.slice (some ⟨wr.heap.size, 0, none⟩) 1 1) [⟨k, r, 0, 0⟩] := by rw [hw1]; exact hO1
          rw [← hw1] at hE1
          have hs1 : w1.heap.size = wr.heap.size + 1 := by rw [hw1]; simp
          have HW1 := Lib.hid hw1
          have HS1 := Lib.hid hs1
          have v2 := E.bv.cell 2
          have hvl := E.bv.lt
          simp at v2
          have m1 : ¬ w.heap.size + 1 = wr.heap.size := by omega
          have m2 : ¬ w.heap.size + 1 = wr.heap.size + 1 := by omega
          clear hb1 hw1 hs1
          go_wp2_with (at_builtin; rw [← HW1.out]; refine wpList_push _ rfl _ _ rfl (w.heap.size + 1 + 1) v Ps ⟨some ⟨wr.heap.size, 0, none⟩, 1, [⟨k, r, 0, 0⟩]⟩ rfl (hE1.own.alloc _) (hO1.lrow.2.alloc _) ⟨wr.heap.size + 1, 0, none⟩ rfl (by rw [← HS1.out]; exact (BoxAt.new w1 _ _).cell 0) (by have := HBL.out; omega) (by have := hE1.low.size; have := HS1.out; simp; omega) ?_; intro g6 m6 k6 w6 hO6 hg6 hb6; have hE6 := (hE1.below ((Below.refl _ _).alloc (Nat.le_refl _) (.cells #[.slice (some ⟨wr.heap.size, 0, none⟩) 1 1] 146))); have bvg := hE6.bv.grow hE6.own.row (Ne.symm heap_place) hg6; have x8 := bvg.cell 2; have z8 := bvg.free 2; have l8 := bvg.lt; simp at x8)
          have hEP := hE6.push hO6 hg6 hb6
          have HF : Hid ((Ps ++ [PS.mk (some ⟨wr.heap.size, 0, none⟩) 1 [⟨k, r, 0, 0⟩]]).map (·.l) = flatP C (r * C + (k + 1))) := Lib.hid (by
            rw [List.map_append, HQ.out, ← Nat.add_assoc, flatP_succ, HLF.out]; try rfl)
          go_wp2
          go_roundw
          case rel => exact ⟨k + 1, _, _, by omega, by go_num, hEP, HF⟩
          case measure => simp [intOf]; omega
        · have hkC' : k = C := by omega
          have hkI : ¬ (k : Int) < (C : Int) := by omega
          have hrs : r * C + k = (r + 1) * C := by rw [hkC', Nat.succ_mul]
          rw [hrs] at HQ
          clear hrs hkC'
          go_wp2
          go_roundw
          case rel => exact ⟨r + 1, Ps, v, by omega, by go_num, E, HQ⟩
          case measure => simp [intOf]; omega
    · have hrR : r = R := by omega
      have hrI : ¬ (r : Int) < (R : Int) := by omega
      rw [hrR] at HQ
      clear hrR
      have r0 := E.br.cell 0; have r1 := E.br.cell 1; have r2 := E.br.cell 2
      have z := fun j => E.br.free j
      have v0 := E.bv.cell 0; have v1 := E.bv.cell 1; have v2 := E.bv.cell 2
      have hvl := E.bv.lt; have hrl := E.br.lt
      simp at r0 r1 r2 v0 v1 v2
      obtain ⟨va, vc, ev, -⟩ := E.own.form
      obtain ⟨vm, hvm⟩ : ∃ m, Ps.length = m := ⟨_, rfl⟩
      rw [hvm] at ev
      subst ev
      clear hvm
      go_wp2
      refine bodyPost_ret (v := .agg #[.int .i64 C, .int .i64 R, .slice va vm vc]) (by simp [results, Tryz.results55, go_sem, r0, r1, r2]) rfl ?_
      have hO := E.own.mono (B' := w.heap.size) (by omega)
      exact heap_post (W := w) hO HQ.out rfl (Nat.le_refl _) E.low E.br (Nat.le_refl _)
theorem ret_bld {w w' : World} {C R : Nat} {A : Option Addr} {n c g : Nat} {Ps : List PS} (hO : Bld w.heap.size Ps (.slice A n c) w') (hlow : Below w.heap.size w w') (br : BoxAt w' g #[.int .i64 0, .int .i64 0, .slice none 0 0] 66) (hg : w.heap.size ≤ g) :
    Bld w.heap.size Ps (.slice A n c) (((w'.setCell ⟨g, 0, none⟩ (.int .i64 C)).setCell ⟨g, 1, none⟩ (.int .i64 R)).setCell ⟨g, 2, none⟩ (.slice A n c)) ∧ Below w.heap.size w (((w'.setCell ⟨g, 0, none⟩ (.int .i64 C)).setCell ⟨g, 1, none⟩ (.int .i64 R)).setCell ⟨g, 2, none⟩ (.slice A n c)) := by
  have b1 := (hO.set br heap_place heap_leaf 0 (.int .i64 C))
  have b2 := b1.set (br.set 0 _) heap_place heap_leaf 1 (.int .i64 R)
  have b3 := b2.set ((br.set 0 _).set 1 _) heap_place heap_leaf 2 (.slice A n c)
  exact ⟨b3, ((hlow.setCell (p := ⟨g, 0, none⟩) hg _).setCell (p := ⟨g, 1, none⟩) hg _).setCell (p := ⟨g, 2, none⟩) hg _⟩
/-- What folds, one behind the other, come to. -/
def FoldedPost (w : World) (C R : Nat) (L : List Fold) (e : Ending) (w' : World) : Prop :=
  ∃ (C' R' : Nat) (A : Option Addr) (n c : Nat) (Ps : List PS) (i s : Int), e = .returned (.tuple #[.agg #[.int .i64 C', .int .i64 R', .slice A n c], .int .i64 i, .int .i64 s]) ∧ Bld w.heap.size Ps (.slice A n c) w' ∧ Below w.heap.size w w' ∧ PileOk C' R' (Ps.map (·.l)) ∧ (1 ≤ C' ∧ C' ≤ 8) ∧ (1 ≤ R' ∧ R' ≤ 8) ∧
    (s ≠ 0 → foldsErr C R L 0 = (i, s)) ∧ (s = 0 → foldsErr C R L 0 = (if 1 < (C' : Int) * R' then ((L.length : Int), 25) else (0, 0)) ∧ runF C R (flatP C (C * R)) L = (C', R', Ps.map (·.l)))
set_option maxRecDepth 100000 in
set_option maxHeartbeats 8000000 in
theorem refFolded_any (C R : Nat) (a : Option Addr) (L : List Fold) (c : Nat) (w : World) (hC : 1 ≤ C ∧ C ≤ 8) (hR : 1 ≤ R ∧ R ≤ 8) (hL : RowsAt 2 Fold.l w a L) (hl : L.length ≤ 100) :
    Calls Tryz.prog 22 #[.int .i64 C, .int .i64 R, .slice a L.length c] w (FoldedPost w C R L) := by
  have HC := Lib.hid hC; have HR := Lib.hid hR
  clear hC hR
  go_enter Tryz.func22, Tryz.ntmps22
  go_wp2_with fail
  refine (refFlat_any C R _ HC.out HR.out).mono ?_
  rintro e w1 ⟨A, n, cp, Ps, rfl, hO1, hM1, hb1⟩
  have br1 := (BoxAt.new w #[.int .i64 0, .int .i64 0, .slice none 0 0] 66).below hb1
  have hB1 := ((Below.refl w.heap.size w).alloc (Nat.le_refl _) (.cells #[.int .i64 0, .int .i64 0, .slice none 0 0] 66)).trans (hb1.mono (B' := w.heap.size) (by simp))
  have hO1 := hO1.mono (B' := w.heap.size) (by simp)
  obtain ⟨gh, hgh⟩ : ∃ g, w1.heap.size = g := ⟨_, rfl⟩
  have bh0 : BoxAt (w1.alloc (.cells #[.int .i64 C, .int .i64 R, .slice A n cp] 66)) gh #[.int .i64 C, .int .i64 R, .slice A n cp] 66 := by rw [← hgh]; exact BoxAt.new _ _ _
  have br0 := br1.alloc (.cells #[.int .i64 C, .int .i64 R, .slice A n cp] 66)
  have hO0 := hO1.alloc (.cells #[.int .i64 C, .int .i64 R, .slice A n cp] 66)
  have hB0 := hB1.alloc hB1.size (.cells #[.int .i64 C, .int .i64 R, .slice A n cp] 66)
  have hwg : w.heap.size < gh := by rw [← hgh]; exact br1.lt
  have hP0 : PileOk C R (Ps.map (·.l)) := by rw [hM1, Nat.mul_comm]; exact PileOk.flat HC.out HR.out
  have HR0 : Hid (runF C R (flatP C (C * R)) (L.drop 0) = runF C R (Ps.map (·.l)) (L.drop 0)) := Lib.hid (by rw [hM1, Nat.mul_comm C R])
  have HP0 := Lib.hid hP0
  clear hb1 hM1 br1 hO1 hB1 hP0
  go_wp2_with fail
  clear hgh
  go_loopw [10] (fun i wr => ∃ (k C' R' : Nat) (A : Option Addr) (n cp : Nat) (Ps : List PS), k ≤ L.length ∧ i = .int .i64 k ∧ Hid ((1 ≤ C' ∧ C' ≤ 8) ∧ (1 ≤ R' ∧ R' ≤ 8)) ∧ Hid (PileOk C' R' (Ps.map (·.l))) ∧ BoxAt wr gh #[.int .i64 C', .int .i64 R', .slice A n cp] 66 ∧ BoxAt wr w.heap.size #[.int .i64 0, .int .i64 0, .slice none 0 0] 66 ∧ Bld w.heap.size Ps (.slice A n cp) wr ∧ Below w.heap.size w wr ∧
      Hid (foldsErr C R (L.drop 0) ((0 : Nat) : Int) = foldsErr C' R' (L.drop k) k) ∧ Hid (runF C R (flatP C (C * R)) (L.drop 0) = runF C' R' (Ps.map (·.l)) (L.drop k))) (fun i _ => L.length - (intOf i).toNat)
  case atStart => exact ⟨0, C, R, A, n, cp, Ps, Nat.zero_le _, rfl, Lib.hid ⟨HC.out, HR.out⟩, HP0, bh0, br0, hO0, hB0, Lib.hid rfl, HR0⟩
  case round =>
    obtain ⟨k, C', R', A', n', cp', Qs, hk, rfl, HCR, HPO, bh, br, hO, hB, HFE, HRF⟩ := hrel
    clear bh0 br0 hO0 hB0 HP0 HR0
    have h0 := bh.cell 0; have h1 := bh.cell 1; have h2 := bh.cell 2
    have hhl := bh.lt
    simp at h0 h1 h2
    by_cases hlt : k < L.length
    · have hkI : (k : Int) < (L.length : Int) := by omega
      obtain ⟨ad, rfl, had, s0, s1⟩ := (hL.below hB).fold hlt
      obtain ⟨f, ef⟩ : ∃ f, f = L[k] := ⟨_, rfl⟩
      rw [← ef] at s0 s1
      have EF := Lib.hid ef
      have had1 : (⟨(ad.add (k * 2)).block, (ad.add (k * 2)).off + 1, none⟩ : Addr).block < wr.heap.size := by show (ad.add (k * 2)).block < _; rw [add_block]; exact had
      have had0 : (ad.add (k * 2)).block < wr.heap.size := by rw [add_block]; exact had
      obtain ⟨E, hE⟩ : ∃ E, foldErr C' R' f = E := ⟨_, rfl⟩
      have HFD := Lib.hid (fun W => refFoldErr_any (C' : Int) (R' : Int) f W (by have := HCR.out; omega) (by have := HCR.out; omega))
      rw [hE] at HFD
      have HE := Lib.hid hE
      have hq : Below wr.heap.size wr wr.drew := (Below.refl _ wr).drew
      clear ef hE
      go_wp2_with fail
      go_region_held3 (fun w' => w'.cell? ⟨gh, 0, none⟩ = some (.int .i64 C') ∧ w'.cell? ⟨gh, 1, none⟩ = some (.int .i64 R') ∧ w'.cell? (ad.add (k * 2)) = some (.int .i64 f.k) ∧ w'.cell? ⟨(ad.add (k * 2)).block, (ad.add (k * 2)).off + 1, none⟩ = some (.int .i64 f.c)) (first | exact ⟨j0, j1, j2, j3⟩ | go_keep)
        (first | (go_at_call 56; refine (HFD.out _).mono ?_; rintro e w4 ⟨rfl, hb4⟩; have hq := hq.trans (hb4.mono (B' := wr.heap.size) hq.size); have j0 := (hq.cell (p := ⟨gh, 0, none⟩) hhl).trans h0; have j1 := (hq.cell (p := ⟨gh, 1, none⟩) hhl).trans h1; have j2 := (hq.cell (p := ad.add (k * 2)) had0).trans s0; have j3 := (hq.cell (p := ⟨(ad.add (k * 2)).block, (ad.add (k * 2)).off + 1, none⟩) had1).trans s1))
      have bh4 := bh.below hq; have br4 := br.below hq; have hO4 := hO.below hq
      have hB4 := hB.trans (hq.mono (B' := w.heap.size) hB.size)
      clear h0 h1 h2 s0 s1 had0 had1 had hhl bh br hO hB hb4 hq j0 j1 j2 j3 HFD
      have h0 := bh4.cell 0; have h1 := bh4.cell 1; have h2 := bh4.cell 2
      have hhl := bh4.lt
      simp at h0 h1 h2
      by_cases he : E = 0
      · subst he
        obtain ⟨hC8, hR8⟩ := HCR.out
        obtain ⟨g1, g2⟩ := after_ok (C := (C' : Int)) (R := (R' : Int)) (f := f) (by omega) (by omega) HE.out
        obtain ⟨C2, hC2⟩ : ∃ n : Nat, afterC C' f = n := ⟨(afterC C' f).toNat, by omega⟩
        obtain ⟨R2, hR2⟩ : ∃ n : Nat, afterR R' f = n := ⟨(afterR R' f).toNat, by omega⟩
        rw [hC2] at g1
        rw [hR2] at g2
        have HCR2 : Hid ((1 ≤ C2 ∧ C2 ≤ 8) ∧ (1 ≤ R2 ∧ R2 ≤ 8)) := Lib.hid (by omega)
        have HPO2 : Hid (PileOk C2 R2 (outF C' R' C2 R2 f (Qs.map (·.l)))) := Lib.hid (HPO.out.fold hC8 hR8 HE.out hC2 hR2)
        have HFE2 : Hid (foldsErr C R (L.drop 0) ((0 : Nat) : Int) = foldsErr C2 R2 (L.drop (k + 1)) ((k + 1 : Nat) : Int)) := Lib.hid (by
          rw [HFE.out, foldsErr_go hlt (by rw [← EF.out]; exact HE.out), ← EF.out, hC2, hR2])
        have HRF2 : Hid (runF C R (flatP C (C * R)) (L.drop 0) = runF C2 R2 (outF C' R' C2 R2 f (Qs.map (·.l))) (L.drop (k + 1))) := Lib.hid (by
          rw [HRF.out, runF_step hlt, ← EF.out, hC2, hR2, Int.toNat_natCast, Int.toNat_natCast])
        have HFD := Lib.hid (fun W hW => refFold_any C' R' C2 R2 A' n' cp' f Qs W HCR.out.1 HCR.out.2 HE.out hC2 hR2 (hO4.heap.1) hW HPO.out)
        obtain ⟨_, e2, had, s0, s1⟩ := (hL.below hB4).fold hlt
        cases e2
        rw [← EF.out] at s0 s1
        clear hC8 hR8 g1 g2 hC2 hR2
        go_wp2_with fail
        go_region_law (first
          | (go_simp; refine (HFD.out _ (hO4.heap.2.below (Below.refl _ w4).drew)).mono ?_; rintro e w6 ⟨A6, n6, c6, Qs6, rfl, hO6, hM6, hb6⟩; have hB6 : Below w4.heap.size w4 w6 := (Below.refl _ w4).drew.trans hb6; have bh6 := bh4.below hB6; have x0 := bh6.cell 0; have x1 := bh6.cell 1; have x2 := bh6.cell 2; have x3 := fun j => bh6.free j; have x4 := bh6.lt; simp at x0 x1 x2))
        all_goals
          have br6 := br4.below hB6
          have hlow6 := hB4.trans (hB6.mono (B' := w.heap.size) hB4.size)
          have hO6' := hO6.mono (B' := w.heap.size) hB4.size
          have m1 : w.heap.size ≠ gh := by omega
          have hwl : w.heap.size ≤ gh := by omega
          have b1 := hO6'.set bh6 heap_place heap_leaf 0 (.int .i64 C2)
          have b2 := b1.set (bh6.set 0 _) heap_place heap_leaf 1 (.int .i64 R2)
          have b3 := b2.set ((bh6.set 0 _).set 1 _) heap_place heap_leaf 2 (.slice A6 n6 c6)
          have bh7 := ((bh6.set 0 (.int .i64 C2)).set 1 (.int .i64 R2)).set 2 (.slice A6 n6 c6)
          have br7 := ((br6.set_other (p := ⟨gh, 0, none⟩) m1 (.int .i64 C2)).set_other (p := ⟨gh, 1, none⟩) m1 (.int .i64 R2)).set_other (p := ⟨gh, 2, none⟩) m1 (.slice A6 n6 c6)
          have hlow7 := ((hlow6.setCell (p := ⟨gh, 0, none⟩) hwl (.int .i64 C2)).setCell (p := ⟨gh, 1, none⟩) hwl (.int .i64 R2)).setCell (p := ⟨gh, 2, none⟩) hwl (.slice A6 n6 c6)
          rw [← hM6] at HPO2 HRF2
          clear x0 x1 x2 x3 x4 h0 h1 h2 s0 s1 hM6 b1 b2 m1 hwl bh6 br6 hlow6 hO6 hO6'
          go_wp2
          go_roundw
          case rel => exact ⟨k + 1, C2, R2, A6, n6, c6, Qs6, by omega, by go_num, HCR2, HPO2, bh7, br7, b3, hlow7, HFE2, HRF2⟩
          case measure => simp [intOf]; omega
      · have heb : (E != 0) = true := by simpa using he
        have r0 := br4.cell 0; have r1 := br4.cell 1; have r2 := br4.cell 2
        have z := fun j => br4.free j
        have hrl := br4.lt
        simp at r0 r1 r2
        clear he
        go_wp2
        have HFS : Hid (foldsErr C R L 0 = ((k : Int), E)) := Lib.hid (by
          have h := HFE.out
          rw [foldsErr_stop hlt (by rw [← EF.out, HE.out]; intro h; rw [h] at heb; exact absurd heb (by decide)), ← EF.out, HE.out] at h
          exact h)
        have hE0 : Hid (E ≠ 0) := Lib.hid (by intro h; rw [h] at heb; exact absurd heb (by decide))
        have hfin := ret_bld (C := C') (R := R') hO4 hB4 br4 (Nat.le_refl _)
        refine bodyPost_ret (v := .tuple #[.agg #[.int .i64 C', .int .i64 R', .slice A' n' cp'], .int .i64 k, .int .i64 E]) (by simp [results, Tryz.results22, go_sem, r0, r1, r2]) rfl ?_
        exact ⟨C', R', A', n', cp', Qs, k, E, rfl, hfin.1, hfin.2, HPO.out, HCR.out.1, HCR.out.2, fun _ => HFS.out, fun h => absurd h hE0.out⟩
    · have hkI : ¬ (k : Int) < (L.length : Int) := by omega
      have hkL : k = L.length := by omega
      have r0 := br.cell 0; have r1 := br.cell 1; have r2 := br.cell 2
      have z := fun j => br.free j
      have hrl := br.lt
      simp at r0 r1 r2
      have HFS : Hid (foldsErr C R L 0 = (if 1 < (C' : Int) * R' then ((L.length : Int), 25) else (0, 0))) := Lib.hid (by
        have h := HFE.out
        rw [foldsErr_end hlt, hkL] at h
        exact h)
      have HRS : Hid (runF C R (flatP C (C * R)) L = (C', R', Qs.map (·.l))) := Lib.hid (by
        have h := HRF.out
        rw [runF_end hlt] at h
        exact h)
      clear hkL
      go_wp2
      have hfin := ret_bld (C := C') (R := R') hO hB br (Nat.le_refl _)
      refine bodyPost_ret (v := .tuple #[.agg #[.int .i64 C', .int .i64 R', .slice A' n' cp'], .int .i64 0, .int .i64 0]) (by simp [results, Tryz.results22, go_sem, r0, r1, r2]) rfl ?_
      exact ⟨C', R', A', n', cp', Qs, 0, 0, rfl, hfin.1, hfin.2, HPO.out, HCR.out.1, HCR.out.2, fun h => absurd rfl h, fun _ => ⟨HFS.out, HRS.out⟩⟩
end Go.Proofs.YtgoandhlcekmiaaGreatDoor

namespace Go.Proofs.YtgoandhlcekmiaaGreatDoor
open Go.RowKit

set_option maxRecDepth 100000 in
set_option maxHeartbeats 4000000 in
theorem refCheckFolds_any (C R : Int) (a : Option Addr) (L : List Fold) (c : Nat) (w : World) (hL : RowsAt 2 Fold.l w a L) (hl : L.length ≤ maxLen) :
    Calls Tryz.prog 5 #[.agg #[.int .i64 C, .int .i64 R], .slice a L.length c] w fun e w' => e = .returned (.tuple #[.int .i64 (checkFo C R L).1, .int .i64 (checkFo C R L).2]) ∧ Below w.heap.size w w' := by
  unfold maxLen at hl
  have bx := BoxAt.new w #[.int .i64 C, .int .i64 R] 22
  have hB := (Below.refl w.heap.size w).alloc (Nat.le_refl _) (.cells #[.int .i64 C, .int .i64 R] 22)
  have hL1 := hL.alloc (.cells #[.int .i64 C, .int .i64 R] 22)
  obtain ⟨w1, hw1⟩ : ∃ w1, w1 = w.alloc (.cells #[.int .i64 C, .int .i64 R] 22) := ⟨_, rfl⟩
  rw [← hw1] at bx hB hL1
  have c0 := bx.cell 0; have c1 := bx.cell 1
  have hbl := bx.lt
  simp at c0 c1
  have W1 := Lib.hid hw1
  clear hw1
  by_cases h1 : sideErr C R = 0
  · obtain ⟨sC, sR, sm⟩ := side_ok h1
    have H1 := Lib.hid h1
    by_cases h2 : 12 < L.length
    · have HE : Hid (checkFo C R L = (0, 8)) := Lib.hid (by unfold checkFo; rw [if_neg (by simp [h1]), if_pos h2])
      have h2I : (L.length : Int) > 12 := by omega
      clear h1 sC sR sm
      go_enter Tryz.func5, Tryz.ntmps5
      go_wp2_with (go_at_call 21; refine (checkSheet_any _ _ _).mono ?_; rintro e w' ⟨rfl, rfl⟩; rw [H1.out])
      go_ret2
      rw [← W1.out]
      exact ⟨two_to HE.out, hB⟩
    · have HE : Hid (checkFo C R L = foldsErr C R L 0) := Lib.hid (by unfold checkFo; rw [if_neg (by simp [h1]), if_neg h2])
      have h2I : ¬ (L.length : Int) > 12 := by omega
      obtain ⟨cn, rfl⟩ : ∃ n : Nat, C = n := ⟨C.toNat, by omega⟩
      obtain ⟨rn, rfl⟩ : ∃ n : Nat, R = n := ⟨R.toNat, by omega⟩
      have HCR : Hid ((1 ≤ cn ∧ cn ≤ 8) ∧ (1 ≤ rn ∧ rn ≤ 8)) := Lib.hid (by omega)
      have HLL : Hid (L.length ≤ 100) := Lib.hid (by omega)
      clear h1 sC sR sm
      go_enter Tryz.func5, Tryz.ntmps5
      go_wp2_with (go_at_call 21; refine (checkSheet_any _ _ _).mono ?_; rintro e w' ⟨rfl, rfl⟩; rw [H1.out])
      rw [← W1.out]
      refine (refFolded_any cn rn a L c _ HCR.out.1 HCR.out.2 hL1 HLL.out).mono ?_
      rintro e w2 ⟨C', R', A, n, cp, Ps, i, s, rfl, hO, hb2, hPO, hC8, hR8, hs1, hs2⟩
      have hB2 := hB.trans (hb2.mono (B' := w.heap.size) hB.size)
      have HS1 := Lib.hid hs1; have HS2 := Lib.hid hs2
      have hn := hO.heap.1
      have hnC : n = C' * R' := by rw [hn, ← List.length_map (f := (·.l)), hPO.len]
      have hpos : 1 ≤ C' * R' := Nat.mul_pos (by omega) (by omega)
      have hBx := hB2.alloc hB2.size (.cells #[.int .i64 C', .int .i64 R', .slice A n cp] 66)
      by_cases he : s = 0
      · subst he
        have h3 := (HS2.out rfl).1
        by_cases hm : n = 1
        · have HZ : Hid (checkFo cn rn L = (0, 0)) := Lib.hid (by
            rw [HE.out, h3, if_neg]
            have : (C' : Int) * R' = ((C' * R' : Nat) : Int) := by rw [Int.natCast_mul]
            rw [this]; omega)
          subst hm
          clear hs1 hs2 hn hnC h3 hpos
          go_wp2_with fail
          go_ret2
          exact ⟨two_to HZ.out, hBx⟩
        · have HZ : Hid (checkFo cn rn L = ((L.length : Int), 25)) := Lib.hid (by
            rw [HE.out, h3, if_pos]
            have : (C' : Int) * R' = ((C' * R' : Nat) : Int) := by rw [Int.natCast_mul]
            rw [this]; omega)
          have hnb : ((n : Int) != 1) = true := by simp; omega
          clear hs1 hs2 hn hnC h3 hpos hm
          go_wp2_with fail
          go_ret2
          exact ⟨two_to HZ.out, hBx⟩
      · have HZ : Hid (checkFo cn rn L = (i, s)) := Lib.hid (by rw [HE.out]; exact HS1.out he)
        have heb : (s != 0) = true := by simpa using he
        clear hs1 hs2 hn hnC he hpos
        go_wp2_with fail
        go_ret2
        exact ⟨two_to HZ.out, hBx⟩
  · have HE : Hid (checkFo C R L = (0, sideErr C R)) := Lib.hid (by unfold checkFo; rw [if_pos h1])
    obtain ⟨s, hs⟩ : ∃ s, sideErr C R = s := ⟨_, rfl⟩
    rw [hs] at h1 HE
    have heb : (s != 0) = true := by simpa using h1
    have HS := Lib.hid hs
    clear h1 hs
    go_enter Tryz.func5, Tryz.ntmps5
    go_wp2_with (go_at_call 21; refine (checkSheet_any _ _ _).mono ?_; rintro e w' ⟨rfl, rfl⟩; rw [HS.out])
    go_ret2
    rw [← W1.out]
    exact ⟨two_to HE.out, hB⟩
/-- The leaves of a pile. -/
def PilePost2 (w : World) (M : List Leaf) (e : Ending) (w' : World) : Prop :=
  ∃ (a : Option Addr) (n c : Nat), e = .returned (.slice a n c) ∧ n = M.length ∧ RowsAt 4 Leaf.l w' a M ∧ (a = none → c = 0) ∧ Below w.heap.size w w'
end Go.Proofs.YtgoandhlcekmiaaGreatDoor
