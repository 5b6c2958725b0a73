/-
  The least counts of sorts.
-/
import Derived.Test.YtomblajlpanmjaaGreatDoorVH
import Derived.LoopIn
namespace Go.Proofs.YtomblajlpanmjaaGreatDoor
open Go.RowKit Go.Maps Go.Shelf
attribute [local go_sem] Oper.semAt_some

def lcStep (p : PC) (pl : Nat) (M : List Int) (i : Nat) : List Int := M.set pl (min (M.getD pl 0) (M.getD (pl + tsize p i) 0 + 1))
def lcF (p : PC) (pl : Nat) (M : List Int) (l : List (MayIx p pl)) : List Int := l.foldl (fun M x => lcStep p pl M x.1) (M.set pl 31)
def lcAt (p : PC) (pl : Nat) (M : List Int) : List Int := lcF p pl M (mays p pl p.f.sorts.length)
def lcTo (p : PC) : Nat → List Int
  | 0 => List.replicate (p.t.size + 1) 0
  | k + 1 => lcAt p (p.t.size - 1 - k) (lcTo p k)
def lcL (p : PC) : List Int := lcTo p p.t.size
theorem lcF_snoc (p : PC) (pl : Nat) (M : List Int) (l : List (MayIx p pl)) (x : MayIx p pl) : lcF p pl M (l ++ [x]) = lcStep p pl (lcF p pl M l) x.1 := by
  unfold lcF; rw [List.foldl_append]; rfl
/-- Numbers of a table lie within bounds. -/
def LcOk (n : Nat) (M : List Int) : Prop := M.length = n ∧ ∀ j, 0 ≤ M.getD j 0 ∧ M.getD j 0 ≤ 31
theorem LcOk.set_ {n : Nat} {M : List Int} (h : LcOk n M) (k : Nat) (v : Int) (hv : 0 ≤ v ∧ v ≤ 31) : LcOk n (M.set k v) := by
  refine ⟨by rw [List.length_set]; exact h.1, fun j => ?_⟩
  rw [List.getD_eq_getElem?_getD, List.getElem?_set]
  split
  · split
    · exact hv
    · exact ⟨by decide, by decide⟩
  · rw [← List.getD_eq_getElem?_getD]; exact h.2 j
theorem lcStep_ok {p : PC} {pl n : Nat} {M : List Int} (h : LcOk n M) (i : Nat) : LcOk n (lcStep p pl M i) := by
  have h1 := h.2 pl
  have h2 := h.2 (pl + tsize p i)
  exact h.set_ _ _ ⟨by omega, by omega⟩
theorem lcF_ok {p : PC} {pl n : Nat} {M : List Int} (h : LcOk n M) (l : List (MayIx p pl)) : LcOk n (lcF p pl M l) := by
  suffices hs : ∀ (l : List (MayIx p pl)) (M : List Int), LcOk n M → LcOk n (l.foldl (fun M x => lcStep p pl M x.1) M) from hs l _ (h.set_ _ _ ⟨by decide, by decide⟩)
  intro l
  induction l with
  | nil => exact fun M h => h
  | cons x l ih => exact fun M h => ih _ (lcStep_ok h _)
theorem lcTo_ok (p : PC) : ∀ k, LcOk (p.t.size + 1) (lcTo p k)
  | 0 => ⟨by simp [lcTo], fun j => by
      show 0 ≤ (List.replicate (p.t.size + 1) (0 : Int)).getD j 0 ∧ (List.replicate (p.t.size + 1) (0 : Int)).getD j 0 ≤ 31
      rw [List.getD_eq_getElem?_getD, List.getElem?_replicate]
      split <;> exact ⟨by decide, by decide⟩⟩
  | k + 1 => lcF_ok (lcTo_ok p k) _

/-- What lies between two rounds. -/
structure LC (w W2 : World) (p : PC) (k b4 : Nat) (Ds : List Nat) (W : World) : Prop where
  kept : KeptBut (w.heap.size + 1) W2 W
  row : RowX W (w.heap.size + 1) (lcTo p k)
  pv : W.heap[b4]? = some (.cells #[.int .i64 ((p.t.size : Int) - 1 - k)] 3 (0, 0))
  pb : w.heap.size + 3 ≤ b4
  mks : Marks (w.heap.size + 3) Ds W
def lcMu (a : Act) (W : World) : Nat := match a.tmps.getD 4 undef with
  | .pointer (some ad) => (intOf ((W.cell? ad).getD undef) + 1).toNat
  | _ => 0
theorem lcMu_at {a : Act} {W : World} {b : Nat} {n : Int} (h : a.tmps.getD 4 undef = .pointer (some ⟨b, 0, none⟩)) (hb : W.heap[b]? = some (.cells #[.int .i64 n] 3 (0, 0))) : lcMu a W = (n + 1).toNat := by
  unfold lcMu
  rw [h]
  show (intOf ((W.cell? ⟨b, 0, none⟩).getD undef) + 1).toNat = _
  rw [cell_of_row W b 0 _ _ (0, 0) hb]
  rfl

theorem lc_same {M : List Int} {pl z : Nat} {c1 c2 : Int} (h1 : c1 = M.getD pl 0) (h2 : c2 = M.getD (pl + z) 0) (hl : pl < M.length) : (M.set pl (min c1 (c2 + 1))).getD (pl + z) 0 = c2 := by
  rw [List.getD_eq_getElem?_getD, List.getElem?_set]
  by_cases hz : z = 0
  · subst hz
    rw [Nat.add_zero] at h2
    rw [if_pos (by omega), if_pos hl]
    show min c1 (c2 + 1) = c2
    omega
  · rw [if_neg (by omega), ← List.getD_eq_getElem?_getD, h2]
set_option maxRecDepth 100000 in
set_option maxHeartbeats 1600000 in
theorem leastCounts_any (p : PC) (w : World) (hp : p.at_ w) (hf : p.Fine) :
    Calls Tryz.prog 132 #[.agg p.cells] w fun e w' => ∃ g, e = .returned (.slice (some ⟨g, 0, none⟩) (p.t.size + 1) (p.t.size + 1)) ∧ RowX w' g (lcL p) ∧ w.heap.size ≤ g ∧ Below w.heap.size w w' := by
  obtain ⟨hpt, hts, hns⟩ := hf
  have HTS := Lib.hid hts
  have HP := Lib.hid hp
  clear hts hp
  obtain ⟨W0, hW0⟩ : ∃ W0, W0 = w.alloc (pcBox p) := ⟨_, rfl⟩
  obtain ⟨W1, hW1⟩ : ∃ W1, W1 = W0.alloc (.cells (madeCells #[.int .i64 0] (p.t.size + 1)) 3) := ⟨_, rfl⟩
  obtain ⟨W2, hW2⟩ : ∃ W2, W2 = W1.alloc (.cells #[.slice (some ⟨w.heap.size + 1, 0, none⟩) (p.t.size + 1) (p.t.size + 1)] 63) := ⟨_, rfl⟩
  have z0 : W0.heap.size = w.heap.size + 1 := by rw [hW0]; simp
  have z1 : W1.heap.size = w.heap.size + 1 + 1 := by rw [hW1]; simp [z0]
  have z2 : W2.heap.size = w.heap.size + 3 := by rw [hW2]; simp [z1]
  have n0 : W2.heap[w.heap.size]? = some (.cells p.cells 175 (0, 0)) := by
    rw [hW2, hW1, hW0]; exact heap_keep (heap_keep (heap_new w _))
  have n1 : RowX W2 (w.heap.size + 1) (lcTo p 0) := by
    have h := heap_keep (o := .cells #[.slice (some ⟨w.heap.size + 1, 0, none⟩) (p.t.size + 1) (p.t.size + 1)] 63) (heap_new W0 (.cells (madeCells #[.int .i64 0] (p.t.size + 1)) 3))
    rw [z0, ← hW1, ← hW2] at h
    unfold RowX
    rw [h]
    congr 2
    apply Array.ext'
    rw [toList_madeCells_one]
    show _ = vals (List.replicate (p.t.size + 1) 0)
    simp [vals]
  have n2 : W2.heap[w.heap.size + 1 + 1]? = some (.cells #[.slice (some ⟨w.heap.size + 1, 0, none⟩) (p.t.size + 1) (p.t.size + 1)] 63 (0, 0)) := by
    have h := heap_new W1 (.cells #[.slice (some ⟨w.heap.size + 1, 0, none⟩) (p.t.size + 1) (p.t.size + 1)] 63); rwa [z1, ← hW2] at h
  have hl2 : Below w.heap.size w W2 := by rw [hW2, hW1, hW0]; exact (((Below.refl _ _).alloc (Nat.le_refl _) _).alloc (by simp) _).alloc (by simp; omega) _
  have hL0 : LC w W2 p 0 (w.heap.size + 3) [] (W2.alloc (.cells #[.int .i64 ((p.t.size : Int) - 1)] 3)) := by
    refine ⟨(KeptBut.refl _ _).alloc _, RowX.below n1 ((Below.refl _ _).alloc (Nat.le_refl _) _), ?_, Nat.le_refl _, Marks.nil _ _⟩
    have h := heap_new W2 (.cells #[.int .i64 ((p.t.size : Int) - 1)] 3)
    rw [z2] at h
    rw [h]; simp
  refine (callsIn_wide (n := 9)).1 ?_
  refine callsIn_of_wp_marks Tryz.func132 rfl trivial ?_ rfl
  simp only [Tryz.ntmps132, List.size_toArray, List.length_cons, List.length_nil, Nat.reduceAdd, Nat.reduceSub, Array.replicate_succ, Array.replicate_zero, List.push_toArray, List.append_toArray, List.nil_append, List.cons_append]
  unfold pcBox PC.cells at *
  have hmk := fun W => (show (Instr.makeSlice 63 (.int .i64 ((p.t.size : Int) + 1)) (.int .i64 ((p.t.size : Int) + 1))).run Tryz.prog W = .ok (.slice (some ⟨W.heap.size, 0, none⟩) (p.t.size + 1) (p.t.size + 1)) (W.alloc (.cells (madeCells #[.int .i64 0] (p.t.size + 1)) 3)) from
    run_make_row' (P := Tryz.prog) 63 3 (.int .i64 0) 8 Tryz.underlying63 info3 rfl .i64 .i64 (p.t.size + 1) (by omega) (by omega) W)
  clear z0 z1
  have HW := Lib.hid hW2
  have HW1 := Lib.hid hW1
  have HW0 := Lib.hid hW0
  clear hW2 hW1 hW0
  gi_wp2
  rw [← HW0.out, ← HW1.out, ← HW.out]
  clear HW0 HW1 HW hmk
  refine wpIn_loop (fun a W => ∃ (Ds : List Nat) (b4 k : Nat) (u15 u16 u17 u18 u19 u20 u21 u22 u23 u24 u44 : Value), k ≤ p.t.size ∧ a = { tmps := #[.agg #[.string p.f.name, .int .i64 p.f.body, .slice p.a p.f.sorts.length p.c, .string p.t, .slice p.ba p.bl.length p.bc], .pointer (some ⟨w.heap.size, 0, none⟩), .slice none 0 0, .pointer (some ⟨w.heap.size + 1 + 1, 0, none⟩), .pointer (some ⟨b4, 0, none⟩), undef, .pointer (some ⟨w.heap.size, 3, none⟩), .string p.t, .int .i64 (p.t.size : Int), .int .i64 ((p.t.size : Int) + 1), .slice (some ⟨w.heap.size + 1, 0, none⟩) (p.t.size + 1) (p.t.size + 1), .pointer (some ⟨w.heap.size, 3, none⟩), .string p.t, .int .i64 (p.t.size : Int), .int .i64 ((p.t.size : Int) - 1), u15, u16, u17, u18, u19, u20, u21, u22, u23, u24, undef, undef, undef, undef, undef, undef, undef, undef, undef, undef, undef, undef, undef, undef, undef, undef, undef, undef, undef, u44, undef], defers := marksOf Ds } ∧ LC w W2 p k b4 Ds W) lcMu ⟨[], w.heap.size + 3, 0, undef, undef, undef, undef, undef, undef, undef, undef, undef, undef, undef, Nat.zero_le _, rfl, hL0⟩ ?_
  rintro a W ⟨Ds, b4, k, u15, u16, u17, u18, u19, u20, u21, u22, u23, u24, u44, hk, rfl, hL⟩
  have hc4 := cell_of_row W _ 0 _ _ (0, 0) hL.pv
  by_cases hlt : k < p.t.size
  · obtain ⟨pl, hpl⟩ : ∃ pl, pl = p.t.size - 1 - k := ⟨_, rfl⟩
    have hpl' : (p.t.size : Int) - 1 - k = (pl : Int) := by omega
    have h0 := hL.pv
    rw [hpl'] at h0
    have HPL := Lib.hid hpl
    have h0S := h0
    have hplt : pl < p.t.size := by omega
    clear hpl
    have c4 : W.cell? ⟨b4, 0, none⟩ = some (.int .i64 (pl : Int)) := by rw [cell_of_row W _ 0 _ _ (0, 0) h0]; rfl
    have h2 := hL.kept.at_ n2 (by omega)
    have c3 : W.cell? ⟨w.heap.size + 1 + 1, 0, none⟩ = some (.slice (some ⟨w.heap.size + 1, 0, none⟩) (p.t.size + 1) (p.t.size + 1)) := by rw [cell_of_row W _ 0 _ _ (0, 0) h2]; rfl
    have h1 := hL.kept.at_ n0 (by omega)
    have p0 := cell_of_row W _ 0 _ _ (0, 0) h1
    have p1 := cell_of_row W _ 1 _ _ (0, 0) h1
    have p2 := cell_of_row W _ 2 _ _ (0, 0) h1
    have p3 := cell_of_row W _ 3 _ _ (0, 0) h1
    have p4 := cell_of_row W _ 4 _ _ (0, 0) h1
    have hmu := lcMu_at (a := { tmps := #[.agg #[.string p.f.name, .int .i64 p.f.body, .slice p.a p.f.sorts.length p.c, .string p.t, .slice p.ba p.bl.length p.bc], .pointer (some ⟨w.heap.size, 0, none⟩), .slice none 0 0, .pointer (some ⟨w.heap.size + 1 + 1, 0, none⟩), .pointer (some ⟨b4, 0, none⟩), undef, .pointer (some ⟨w.heap.size, 3, none⟩), .string p.t, .int .i64 (p.t.size : Int), .int .i64 ((p.t.size : Int) + 1), .slice (some ⟨w.heap.size + 1, 0, none⟩) (p.t.size + 1) (p.t.size + 1), .pointer (some ⟨w.heap.size, 3, none⟩), .string p.t, .int .i64 (p.t.size : Int), .int .i64 ((p.t.size : Int) - 1), u15, u16, u17, u18, u19, u20, u21, u22, u23, u24, undef, undef, undef, undef, undef, undef, undef, undef, undef, undef, undef, undef, undef, undef, undef, undef, undef, undef, undef, u44, undef], defers := marksOf Ds }) rfl hL.pv
    rw [hpl'] at hmu
    have HPL' := Lib.hid hpl'
    clear hpl'
    refine wpIn_hide2 (fun Q' HQ0 => ?_)
    have HQ := Lib.hid HQ0
    rw [hmu] at HQ
    clear HQ0 hmu
    have hlen := (lcTo_ok p k).1
    have ca := hL.row.cell (j := pl) (by rw [hlen]; omega)
    have fa := hL.row.frozen pl
    have hpb := hL.pb
    have e1 : b4 ≠ w.heap.size + 1 := by omega
    have e2 : w.heap.size + 1 ≠ b4 := by omega
    have i0 : (0 : Int) ≤ (pl : Int) := by omega
    have i1 : (pl : Int) < ((p.t.size + 1 : Nat) : Int) := by omega
    have i2 : (pl : Int) < (p.t.size : Int) + 1 := by omega
    have HSA := Lib.hid (sortsAt_any p pl)
    unfold pcBox PC.cells at HSA
    clear hc4 h0 h1 h2 hpb hlen
    gi_wp2_with (refine ⟨trivial, ?_⟩; gi_at_call 133; refine (callsIn_wide.2 (HSA.out _)).mono ?_; rintro e w' ⟨rfl, rfl⟩)
    obtain ⟨V1, hV1⟩ : ∃ V1, V1 = W.setCell ⟨w.heap.size + 1, pl, none⟩ (.int .i64 31) := ⟨_, rfl⟩
    obtain ⟨V2, hV2⟩ : ∃ V2, V2 = V1.alloc (pcBox p) := ⟨_, rfl⟩
    obtain ⟨V3, hV3⟩ : ∃ V3, V3 = V2.alloc (.cells #[.int .i64 (pl : Int)] 3) := ⟨_, rfl⟩
    have hzW := hL.kept.size
    rw [z2] at hzW
    have s1 : V1.heap.size = W.heap.size := by rw [hV1]; simp [World.setCell]
    have s2 : V2.heap.size = W.heap.size + 1 := by rw [hV2]; simp [s1]
    have s3 : V3.heap.size = W.heap.size + 2 := by rw [hV3]; simp [s2]
    have k3 : KeptBut (w.heap.size + 1) W V3 := by rw [hV3, hV2, hV1]; exact (((KeptBut.refl _ _).set_ ⟨w.heap.size + 1, pl, none⟩ rfl _).alloc _).alloc _
    have r3 : RowX V3 (w.heap.size + 1) (lcF p pl (lcTo p k) []) := by
      rw [hV3, hV2]
      refine RowX.below (RowX.below ?_ ((Below.refl _ _).alloc (Nat.le_refl _) _)) ((Below.refl _ _).alloc (Nat.le_refl _) _)
      rw [hV1]
      exact hL.row.set_ pl 31
    have hb3 : V3.heap[W.heap.size]? = some (.cells p.cells 175 (0, 0)) := by
      have h := heap_keep (o := .cells #[.int .i64 (pl : Int)] 3) (heap_new V1 (pcBox p)); rwa [s1, ← hV2, ← hV3] at h
    have hb4 : V3.heap[W.heap.size + 1]? = some (.cells #[.int .i64 (pl : Int)] 3 (0, 0)) := by
      have h := heap_new V2 (.cells #[.int .i64 (pl : Int)] 3); rwa [s2, ← hV3] at h
    have hlow : Below w.heap.size w V3 := hl2.trans ((hL.kept.trans k3).low (by omega) (by omega))
    change Code.wpIn _ _ _ _ _ _ (((W.setCell ⟨w.heap.size + 1, pl, none⟩ (.int .i64 31)).alloc (pcBox p)).alloc (.cells #[.int .i64 (pl : Int)] 3))
    rw [← hV1, ← hV2, ← hV3]
    have hle : w.heap.size ≤ V3.heap.size := by omega
    have HC := Lib.hid (lcF_ok (p := p) (pl := pl) (lcTo_ok p k))
    clear hV1 hV2 hV3 s1 s2 p0 p1 p2 p3 p4 c3 c4 ca fa
    refine wpIn_rangeFunc_ownG rfl (by omega) (gf := 161) (lb := #[.pointer (some ⟨W.heap.size, 0, none⟩), .pointer (some ⟨W.heap.size + 1, 0, none⟩)]) rfl trivial (enters_of Tryz.func161 (by kernel_rfl) rfl)
      (sortsAt_stops p pl w.heap.size _ _ _ w V3 HP.out rfl hlow hle hb3 hb4 (by omega) hpt HTS.out hns) (fun h k => h.trans k)
      (fun W l o o' hl h h1 h2 => ⟨belowK_b hle W l o o' hl h h1 h2, World.putObj_heap_other (fun e => by omega), World.putObj_heap_other (fun e => by omega)⟩)
      (Below.refl _ _) (fun _ => rfl)
      (fun pre V => KeptBut (w.heap.size + 1) V3 V ∧ RowX V (w.heap.size + 1) (lcF p pl (lcTo p k) pre))
      (fun _ _ _ => False)
      (fun s A B row hs hg hr => ⟨hs.1.grown hg (fun r e => (hr r e).1), (hg.block _ hs.2.lt (fun e => by have := (hr _ e.symm).1; omega)).trans hs.2⟩)
      (fun _ _ _ _ _ hs _ _ => hs)
      ⟨KeptBut.refl _ _, r3⟩
      (fun x => { tmps := #[.agg #[.string p.f.name, .int .i64 p.f.body, .slice p.a p.f.sorts.length p.c, .string p.t, .slice p.ba p.bl.length p.bc], .pointer (some ⟨w.heap.size, 0, none⟩), .slice none 0 0, .pointer (some ⟨w.heap.size + 1 + 1, 0, none⟩), .pointer (some ⟨b4, 0, none⟩), .int .i64 (x.1 : Int), .pointer (some ⟨w.heap.size, 3, none⟩), .string p.t, .int .i64 (p.t.size : Int), .int .i64 ((p.t.size : Int) + 1), .slice (some ⟨w.heap.size + 1, 0, none⟩) (p.t.size + 1) (p.t.size + 1), .pointer (some ⟨w.heap.size, 3, none⟩), .string p.t, .int .i64 (p.t.size : Int), .int .i64 ((p.t.size : Int) - 1), .int .i64 (pl : Int), .bool true, u17, u18, .slice (some ⟨w.heap.size + 1, 0, none⟩) (p.t.size + 1) (p.t.size + 1), .int .i64 (pl : Int), .pointer (some ⟨w.heap.size + 1, pl, none⟩), .agg #[.string p.f.name, .int .i64 p.f.body, .slice p.a p.f.sorts.length p.c, .string p.t, .slice p.ba p.bl.length p.bc], .int .i64 (pl : Int), .func (.func 161) #[] #[.pointer (some ⟨W.heap.size, 0, none⟩), .pointer (some ⟨W.heap.size + 1, 0, none⟩)], .int .i64 (x.1 : Int), undef, undef, undef, undef, undef, undef, undef, undef, undef, undef, undef, undef, undef, undef, undef, undef, undef, undef, u44, undef], defers := [] }) ?assign ?body ?done ?stop
    case assign =>
      intro l x V K hK
      gi_wp2
      exact hK
    case body =>
      rintro l pre x V ⟨hkV, hrV⟩ hlt
      refine wpIn_block ?_
      have hk := hL.kept.trans (k3.trans hkV)
      have h0V := (k3.trans hkV).at_ h0S (by omega)
      have c4 : V.cell? ⟨b4, 0, none⟩ = some (.int .i64 (pl : Int)) := by rw [cell_of_row V _ 0 _ _ (0, 0) h0V]; rfl
      have h2 := hk.at_ n2 (by omega)
      have c3 : V.cell? ⟨w.heap.size + 1 + 1, 0, none⟩ = some (.slice (some ⟨w.heap.size + 1, 0, none⟩) (p.t.size + 1) (p.t.size + 1)) := by rw [cell_of_row V _ 0 _ _ (0, 0) h2]; rfl
      have h1 := hk.at_ n0 (by omega)
      have p0 := cell_of_row V _ 0 _ _ (0, 0) h1
      have p1 := cell_of_row V _ 1 _ _ (0, 0) h1
      have p2 := cell_of_row V _ 2 _ _ (0, 0) h1
      have p3 := cell_of_row V _ 3 _ _ (0, 0) h1
      have p4 := cell_of_row V _ 4 _ _ (0, 0) h1
      have hpV := HP.out.below (hl2.trans (hk.low (by omega) (by omega)))
      have hokM := HC.out pre
      have hfit := may_fits x.2.2 (show pl ≤ p.t.size by omega)
      have hsn := lcF_snoc p pl (lcTo p k) pre x
      have HPR := Lib.hid (printed_any p x.1 V.drew (hpV.below (show Below V.heap.size V V.drew from ⟨rfl, rfl, rfl, Nat.le_refl _, fun _ _ => rfl⟩)) x.2.1)
      unfold pcBox PC.cells at HPR
      obtain ⟨tx, htxe⟩ : ∃ t, t = (p.f.sorts.getD x.1 noTS).text := ⟨_, rfl⟩
      have htsz : tsize p x.1 = tx.size := by rw [htxe]; rfl
      rw [← htxe] at HPR hfit
      obtain ⟨M, hM⟩ : ∃ M, M = lcF p pl (lcTo p k) pre := ⟨_, rfl⟩
      rw [← hM] at hokM hrV hsn
      unfold lcStep at hsn
      rw [htsz] at hsn
      have ca := hrV.cell (j := pl) (by rw [hokM.1]; omega)
      have cb := hrV.cell (j := pl + tx.size) (by rw [hokM.1]; omega)
      have fa := hrV.frozen pl
      have hc1 := hokM.2 pl
      have hc2 := hokM.2 (pl + tx.size)
      obtain ⟨c1, hc1e⟩ : ∃ c, c = M.getD pl 0 := ⟨_, rfl⟩
      obtain ⟨c2, hc2e⟩ : ∃ c, c = M.getD (pl + tx.size) 0 := ⟨_, rfl⟩
      rw [← hc1e] at ca hc1 hsn
      rw [← hc2e] at cb hc2 hsn
      have HSN := Lib.hid hsn
      have HEQ := Lib.hid (And.intro hM (And.intro hc1e hc2e))
      have j0 : (0 : Int) ≤ (pl : Int) + (tx.size : Int) := by omega
      have j1 : (pl : Int) + (tx.size : Int) < ((p.t.size + 1 : Nat) : Int) := by omega
      have j2 : (pl : Int) + (tx.size : Int) < (p.t.size : Int) + 1 := by omega
      have j3 : IntKind.i64.wrap ((pl : Int) + (tx.size : Int)) = (pl : Int) + (tx.size : Int) := by rw [IntKind.wrap_i64]; omega
      have j4 : IntKind.i64.wrap (c2 + 1) = c2 + 1 := by rw [IntKind.wrap_i64]; omega
      have j5 : ((pl : Int) + (tx.size : Int)).toNat = pl + tx.size := by omega
      clear hsn hM hc1e hc2e htxe htsz h0V h1 h2
      refine wpIn_round_held (S := fun Z => Z.cell? ⟨w.heap.size + 1 + 1, 0, none⟩ = some (.slice (some ⟨w.heap.size + 1, 0, none⟩) (p.t.size + 1) (p.t.size + 1)) ∧ Z.cell? ⟨b4, 0, none⟩ = some (.int .i64 (pl : Int)) ∧ Z.cell? ⟨w.heap.size + 1, pl + tx.size, none⟩ = some (.int .i64 c2) ∧
        Z.cell? ⟨w.heap.size, 0, none⟩ = some (.string p.f.name) ∧ Z.cell? ⟨w.heap.size, 1, none⟩ = some (.int .i64 p.f.body) ∧ Z.cell? ⟨w.heap.size, 2, none⟩ = some (.slice p.a p.f.sorts.length p.c) ∧ Z.cell? ⟨w.heap.size, 3, none⟩ = some (.string p.t) ∧ Z.cell? ⟨w.heap.size, 4, none⟩ = some (.slice p.ba p.bl.length p.bc)) (by kernel_rfl) (by rfl) (fun ⟨_, _, h⟩ => h) ⟨c3, c4, cb, p0, p1, p2, p3, p4⟩ (fun hS => ?_)
      refine takeL (i := 0) (v := .slice (some ⟨w.heap.size + 1, 0, none⟩) (p.t.size + 1) (p.t.size + 1)) rfl (by kernel_rfl) (by kernel_rfl) (by kernel_rfl) (fun _ _ _ h => h) (Or.inl ⟨by rfl, fun V9 h9 => by dsimp only at h9; go_simp⟩) (by assumption) ?_
      try simp only [Act.put, List.setIfInBounds_toArray, List.set_cons_zero, List.set_cons_succ]
      refine takeL (i := 1) (v := .int .i64 (pl : Int)) rfl (by kernel_rfl) (by kernel_rfl) (by kernel_rfl) (fun _ _ _ h => h) (Or.inl ⟨by rfl, fun V9 h9 => by dsimp only at h9; go_simp⟩) (by assumption) ?_
      try simp only [Act.put, List.setIfInBounds_toArray, List.set_cons_zero, List.set_cons_succ]
      refine takeL (i := 2) (v := .slice (some ⟨w.heap.size + 1, 0, none⟩) (p.t.size + 1) (p.t.size + 1)) rfl (by kernel_rfl) (by kernel_rfl) (by kernel_rfl) (fun _ _ _ h => h) (Or.inl ⟨by rfl, fun V9 h9 => by dsimp only at h9; go_simp⟩) (by assumption) ?_
      try simp only [Act.put, List.setIfInBounds_toArray, List.set_cons_zero, List.set_cons_succ]
      refine takeL (i := 3) (v := .int .i64 (pl : Int)) rfl (by kernel_rfl) (by kernel_rfl) (by kernel_rfl) (fun _ _ _ h => h) (Or.inl ⟨by rfl, fun V9 h9 => by dsimp only at h9; go_simp⟩) (by assumption) ?_
      try simp only [Act.put, List.setIfInBounds_toArray, List.set_cons_zero, List.set_cons_succ]
      refine takeL (i := 4) (v := .pointer (some ⟨w.heap.size + 1, pl, none⟩)) rfl (by kernel_rfl) (by kernel_rfl) (by kernel_rfl) (fun _ _ _ h => h) (Or.inl ⟨by rfl, fun V9 h9 => by dsimp only at h9; go_simp⟩) (by assumption) ?_
      try simp only [Act.put, List.setIfInBounds_toArray, List.set_cons_zero, List.set_cons_succ]
      refine takeL (i := 6) (v := .slice (some ⟨w.heap.size + 1, 0, none⟩) (p.t.size + 1) (p.t.size + 1)) rfl (by kernel_rfl) (by kernel_rfl) (by kernel_rfl) (fun _ _ _ h => h) (Or.inl ⟨by rfl, fun V9 h9 => by dsimp only at h9; go_simp⟩) (by assumption) ?_
      try simp only [Act.put, List.setIfInBounds_toArray, List.set_cons_zero, List.set_cons_succ]
      refine takeL (i := 7) (v := .int .i64 (pl : Int)) rfl (by kernel_rfl) (by kernel_rfl) (by kernel_rfl) (fun _ _ _ h => h) (Or.inl ⟨by rfl, fun V9 h9 => by dsimp only at h9; go_simp⟩) (by assumption) ?_
      try simp only [Act.put, List.setIfInBounds_toArray, List.set_cons_zero, List.set_cons_succ]
      refine takeL (i := 8) (v := .agg #[.string p.f.name, .int .i64 p.f.body, .slice p.a p.f.sorts.length p.c, .string p.t, .slice p.ba p.bl.length p.bc]) rfl (by kernel_rfl) (by kernel_rfl) (by kernel_rfl) (fun _ _ _ h => h) (Or.inl ⟨by rfl, fun V9 h9 => by dsimp only at h9; go_simp⟩) (by assumption) ?_
      try simp only [Act.put, List.setIfInBounds_toArray, List.set_cons_zero, List.set_cons_succ]
      refine takeL (i := 9) (v := .int .i64 (x.1 : Int)) rfl (by kernel_rfl) (by kernel_rfl) (by kernel_rfl) (fun _ _ _ h => h) (Or.inl ⟨by rfl, fun V9 h9 => by dsimp only at h9; go_simp⟩) (by assumption) ?_
      try simp only [Act.put, List.setIfInBounds_toArray, List.set_cons_zero, List.set_cons_succ]
      refine wpAnyH_ready (rs := [5, 10]) (by kernel_rfl) (by simp) ?_
      refine consL rfl (fun K hK => ?_) (consL rfl (fun K hK => ?_) AllReadyH.nil)
      · go_simp
        refine hK.out _ _ hS (fun hHeld => ?_)
        clear hK K hHeld
        try simp only [Act.put, List.setIfInBounds_toArray, List.set_cons_zero, List.set_cons_succ]
        refine wpAnyH_ready (rs := [10]) (by kernel_rfl) (by simp) (consL rfl (fun K hK => ?_) AllReadyH.nil)
        go_simp
        refine HPR.out.mono ?_
        rintro e W5 ⟨rfl, hW5⟩
        have k5 : KeptBut (w.heap.size + 1) V W5 := by rw [hW5]; exact ((KeptBut.refl _ _).drew).alloc _
        have ko5 : KeepsOthers V W5 := by rw [hW5]; exact (KeepsOthers.drew _).trans (KeepsOthers.alloc _ _)
        have r5 : RowX W5 (w.heap.size + 1) M := by rw [hW5]; exact RowX.below hrV.drew ((Below.refl _ _).alloc (Nat.le_refl _) _)
        have hS5 : W5.cell? ⟨w.heap.size + 1 + 1, 0, none⟩ = some (.slice (some ⟨w.heap.size + 1, 0, none⟩) (p.t.size + 1) (p.t.size + 1)) ∧ W5.cell? ⟨b4, 0, none⟩ = some (.int .i64 (pl : Int)) ∧ W5.cell? ⟨w.heap.size + 1, pl + tx.size, none⟩ = some (.int .i64 c2) ∧
          W5.cell? ⟨w.heap.size, 0, none⟩ = some (.string p.f.name) ∧ W5.cell? ⟨w.heap.size, 1, none⟩ = some (.int .i64 p.f.body) ∧ W5.cell? ⟨w.heap.size, 2, none⟩ = some (.slice p.a p.f.sorts.length p.c) ∧ W5.cell? ⟨w.heap.size, 3, none⟩ = some (.string p.t) ∧ W5.cell? ⟨w.heap.size, 4, none⟩ = some (.slice p.ba p.bl.length p.bc) := by
          rw [hW5]; exact ⟨cell_alloc_keep c3, cell_alloc_keep c4, cell_alloc_keep cb, cell_alloc_keep p0, cell_alloc_keep p1, cell_alloc_keep p2, cell_alloc_keep p3, cell_alloc_keep p4⟩
        have ca5 : W5.cell? ⟨w.heap.size + 1, pl, none⟩ = some (.int .i64 c1) := by rw [hW5]; exact cell_alloc_keep ca
        have fa5 := r5.frozen pl
        clear hW5
        refine hK.out _ _ hS5 (fun _ => ?_)
        clear hK K
        try simp only [Act.put, List.setIfInBounds_toArray, List.set_cons_zero, List.set_cons_succ]
        refine takeL (i := 11) (v := .int .i64 (tx.size : Int)) rfl (by kernel_rfl) (by kernel_rfl) (by kernel_rfl) (fun _ _ _ h => h) (Or.inl ⟨by rfl, fun V9 h9 => by dsimp only at h9; go_simp⟩) (by assumption) ?_
        try simp only [Act.put, List.setIfInBounds_toArray, List.set_cons_zero, List.set_cons_succ]
        refine takeL (i := 12) (v := .int .i64 ((pl : Int) + (tx.size : Int))) rfl (by kernel_rfl) (by kernel_rfl) (by kernel_rfl) (fun _ _ _ h => h) (Or.inl ⟨by rfl, fun V9 h9 => by dsimp only at h9; go_simp⟩) (by assumption) ?_
        try simp only [Act.put, List.setIfInBounds_toArray, List.set_cons_zero, List.set_cons_succ]
        refine takeL (i := 13) (v := .pointer (some ⟨w.heap.size + 1, pl + tx.size, none⟩)) rfl (by kernel_rfl) (by kernel_rfl) (by kernel_rfl) (fun _ _ _ h => h) (Or.inl ⟨by rfl, fun V9 h9 => by dsimp only at h9; go_simp⟩) (by assumption) ?_
        try simp only [Act.put, List.setIfInBounds_toArray, List.set_cons_zero, List.set_cons_succ]
        refine takeL (i := 14) (v := .int .i64 c2) rfl (by kernel_rfl) (by kernel_rfl) (by kernel_rfl) (fun _ _ _ h => h) (Or.inl ⟨by rfl, fun V9 h9 => by dsimp only at h9; go_simp⟩) (by assumption) ?_
        try simp only [Act.put, List.setIfInBounds_toArray, List.set_cons_zero, List.set_cons_succ]
        refine takeL (i := 15) (v := .int .i64 (c2 + 1)) rfl (by kernel_rfl) (by kernel_rfl) (by kernel_rfl) (fun _ _ _ h => h) (Or.inl ⟨by rfl, fun V9 h9 => by dsimp only at h9; go_simp⟩) (by assumption) ?_
        try simp only [Act.put, List.setIfInBounds_toArray, List.set_cons_zero, List.set_cons_succ]
        refine takeL (i := 16) (v := .int .i64 (min c1 (c2 + 1))) rfl (by kernel_rfl) (by kernel_rfl) (by kernel_rfl) (fun _ _ _ h => h) (Or.inl ⟨by rfl, fun V9 h9 => by dsimp only at h9; go_simp⟩) (by assumption) ?_
        try simp only [Act.put, List.setIfInBounds_toArray, List.set_cons_zero, List.set_cons_succ]
        refine takeL (i := 17) (v := .pointer (some ⟨w.heap.size + 1, pl, none⟩)) rfl (by kernel_rfl) (by kernel_rfl) (by kernel_rfl) (fun _ _ _ h => h) (Or.inl ⟨by rfl, fun V9 h9 => by dsimp only at h9; go_simp⟩) (by assumption) ?_
        try simp only [Act.put, List.setIfInBounds_toArray, List.set_cons_zero, List.set_cons_succ]
        refine wpAnyH_ready (rs := [18]) (by kernel_rfl) (by simp) (consL rfl (fun K hK => ?_) AllReadyH.nil)
        go_simp
        refine hK.out _ _ ?_ (fun _ => wpAnyH_done (by kernel_rfl) ?_ _)
        · obtain ⟨q1, q2, q3, q4, q5, q6, q7, q8⟩ := hS5
          refine ⟨?_, ?_, ?_, ?_, ?_, ?_, ?_, ?_⟩
          · rw [World.cell?_setCell_far _ _ _ _ (by show w.heap.size + 1 ≠ w.heap.size + 1 + 1; omega)]; exact q1
          · rw [World.cell?_setCell_far _ _ _ _ e2]; exact q2
          · rw [(r5.set_ pl (min c1 (c2 + 1))).cell (j := pl + tx.size) (by rw [List.length_set, hokM.1]; omega)]
            rw [lc_same HEQ.out.2.1 HEQ.out.2.2 (by rw [hokM.1]; omega)]
          · rw [World.cell?_setCell_far _ _ _ _ (by show w.heap.size + 1 ≠ w.heap.size; omega)]; exact q4
          · rw [World.cell?_setCell_far _ _ _ _ (by show w.heap.size + 1 ≠ w.heap.size; omega)]; exact q5
          · rw [World.cell?_setCell_far _ _ _ _ (by show w.heap.size + 1 ≠ w.heap.size; omega)]; exact q6
          · rw [World.cell?_setCell_far _ _ _ _ (by show w.heap.size + 1 ≠ w.heap.size; omega)]; exact q7
          · rw [World.cell?_setCell_far _ _ _ _ (by show w.heap.size + 1 ≠ w.heap.size; omega)]; exact q8
        · have k6 := k5.set_ ⟨w.heap.size + 1, pl, none⟩ rfl (.int .i64 (min c1 (c2 + 1)))
          have hzV := hkV.size
          refine ⟨(ko5.trans (KeepsOthers.setCell _ _ _)).from _, ⟨k6.low (by omega) (by omega), k6.block _ (by omega) (by omega), k6.block _ (by omega) (by omega)⟩, hkV.trans k6, ?_⟩
          rw [HSN.out]
          exact r5.set_ pl _
      · go_simp
        refine HPR.out.mono ?_
        rintro e W5 ⟨rfl, hW5⟩
        have k5 : KeptBut (w.heap.size + 1) V W5 := by rw [hW5]; exact ((KeptBut.refl _ _).drew).alloc _
        have ko5 : KeepsOthers V W5 := by rw [hW5]; exact (KeepsOthers.drew _).trans (KeepsOthers.alloc _ _)
        have r5 : RowX W5 (w.heap.size + 1) M := by rw [hW5]; exact RowX.below hrV.drew ((Below.refl _ _).alloc (Nat.le_refl _) _)
        have hS5 : W5.cell? ⟨w.heap.size + 1 + 1, 0, none⟩ = some (.slice (some ⟨w.heap.size + 1, 0, none⟩) (p.t.size + 1) (p.t.size + 1)) ∧ W5.cell? ⟨b4, 0, none⟩ = some (.int .i64 (pl : Int)) ∧ W5.cell? ⟨w.heap.size + 1, pl + tx.size, none⟩ = some (.int .i64 c2) ∧
          W5.cell? ⟨w.heap.size, 0, none⟩ = some (.string p.f.name) ∧ W5.cell? ⟨w.heap.size, 1, none⟩ = some (.int .i64 p.f.body) ∧ W5.cell? ⟨w.heap.size, 2, none⟩ = some (.slice p.a p.f.sorts.length p.c) ∧ W5.cell? ⟨w.heap.size, 3, none⟩ = some (.string p.t) ∧ W5.cell? ⟨w.heap.size, 4, none⟩ = some (.slice p.ba p.bl.length p.bc) := by
          rw [hW5]; exact ⟨cell_alloc_keep c3, cell_alloc_keep c4, cell_alloc_keep cb, cell_alloc_keep p0, cell_alloc_keep p1, cell_alloc_keep p2, cell_alloc_keep p3, cell_alloc_keep p4⟩
        have ca5 : W5.cell? ⟨w.heap.size + 1, pl, none⟩ = some (.int .i64 c1) := by rw [hW5]; exact cell_alloc_keep ca
        have fa5 := r5.frozen pl
        clear hW5
        refine hK.out _ _ hS5 (fun _ => ?_)
        clear hK K
        try simp only [Act.put, List.setIfInBounds_toArray, List.set_cons_zero, List.set_cons_succ]
        refine takeL (i := 11) (v := .int .i64 (tx.size : Int)) rfl (by kernel_rfl) (by kernel_rfl) (by kernel_rfl) (fun _ _ _ h => h) (Or.inl ⟨by rfl, fun V9 h9 => by dsimp only at h9; go_simp⟩) (by assumption) ?_
        try simp only [Act.put, List.setIfInBounds_toArray, List.set_cons_zero, List.set_cons_succ]
        refine takeL (i := 12) (v := .int .i64 ((pl : Int) + (tx.size : Int))) rfl (by kernel_rfl) (by kernel_rfl) (by kernel_rfl) (fun _ _ _ h => h) (Or.inl ⟨by rfl, fun V9 h9 => by dsimp only at h9; go_simp⟩) (by assumption) ?_
        try simp only [Act.put, List.setIfInBounds_toArray, List.set_cons_zero, List.set_cons_succ]
        refine takeL (i := 13) (v := .pointer (some ⟨w.heap.size + 1, pl + tx.size, none⟩)) rfl (by kernel_rfl) (by kernel_rfl) (by kernel_rfl) (fun _ _ _ h => h) (Or.inl ⟨by rfl, fun V9 h9 => by dsimp only at h9; go_simp⟩) (by assumption) ?_
        try simp only [Act.put, List.setIfInBounds_toArray, List.set_cons_zero, List.set_cons_succ]
        refine takeL (i := 14) (v := .int .i64 c2) rfl (by kernel_rfl) (by kernel_rfl) (by kernel_rfl) (fun _ _ _ h => h) (Or.inl ⟨by rfl, fun V9 h9 => by dsimp only at h9; go_simp⟩) (by assumption) ?_
        try simp only [Act.put, List.setIfInBounds_toArray, List.set_cons_zero, List.set_cons_succ]
        refine takeL (i := 15) (v := .int .i64 (c2 + 1)) rfl (by kernel_rfl) (by kernel_rfl) (by kernel_rfl) (fun _ _ _ h => h) (Or.inl ⟨by rfl, fun V9 h9 => by dsimp only at h9; go_simp⟩) (by assumption) ?_
        try simp only [Act.put, List.setIfInBounds_toArray, List.set_cons_zero, List.set_cons_succ]
        refine wpAnyH_ready (rs := [5]) (by kernel_rfl) (by simp) (consL rfl (fun K hK => ?_) AllReadyH.nil)
        go_simp
        refine hK.out _ _ hS5 (fun hHeld => ?_)
        clear hK K hHeld
        try simp only [Act.put, List.setIfInBounds_toArray, List.set_cons_zero, List.set_cons_succ]
        refine takeL (i := 16) (v := .int .i64 (min c1 (c2 + 1))) rfl (by kernel_rfl) (by kernel_rfl) (by kernel_rfl) (fun _ _ _ h => h) (Or.inl ⟨by rfl, fun V9 h9 => by dsimp only at h9; go_simp⟩) (by assumption) ?_
        try simp only [Act.put, List.setIfInBounds_toArray, List.set_cons_zero, List.set_cons_succ]
        refine takeL (i := 17) (v := .pointer (some ⟨w.heap.size + 1, pl, none⟩)) rfl (by kernel_rfl) (by kernel_rfl) (by kernel_rfl) (fun _ _ _ h => h) (Or.inl ⟨by rfl, fun V9 h9 => by dsimp only at h9; go_simp⟩) (by assumption) ?_
        try simp only [Act.put, List.setIfInBounds_toArray, List.set_cons_zero, List.set_cons_succ]
        refine wpAnyH_ready (rs := [18]) (by kernel_rfl) (by simp) (consL rfl (fun K hK => ?_) AllReadyH.nil)
        go_simp
        refine hK.out _ _ ?_ (fun _ => wpAnyH_done (by kernel_rfl) ?_ _)
        · obtain ⟨q1, q2, q3, q4, q5, q6, q7, q8⟩ := hS5
          refine ⟨?_, ?_, ?_, ?_, ?_, ?_, ?_, ?_⟩
          · rw [World.cell?_setCell_far _ _ _ _ (by show w.heap.size + 1 ≠ w.heap.size + 1 + 1; omega)]; exact q1
          · rw [World.cell?_setCell_far _ _ _ _ e2]; exact q2
          · rw [(r5.set_ pl (min c1 (c2 + 1))).cell (j := pl + tx.size) (by rw [List.length_set, hokM.1]; omega)]
            rw [lc_same HEQ.out.2.1 HEQ.out.2.2 (by rw [hokM.1]; omega)]
          · rw [World.cell?_setCell_far _ _ _ _ (by show w.heap.size + 1 ≠ w.heap.size; omega)]; exact q4
          · rw [World.cell?_setCell_far _ _ _ _ (by show w.heap.size + 1 ≠ w.heap.size; omega)]; exact q5
          · rw [World.cell?_setCell_far _ _ _ _ (by show w.heap.size + 1 ≠ w.heap.size; omega)]; exact q6
          · rw [World.cell?_setCell_far _ _ _ _ (by show w.heap.size + 1 ≠ w.heap.size; omega)]; exact q7
          · rw [World.cell?_setCell_far _ _ _ _ (by show w.heap.size + 1 ≠ w.heap.size; omega)]; exact q8
        · have k6 := k5.set_ ⟨w.heap.size + 1, pl, none⟩ rfl (.int .i64 (min c1 (c2 + 1)))
          have hzV := hkV.size
          refine ⟨(ko5.trans (KeepsOthers.setCell _ _ _)).from _, ⟨k6.low (by omega) (by omega), k6.block _ (by omega) (by omega), k6.block _ (by omega) (by omega)⟩, hkV.trans k6, ?_⟩
          rw [HSN.out]
          exact r5.set_ pl _
    case done =>
      rintro D ys V hD rfl ⟨hkV, hrV⟩ hKD
      have h0V := (k3.trans hkV).at_ h0S (by omega)
      have c4 : V.cell? ⟨b4, 0, none⟩ = some (.int .i64 (pl : Int)) := by rw [cell_of_row V _ 0 _ _ (0, 0) h0V]; rfl
      clear h0V
      have hzV := hkV.size
      have hkW := k3.trans hkV
      have hnb := heap_new V (.cells #[.int .i64 ((pl : Int) - 1)] 3)
      gi_wp2
      refine HQ.out _ _ _ ⟨⟨D :: Ds, V.heap.size, k + 1, _, _, _, _, _, _, _, _, _, _, _, by omega, rfl, ?_⟩, ?_⟩
      · refine ⟨(hL.kept.trans hkW).alloc _, ?_, ?_, by omega, ?_⟩
        · show RowX _ _ (lcAt p (p.t.size - 1 - k) (lcTo p k))
          rw [← HPL.out]
          exact RowX.below hrV ((Below.refl _ _).alloc (Nat.le_refl _) _)
        · rw [hnb, show (p.t.size : Int) - 1 - ((k + 1 : Nat) : Int) = (pl : Int) - 1 by have := HPL'.out; omega]
        · refine (hL.mks.kept (fun E hE => ?_)).cons (by omega) ((Below.heap_alloc _ _ _ (heap_lt hKD)).trans hKD) (fun hm => by have := hL.mks.lt hm; omega)
          have hlt := hL.mks.lt hE
          exact (hkW.alloc _).block E hlt (fun e => by have := (hL.mks.at_ E hE).1; omega)
      · rw [lcMu_at rfl hnb]
        omega
    case stop =>
      rintro D c pre V _ _ h _
      exact h.elim
  · obtain rfl : k = p.t.size := by omega
    have hv : (p.t.size : Int) - 1 - (p.t.size : Nat) = -1 := by omega
    have h0 := hL.pv
    rw [hv] at h0
    have c4 : W.cell? ⟨b4, 0, none⟩ = some (.int .i64 (-1)) := by rw [cell_of_row W _ 0 _ _ (0, 0) h0]; rfl
    have h2 := hL.kept.at_ n2 (by omega)
    have c3 : W.cell? ⟨w.heap.size + 1 + 1, 0, none⟩ = some (.slice (some ⟨w.heap.size + 1, 0, none⟩) (p.t.size + 1) (p.t.size + 1)) := by rw [cell_of_row W _ 0 _ _ (0, 0) h2]; rfl
    clear hc4 h0 h2
    gi_wp2
    refine leaves_marks (B := w.heap.size + 3) (v := .slice (some ⟨w.heap.size + 1, 0, none⟩) (p.t.size + 1) (p.t.size + 1)) Ds W hL.mks (fun w' hs hk hb => ⟨by simp [results, Tryz.results132, go_sem], _, rfl, ?_, by omega, ?_⟩)
    · exact (hk _ hL.row.lt (fun hm => by have := (hL.mks.at_ _ hm).1; omega)).trans hL.row
    · exact (hl2.trans (hL.kept.low (by omega) (by omega))).trans (hb.mono (by omega))
end Go.Proofs.YtomblajlpanmjaaGreatDoor
