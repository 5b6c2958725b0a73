/-
  The longest sort that may begin at a place.
-/
import Derived.Test.YtomblajlpanmjaaGreatDoorVD
namespace Go.Proofs.YtomblajlpanmjaaGreatDoor
open Go.RowKit Go.Maps Go.Shelf
attribute [local go_sem] Oper.semAt_some

def tsize (p : PC) (i : Nat) : Nat := (p.f.sorts.getD i noTS).text.size
def lstep (p : PC) (a : Nat × Nat) (i : Nat) : Nat × Nat := if a.2 < tsize p i then (i, tsize p i) else a
def longF (p : PC) (pl : Nat) (l : List (MayIx p pl)) : Nat × Nat := l.foldl (fun a x => lstep p a x.1) (0, 0)
def longAt (p : PC) (pl : Nat) : Nat × Nat := longF p pl (mays p pl p.f.sorts.length)
theorem longF_snoc (p : PC) (pl : Nat) (l : List (MayIx p pl)) (x : MayIx p pl) : longF p pl (l ++ [x]) = lstep p (longF p pl l) x.1 := by
  unfold longF; rw [List.foldl_append]; rfl
theorem longF_bd (p : PC) (pl : Nat) (hts : ∀ i, i < p.f.sorts.length → (p.f.sorts.getD i noTS).text.size ≤ 1000) : ∀ l : List (MayIx p pl), (longF p pl l).2 ≤ 1000 ∧ ((longF p pl l).2 = 0 ∨ (longF p pl l).1 < p.f.sorts.length) := by
  suffices h : ∀ (l : List (MayIx p pl)) (a : Nat × Nat), a.2 ≤ 1000 ∧ (a.2 = 0 ∨ a.1 < p.f.sorts.length) → (l.foldl (fun a x => lstep p a x.1) a).2 ≤ 1000 ∧ ((l.foldl (fun a x => lstep p a x.1) a).2 = 0 ∨ (l.foldl (fun a x => lstep p a x.1) a).1 < p.f.sorts.length) from fun l => h l (0, 0) ⟨by decide, .inl rfl⟩
  intro l
  induction l with
  | nil => intro a h; exact h
  | cons x l ih =>
    intro a h
    rw [List.foldl_cons]
    refine ih _ ?_
    unfold lstep
    split
    · exact ⟨hts _ x.2.1, .inr x.2.1⟩
    · exact h
theorem cells_kept {B : Nat} {W W' : World} {row : Option Nat} (hg : W.grownBy W' row) (hr : ∀ r, row = some r → B ≤ r ∧ ∃ o : Obj, W.heap[r]? = some o ∧ o.isCells = false) {k : Nat} {cs : Array Value} {T : TypeId} {fr : Nat × Nat} (h : W.heap[k]? = some (.cells cs T fr)) : W'.heap[k]? = some (.cells cs T fr) := by
  refine (hg.block k (heap_lt h) (fun e => ?_)).trans h
  obtain ⟨_, o, ho, hc⟩ := hr k e.symm
  rw [h] at ho; cases ho; cases hc
theorem heap_new (w : World) (o : Obj) : (w.alloc o).heap[w.heap.size]? = some o := (MapKept.heap_alloc w o).1
theorem heap_keep {w : World} {o c : Obj} {k : Nat} (h : w.heap[k]? = some c) : (w.alloc o).heap[k]? = some c := (Below.heap_alloc w o k (heap_lt h)).trans h
/-- What lies between two rounds. -/
structure LI (w : World) (p : PC) (best len : Nat) (W : World) : Prop where
  b0 : W.heap[w.heap.size]? = some (.cells p.cells 175 (0, 0))
  b1 : W.heap[w.heap.size + 1]? = some (.cells #[.int .i64 best] 3 (0, 0))
  b2 : W.heap[w.heap.size + 2]? = some (.cells #[.int .i64 len] 3 (0, 0))
  low : Below w.heap.size w W
  lo : w.heap.size + 5 ≤ W.heap.size
section
variable {w W : World} {p : PC} {b n : Nat}
theorem LI.p0 (h : LI w p b n W) : W.cell? ⟨w.heap.size, 0, none⟩ = some (.string p.f.name) := by rw [cell_of_row W _ 0 _ _ (0, 0) h.b0]; rfl
theorem LI.p1 (h : LI w p b n W) : W.cell? ⟨w.heap.size, 1, none⟩ = some (.int .i64 p.f.body) := by rw [cell_of_row W _ 1 _ _ (0, 0) h.b0]; rfl
theorem LI.p2 (h : LI w p b n W) : W.cell? ⟨w.heap.size, 2, none⟩ = some (.slice p.a p.f.sorts.length p.c) := by rw [cell_of_row W _ 2 _ _ (0, 0) h.b0]; rfl
theorem LI.p3 (h : LI w p b n W) : W.cell? ⟨w.heap.size, 3, none⟩ = some (.string p.t) := by rw [cell_of_row W _ 3 _ _ (0, 0) h.b0]; rfl
theorem LI.p4 (h : LI w p b n W) : W.cell? ⟨w.heap.size, 4, none⟩ = some (.slice p.ba p.bl.length p.bc) := by rw [cell_of_row W _ 4 _ _ (0, 0) h.b0]; rfl
theorem LI.c6 (h : LI w p b n W) : W.cell? ⟨w.heap.size + 1, 0, none⟩ = some (.int .i64 b) := by rw [cell_of_row W _ 0 _ _ (0, 0) h.b1]; rfl
theorem LI.c7 (h : LI w p b n W) : W.cell? ⟨w.heap.size + 1 + 1, 0, none⟩ = some (.int .i64 n) := by rw [cell_of_row W _ 0 _ _ (0, 0) h.b2]; rfl
theorem LI.f6 (h : LI w p b n W) : W.frozen? ⟨w.heap.size + 1, 0, none⟩ = false := by simp [World.frozen?, h.b1]
theorem LI.f7 (h : LI w p b n W) : W.frozen? ⟨w.heap.size + 1 + 1, 0, none⟩ = false := by simp [World.frozen?, h.b2]
theorem LI.alloc (h : LI w p b n W) (o : Obj) : LI w p b n (W.alloc o) := ⟨heap_keep h.b0, heap_keep h.b1, heap_keep h.b2, h.low.alloc (by have := h.lo; omega) _, by have := h.lo; simp; omega⟩
theorem LI.put (h : LI w p b n W) (b' n' : Nat) : LI w p b' n' ((W.setCell ⟨w.heap.size + 1, 0, none⟩ (.int .i64 b')).setCell ⟨w.heap.size + 1 + 1, 0, none⟩ (.int .i64 n')) := by
  have h1 := pat_set h.b1 0 (.int .i64 b')
  have h2 : (W.setCell ⟨w.heap.size + 1, 0, none⟩ (.int .i64 b')).heap[w.heap.size + 2]? = _ := (Below.heap_setCell _ _ _ _ (by show w.heap.size + 2 ≠ w.heap.size + 1; omega)).trans h.b2
  refine ⟨?_, ?_, ?_, (h.low.setCell (p := ⟨w.heap.size + 1, 0, none⟩) (by show w.heap.size ≤ w.heap.size + 1; omega) _).setCell (p := ⟨w.heap.size + 1 + 1, 0, none⟩) (by show w.heap.size ≤ w.heap.size + 1 + 1; omega) _, by have := h.lo; simpa [World.setCell] using this⟩
  · exact ((Below.heap_setCell _ _ _ _ (by show w.heap.size ≠ w.heap.size + 1 + 1; omega)).trans (Below.heap_setCell _ _ _ _ (by show w.heap.size ≠ w.heap.size + 1; omega))).trans h.b0
  · exact (Below.heap_setCell _ _ _ _ (by show w.heap.size + 1 ≠ w.heap.size + 1 + 1; omega)).trans h1
  · exact pat_set h2 0 (.int .i64 n')
end
theorem KeepsOthers.of_alloc_set2 (W : World) (o : Obj) (q1 q2 : Addr) (u1 u2 : Value) : KeepsOthers W (((W.alloc o).setCell q1 u1).setCell q2 u2) := ((KeepsOthers.alloc W o).trans (KeepsOthers.setCell _ _ _)).trans (KeepsOthers.setCell _ _ _)
set_option maxRecDepth 100000 in
set_option maxHeartbeats 400000 in
theorem longestAt_any (p : PC) (pl : Nat) (w : World) (hp : p.at_ w) (hpl : pl ≤ p.t.size) (hpt : p.t.size ≤ 1000) (hts : ∀ i, i < p.f.sorts.length → (p.f.sorts.getD i noTS).text.size ≤ 1000) (hns : p.f.sorts.length ≤ 1000) :
    Calls Tryz.prog 130 #[.agg p.cells, .int .i64 pl] w fun e w' => e = .returned (.tuple #[.int .i64 (longAt p pl).1, .bool (decide (0 < (longAt p pl).2))]) ∧ Below w.heap.size w w' := by
  have HSA := Lib.hid (sortsAt_any p pl)
  have HTS := Lib.hid hts
  have HP := Lib.hid hp
  clear hts hp
  refine (callsIn_wide (n := 9)).1 ?_
  refine callsIn_of_wp_marks Tryz.func130 rfl trivial ?_ rfl
  simp only [Tryz.ntmps130, List.size_toArray, List.length_cons, List.length_nil, Nat.reduceAdd, Nat.reduceSub, Array.replicate_succ, Array.replicate_zero, List.push_toArray, List.append_toArray, List.nil_append, List.cons_append]
  unfold PC.cells at *
  gi_wp2_with (refine ⟨trivial, ?_⟩; gi_at_call 133; refine (callsIn_wide.2 (HSA.out _)).mono ?_; rintro e w' ⟨rfl, rfl⟩)
  obtain ⟨A1, hA1⟩ : ∃ A1, A1 = w.alloc (pcBox p) := ⟨_, rfl⟩
  obtain ⟨A2, hA2⟩ : ∃ A2, A2 = A1.alloc (.cells #[.int .i64 0] 3) := ⟨_, rfl⟩
  obtain ⟨A3, hA3⟩ : ∃ A3, A3 = A2.alloc (.cells #[.int .i64 0] 3) := ⟨_, rfl⟩
  obtain ⟨A4, hA4⟩ : ∃ A4, A4 = A3.alloc (pcBox p) := ⟨_, rfl⟩
  have s1 : A1.heap.size = w.heap.size + 1 := by rw [hA1]; simp
  have s2 : A2.heap.size = w.heap.size + 1 + 1 := by rw [hA2]; simp [s1]
  have s3 : A3.heap.size = w.heap.size + 1 + 1 + 1 := by rw [hA3]; simp [s2]
  have s4 : A4.heap.size = w.heap.size + 1 + 1 + 1 + 1 := by rw [hA4]; simp [s3]
  have n0 : A1.heap[w.heap.size]? = some (pcBox p) := by rw [hA1]; exact heap_new w _
  have n1 : A2.heap[w.heap.size + 1]? = some (.cells #[.int .i64 0] 3) := by have := heap_new A1 (.cells #[.int .i64 0] 3); rwa [s1, ← hA2] at this
  have n2 : A3.heap[w.heap.size + 1 + 1]? = some (.cells #[.int .i64 0] 3) := by have := heap_new A2 (.cells #[.int .i64 0] 3); rwa [s2, ← hA3] at this
  have n3 : A4.heap[w.heap.size + 1 + 1 + 1]? = some (pcBox p) := by have := heap_new A3 (pcBox p); rwa [s3, ← hA4] at this
  have hb4 : (A4.alloc (.cells #[.int .i64 pl] 3)).heap[w.heap.size + 1 + 1 + 1 + 1]? = some (.cells #[.int .i64 pl] 3) := by have := heap_new A4 (.cells #[.int .i64 pl] 3); rwa [s4] at this
  have hb3 : (A4.alloc (.cells #[.int .i64 pl] 3)).heap[w.heap.size + 1 + 1 + 1]? = some (.cells p.cells 175) := heap_keep n3
  have L4 : LI w p 0 0 (A4.alloc (.cells #[.int .i64 pl] 3)) := by
    refine ⟨?_, ?_, ?_, ?_, by simp [s4]⟩
    · have h2 := heap_keep (o := .cells #[.int .i64 0] 3) n0; rw [← hA2] at h2
      have h3 := heap_keep (o := .cells #[.int .i64 0] 3) h2; rw [← hA3] at h3
      have h4 := heap_keep (o := pcBox p) h3; rw [← hA4] at h4
      exact heap_keep h4
    · have h3 := heap_keep (o := .cells #[.int .i64 0] 3) n1; rw [← hA3] at h3
      have h4 := heap_keep (o := pcBox p) h3; rw [← hA4] at h4
      exact heap_keep h4
    · have h4 := heap_keep (o := pcBox p) n2; rw [← hA4] at h4
      exact heap_keep h4
    · refine Below.alloc ?_ (by omega) _
      rw [hA4]; refine Below.alloc ?_ (by omega) _
      rw [hA3]; refine Below.alloc ?_ (by omega) _
      rw [hA2]; refine Below.alloc ?_ (by omega) _
      rw [hA1]; exact (Below.refl _ _).alloc (Nat.le_refl _) _
  have hz5 : (A4.alloc (.cells #[.int .i64 pl] 3)).heap.size = w.heap.size + 5 := by simp [s4]
  change Code.wpIn _ _ _ _ _ _ (((((w.alloc (pcBox p)).alloc (.cells #[.int .i64 0] 3)).alloc (.cells #[.int .i64 0] 3)).alloc (pcBox p)).alloc (.cells #[.int .i64 pl] 3))
  rw [← hA1, ← hA2, ← hA3, ← hA4]
  generalize A4.alloc (.cells #[.int .i64 pl] 3) = W4 at L4 hb3 hb4 hz5 ⊢
  clear n0 n1 n2 n3 s1 s2 s3 s4 hA1 hA2 hA3 hA4
  have hle : w.heap.size ≤ W4.heap.size := by omega
  refine wpIn_rangeFunc_ownG rfl (by omega) (gf := 161) (lb := #[.pointer (some ⟨w.heap.size + 1 + 1 + 1, 0, none⟩), .pointer (some ⟨w.heap.size + 1 + 1 + 1 + 1, 0, none⟩)]) rfl trivial (enters_of Tryz.func161 (by kernel_rfl) rfl)
    (sortsAt_stops p pl w.heap.size _ _ _ w W4 HP.out rfl L4.low hle hb3 hb4 hpl hpt HTS.out hns) (fun h k => h.trans k)
    (fun W l o o' hl h h1 h2 => ⟨belowK_b hle W l o o' hl h h1 h2, World.putObj_heap_other (fun e => by omega), World.putObj_heap_other (fun e => by omega)⟩)
    (Below.refl _ _) (fun _ => rfl)
    (fun pre W => LI w p (longF p pl pre).1 (longF p pl pre).2 W)
    (fun _ _ _ => False)
    (fun s A B row hs hg hr => ⟨cells_kept hg hr hs.b0, cells_kept hg hr hs.b1, cells_kept hg hr hs.b2, hs.low.grown hg (Nat.le_trans (Nat.le_refl _) hs.low.size) (fun k e => Nat.le_trans hle (hr k e).1), Nat.le_trans hs.lo hg.size⟩)
    (fun _ _ _ _ _ hs _ _ => hs)
    L4
    (fun x => { tmps := #[.agg #[.string p.f.name, .int .i64 p.f.body, .slice p.a p.f.sorts.length p.c, .string p.t, .slice p.ba p.bl.length p.bc], .int .i64 pl, .pointer (some ⟨w.heap.size, 0, none⟩), undef, .int .i64 0, .bool false, .pointer (some ⟨w.heap.size + 1, 0, none⟩), .pointer (some ⟨w.heap.size + 1 + 1, 0, none⟩), .int .i64 x.1, undef, .agg #[.string p.f.name, .int .i64 p.f.body, .slice p.a p.f.sorts.length p.c, .string p.t, .slice p.ba p.bl.length p.bc], .int .i64 pl, .func (.func 161) #[] #[.pointer (some ⟨w.heap.size + 1 + 1 + 1, 0, none⟩), .pointer (some ⟨w.heap.size + 1 + 1 + 1 + 1, 0, none⟩)], .int .i64 x.1, undef, undef, undef, undef, undef, undef, undef, undef, undef, undef, undef, undef], defers := [] }) ?assign ?body ?done ?stop
  case assign =>
    intro l x W K hK
    gi_wp2
    exact hK
  case body =>
    rintro l pre x W hL hlt
    have hpW := HP.out.below hL.low
    have htx := HTS.out x.1 x.2.1
    have hbd := longF_bd p pl HTS.out pre
    have hsn := longF_snoc p pl pre x
    have p0 := hL.p0; have p1 := hL.p1; have p2 := hL.p2; have p3 := hL.p3; have p4 := hL.p4
    have hlo := hL.lo
    have HPR := Lib.hid (printed_any p x.1 W hpW x.2.1)
    unfold pcBox PC.cells at HPR
    have HSN := Lib.hid hsn
    obtain ⟨tx, htxe⟩ : ∃ t, t = (p.f.sorts.getD x.1 noTS).text := ⟨_, rfl⟩
    have htsz : tsize p x.1 = tx.size := by rw [htxe]; rfl
    rw [← htxe] at HPR htx
    have HTZ := Lib.hid htsz
    obtain ⟨bs, hbs⟩ : ∃ bs, bs = longF p pl pre := ⟨_, rfl⟩
    rw [← hbs] at hbd hL
    have HBS := Lib.hid hbs
    clear hsn htsz hbs htxe
    obtain ⟨b, n⟩ := bs
    dsimp only at hbd hL
    by_cases hcmp : n < tx.size
    · have hcmp' : (n : Int) < (tx.size : Int) := by omega
      have HST := Lib.hid (show longF p pl (pre ++ [x]) = (x.1, tx.size) by rw [HSN.out, ← HBS.out]; unfold lstep; rw [HTZ.out]; exact if_pos hcmp)
      gi_wp2_with (refine ⟨trivial, ?_⟩; gi_at_call 131; refine (CallsIn.inRound l (callsIn_wide.2 HPR.out)).mono ?_; rintro e W5 ⟨rfl, hW5⟩; have hL5 : LI w p b n W5 := (by rw [hW5]; exact hL.alloc _); have HW5 := Lib.hid hW5; clear hW5; have c6 := hL5.c6; have c7 := hL5.c7; have f6 := hL5.f6; have f7 := hL5.f7)
      have hP := hL5.put x.1 tx.size
      refine ⟨?_, ⟨?_, ?_, ?_⟩, (by show LI w p (longF p pl (pre ++ [x])).1 (longF p pl (pre ++ [x])).2 _; rw [HST.out]; exact hP)⟩
      · rw [HW5.out]; exact (KeepsOthers.of_alloc_set2 _ _ _ _ _ _).from _
      · rw [HW5.out]
        exact (((Below.refl _ _).alloc (by omega) _).setCell (p := ⟨w.heap.size + 1, 0, none⟩) (by show w.heap.size ≤ w.heap.size + 1; omega) _).setCell (p := ⟨w.heap.size + 1 + 1, 0, none⟩) (by show w.heap.size ≤ w.heap.size + 1 + 1; omega) _
      · rw [HW5.out]
        exact ((Below.heap_setCell _ _ _ _ (by show w.heap.size + 1 + 1 + 1 ≠ w.heap.size + 1 + 1; omega)).trans (Below.heap_setCell _ _ _ _ (by show w.heap.size + 1 + 1 + 1 ≠ w.heap.size + 1; omega))).trans (Below.heap_alloc _ _ _ (by omega))
      · rw [HW5.out]
        exact ((Below.heap_setCell _ _ _ _ (by show w.heap.size + 1 + 1 + 1 + 1 ≠ w.heap.size + 1 + 1; omega)).trans (Below.heap_setCell _ _ _ _ (by show w.heap.size + 1 + 1 + 1 + 1 ≠ w.heap.size + 1; omega))).trans (Below.heap_alloc _ _ _ (by omega))
    · have hcmp' : ¬ (n : Int) < (tx.size : Int) := by omega
      have HST := Lib.hid (show longF p pl (pre ++ [x]) = (b, n) by rw [HSN.out, ← HBS.out]; unfold lstep; rw [HTZ.out]; exact if_neg hcmp)
      gi_wp2_with (refine ⟨trivial, ?_⟩; gi_at_call 131; refine (CallsIn.inRound l (callsIn_wide.2 HPR.out)).mono ?_; rintro e W5 ⟨rfl, hW5⟩; have hL5 : LI w p b n W5 := (by rw [hW5]; exact hL.alloc _); have HW5 := Lib.hid hW5; clear hW5; have c6 := hL5.c6; have c7 := hL5.c7; have f6 := hL5.f6; have f7 := hL5.f7)
      refine ⟨?_, ⟨?_, ?_, ?_⟩, (by show LI w p (longF p pl (pre ++ [x])).1 (longF p pl (pre ++ [x])).2 _; rw [HST.out]; exact hL5)⟩
      · rw [HW5.out]; exact (KeepsOthers.alloc _ _).from _
      · rw [HW5.out]; exact (Below.refl _ _).alloc (by omega) _
      · rw [HW5.out]; exact Below.heap_alloc _ _ _ (by omega)
      · rw [HW5.out]; exact Below.heap_alloc _ _ _ (by omega)
  case done =>
    rintro D ys W hD rfl hL hK
    have c6 : W.cell? ⟨w.heap.size + 1, 0, none⟩ = some (.int .i64 (longAt p pl).1) := by rw [cell_of_row W _ 0 _ _ (0, 0) hL.b1]; rfl
    have c7 : W.cell? ⟨w.heap.size + 1 + 1, 0, none⟩ = some (.int .i64 (longAt p pl).2) := by rw [cell_of_row W _ 0 _ _ (0, 0) hL.b2]; rfl
    have hbd := longF_bd p pl HTS.out (mays p pl p.f.sorts.length)
    obtain ⟨rs, hrs⟩ : ∃ rs, rs = longAt p pl := ⟨_, rfl⟩
    have HRS := Lib.hid hrs
    rw [← hrs] at c6 c7
    change (longAt p pl).2 ≤ 1000 ∧ _ at hbd
    rw [← hrs] at hbd
    clear hrs
    obtain ⟨b, n⟩ := rs
    dsimp only at c6 c7 hbd
    gi_wp2
    refine wpIn_wide.2 ?_
    go_quiet (fail)
    gi_wp2
    refine ⟨by simp, .inl ⟨_, _, rfl, run_takeDeferred (w := W.drewN nq) hK, ?_⟩⟩
    refine ⟨.tuple #[.int .i64 b, .bool (decide (0 < n))], by simp [results, Tryz.results130, go_sem], by rw [← HRS.out], ?_⟩
    exact (below_drewN hL.low nq).trans (belowK_b (w := W4) hle (W.drewN nq) D _ _ hD hK rfl rfl)
  case stop =>
    rintro D c pre W _ _ h _
    exact h.elim
end Go.Proofs.YtomblajlpanmjaaGreatDoor
