/-
  Package press: the jobs that cause a lateness.
-/
import Derived.Test.YtdgegebplebeoaaGreatDoorEW
import Derived.StillTailTactics
namespace Go.Proofs.YtdgegebplebeoaaGreatDoor
open Go.RowKit Go.Maps Go.Shelf
attribute [local go_sem] Oper.semAt_some

def cauP (L : List Job) (due : Int) (st : List Int × Int) (s : Sl) : List Int × Int :=
  if s.from_ + s.mins = st.2 ∧ (L.getD s.job.toNat noJob).due ≤ due then (st.1 ++ [s.job], s.from_) else st
def cauF (L : List Job) (S : List Sl) (due fr : Int) (l : List (BIx S.length)) : List Int × Int := l.foldl (fun a x => cauP L due a (S.getD x.1 noSl)) ([], fr)
theorem cauF_snoc (L : List Job) (S : List Sl) (due fr : Int) (l : List (BIx S.length)) (x : BIx S.length) : cauF L S due fr (l ++ [x]) = cauP L due (cauF L S due fr l) (S.getD x.1 noSl) := by
  unfold cauF; rw [List.foldl_append]; rfl
theorem cauF_len (L : List Job) (S : List Sl) (due fr : Int) (l : List (BIx S.length)) : (cauF L S due fr l).1.length ≤ l.length := by
  suffices h : ∀ (st : List Int × Int), (l.foldl (fun a x => cauP L due a (S.getD x.1 noSl)) st).1.length ≤ st.1.length + l.length by simpa [cauF] using h ([], fr)
  induction l with
  | nil => intro st; simp
  | cons x l ih =>
    intro st
    rw [List.foldl_cons]
    have h1 := ih (cauP L due st (S.getD x.1 noSl))
    have h2 : (cauP L due st (S.getD x.1 noSl)).1.length ≤ st.1.length + 1 := by
      unfold cauP; split <;> simp
    simp only [List.length_cons]
    omega
def causeL (L : List Job) (S : List Sl) (due late : Int) : List Int := (cauF L S due (due + late) (backs S.length S.length)).1
def causesI (L : List Job) (S : List Sl) (due late : Int) : List Int := Lib.compact ((causeL L S due late).mergeSort fun x y => decide (x ≤ y))
/-- What lies between two rounds. -/
structure CI (w : World) (a : Option Addr) (n c : Nat) (due : Int) (V : Value) (fr : Int) (A : List Int) (W : World) : Prop where
  b0 : BoxAt W w.heap.size #[.slice a n c] 60
  b1 : BoxAt W (w.heap.size + 1) #[.int .i64 due] 3
  b2 : BoxAt W (w.heap.size + 2) #[V] 49
  b3 : BoxAt W (w.heap.size + 3) #[.int .i64 fr] 3
  own : OwnR 1 3 intL W (w.heap.size + 5) V A
  low : Below w.heap.size w W
  lo : w.heap.size + 5 ≤ W.heap.size
section
variable {w : World} {a : Option Addr} {n c : Nat} {due : Int} {V : Value} {fr : Int} {A : List Int} {W W' : World}
theorem CI.below (h : CI w a n c due V fr A W) (hb : Below W.heap.size W W') : CI w a n c due V fr A W' :=
  ⟨h.b0.below hb, h.b1.below hb, h.b2.below hb, h.b3.below hb, h.own.below hb, h.low.trans (hb.mono h.low.size), Nat.le_trans h.lo hb.size⟩
theorem CI.kept (h : CI w a n c due V fr A W) {row : Option Nat} (hg : W.grownBy W' row) (hr : ∀ r, row = some r → w.heap.size ≤ r ∧ ∃ o : Obj, W.heap[r]? = some o ∧ o.isCells = false) : CI w a n c due V fr A W' :=
  ⟨box_kept h.b0 hg (fun r e => (hr r e).2), box_kept h.b1 hg (fun r e => (hr r e).2), box_kept h.b2 hg (fun r e => (hr r e).2), box_kept h.b3 hg (fun r e => (hr r e).2), h.own.kept hg (fun r e => (hr r e).2),
    h.low.grown hg h.low.size (fun k e => (hr k e).1), Nat.le_trans h.lo hg.size⟩
end
theorem OwnR.putObj {α : Type} {n : Nat} {E : TypeId} {g : α → List Int} {w : World} {B D : Nat} {v : Value} {L : List α} (h : OwnR n E g w B v L) (hp : v.ownBlock ≠ some D) (o : Obj) : OwnR n E g (w.putObj D o) B v L := by
  rcases h.2 with ⟨e1, e2⟩ | ⟨gg, cap, cur, e1, e2, e3, e4⟩
  · exact ⟨h.1, Or.inl ⟨e1, e2⟩⟩
  · exact ⟨h.1, Or.inr ⟨gg, cap, cur, e1, e2, (World.putObj_heap_other (fun e => hp (by rw [e1]; show some gg = _; rw [e]))).trans e3, e4⟩⟩
theorem below_putObj {B D : Nat} {w w' : World} (h : Below B w w') (hD : B ≤ D) (o : Obj) : Below B w (w'.putObj D o) :=
  h.trans ⟨rfl, rfl, rfl, by simp [World.putObj], fun k hk => World.putObj_heap_other (fun e => by omega)⟩
/-- What a round turns: the own row, the slice's box, the moment's. -/
def CTurn (w : World) (V : Value) (W W' : World) : Prop := W.heap.size ≤ W'.heap.size ∧ Below w.heap.size W W' ∧ ∀ k, k < W.heap.size → V.ownBlock ≠ some k → k ≠ w.heap.size + 2 → k ≠ w.heap.size + 3 → W'.heap[k]? = W.heap[k]?
theorem CI.app {w : World} {a : Option Addr} {n c : Nat} {due : Int} {V : Value} {fr fr' : Int} {A A' : List Int} {W wg : World} {v8 : Value} (h : CI w a n c due V fr A W) (hO : OwnR 1 3 intL wg (w.heap.size + 5) v8 A') (hg : W.grownBy wg V.ownBlock) (hb : Below (w.heap.size + 5) W wg) :
    CI w a n c due v8 fr' A' ((wg.setCell ⟨w.heap.size + 1 + 1, 0, none⟩ v8).setCell ⟨w.heap.size + 1 + 1 + 1, 0, none⟩ (.int .i64 fr')) ∧ CTurn w V W ((wg.setCell ⟨w.heap.size + 1 + 1, 0, none⟩ v8).setCell ⟨w.heap.size + 1 + 1 + 1, 0, none⟩ (.int .i64 fr')) := by
  have hlo := h.lo
  have c0 := IBoxBelow h.b0 hb (by omega); have c1 := IBoxBelow h.b1 hb (by omega); have c2 := IBoxBelow h.b2 hb (by omega); have c3 := IBoxBelow h.b3 hb (by omega)
  have hz := hb.size
  have hne : ∀ q, v8.ownBlock = some q → w.heap.size + 5 ≤ q := fun q e => (hO.lt q e).1
  have hlow : Below w.heap.size W ((wg.setCell ⟨w.heap.size + 1 + 1, 0, none⟩ v8).setCell ⟨w.heap.size + 1 + 1 + 1, 0, none⟩ (.int .i64 fr')) :=
    ((hb.mono (by omega)).setCell (by show w.heap.size ≤ w.heap.size + 1 + 1; omega) _).setCell (by show w.heap.size ≤ w.heap.size + 1 + 1 + 1; omega) _
  refine ⟨⟨?_, ?_, ?_, ?_, ?_, h.low.trans hlow, ?_⟩, ?_, hlow, fun k hk h1 h2 h3 => ?_⟩
  · exact (c0.set_other (by show w.heap.size ≠ w.heap.size + 1 + 1; omega) _).set_other (by show w.heap.size ≠ w.heap.size + 1 + 1 + 1; omega) _
  · exact (c1.set_other (by show w.heap.size + 1 ≠ w.heap.size + 1 + 1; omega) _).set_other (by show w.heap.size + 1 ≠ w.heap.size + 1 + 1 + 1; omega) _
  · exact (c2.set 0 v8).set_other (by show w.heap.size + 2 ≠ w.heap.size + 1 + 1 + 1; omega) _
  · exact (c3.set_other (by show w.heap.size + 3 ≠ w.heap.size + 1 + 1; omega) _).set 0 _
  · exact (hO.set (fun e => by have := hne _ e; simp at this; omega) _).set (fun e => by have := hne _ e; simp at this; omega) _
  · simp; omega
  · simp; omega
  · rw [Below.heap_setCell _ _ _ _ (by show k ≠ w.heap.size + 1 + 1 + 1; omega), Below.heap_setCell _ _ _ _ (by show k ≠ w.heap.size + 1 + 1; omega)]
    exact hg.block k hk (fun e => h1 e.symm)
def CauPost (w : World) (X : List Int) (e : Ending) (w' : World) : Prop := ∃ v, e = .returned v ∧ OwnR 1 3 intL w' w.heap.size v X ∧ Below w.heap.size w w'
set_option maxRecDepth 100000 in
set_option maxHeartbeats 1000000 in
theorem causes_any (L : List Job) (S : List Sl) (a : Option Addr) (n c : Nat) (sa : Option Addr) (sn sc : Nat) (late due : Int) (w : World) (hn : n = L.length) (hsn : sn = S.length) (hr : RowsG 4 jobV w a L) (hs : RowsAt 3 Sl.l w sa S) (hsl : S.length ≤ 400000) (hok : JobsOk L) (hso : SlOk L.length S)
    (hd1 : -10000000000 ≤ late ∧ late ≤ 10000000000) (hd2 : 0 ≤ due ∧ due ≤ 10000000) :
    Calls Tryz.prog 50 #[.slice a n c, .slice sa sn sc, .int .i64 late, .int .i64 due] w (CauPost w (causesI L S due late)) := by
  subst hn hsn
  have HOK := Lib.hid hok; have HSO := Lib.hid hso
  have HR := Lib.hid hr; have HS := Lib.hid hs
  have HBW := Lib.hid (fun W => backward_any sa S.length sc W)
  clear hok hso hr hs
  refine (callsIn_wide (n := 9)).1 ?_
  refine callsIn_of_wp_marks Tryz.func50 rfl trivial ?_ rfl
  simp only [Tryz.ntmps50, List.size_toArray, List.length_cons, List.length_nil, Nat.reduceAdd, Nat.reduceSub, Array.replicate_succ, Array.replicate_zero, List.push_toArray, List.append_toArray, List.nil_append, List.cons_append]
  gi_wp2_with (refine ⟨trivial, ?_⟩; gi_at_call 78; refine (callsIn_wide.2 (HBW.out _)).mono ?_; rintro e w' ⟨rfl, rfl⟩)
  have hz1 : (w.alloc (.cells #[.slice a L.length c] 60)).heap.size = w.heap.size + 1 := by simp
  obtain ⟨A1, hA1⟩ : ∃ A1, A1 = w.alloc (.cells #[.slice a L.length c] 60) := ⟨_, rfl⟩
  obtain ⟨A2, hA2⟩ : ∃ A2, A2 = A1.alloc (.cells #[.int .i64 due] 3) := ⟨_, rfl⟩
  obtain ⟨A3, hA3⟩ : ∃ A3, A3 = A2.alloc (.cells #[.slice none 0 0] 49) := ⟨_, rfl⟩
  obtain ⟨A4, hA4⟩ : ∃ A4, A4 = A3.alloc (.cells #[.int .i64 (due + late)] 3) := ⟨_, rfl⟩
  obtain ⟨A5, hA5⟩ : ∃ A5, A5 = A4.alloc (.cells #[.slice sa S.length sc] 57) := ⟨_, rfl⟩
  rw [← hA1] at hz1
  have hz2 : A2.heap.size = w.heap.size + 1 + 1 := by rw [hA2]; simp [hz1]
  have hz3 : A3.heap.size = w.heap.size + 1 + 1 + 1 := by rw [hA3]; simp [hz2]
  have hz4 : A4.heap.size = w.heap.size + 1 + 1 + 1 + 1 := by rw [hA4]; simp [hz3]
  have hz5 : A5.heap.size = w.heap.size + 5 := by rw [hA5]; simp [hz4]
  have b0 : BoxAt A5 w.heap.size #[.slice a L.length c] 60 := by rw [hA5, hA4, hA3, hA2, hA1]; exact ((((BoxAt.new w _ _).alloc _).alloc _).alloc _).alloc _
  have b1 : BoxAt A5 (w.heap.size + 1) #[.int .i64 due] 3 := by rw [hA5, hA4, hA3, hA2, ← hz1]; exact (((BoxAt.new A1 _ _).alloc _).alloc _).alloc _
  have b2 : BoxAt A5 (w.heap.size + 2) #[.slice none 0 0] 49 := by rw [hA5, hA4, hA3, show w.heap.size + 2 = A2.heap.size by omega]; exact ((BoxAt.new A2 _ _).alloc _).alloc _
  have b3 : BoxAt A5 (w.heap.size + 3) #[.int .i64 (due + late)] 3 := by rw [hA5, hA4, show w.heap.size + 3 = A3.heap.size by omega]; exact (BoxAt.new A3 _ _).alloc _
  have b4 : BoxAt A5 (w.heap.size + 4) #[.slice sa S.length sc] 57 := by rw [hA5, show w.heap.size + 4 = A4.heap.size by omega]; exact BoxAt.new A4 _ _
  have hlow : Below w.heap.size w A5 := by
    rw [hA5, hA4, hA3, hA2, hA1]
    exact ((((((Below.refl w.heap.size w).alloc (Nat.le_refl _) _).alloc (by simp) _).alloc (by simp; omega) _).alloc (by simp; omega) _).alloc (by simp; omega) _)
  have hCI : CI w a L.length c due (.slice none 0 0) (due + late) [] A5 := ⟨b0, b1, b2, b3, OwnR.nil _ _, hlow, by omega⟩
  change Code.wpIn _ _ _ _ _ _ (((((w.alloc (.cells #[.slice a L.length c] 60)).alloc (.cells #[.int .i64 due] 3)).alloc (.cells #[.slice none 0 0] 49)).alloc (.cells #[.int .i64 (due + late)] 3)).alloc (.cells #[.slice sa S.length sc] 57))
  rw [← hA1, ← hA2, ← hA3, ← hA4, ← hA5]
  clear hA1 hA2 hA3 hA4 hA5 hz1 hz2 hz3 hz4 b0 b1 b2 b3
  have hle : w.heap.size ≤ A5.heap.size := by omega
  refine wpIn_rangeFunc_ownH rfl (by omega) (gf := 97) (lb := #[.pointer (some ⟨w.heap.size + 1 + 1 + 1 + 1, 0, none⟩)]) rfl trivial (enters_of Tryz.func97 (by kernel_rfl) rfl)
    (back_stops S sa sc w.heap.size (w.heap.size + 4) _ w A5 HS.out rfl hlow hle b4 hsl) (fun h k => h.trans k)
    (fun W l o o' hl h h1 h2 => ⟨⟨rfl, rfl, rfl, by simp [World.putObj], fun k hk => World.putObj_heap_other (fun e => by omega)⟩, World.putObj_heap_other (fun e => by omega)⟩)
    (Below.refl _ _) (fun _ => rfl)
    (fun pre W => ∃ V, CI w a L.length c due V (cauF L S due (due + late) pre).2 (cauF L S due (due + late) pre).1 W)
    (fun _ _ _ => False)
    (fun pre A B row hs hg hr => by obtain ⟨V, h⟩ := hs; exact ⟨V, h.kept hg (fun r e => ⟨Nat.le_trans hle (hr r e).1, (hr r e).2⟩)⟩)
    (fun _ _ _ _ _ hs _ _ => hs)
    ⟨_, hCI⟩
    (fun x a' W => ∃ b, a' = { tmps := #[.slice a L.length c, .slice sa S.length sc, .int .i64 late, .int .i64 due, .pointer (some ⟨w.heap.size, 0, none⟩), undef, undef, .pointer (some ⟨w.heap.size + 1, 0, none⟩), .slice none 0 0, .pointer (some ⟨w.heap.size + 1 + 1, 0, none⟩), .pointer (some ⟨w.heap.size + 1 + 1 + 1, 0, none⟩), undef, .pointer (some ⟨b, 0, none⟩), .int .i64 due, .int .i64 late, .int .i64 (due + late), .slice sa S.length sc, .func (.func 97) #[] #[.pointer (some ⟨w.heap.size + 1 + 1 + 1 + 1, 0, none⟩)], .int .i64 (x.1 : Int), .agg #[.int .i64 (S.getD x.1 noSl).job, .int .i64 (S.getD x.1 noSl).from_, .int .i64 (S.getD x.1 noSl).mins], undef, undef, undef, undef, undef, undef, undef, undef, undef, undef, undef, undef, undef, undef, undef, undef, undef, undef, undef, undef, undef, undef, undef, undef, undef], defers := [] } ∧ BoxAt W b #[.int .i64 (S.getD x.1 noSl).job, .int .i64 (S.getD x.1 noSl).from_, .int .i64 (S.getD x.1 noSl).mins] 134 ∧ w.heap.size + 5 ≤ b)
    (fun x a' _ A B row hs hg hr => by obtain ⟨b, e, hx, hb⟩ := hs; exact ⟨b, e, box_kept hx hg (fun r e => (hr r e).2), hb⟩)
    ?assign ?body ?done ?stop
  case assign =>
    intro l pre x W K hI hK
    unfold slArgs
    gi_wp2
    obtain ⟨V, hI⟩ := hI
    have hbA := (Below.refl W.heap.size W).alloc (Nat.le_refl _) (.cells #[.int .i64 (S.getD x.1 noSl).job, .int .i64 (S.getD x.1 noSl).from_, .int .i64 (S.getD x.1 noSl).mins] 134)
    refine hK _ _ (keeps_below hbA) ⟨hbA.mono (by have := hI.lo; omega), hbA.block _ (by have := hI.lo; omega)⟩ ⟨V, hI.below hbA⟩ ⟨W.heap.size, ?_, BoxAt.new _ _ _, hI.lo⟩
    rfl
  case body =>
    rintro l pre x a' W hl ⟨r, hr⟩ ⟨V, hI⟩ ⟨b, rfl, bx, hb⟩ hlt
    have hxl := x.2
    have hsx := HSO.out _ (List.getElem_mem hxl)
    have HSN := Lib.hid (cauF_snoc L S due (due + late) pre x)
    obtain ⟨s, hs⟩ : ∃ s, s = S.getD x.1 noSl := ⟨_, rfl⟩
    rw [← sl_getD hxl, ← hs] at hsx
    rw [← hs] at bx HSN ⊢
    clear hs
    obtain ⟨sj, xf, xn⟩ := s
    dsimp only at hsx bx ⊢
    obtain ⟨⟨j0, j1⟩, ⟨f0, f1⟩, n0, n1⟩ := hsx
    obtain ⟨j, rfl⟩ : ∃ j : Nat, sj = j := ⟨sj.toNat, by omega⟩
    have hjl : j < L.length := by omega
    have hjl' : (j : Int) < (L.length : Int) := by omega
    obtain ⟨ad, rfl, hau, -, -, -, t3⟩ := (HR.out.below hI.low).job hjl
    have HPU := Lib.hid (show cauP L due (cauF L S due (due + late) pre) ⟨j, xf, xn⟩ = if xf + xn = (cauF L S due (due + late) pre).2 ∧ L[j].due ≤ due then ((cauF L S due (due + late) pre).1 ++ [(j : Int)], xf) else cauF L S due (due + late) pre by unfold cauP; rw [show ((j : Int)).toNat = j by omega, job_getD hjl])
    obtain ⟨d, hd⟩ : ∃ d, d = L[j].due := ⟨_, rfl⟩
    rw [← hd] at t3 HPU
    obtain ⟨f, hf⟩ : ∃ f, f = (cauF L S due (due + late) pre).2 := ⟨_, rfl⟩
    rw [← hf] at hI HPU
    rw [HPU.out] at HSN
    have c0 : W.cell? ⟨b, 0, none⟩ = some (.int .i64 j) := bx.cell 0
    have c1 : W.cell? ⟨b, 1, none⟩ = some (.int .i64 xf) := bx.cell 1
    have c2 : W.cell? ⟨b, 2, none⟩ = some (.int .i64 xn) := bx.cell 2
    have c3 : W.cell? ⟨w.heap.size + 1 + 1 + 1, 0, none⟩ = some (.int .i64 f) := hI.b3.cell 0
    have c4 : W.cell? ⟨w.heap.size, 0, none⟩ = some (.slice (some ad) L.length c) := hI.b0.cell 0
    have c5 : W.cell? ⟨w.heap.size + 1, 0, none⟩ = some (.int .i64 due) := hI.b1.cell 0
    have c6 := t3
    have HFE := Lib.hid hf
    clear hd HPU t3 hf
    refine wpIn_block ?_
    refine wpIn_seq ?_
    by_cases h1 : xf + xn = f
    · have h1' : (xf + xn == f) = true := by simpa using h1
      by_cases h2 : d ≤ due
      · have HSN : Hid (cauF L S due (due + late) (pre ++ [x]) = ((cauF L S due (due + late) pre).1 ++ [(j : Int)], xf)) := Lib.hid (by rw [HSN.out, if_pos ⟨h1, h2⟩])
        have h2' : decide (d ≤ due) = true := decide_eq_true h2
        clear h1 h2
        refine wpIn_round_held (S := fun Z : World => Z.cell? ⟨b, 0, none⟩ = some (.int .i64 j) ∧ Z.cell? ⟨b, 1, none⟩ = some (.int .i64 xf) ∧ Z.cell? ⟨b, 2, none⟩ = some (.int .i64 xn) ∧ Z.cell? ⟨w.heap.size + 1 + 1 + 1, 0, none⟩ = some (.int .i64 f) ∧ Z.cell? ⟨w.heap.size, 0, none⟩ = some (.slice (some ad) L.length c) ∧ Z.cell? ⟨w.heap.size + 1, 0, none⟩ = some (.int .i64 due) ∧ Z.cell? ⟨(ad.add (j * 4)).block, (ad.add (j * 4)).off + 3, none⟩ = some (.int .i64 d)) (by kernel_rfl) (by rfl) (fun ⟨_, _, h⟩ => h) ⟨c0, c1, c2, c3, c4, c5, c6⟩ (fun hS => ?_)
        refine takeL (i := 0) (v := .agg #[.int .i64 j, .int .i64 xf, .int .i64 xn]) rfl (by kernel_rfl) (by kernel_rfl) (by kernel_rfl) (fun _ _ _ h => h) (Or.inl ⟨by rfl, fun V9 h9 => by dsimp only at h9; go_simp⟩) (by assumption) ?_
        try simp only [Act.put, List.setIfInBounds_toArray, List.set_cons_zero, List.set_cons_succ]
        refine takeL (i := 2) (v := .int .i64 f) rfl (by kernel_rfl) (by kernel_rfl) (by kernel_rfl) (fun _ _ _ h => h) (Or.inl ⟨by rfl, fun V9 h9 => by dsimp only at h9; go_simp⟩) (by assumption) ?_
        try simp only [Act.put, List.setIfInBounds_toArray, List.set_cons_zero, List.set_cons_succ]
        refine wpAnyH_ready (rs := [1]) (by kernel_rfl) (by simp) (consL rfl (fun K hK => ?_) AllReadyH.nil)
        go_simp
        refine (endOf_any j xf xn _ f0 f1 n0 n1).mono ?_
        rintro e V5 ⟨rfl, hb5⟩
        have hbV : Below W.heap.size W V5 := (Below.refl W.heap.size W).drew.trans hb5
        clear hS hb5
        have bx5 := bx.below hbV; have hI5 := hI.below hbV
        have hS : (fun Z : World => Z.cell? ⟨b, 0, none⟩ = some (.int .i64 j) ∧ Z.cell? ⟨b, 1, none⟩ = some (.int .i64 xf) ∧ Z.cell? ⟨b, 2, none⟩ = some (.int .i64 xn) ∧ Z.cell? ⟨w.heap.size + 1 + 1 + 1, 0, none⟩ = some (.int .i64 f) ∧ Z.cell? ⟨w.heap.size, 0, none⟩ = some (.slice (some ad) L.length c) ∧ Z.cell? ⟨w.heap.size + 1, 0, none⟩ = some (.int .i64 due) ∧ Z.cell? ⟨(ad.add (j * 4)).block, (ad.add (j * 4)).off + 3, none⟩ = some (.int .i64 d)) V5 := ⟨(hbV.cell (p := ⟨b, 0, none⟩) bx.lt).trans c0, (hbV.cell (p := ⟨b, 1, none⟩) bx.lt).trans c1, (hbV.cell (p := ⟨b, 2, none⟩) bx.lt).trans c2, (hbV.cell (p := ⟨w.heap.size + 1 + 1 + 1, 0, none⟩) hI.b3.lt).trans c3, (hbV.cell (p := ⟨w.heap.size, 0, none⟩) hI.b0.lt).trans c4, (hbV.cell (p := ⟨w.heap.size + 1, 0, none⟩) hI.b1.lt).trans c5, (hbV.cell (p := ⟨(ad.add (j * 4)).block, (ad.add (j * 4)).off + 3, none⟩) hau).trans c6⟩
        refine hK.out _ _ hS (fun _ => ?_)
        clear hK K
        try simp only [Act.put, List.setIfInBounds_toArray, List.set_cons_zero, List.set_cons_succ]
        refine takeL (i := 3) (v := .bool true) rfl (by kernel_rfl) (by kernel_rfl) (by kernel_rfl) (fun _ _ _ h => h) (Or.inl ⟨by rfl, fun V9 h9 => by dsimp only at h9; go_simp⟩) (by assumption) ?_
        try simp only [Act.put, List.setIfInBounds_toArray, List.set_cons_zero, List.set_cons_succ]
        refine takeL (i := 4) (v := .bool true) rfl (by kernel_rfl) (by kernel_rfl) (by kernel_rfl) (fun _ _ _ h => h) (Or.inl ⟨by rfl, fun V9 h9 => by dsimp only at h9; go_simp⟩) (by assumption) ?_
        try simp only [Act.put, List.setIfInBounds_toArray, List.set_cons_zero, List.set_cons_succ]
        refine takeL (i := 5) (v := .slice (some ad) L.length c) rfl (by kernel_rfl) (by kernel_rfl) (by kernel_rfl) (fun _ _ _ h => h) (Or.inl ⟨by rfl, fun V9 h9 => by dsimp only at h9; go_simp⟩) (by assumption) ?_
        try simp only [Act.put, List.setIfInBounds_toArray, List.set_cons_zero, List.set_cons_succ]
        refine takeL (i := 6) (v := .pointer (some ⟨b, 0, none⟩)) rfl (by kernel_rfl) (by kernel_rfl) (by kernel_rfl) (fun _ _ _ h => h) (Or.inl ⟨by rfl, fun V9 h9 => by dsimp only at h9; go_simp⟩) (by assumption) ?_
        try simp only [Act.put, List.setIfInBounds_toArray, List.set_cons_zero, List.set_cons_succ]
        refine takeL (i := 7) (v := .int .i64 j) rfl (by kernel_rfl) (by kernel_rfl) (by kernel_rfl) (fun _ _ _ h => h) (Or.inl ⟨by rfl, fun V9 h9 => by dsimp only at h9; go_simp⟩) (by assumption) ?_
        try simp only [Act.put, List.setIfInBounds_toArray, List.set_cons_zero, List.set_cons_succ]
        refine takeL (i := 8) (v := .pointer (some (ad.add (j * 4)))) rfl (by kernel_rfl) (by kernel_rfl) (by kernel_rfl) (fun _ _ _ h => h) (Or.inl ⟨by rfl, fun V9 h9 => by dsimp only at h9; go_simp⟩) (by assumption) ?_
        try simp only [Act.put, List.setIfInBounds_toArray, List.set_cons_zero, List.set_cons_succ]
        refine takeL (i := 9) (v := .pointer (some ⟨(ad.add (j * 4)).block, (ad.add (j * 4)).off + 3, none⟩)) rfl (by kernel_rfl) (by kernel_rfl) (by kernel_rfl) (fun _ _ _ h => h) (Or.inl ⟨by rfl, fun V9 h9 => by dsimp only at h9; go_simp⟩) (by assumption) ?_
        try simp only [Act.put, List.setIfInBounds_toArray, List.set_cons_zero, List.set_cons_succ]
        refine takeL (i := 10) (v := .int .i64 d) rfl (by kernel_rfl) (by kernel_rfl) (by kernel_rfl) (fun _ _ _ h => h) (Or.inl ⟨by rfl, fun V9 h9 => by dsimp only at h9; go_simp⟩) (by assumption) ?_
        try simp only [Act.put, List.setIfInBounds_toArray, List.set_cons_zero, List.set_cons_succ]
        refine takeL (i := 11) (v := .int .i64 due) rfl (by kernel_rfl) (by kernel_rfl) (by kernel_rfl) (fun _ _ _ h => h) (Or.inl ⟨by rfl, fun V9 h9 => by dsimp only at h9; go_simp⟩) (by assumption) ?_
        try simp only [Act.put, List.setIfInBounds_toArray, List.set_cons_zero, List.set_cons_succ]
        refine takeL (i := 12) (v := .bool true) rfl (by kernel_rfl) (by kernel_rfl) (by kernel_rfl) (fun _ _ _ h => h) (Or.inl ⟨by rfl, fun V9 h9 => by dsimp only at h9; go_simp⟩) (by assumption) ?_
        try simp only [Act.put, List.setIfInBounds_toArray, List.set_cons_zero, List.set_cons_succ]
        refine takeL (i := 13) (v := .bool true) rfl (by kernel_rfl) (by kernel_rfl) (by kernel_rfl) (fun _ _ _ h => h) (Or.inl ⟨by rfl, fun V9 h9 => by dsimp only at h9; go_simp⟩) (by assumption) ?_
        try simp only [Act.put, List.setIfInBounds_toArray, List.set_cons_zero, List.set_cons_succ]
        refine wpAnyH_done (by kernel_rfl) ?_ _
        refine wpIn_cond (t := true) rfl ?_
        refine wpIn_seq ?_
        have hK5 := keeps_below (B := w.heap.size) hbV
        have hKp5 : Kp1 w.heap.size (w.heap.size + 4) W V5 := ⟨hbV.mono (by have := hI.lo; omega), hbV.block _ (by have := hI.lo; omega)⟩
        have hlo5 := hI5.lo
        have hAl := cauF_len L S due (due + late) pre
        have c7 : V5.cell? ⟨w.heap.size + 1 + 1, 0, none⟩ = some V := hI5.b2.cell 0
        obtain ⟨A, hA⟩ : ∃ A, A = (cauF L S due (due + late) pre).1 := ⟨_, rfl⟩
        rw [← hA] at hI5 hAl HSN
        have HAL := Lib.hid (show A.length ≤ 1000000 by omega)
        have HIN := Lib.hid hI5
        have HK5 := Lib.hid hK5; have HP5 := Lib.hid hKp5
        obtain ⟨d0, d1, d2, d3, d4, d5, d6⟩ := hS
        clear hI hI5 hK5 hKp5 hbV c0 c1 c2 c3 c4 c5 c6 hA hAl bx d3 d4 d5 d6
        refine wpIn_round_plain (by rfl) (fun ⟨_, _, h⟩ => h) ?_
        go_wp2_with (at_builtin; refine wpList_appX tInt int_l _ (j : Int) _ rfl rfl _ _ rfl (w.heap.size + 5) _ A rfl HIN.out.own rfl HAL.out HIN.out.lo ?_; intro gg cg wg hOg hgg hBg; have bxg := bx5.grown hgg (fun e => own_ne HIN.out.own bx5 (by decide) e.symm); have e1 := bxg.cell 1; have b2g := HIN.out.b2.grown hgg (fun e => own_ne HIN.out.own HIN.out.b2 (by decide) e.symm); have fz := b2g.free 0; have hv2 := b2g.lt; have e2 := b2g.cell 0; simp at e1 e2)
        have hCI8 := fun fr' => HIN.out.app (fr' := fr') hOg hgg hBg
        have b3g := IBoxBelow HIN.out.b3 hBg (by omega)
        have hHC := Lib.hid hCI8
        obtain ⟨V8, hV8⟩ : ∃ V8, V8 = Value.slice (some ⟨gg, 0, none⟩) (A.length + 1) cg := ⟨_, rfl⟩
        rw [← hV8] at hHC ⊢
        obtain ⟨W8, hW8⟩ : ∃ W8, W8 = wg.setCell ⟨w.heap.size + 1 + 1, 0, none⟩ V8 := ⟨_, rfl⟩
        have e3 : W8.cell? ⟨b, 1, none⟩ = some (.int .i64 xf) := by rw [hW8]; exact (bxg.set_other (by show b ≠ w.heap.size + 1 + 1; omega) _).cell 1
        have b38 : BoxAt W8 (w.heap.size + 3) #[.int .i64 f] 3 := by rw [hW8]; exact b3g.set_other (by show w.heap.size + 3 ≠ w.heap.size + 1 + 1; omega) _
        have f8 : W8.frozen? ⟨w.heap.size + 1 + 1 + 1, 0, none⟩ = false := b38.free 0
        have e4 : W8.cell? ⟨w.heap.size + 1 + 1 + 1, 0, none⟩ = some (.int .i64 f) := b38.cell 0
        have l8 : w.heap.size + 1 + 1 + 1 < W8.heap.size := b38.lt
        rw [← hW8] at hHC ⊢
        clear e1 e2 fz hv2 b2g bxg b3g b38 hOg hgg hBg hCI8 hV8 hW8 d0 d1 d2 bx5
        refine wpIn_round_plain (by rfl) (fun ⟨_, _, h⟩ => h) ?_
        go_wp2
        obtain ⟨hC1, hC2⟩ := hHC.out xf
        refine ⟨⟨Nat.le_trans HK5.out.size hC2.1, fun k o hk ho hc => ?_⟩, HP5.out.trans ⟨hC2.2.1, hC2.2.2 _ (by omega) (fun e => by have := (HIN.out.own.lt _ e).1; omega) (by omega) (by omega)⟩, ⟨V8, ?_⟩⟩
        · have ho5 := HK5.out.same k o (by omega) ho hc
          rw [hC2.2.2 k (heap_lt ho5) (fun e => ?_) (by omega) (by omega)]
          · exact ho5
          · obtain ⟨cs, hcs⟩ := own_block HIN.out.own k e
            rw [hcs] at ho5; cases ho5; cases hc
        · rw [HSN.out]
          exact hC1
      · have HSN : Hid (cauF L S due (due + late) (pre ++ [x]) = cauF L S due (due + late) pre) := Lib.hid (by rw [HSN.out, if_neg (fun h => h2 h.2)])
        have h2' : decide (d ≤ due) = false := decide_eq_false h2
        clear h1 h2
        refine wpIn_round_held (S := fun Z : World => Z.cell? ⟨b, 0, none⟩ = some (.int .i64 j) ∧ Z.cell? ⟨b, 1, none⟩ = some (.int .i64 xf) ∧ Z.cell? ⟨b, 2, none⟩ = some (.int .i64 xn) ∧ Z.cell? ⟨w.heap.size + 1 + 1 + 1, 0, none⟩ = some (.int .i64 f) ∧ Z.cell? ⟨w.heap.size, 0, none⟩ = some (.slice (some ad) L.length c) ∧ Z.cell? ⟨w.heap.size + 1, 0, none⟩ = some (.int .i64 due) ∧ Z.cell? ⟨(ad.add (j * 4)).block, (ad.add (j * 4)).off + 3, none⟩ = some (.int .i64 d)) (by kernel_rfl) (by rfl) (fun ⟨_, _, h⟩ => h) ⟨c0, c1, c2, c3, c4, c5, c6⟩ (fun hS => ?_)
        refine takeL (i := 0) (v := .agg #[.int .i64 j, .int .i64 xf, .int .i64 xn]) rfl (by kernel_rfl) (by kernel_rfl) (by kernel_rfl) (fun _ _ _ h => h) (Or.inl ⟨by rfl, fun V9 h9 => by dsimp only at h9; go_simp⟩) (by assumption) ?_
        try simp only [Act.put, List.setIfInBounds_toArray, List.set_cons_zero, List.set_cons_succ]
        refine takeL (i := 2) (v := .int .i64 f) rfl (by kernel_rfl) (by kernel_rfl) (by kernel_rfl) (fun _ _ _ h => h) (Or.inl ⟨by rfl, fun V9 h9 => by dsimp only at h9; go_simp⟩) (by assumption) ?_
        try simp only [Act.put, List.setIfInBounds_toArray, List.set_cons_zero, List.set_cons_succ]
        refine wpAnyH_ready (rs := [1]) (by kernel_rfl) (by simp) (consL rfl (fun K hK => ?_) AllReadyH.nil)
        go_simp
        refine (endOf_any j xf xn _ f0 f1 n0 n1).mono ?_
        rintro e V5 ⟨rfl, hb5⟩
        have hbV : Below W.heap.size W V5 := (Below.refl W.heap.size W).drew.trans hb5
        clear hS hb5
        have bx5 := bx.below hbV; have hI5 := hI.below hbV
        have hS : (fun Z : World => Z.cell? ⟨b, 0, none⟩ = some (.int .i64 j) ∧ Z.cell? ⟨b, 1, none⟩ = some (.int .i64 xf) ∧ Z.cell? ⟨b, 2, none⟩ = some (.int .i64 xn) ∧ Z.cell? ⟨w.heap.size + 1 + 1 + 1, 0, none⟩ = some (.int .i64 f) ∧ Z.cell? ⟨w.heap.size, 0, none⟩ = some (.slice (some ad) L.length c) ∧ Z.cell? ⟨w.heap.size + 1, 0, none⟩ = some (.int .i64 due) ∧ Z.cell? ⟨(ad.add (j * 4)).block, (ad.add (j * 4)).off + 3, none⟩ = some (.int .i64 d)) V5 := ⟨(hbV.cell (p := ⟨b, 0, none⟩) bx.lt).trans c0, (hbV.cell (p := ⟨b, 1, none⟩) bx.lt).trans c1, (hbV.cell (p := ⟨b, 2, none⟩) bx.lt).trans c2, (hbV.cell (p := ⟨w.heap.size + 1 + 1 + 1, 0, none⟩) hI.b3.lt).trans c3, (hbV.cell (p := ⟨w.heap.size, 0, none⟩) hI.b0.lt).trans c4, (hbV.cell (p := ⟨w.heap.size + 1, 0, none⟩) hI.b1.lt).trans c5, (hbV.cell (p := ⟨(ad.add (j * 4)).block, (ad.add (j * 4)).off + 3, none⟩) hau).trans c6⟩
        refine hK.out _ _ hS (fun _ => ?_)
        clear hK K
        try simp only [Act.put, List.setIfInBounds_toArray, List.set_cons_zero, List.set_cons_succ]
        refine takeL (i := 3) (v := .bool true) rfl (by kernel_rfl) (by kernel_rfl) (by kernel_rfl) (fun _ _ _ h => h) (Or.inl ⟨by rfl, fun V9 h9 => by dsimp only at h9; go_simp⟩) (by assumption) ?_
        try simp only [Act.put, List.setIfInBounds_toArray, List.set_cons_zero, List.set_cons_succ]
        refine takeL (i := 4) (v := .bool true) rfl (by kernel_rfl) (by kernel_rfl) (by kernel_rfl) (fun _ _ _ h => h) (Or.inl ⟨by rfl, fun V9 h9 => by dsimp only at h9; go_simp⟩) (by assumption) ?_
        try simp only [Act.put, List.setIfInBounds_toArray, List.set_cons_zero, List.set_cons_succ]
        refine takeL (i := 5) (v := .slice (some ad) L.length c) rfl (by kernel_rfl) (by kernel_rfl) (by kernel_rfl) (fun _ _ _ h => h) (Or.inl ⟨by rfl, fun V9 h9 => by dsimp only at h9; go_simp⟩) (by assumption) ?_
        try simp only [Act.put, List.setIfInBounds_toArray, List.set_cons_zero, List.set_cons_succ]
        refine takeL (i := 6) (v := .pointer (some ⟨b, 0, none⟩)) rfl (by kernel_rfl) (by kernel_rfl) (by kernel_rfl) (fun _ _ _ h => h) (Or.inl ⟨by rfl, fun V9 h9 => by dsimp only at h9; go_simp⟩) (by assumption) ?_
        try simp only [Act.put, List.setIfInBounds_toArray, List.set_cons_zero, List.set_cons_succ]
        refine takeL (i := 7) (v := .int .i64 j) rfl (by kernel_rfl) (by kernel_rfl) (by kernel_rfl) (fun _ _ _ h => h) (Or.inl ⟨by rfl, fun V9 h9 => by dsimp only at h9; go_simp⟩) (by assumption) ?_
        try simp only [Act.put, List.setIfInBounds_toArray, List.set_cons_zero, List.set_cons_succ]
        refine takeL (i := 8) (v := .pointer (some (ad.add (j * 4)))) rfl (by kernel_rfl) (by kernel_rfl) (by kernel_rfl) (fun _ _ _ h => h) (Or.inl ⟨by rfl, fun V9 h9 => by dsimp only at h9; go_simp⟩) (by assumption) ?_
        try simp only [Act.put, List.setIfInBounds_toArray, List.set_cons_zero, List.set_cons_succ]
        refine takeL (i := 9) (v := .pointer (some ⟨(ad.add (j * 4)).block, (ad.add (j * 4)).off + 3, none⟩)) rfl (by kernel_rfl) (by kernel_rfl) (by kernel_rfl) (fun _ _ _ h => h) (Or.inl ⟨by rfl, fun V9 h9 => by dsimp only at h9; go_simp⟩) (by assumption) ?_
        try simp only [Act.put, List.setIfInBounds_toArray, List.set_cons_zero, List.set_cons_succ]
        refine takeL (i := 10) (v := .int .i64 d) rfl (by kernel_rfl) (by kernel_rfl) (by kernel_rfl) (fun _ _ _ h => h) (Or.inl ⟨by rfl, fun V9 h9 => by dsimp only at h9; go_simp⟩) (by assumption) ?_
        try simp only [Act.put, List.setIfInBounds_toArray, List.set_cons_zero, List.set_cons_succ]
        refine takeL (i := 11) (v := .int .i64 due) rfl (by kernel_rfl) (by kernel_rfl) (by kernel_rfl) (fun _ _ _ h => h) (Or.inl ⟨by rfl, fun V9 h9 => by dsimp only at h9; go_simp⟩) (by assumption) ?_
        try simp only [Act.put, List.setIfInBounds_toArray, List.set_cons_zero, List.set_cons_succ]
        refine takeL (i := 12) (v := .bool false) rfl (by kernel_rfl) (by kernel_rfl) (by kernel_rfl) (fun _ _ _ h => h) (Or.inl ⟨by rfl, fun V9 h9 => by dsimp only at h9; go_simp⟩) (by assumption) ?_
        try simp only [Act.put, List.setIfInBounds_toArray, List.set_cons_zero, List.set_cons_succ]
        refine takeL (i := 13) (v := .bool false) rfl (by kernel_rfl) (by kernel_rfl) (by kernel_rfl) (fun _ _ _ h => h) (Or.inl ⟨by rfl, fun V9 h9 => by dsimp only at h9; go_simp⟩) (by assumption) ?_
        try simp only [Act.put, List.setIfInBounds_toArray, List.set_cons_zero, List.set_cons_succ]
        refine wpAnyH_done (by kernel_rfl) ?_ _
        refine wpIn_cond (t := false) rfl ?_
        refine wpIn_skip ?_
        refine ⟨keeps_below hbV, ⟨hbV.mono (by have := hI.lo; omega), hbV.block _ (by have := hI.lo; omega)⟩, ⟨V, ?_⟩⟩
        rw [HSN.out, ← HFE.out]
        exact hI5
    · have HSN : Hid (cauF L S due (due + late) (pre ++ [x]) = cauF L S due (due + late) pre) := Lib.hid (by rw [HSN.out, if_neg (fun h => h1 h.1)])
      have h1' : (xf + xn == f) = false := by simpa using h1
      clear h1
      refine wpIn_round_held (S := fun Z : World => Z.cell? ⟨b, 0, none⟩ = some (.int .i64 j) ∧ Z.cell? ⟨b, 1, none⟩ = some (.int .i64 xf) ∧ Z.cell? ⟨b, 2, none⟩ = some (.int .i64 xn) ∧ Z.cell? ⟨w.heap.size + 1 + 1 + 1, 0, none⟩ = some (.int .i64 f) ∧ Z.cell? ⟨w.heap.size, 0, none⟩ = some (.slice (some ad) L.length c) ∧ Z.cell? ⟨w.heap.size + 1, 0, none⟩ = some (.int .i64 due) ∧ Z.cell? ⟨(ad.add (j * 4)).block, (ad.add (j * 4)).off + 3, none⟩ = some (.int .i64 d)) (by kernel_rfl) (by rfl) (fun ⟨_, _, h⟩ => h) ⟨c0, c1, c2, c3, c4, c5, c6⟩ (fun hS => ?_)
      refine takeL (i := 0) (v := .agg #[.int .i64 j, .int .i64 xf, .int .i64 xn]) rfl (by kernel_rfl) (by kernel_rfl) (by kernel_rfl) (fun _ _ _ h => h) (Or.inl ⟨by rfl, fun V9 h9 => by dsimp only at h9; go_simp⟩) (by assumption) ?_
      try simp only [Act.put, List.setIfInBounds_toArray, List.set_cons_zero, List.set_cons_succ]
      refine takeL (i := 2) (v := .int .i64 f) rfl (by kernel_rfl) (by kernel_rfl) (by kernel_rfl) (fun _ _ _ h => h) (Or.inl ⟨by rfl, fun V9 h9 => by dsimp only at h9; go_simp⟩) (by assumption) ?_
      try simp only [Act.put, List.setIfInBounds_toArray, List.set_cons_zero, List.set_cons_succ]
      refine wpAnyH_ready (rs := [1]) (by kernel_rfl) (by simp) (consL rfl (fun K hK => ?_) AllReadyH.nil)
      go_simp
      refine (endOf_any j xf xn _ f0 f1 n0 n1).mono ?_
      rintro e V5 ⟨rfl, hb5⟩
      have hbV : Below W.heap.size W V5 := (Below.refl W.heap.size W).drew.trans hb5
      clear hS hb5
      have bx5 := bx.below hbV; have hI5 := hI.below hbV
      have hS : (fun Z : World => Z.cell? ⟨b, 0, none⟩ = some (.int .i64 j) ∧ Z.cell? ⟨b, 1, none⟩ = some (.int .i64 xf) ∧ Z.cell? ⟨b, 2, none⟩ = some (.int .i64 xn) ∧ Z.cell? ⟨w.heap.size + 1 + 1 + 1, 0, none⟩ = some (.int .i64 f) ∧ Z.cell? ⟨w.heap.size, 0, none⟩ = some (.slice (some ad) L.length c) ∧ Z.cell? ⟨w.heap.size + 1, 0, none⟩ = some (.int .i64 due) ∧ Z.cell? ⟨(ad.add (j * 4)).block, (ad.add (j * 4)).off + 3, none⟩ = some (.int .i64 d)) V5 := ⟨(hbV.cell (p := ⟨b, 0, none⟩) bx.lt).trans c0, (hbV.cell (p := ⟨b, 1, none⟩) bx.lt).trans c1, (hbV.cell (p := ⟨b, 2, none⟩) bx.lt).trans c2, (hbV.cell (p := ⟨w.heap.size + 1 + 1 + 1, 0, none⟩) hI.b3.lt).trans c3, (hbV.cell (p := ⟨w.heap.size, 0, none⟩) hI.b0.lt).trans c4, (hbV.cell (p := ⟨w.heap.size + 1, 0, none⟩) hI.b1.lt).trans c5, (hbV.cell (p := ⟨(ad.add (j * 4)).block, (ad.add (j * 4)).off + 3, none⟩) hau).trans c6⟩
      refine hK.out _ _ hS (fun _ => ?_)
      clear hK K
      try simp only [Act.put, List.setIfInBounds_toArray, List.set_cons_zero, List.set_cons_succ]
      refine takeL (i := 3) (v := .bool false) rfl (by kernel_rfl) (by kernel_rfl) (by kernel_rfl) (fun _ _ _ h => h) (Or.inl ⟨by rfl, fun V9 h9 => by dsimp only at h9; go_simp⟩) (by assumption) ?_
      try simp only [Act.put, List.setIfInBounds_toArray, List.set_cons_zero, List.set_cons_succ]
      refine takeL (i := 4) (v := .bool false) rfl (by kernel_rfl) (by kernel_rfl) (by kernel_rfl) (fun _ _ _ h => h) (Or.inl ⟨by rfl, fun V9 h9 => by dsimp only at h9; go_simp⟩) (by assumption) ?_
      try simp only [Act.put, List.setIfInBounds_toArray, List.set_cons_zero, List.set_cons_succ]
      refine takeL (i := 5) (v := undef) rfl (by kernel_rfl) (by kernel_rfl) (by kernel_rfl) (fun _ _ _ h => h) (Or.inr ⟨by rfl, rfl⟩) (by assumption) ?_
      try simp only [Act.put, List.setIfInBounds_toArray, List.set_cons_zero, List.set_cons_succ]
      refine takeL (i := 6) (v := undef) rfl (by kernel_rfl) (by kernel_rfl) (by kernel_rfl) (fun _ _ _ h => h) (Or.inr ⟨by rfl, rfl⟩) (by assumption) ?_
      try simp only [Act.put, List.setIfInBounds_toArray, List.set_cons_zero, List.set_cons_succ]
      refine takeL (i := 7) (v := undef) rfl (by kernel_rfl) (by kernel_rfl) (by kernel_rfl) (fun _ _ _ h => h) (Or.inr ⟨by rfl, rfl⟩) (by assumption) ?_
      try simp only [Act.put, List.setIfInBounds_toArray, List.set_cons_zero, List.set_cons_succ]
      refine takeL (i := 8) (v := undef) rfl (by kernel_rfl) (by kernel_rfl) (by kernel_rfl) (fun _ _ _ h => h) (Or.inr ⟨by rfl, rfl⟩) (by assumption) ?_
      try simp only [Act.put, List.setIfInBounds_toArray, List.set_cons_zero, List.set_cons_succ]
      refine takeL (i := 9) (v := undef) rfl (by kernel_rfl) (by kernel_rfl) (by kernel_rfl) (fun _ _ _ h => h) (Or.inr ⟨by rfl, rfl⟩) (by assumption) ?_
      try simp only [Act.put, List.setIfInBounds_toArray, List.set_cons_zero, List.set_cons_succ]
      refine takeL (i := 10) (v := undef) rfl (by kernel_rfl) (by kernel_rfl) (by kernel_rfl) (fun _ _ _ h => h) (Or.inr ⟨by rfl, rfl⟩) (by assumption) ?_
      try simp only [Act.put, List.setIfInBounds_toArray, List.set_cons_zero, List.set_cons_succ]
      refine takeL (i := 11) (v := undef) rfl (by kernel_rfl) (by kernel_rfl) (by kernel_rfl) (fun _ _ _ h => h) (Or.inr ⟨by rfl, rfl⟩) (by assumption) ?_
      try simp only [Act.put, List.setIfInBounds_toArray, List.set_cons_zero, List.set_cons_succ]
      refine takeL (i := 12) (v := undef) rfl (by kernel_rfl) (by kernel_rfl) (by kernel_rfl) (fun _ _ _ h => h) (Or.inr ⟨by rfl, rfl⟩) (by assumption) ?_
      try simp only [Act.put, List.setIfInBounds_toArray, List.set_cons_zero, List.set_cons_succ]
      refine takeL (i := 13) (v := .bool false) rfl (by kernel_rfl) (by kernel_rfl) (by kernel_rfl) (fun _ _ _ h => h) (Or.inl ⟨by rfl, fun V9 h9 => by dsimp only at h9; go_simp⟩) (by assumption) ?_
      try simp only [Act.put, List.setIfInBounds_toArray, List.set_cons_zero, List.set_cons_succ]
      refine wpAnyH_done (by kernel_rfl) ?_ _
      refine wpIn_cond (t := false) rfl ?_
      refine wpIn_skip ?_
      refine ⟨keeps_below hbV, ⟨hbV.mono (by have := hI.lo; omega), hbV.block _ (by have := hI.lo; omega)⟩, ⟨V, ?_⟩⟩
      rw [HSN.out, ← HFE.out]
      exact hI5
  case done =>
    rintro D ys W hD rfl ⟨V, hI⟩ hK
    have hAl := cauF_len L S due (due + late) (backs S.length S.length)
    have hbk := backs_len S.length S.length 
    have HCS := Lib.hid (show causesI L S due late = Lib.compact ((cauF L S due (due + late) (backs S.length S.length)).1.mergeSort fun x y => decide (x ≤ y)) from rfl)
    obtain ⟨A, hA⟩ : ∃ A, A = (cauF L S due (due + late) (backs S.length S.length)).1 := ⟨_, rfl⟩
    rw [← hA] at hI hAl HCS
    have HAL := Lib.hid (show A.length ≤ 1000000 by omega)
    have HIN := Lib.hid hI
    have c7 : W.cell? ⟨w.heap.size + 1 + 1, 0, none⟩ = some V := hI.b2.cell 0
    have hlo := hI.lo
    clear hI hA hAl hbk
    gi_wp2_with (first | (refine ⟨trivial, ?_⟩; gi_at_call 79; refine (callsIn_wide.2 (sortOwn_any (w.heap.size + 5) V A W HIN.out.own HIN.out.lo HAL.out)).mono ?_; rintro e w1 ⟨rfl, hT1⟩; have bb := IBoxBelow HIN.out.b2 hT1.low (by omega); have c8 : w1.cell? ⟨w.heap.size + 1 + 1, 0, none⟩ = some V := bb.cell 0; have HT1 := Lib.hid hT1; clear bb hT1) | (refine ⟨trivial, ?_⟩; gi_at_call 80; refine (callsIn_wide.2 (compactOwn_any (w.heap.size + 5) V _ w1 HT1.out.own (by rw [List.length_mergeSort]; exact HAL.out))).mono ?_; rintro e w2 ⟨v2, rfl, hT2⟩))
    have hnb : ∀ k, V.ownBlock = some k → k ≠ D := fun k e1 e2 => by
      obtain ⟨cs, hcs⟩ := own_block HIN.out.own k e1
      rw [e2, hK] at hcs; cases hcs
    have hK1 : w1.heap[D]? = some (.deferred (some [])) := (HT1.out.block D (heap_lt hK) (fun e => hnb D e rfl)).trans hK
    have hnb1 : ∀ {X : List Int} {v : Value}, OwnR 1 3 intL w1 (w.heap.size + 5) v X → v.ownBlock ≠ some D := fun h e => by
      obtain ⟨cs, hcs⟩ := own_block h D e
      rw [hK1] at hcs; cases hcs
    have hK2 : w2.heap[D]? = some (.deferred (some [])) := (hT2.block D (heap_lt hK1) (hnb1 HT1.out.own)).trans hK1
    refine ⟨by simp, .inl ⟨_, _, rfl, run_takeDeferred (w := w2) hK2, ?_⟩⟩
    have hnb2 : v2.ownBlock ≠ some D := fun e => by
      obtain ⟨cs, hcs⟩ := own_block hT2.own D e
      rw [hK2] at hcs; cases hcs
    refine ⟨v2, by simp [results, Tryz.results50, go_sem], v2, rfl, ?_, ?_⟩
    · rw [HCS.out]
      exact (hT2.own.putObj hnb2 _).mono (by omega)
    · exact below_putObj ((HIN.out.low.trans (HT1.out.low.mono (by omega))).trans (hT2.low.mono (by omega))) (by omega) _
  case stop =>
    rintro D cc pre W _ _ h _
    exact h.elim
end Go.Proofs.YtdgegebplebeoaaGreatDoor
