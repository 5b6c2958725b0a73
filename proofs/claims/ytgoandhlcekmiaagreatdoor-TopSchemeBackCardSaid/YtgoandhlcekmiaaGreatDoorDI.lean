/-
  Package impose: Parse.
-/
import Derived.Test.YtgoandhlcekmiaaGreatDoorDG
import Derived.Test.YtgoandhlcekmiaaGreatDoorKV
namespace Go.Proofs.YtgoandhlcekmiaaGreatDoor
open Go.RowKit Go.Shelf
attribute [local go_sem] Oper.semAt_some

/-- What a call of a parser returns. -/
def ParsePost (w : World) (p : RdP) (e : Ending) (w' : World) : Prop :=
  ∃ (a : Option Addr) (n c : Nat), e = .returned (.tuple #[.agg #[.int .i64 p.C, .int .i64 p.R, .slice a n c], .int .i64 p.line, .int .i64 p.err]) ∧ n = p.l.length ∧ RowsAt 4 Cell.l w' a p.l ∧ (a = none → c = 0) ∧ Below w.heap.size w w'
theorem own_later {w' V : World} {B : Nat} {a : Option Addr} {c : Nat} {l : List Cell} {Ds : List Nat} {D0 : Nat} (hO : OwnR 4 57 Cell.l V B (.slice a l.length c) l) (hmk : Marks D0 Ds V) (hk : ∀ k, k < V.heap.size → k ∉ Ds → w'.heap[k]? = V.heap[k]?) : RowsAt 4 Cell.l w' a l := by
  have h := hO.same (w' := w') fun q e => by
    obtain ⟨cs, hc⟩ := own_block hO q e
    exact hk q (heap_lt hc) (fun hm => by
      have h2 := (hmk.at_ q hm).2
      rw [hc] at h2; cases h2)
  obtain ⟨a', c', e, hrow, -⟩ := h.rows cell_l
  cases e
  exact hrow
/-- How the call is left. -/
theorem pp_leave {F : Fence} {N : Nat} {tmps : Array Value} {w : World} {g : Nat} (hg : w.heap.size = g) (Ds : List Nat) (V : World) (p : RdP) (a : Option Addr) (n c : Nat) (hres : ∀ w' : World, w'.cell? ⟨g, 0, none⟩ = some (.int .i64 p.C) → w'.cell? ⟨g, 1, none⟩ = some (.int .i64 p.R) → w'.cell? ⟨g, 2, none⟩ = some (.slice a n c) → w'.cell? ⟨g + 1, 0, none⟩ = some (.int .i64 p.line) → w'.cell? ⟨g + 2, 0, none⟩ = some (.int .i64 p.err) → (results Tryz.f9 tmps).run Tryz.prog w' = .ok (.tuple #[.agg #[.int .i64 p.C, .int .i64 p.R, .slice a n c], .int .i64 p.line, .int .i64 p.err]) w') (hmk : Marks (g + 3) Ds V)
    (x0 : BoxAt V g #[.int .i64 p.C, .int .i64 p.R, .slice a n c] 29) (x1 : BoxAt V (g + 1) #[.int .i64 p.line] 3) (x2 : BoxAt V (g + 2) #[.int .i64 p.err] 30) (hB : Below w.heap.size w V) (hn : n = p.l.length) (hr : ∀ w' : World, V.heap.size ≤ w'.heap.size → (∀ k, k < V.heap.size → k ∉ Ds → w'.heap[k]? = V.heap[k]?) → RowsAt 4 Cell.l w' a p.l) (hc : a = none → c = 0) :
    LeavesInM F N Tryz.prog Tryz.f9 tmps (ParsePost w p) (marksOf Ds) .returning V :=
  leaves_marks (B := g + 3) (v := .tuple #[.agg #[.int .i64 p.C, .int .i64 p.R, .slice a n c], .int .i64 p.line, .int .i64 p.err]) Ds V hmk fun w' hs hk hb => by
    have y0 : BoxAt w' g #[.int .i64 p.C, .int .i64 p.R, .slice a n c] 29 := (hb.block _ (by omega)).trans x0
    have y1 : BoxAt w' (g + 1) #[.int .i64 p.line] 3 := (hb.block _ (by omega)).trans x1
    have y2 : BoxAt w' (g + 2) #[.int .i64 p.err] 30 := (hb.block _ (by omega)).trans x2
    exact ⟨hres w' (y0.cell 0) (y0.cell 1) (y0.cell 2) (y1.cell 0) (y2.cell 0), a, n, c, rfl, hn, hr w' hs hk, hc, hB.trans (hb.mono (by omega))⟩
def F5 (W : World) (g : Nat) (C R : Int) (v : Value) (ln er : Int) : World := ((((W.setCell ⟨g, 0, none⟩ (.int .i64 C)).setCell ⟨g, 1, none⟩ (.int .i64 R)).setCell ⟨g, 2, none⟩ v).setCell ⟨g + 1, 0, none⟩ (.int .i64 ln)).setCell ⟨g + 1 + 1, 0, none⟩ (.int .i64 er)
/-- The results, stored. -/
theorem five {w W : World} {g : Nat} {u0 u1 u2 u3 u4 : Value} (x0 : BoxAt W g #[u0, u1, u2] 29) (x1 : BoxAt W (g + 1) #[u3] 3) (x2 : BoxAt W (g + 2) #[u4] 30) (xB : Below w.heap.size w W) (hw : w.heap.size ≤ g) (C R : Int) (v : Value) (ln er : Int) :
    BoxAt (F5 W g C R v ln er) g #[.int .i64 C, .int .i64 R, v] 29 ∧ BoxAt (F5 W g C R v ln er) (g + 1) #[.int .i64 ln] 3 ∧ BoxAt (F5 W g C R v ln er) (g + 2) #[.int .i64 er] 30 ∧ Below w.heap.size w (F5 W g C R v ln er) ∧ ∀ k, g + 2 < k → (F5 W g C R v ln er).heap[k]? = W.heap[k]? := by
  unfold F5
  refine ⟨?_, ?_, ?_, ?_, fun k hk => ?_⟩
  · exact ((((x0.set 0 _).set 1 _).set 2 _).set_other (p := ⟨g + 1, 0, none⟩) (by show g ≠ g + 1; omega) _).set_other (p := ⟨g + 1 + 1, 0, none⟩) (by show g ≠ g + 1 + 1; omega) _
  · exact ((((x1.set_other (p := ⟨g, 0, none⟩) (by show g + 1 ≠ g; omega) _).set_other (p := ⟨g, 1, none⟩) (by show g + 1 ≠ g; omega) _).set_other (p := ⟨g, 2, none⟩) (by show g + 1 ≠ g; omega) _).set 0 _).set_other (p := ⟨g + 1 + 1, 0, none⟩) (by show g + 1 ≠ g + 1 + 1; omega) _
  · exact ((((x2.set_other (p := ⟨g, 0, none⟩) (by show g + 2 ≠ g; omega) _).set_other (p := ⟨g, 1, none⟩) (by show g + 2 ≠ g; omega) _).set_other (p := ⟨g, 2, none⟩) (by show g + 2 ≠ g; omega) _).set_other (p := ⟨g + 1, 0, none⟩) (by show g + 2 ≠ g + 1; omega) _).set 0 _
  · exact ((((xB.setCell (p := ⟨g, 0, none⟩) hw _).setCell (p := ⟨g, 1, none⟩) hw _).setCell (p := ⟨g, 2, none⟩) hw _).setCell (p := ⟨g + 1, 0, none⟩) (by show w.heap.size ≤ g + 1; omega) _).setCell (p := ⟨g + 1 + 1, 0, none⟩) (by show w.heap.size ≤ g + 1 + 1; omega) _
  · rw [Below.heap_setCell _ _ _ _ (by show k ≠ g + 1 + 1; omega), Below.heap_setCell _ _ _ _ (by show k ≠ g + 1; omega), Below.heap_setCell _ _ _ _ (by show k ≠ g; omega), Below.heap_setCell _ _ _ _ (by show k ≠ g; omega), Below.heap_setCell _ _ _ _ (by show k ≠ g; omega)]
theorem linesP_length : ∀ L : List (List UInt8), (linesP L).length ≤ L.length
  | [] => Nat.le_refl _
  | [x] => by show (if x = [] then [] else [x]).length ≤ 1; split <;> simp
  | x :: y :: r => by
    have := linesP_length (y :: r)
    show (linesP (y :: r)).length + 1 ≤ (y :: r).length + 1
    omega
/-- Between two lines. -/
structure PI (w : World) (g : Nat) (pre : List TxS) (W : World) : Prop where
  low : Below w.heap.size w W
  x0 : BoxAt W g #[.int .i64 0, .int .i64 0, .slice none 0 0] 29
  x1 : BoxAt W (g + 1) #[.int .i64 0] 3
  x2 : BoxAt W (g + 2) #[.int .i64 0] 30
  xs : ∃ u, BoxAt W (g + 4) #[u] 9
  row : ∃ (st : RdS) (v : Value), rdRaws st0 (txs pre) = .inr st ∧ BoxAt W (g + 3) (rdCells st.C st.R v st.n st.un) 94 ∧ OwnR 4 57 Cell.l W w.heap.size v st.l
/-- Where a line was wrong. -/
def PX (w : World) (g : Nat) (c : Code) (pre : List TxS) (W : World) : Prop :=
  c = .ret ∧ rdRaws st0 (txs pre) = .inl pre.length ∧ Below w.heap.size w W ∧ BoxAt W g #[.int .i64 0, .int .i64 0, .slice none 0 0] 29 ∧ BoxAt W (g + 1) #[.int .i64 (pre.length : Int)] 3 ∧ BoxAt W (g + 2) #[.int .i64 7] 30
section
variable {w : World} {g B : Nat}
theorem PI.own (hB : w.heap.size ≤ B) : OwnFrom B (PI w g) := fun pre X Y row hs hg hr => by
  have hr2 : ∀ r, row = some r → ∃ o : Obj, X.heap[r]? = some o ∧ o.isCells = false := fun r e => (hr r e).2
  obtain ⟨u, hu⟩ := hs.xs
  obtain ⟨st, v, h1, h2, h3⟩ := hs.row
  exact ⟨hs.low.grown hg hs.low.size (fun r e => by have := (hr r e).1; omega), box_kept hs.x0 hg hr2, box_kept hs.x1 hg hr2, box_kept hs.x2 hg hr2, ⟨u, box_kept hu hg hr2⟩, st, v, h1, box_kept h2 hg hr2, h3.kept hg hr2⟩
theorem PX.own (hB : w.heap.size ≤ B) (c : Code) : OwnFrom B (PX w g c) := fun pre X Y row hs hg hr => by
  have hr2 : ∀ r, row = some r → ∃ o : Obj, X.heap[r]? = some o ∧ o.isCells = false := fun r e => (hr r e).2
  obtain ⟨h1, h2, h3, h4, h5, h6⟩ := hs
  exact ⟨h1, h2, h3.grown hg h3.size (fun r e => by have := (hr r e).1; omega), box_kept h4 hg hr2, box_kept h5 hg hr2, box_kept h6 hg hr2⟩
theorem PI.moved (h0 : w.heap.size ≤ g) : ∀ s X Y, PI w g s X → MvB (g + 4) X Y → PI w g s Y := fun s X Y hs ⟨u, hu⟩ => by
  subst hu
  obtain ⟨u0, hu0⟩ := hs.xs
  obtain ⟨st, v, h1, h2, h3⟩ := hs.row
  exact ⟨hs.low.setCell (p := ⟨g + 4, 0, none⟩) (by show w.heap.size ≤ g + 4; omega) u, hs.x0.set_other (by show g ≠ g + 4; omega) u, hs.x1.set_other (by show g + 1 ≠ g + 4; omega) u, hs.x2.set_other (by show g + 2 ≠ g + 4; omega) u, ⟨u, hu0.set 0 u⟩, st, v, h1, h2.set_other (by show g + 3 ≠ g + 4; omega) u, h3.set (p := ⟨g + 4, 0, none⟩) (own_ne h3 hu0 (by decide)) u⟩
end
/-- The boxes of the results. -/
def P3 (w : World) (ln er : Int) : World := ((w.alloc (.cells #[.int .i64 0, .int .i64 0, .slice none 0 0] 29)).alloc (.cells #[.int .i64 ln] 3)).alloc (.cells #[.int .i64 er] 30)
theorem three (w : World) {g : Nat} (hg : w.heap.size = g) (ln er : Int) : (P3 w ln er).heap.size = g + 3 ∧ BoxAt (P3 w ln er) g #[.int .i64 0, .int .i64 0, .slice none 0 0] 29 ∧ BoxAt (P3 w ln er) (g + 1) #[.int .i64 ln] 3 ∧ BoxAt (P3 w ln er) (g + 2) #[.int .i64 er] 30 ∧ Below w.heap.size w (P3 w ln er) := by
  unfold P3
  refine ⟨by simp; omega, ?_, ?_, ?_, (((Below.refl _ _).alloc (Nat.le_refl _) _).alloc (by simp) _).alloc (by simp; omega) _⟩
  · rw [← hg]; exact ((BoxAt.new _ _ _).alloc _).alloc _
  · have h := BoxAt.new (w.alloc (.cells #[.int .i64 0, .int .i64 0, .slice none 0 0] 29)) #[.int .i64 ln] 3
    rw [World.size_alloc, hg] at h; exact h.alloc _
  · have h := BoxAt.new ((w.alloc (.cells #[.int .i64 0, .int .i64 0, .slice none 0 0] 29)).alloc (.cells #[.int .i64 ln] 3)) #[.int .i64 er] 30
    rw [World.size_alloc, World.size_alloc, hg] at h; exact h
set_option maxRecDepth 100000 in
set_option maxHeartbeats 1600000 in
theorem parse_any (s : ByteArray) (w : World) (hP : WF w) (hs : s.size ≤ 5000 ∨ 60000 < s.size) (hs2 : s.size ≤ 100000) :
    Calls Tryz.prog 9 #[.string s] w (ParsePost w (parseT s.data.toList)) := by
  obtain ⟨g, hg⟩ : ∃ g, w.heap.size = g := ⟨_, rfl⟩
  obtain ⟨W0, hW0⟩ : ∃ W0, W0 = P3 w 0 0 := ⟨_, rfl⟩
  obtain ⟨z0, r0, r1, r2, hB⟩ := three w hg 0 0
  rw [← hW0] at z0 r0 r1 r2 hB
  have hsl : s.data.toList.length = s.size := Array.length_toList
  obtain ⟨p, hp⟩ : ∃ p, p = parseT s.data.toList := ⟨_, rfl⟩
  rw [← hp]
  have k0 := r0.cell 0
  have k1 := r0.cell 1
  have k2 := r0.cell 2
  have k3 := r1.cell 0
  have k4 := r2.cell 0
  have f0 := r0.free 0
  have f1 := r0.free 1
  have f2 := r0.free 2
  have f3 := r1.free 0
  have f4 := r2.free 0
  simp at k0 k1 k2 k3 k4
  have HW0 := Lib.hid hW0
  have HG := Lib.hid hg
  clear hW0
  refine (callsIn_wide (n := 9)).1 ?_
  refine callsIn_of_wp_marks Tryz.func9 rfl trivial ?_ rfl
  simp only [Tryz.ntmps9, List.size_toArray, List.length_cons, List.length_nil, Nat.reduceAdd, Nat.reduceSub, Array.replicate_succ, Array.replicate_zero, List.push_toArray, List.append_toArray, List.nil_append, List.cons_append]
  by_cases hlarge : 60000 < s.size
  · have HE := Lib.hid (show p = ⟨0, 0, [], 0, 8⟩ by rw [hp]; exact parseT_large (by rw [hsl]; exact hlarge))
    have hI : (s.size : Int) > 60000 := by omega
    clear hp hsl hlarge hs
    obtain ⟨-, q0, q1, q2, qB⟩ := three w hg 0 8
    gi_wp2
    exact pp_leave hg [] _ p none 0 0 (fun w' h0 h1 h2 h3 h4 => by simp [results, Tryz.results9, go_sem, h0, h1, h2, h3, h4]) (Marks.nil _ _) (by rw [HE.out]; exact q0) (by rw [HE.out]; exact q1) (by rw [HE.out]; exact q2) qB (by rw [HE.out]; rfl) (fun w' _ _ => by rw [HE.out]; exact RowsAt.nil _ _) (fun _ => rfl)
  have hsz : s.size ≤ 5000 := by omega
  have hI : ¬ (s.size : Int) > 60000 := by omega
  by_cases h0 : s.data.toList = []
  · have HE := Lib.hid (show p = ⟨0, 0, [], 1, 7⟩ by rw [hp, h0]; exact parseT_empty)
    have hb : (s.toList == []) = true := by rw [Lib.toList_data, h0]; rfl
    obtain ⟨-, q0, q1, q2, qB⟩ := three w hg 1 7
    clear hp hsl hlarge hs h0
    gi_wp2
    exact pp_leave hg [] _ p none 0 0 (fun w' h0 h1 h2 h3 h4 => by simp [results, Tryz.results9, go_sem, h0, h1, h2, h3, h4]) (Marks.nil _ _) (by rw [HE.out]; exact q0) (by rw [HE.out]; exact q1) (by rw [HE.out]; exact q2) qB (by rw [HE.out]; rfl) (fun w' _ _ => by rw [HE.out]; exact RowsAt.nil _ _) (fun _ => rfl)
  have HE := Lib.hid (show p = parseR (rdRaws st0 (linesL s.data.toList)) by rw [hp]; exact parseT_raw h0 (by rw [hsl]; exact hlarge))
  have hb : (s.toList == []) = false := by rw [Lib.toList_data]; simpa using h0
  obtain ⟨V, hV⟩ : ∃ V, V = (W0.alloc (.cells (rdCells 0 0 (.slice none 0 0) 0 false) 94)).alloc (.cells #[.string s] 9) := ⟨_, rfl⟩
  have zV : V.heap.size = g + 5 := by rw [hV]; simp; omega
  have v3 : BoxAt V (g + 3) (rdCells 0 0 (.slice none 0 0) 0 false) 94 := by
    have h := BoxAt.new W0 (rdCells 0 0 (.slice none 0 0) 0 false) 94
    rw [z0] at h; rw [hV]; exact h.alloc _
  have v4 : BoxAt V (g + 4) #[.string s] 9 := by
    have h := BoxAt.new (W0.alloc (.cells (rdCells 0 0 (.slice none 0 0) 0 false) 94)) #[.string s] 9
    rw [World.size_alloc, z0, ← hV] at h; exact h
  have hbV : Below W0.heap.size W0 V := by rw [hV]; exact ((Below.refl _ _).alloc (Nat.le_refl _) _).alloc (by simp) _
  have v0 := r0.below hbV
  have v1 := r1.below hbV
  have v2 := r2.below hbV
  have vB := hB.trans (hbV.mono hB.size)
  have HV := Lib.hid hV
  have HSL := Lib.hid hsl
  clear hV hp hsl hlarge hs h0 k0 k1 k2 k3 k4 f0 f1 f2 f3 f4
  gi_wp2
  refine ⟨trivial, ?_⟩
  refine (callsIn_wide.2 (lines_any s _)).mono ?_
  rintro e w2 ⟨rfl, rfl⟩
  gi_wp2
  change Code.wpIn _ _ _ _ _ _ (((P3 w 0 0).alloc (.cells (rdCells 0 0 (.slice none 0 0) 0 false) 94)).alloc (.cells #[.string s] 9))
  rw [← HW0.out, ← HV.out]
  refine wpIn_rangeFunc_mv rfl (by omega) (gf := 62) (lb := #[.pointer (some ⟨g + 1 + 1 + 1 + 1, 0, none⟩)]) rfl trivial (enters_of Tryz.func62 (by kernel_rfl) rfl)
    (lines_mv s (g + 4) _ V v4 (by omega)) (fun h k => k.trans h) (fun W q o' hq => World.putObj_heap_other (by omega)) (fun _ => rfl)
    (PI w g) (PX w g) (PI.own (by omega)) (fun c => PX.own (by omega) c) (PI.moved (by omega))
    (fun X Y k hk ⟨u, hu⟩ => by rw [hu]; exact Below.heap_setCell _ _ _ _ (by show k ≠ g + 4; omega))
    ⟨vB, v0, v1, v2, ⟨_, v4⟩, st0, .slice none 0 0, rfl, v3, OwnR.nil _ _⟩
    (fun x => { tmps := #[.string s, undef, .pointer (some ⟨g, 0, none⟩), .pointer (some ⟨g + 1, 0, none⟩), .pointer (some ⟨g + 1 + 1, 0, none⟩), .pointer (some ⟨g + 1 + 1 + 1, 0, none⟩), .string x.1, undef, undef, .string s, .int .i64 (s.size : Int), .bool false, undef, .string s, .bool false, undef, .string s, .func (.func 62) #[] #[.pointer (some ⟨g + 1 + 1 + 1 + 1, 0, none⟩)], .string x.1, undef, undef, undef, undef, undef, undef, undef, undef, undef, undef, undef, undef, undef, undef, undef, undef, undef, undef, undef, undef, undef, undef, undef, undef, undef, undef, undef, undef, undef, undef, undef, undef, undef, undef], defers := [] }) ?assign ?body ?done ?stop
  case assign =>
    intro l x W K hK
    gi_wp2
    exact hK
  case body =>
    rintro lo pre x W hI hpl ⟨r, hr⟩
    obtain ⟨st, v8, hst, x3, hO8⟩ := hI.row
    obtain ⟨u, hu⟩ := hI.xs
    have hn : st.n = pre.length := by rw [rdRaws_n hst]; show 0 + (txs pre).length = _; rw [Nat.zero_add]; exact List.length_map _
    have hbd := rd_bound hst (r := [x.1.data.toList] ++ r) (by rw [← List.append_assoc, ← hr, txs_app]; rfl)
    rw [HSL.out] at hbd
    have hone := rdRaws_one (x := x.1.data.toList) hst
    obtain ⟨C, R, l, n, un⟩ := st
    change n = pre.length at hn
    change l.length ≤ s.size at hbd
    change BoxAt W (g + 3) (rdCells C R v8 n un) 94 at x3
    change OwnR 4 57 Cell.l W w.heap.size v8 l at hO8
    have y3 := x3.set 3 (.int .i64 ((n : Int) + 1))
    have e3 : (rdCells C R v8 n un).setIfInBounds 3 (.int .i64 ((n : Int) + 1)) = rdCells C R v8 (n + 1) un := by simp [rdCells]
    rw [e3] at y3
    have hO9 := hO8.set (p := ⟨g + 3, 3, none⟩) (own_ne hO8 x3 (by decide)) (.int .i64 ((n : Int) + 1))
    have hB9 := hI.low.setCell (p := ⟨g + 3, 3, none⟩) (by show w.heap.size ≤ g + 3; omega) (.int .i64 ((n : Int) + 1))
    have hRL := readLine_any w (g + 3) C R v8 l (n + 1) un x.1 _ hP hB9 (by omega) y3 hO9 x.2 (by omega) (by omega)
    obtain ⟨o, ho⟩ : ∃ o, o = rdRaw ⟨C, R, l, n + 1, un⟩ x.1.data.toList := ⟨_, rfl⟩
    rw [← ho] at hRL
    change rdRaws st0 (txs pre ++ [x.1.data.toList]) = match rdRaw ⟨C, R, l, n + 1, un⟩ x.1.data.toList with | none => .inl (n + 1) | some q => .inr q at hone
    rw [← ho] at hone
    have hpx : txs (pre ++ [x]) = txs pre ++ [x.1.data.toList] := by rw [txs_app]; rfl
    have c33 : W.cell? ⟨g + 1 + 1 + 1, 3, none⟩ = some (.int .i64 (n : Int)) := x3.cell 3
    have f33 : W.frozen? ⟨g + 1 + 1 + 1, 3, none⟩ = false := x3.free 3
    have n0 := own_ne hO8 hI.x0 (by decide)
    have n1 := own_ne hO8 hI.x1 (by decide)
    have n2 := own_ne hO8 hI.x2 (by decide)
    have nu := own_ne hO8 hu (by decide)
    have hnI : (n : Int) ≤ 200000 := by omega
    have HRL := Lib.hid hRL
    have HONE := Lib.hid hone
    have HN := Lib.hid hn
    clear ho hone hRL e3 hbd hst hr hn
    gi_wp2
    refine ⟨trivial, ?_⟩
    refine (CallsIn.inRound lo (callsIn_wide.2 HRL.out)).mono ?_
    rintro e W5 ⟨rfl, hB5, hkb, C', R', v', un', l', q5, qO, hq⟩
    have bk : ∀ {b' : Nat} {cs' : Array Value} {T' : TypeId}, BoxAt W b' cs' T' → b' ≠ g + 3 → v8.ownBlock ≠ some b' → BoxAt W5 b' cs' T' := fun h h1 h2 =>
      (hkb.block _ (by rw [World.size_setCell]; exact h.lt) h1 h2).trans ((Below.heap_setCell _ _ _ _ h1).trans h)
    have m0 := bk hI.x0 (by omega) n0
    have m1 := bk hI.x1 (by omega) n1
    have m2 := bk hI.x2 (by omega) n2
    have mu := bk hu (by omega) nu
    have hkf : KeepsFrom V.heap.size W W5 := ((KeepsOthers.setCell W ⟨g + 3, 3, none⟩ (.int .i64 ((n : Int) + 1))).from _).trans ⟨hkb.size, fun q o' _ hq' hf => (hkb.block q (heap_lt hq') (fun e => by
      rw [e, show _ = _ from y3] at hq'; cases hq'; cases hf) (fun e => by
      obtain ⟨c2, h2⟩ := own_block hO9 q e
      rw [h2] at hq'; cases hq'; cases hf)).trans hq'⟩
    have hku : KpB (g + 4) W W5 := Eq.trans mu (Eq.symm hu)
    cases o with
    | none =>
      have HX := Lib.hid (show rdRaws st0 (txs (pre ++ [x])) = .inl (pre ++ [x]).length by rw [hpx, HONE.out]; show Sum.inl (n + 1) = _; rw [HN.out, List.length_append]; rfl)
      have q5' : BoxAt W5 (g + 3) #[.int .i64 C', .int .i64 R', v', .int .i64 ((n : Int) + 1), .bool un'] 94 := by
        have h := q5
        have e : rdCells C' R' v' (n + 1) un' = #[.int .i64 C', .int .i64 R', v', .int .i64 ((n : Int) + 1), .bool un'] := by simp [rdCells]
        rw [e] at h; exact h
      have c53 : W5.cell? ⟨g + 1 + 1 + 1, 3, none⟩ = some (.int .i64 ((n : Int) + 1)) := q5'.cell 3
      have d0 := m0.cell 0
      have d1 := m0.cell 1
      have d2 := m0.cell 2
      have d3 := m1.cell 0
      have d4 : W5.cell? ⟨g + 1 + 1, 0, none⟩ = some (.int .i64 0) := m2.cell 0
      have g0 := m0.free 0
      have g1 := m0.free 1
      have g2 := m0.free 2
      have g3 := m1.free 0
      have g4 : W5.frozen? ⟨g + 1 + 1, 0, none⟩ = false := m2.free 0
      simp at d0 d1 d2 d3
      gi_wp2
      refine wpIn_round_held (S := fun Z => Z.cell? ⟨g + 1 + 1 + 1, 3, none⟩ = some (.int .i64 ((n : Int) + 1))) (by kernel_rfl) (by rfl) (fun ⟨_, _, h⟩ => h) c53 (fun hS => ?_)
      refine takeL (i := 0) (v := .agg #[.int .i64 0, .int .i64 0, .slice none 0 0]) rfl (by kernel_rfl) (by kernel_rfl) (by kernel_rfl) (fun _ _ _ h => h) (Or.inl ⟨by rfl, fun V9 h9 => by dsimp only at h9; go_simp⟩) (by assumption) ?_
      try simp only [Act.put, List.setIfInBounds_toArray, List.set_cons_zero, List.set_cons_succ]
      refine takeL (i := 1) (v := .pointer (some ⟨g + 1 + 1 + 1, 3, none⟩)) rfl (by kernel_rfl) (by kernel_rfl) (by kernel_rfl) (fun _ _ _ h => h) (Or.inl ⟨by rfl, fun V9 h9 => by dsimp only at h9; go_simp⟩) (by assumption) ?_
      try simp only [Act.put, List.setIfInBounds_toArray, List.set_cons_zero, List.set_cons_succ]
      refine takeL (i := 2) (v := .int .i64 ((n : Int) + 1)) rfl (by kernel_rfl) (by kernel_rfl) (by kernel_rfl) (fun _ _ _ h => h) (Or.inl ⟨by rfl, fun V9 h9 => by dsimp only at h9; go_simp⟩) (by assumption) ?_
      try simp only [Act.put, List.setIfInBounds_toArray, List.set_cons_zero, List.set_cons_succ]
      obtain ⟨A1, hA1⟩ : ∃ A1, A1 = (((W5.setCell ⟨g, 0, none⟩ (.int .i64 0)).setCell ⟨g, 1, none⟩ (.int .i64 0)).setCell ⟨g, 2, none⟩ (.slice none 0 0)).drew := ⟨_, rfl⟩
      have so1 : ∀ {b' : Nat} {cs' : Array Value} {T' : TypeId}, BoxAt W5 b' cs' T' → b' ≠ g → BoxAt A1 b' cs' T' := fun h hne => by rw [hA1]; exact (((h.set_other (p := ⟨g, 0, none⟩) hne _).set_other (p := ⟨g, 1, none⟩) hne _).set_other (p := ⟨g, 2, none⟩) hne _).drew
      have a0 : BoxAt A1 g #[.int .i64 0, .int .i64 0, .slice none 0 0] 29 := by rw [hA1]; exact (((m0.set 0 _).set 1 _).set 2 _).drew
      have a1 := so1 m1 (by omega)
      have a2 := so1 m2 (by omega)
      have a3 := so1 q5' (by omega)
      have aB : Below w.heap.size w A1 := by rw [hA1]; exact (((hB5.setCell (p := ⟨g, 0, none⟩) (by show w.heap.size ≤ g; omega) _).setCell (p := ⟨g, 1, none⟩) (by show w.heap.size ≤ g; omega) _).setCell (p := ⟨g, 2, none⟩) (by show w.heap.size ≤ g; omega) _).drew
      have aK : KeepsFrom V.heap.size W A1 := by rw [hA1]; exact hkf.trans (((((KeepsOthers.setCell _ _ _).trans (KeepsOthers.setCell _ _ _)).trans (KeepsOthers.setCell _ _ _)).trans (KeepsOthers.drew _)).from _)
      have HA1 := Lib.hid hA1
      refine wpAnyH_ready (rs := [3]) (by kernel_rfl) (by simp) (consL rfl (fun K hK => ?_) AllReadyH.nil)
      go_simp
      rw [← hA1]
      have h13 : A1.cell? ⟨g + 1 + 1 + 1, 3, none⟩ = some (.int .i64 ((n : Int) + 1)) := a3.cell 3
      have h11 : A1.cell? ⟨g + 1, 0, none⟩ = some (.int .i64 0) := a1.cell 0
      have h12 : A1.cell? ⟨g + 1 + 1, 0, none⟩ = some (.int .i64 0) := a2.cell 0
      have j11 : A1.frozen? ⟨g + 1, 0, none⟩ = false := a1.free 0
      have j12 : A1.frozen? ⟨g + 1 + 1, 0, none⟩ = false := a2.free 0
      clear HA1 d0 d1 d2 d3 d4 g0 g1 g2 g3 g4 c53 so1
      refine hK.out _ _ h13 (fun hS => ?_)
      clear hK K hA1
      try simp only [Act.put, List.setIfInBounds_toArray, List.set_cons_zero, List.set_cons_succ]
      refine wpAnyH_ready (rs := [4]) (by kernel_rfl) (by simp) (consL rfl (fun K hK => ?_) AllReadyH.nil)
      go_simp
      have b0 := a0.set_other (p := ⟨g + 1, 0, none⟩) (by show g ≠ g + 1; omega) (.int .i64 ((n : Int) + 1))
      have b1 := a1.set 0 (.int .i64 ((n : Int) + 1))
      have b2 := a2.set_other (p := ⟨g + 1, 0, none⟩) (by show g + 2 ≠ g + 1; omega) (.int .i64 ((n : Int) + 1))
      have b3 := a3.set_other (p := ⟨g + 1, 0, none⟩) (by show g + 3 ≠ g + 1; omega) (.int .i64 ((n : Int) + 1))
      refine hK.out _ _ (b3.cell 3) (fun hS => ?_)
      clear hK K
      try simp only [Act.put, List.setIfInBounds_toArray, List.set_cons_zero, List.set_cons_succ]
      refine wpAnyH_ready (rs := [5]) (by kernel_rfl) (by simp) (consL rfl (fun K hK => ?_) AllReadyH.nil)
      go_simp
      refine hK.out _ _ ((b3.set_other (p := ⟨g + 2, 0, none⟩) (by show g + 3 ≠ g + 2; omega) (.int .i64 7)).cell 3) (fun _ => wpAnyH_done (by kernel_rfl) ?_ _)
      clear hK K
      try simp only [Act.put, List.setIfInBounds_toArray, List.set_cons_zero, List.set_cons_succ]
      gi_wp2
      refine ⟨aK.trans (((KeepsOthers.setCell _ _ _).trans (KeepsOthers.setCell _ _ _)).from _), rfl, HX.out, ((aB.setCell (p := ⟨g + 1, 0, none⟩) (by show w.heap.size ≤ g + 1; omega) _).setCell (p := ⟨g + 2, 0, none⟩) (by show w.heap.size ≤ g + 2; omega) _), b0.set_other (p := ⟨g + 2, 0, none⟩) (by show g ≠ g + 2; omega) _, ?_, b2.set 0 _⟩
      have hpl2 : (((pre ++ [x]).length : Nat) : Int) = (n : Int) + 1 := by rw [HN.out, List.length_append]; simp
      rw [hpl2]
      exact b1.set_other (p := ⟨g + 2, 0, none⟩) (by show g + 1 ≠ g + 2; omega) _
    | some q =>
      obtain rfl := hq q rfl
      have HX := Lib.hid (show rdRaws st0 (txs (pre ++ [x])) = .inr ⟨C', R', l', n + 1, un'⟩ by rw [hpx, HONE.out])
      gi_wp2
      exact ⟨hkf, hku, hB5, m0, m1, m2, ⟨u, mu⟩, _, v', HX.out, q5, qO⟩
  case done =>
    rintro D ys W hD hys hI hKD
    obtain ⟨st, v8, hst, x3, hO8⟩ := hI.row
    rw [hys] at hst
    have HE2 := Lib.hid (show p = parseR (.inr st) by rw [HE.out, hst])
    have hnb : st.n ≤ 100000 := by
      rw [rdRaws_n hst]
      have h2 := linesP_length (splitOn 10 s.data.toList)
      have h3 := splitOn_len 10 s.data.toList
      have h4 := HSL.out
      show 0 + (linesP (splitOn 10 s.data.toList)).length ≤ _
      omega
    have hlb : st.l.length ≤ 100000 := by
      have h := rd_bound hst (r := []) (by rw [List.append_nil])
      have h4 := HSL.out
      omega
    obtain ⟨C, R, l, n, un⟩ := st
    change BoxAt W (g + 3) (rdCells C R v8 n un) 94 at x3
    change OwnR 4 57 Cell.l W w.heap.size v8 l at hO8
    change n ≤ 100000 at hnb
    change l.length ≤ 100000 at hlb
    have x0 := hI.x0
    have x1 := hI.x1
    have x2 := hI.x2
    have xB := hI.low
    have hmk : Marks (g + 3) [D] W := (Marks.nil _ _).cons (by omega) hKD List.not_mem_nil
    have c33 : W.cell? ⟨g + 1 + 1 + 1, 3, none⟩ = some (.int .i64 (n : Int)) := x3.cell 3
    have c31 : W.cell? ⟨g + 1 + 1 + 1, 1, none⟩ = some (.int .i64 R) := x3.cell 1
    have c34 : W.cell? ⟨g + 1 + 1 + 1, 4, none⟩ = some (.bool un) := x3.cell 4
    have d0 := x0.cell 0
    have d1 := x0.cell 1
    have d2 := x0.cell 2
    have d3 := x1.cell 0
    have d4 : W.cell? ⟨g + 1 + 1, 0, none⟩ = some (.int .i64 0) := x2.cell 0
    have g0 := x0.free 0
    have g1 := x0.free 1
    have g2 := x0.free 2
    have g3 := x1.free 0
    have g4 : W.frozen? ⟨g + 1 + 1, 0, none⟩ = false := x2.free 0
    simp at d0 d1 d2 d3
    clear hI hst hys
    by_cases h1 : (n : Int) - 1 = R
    · have hb1 : ((n : Int) - 1 != R) = false := by simpa using h1
      cases un with
      | true =>
        have HF := Lib.hid (show p = ⟨0, 0, [], 0, 10⟩ by rw [HE2.out]; exact if_pos (Or.inr rfl))
        have f5 := five x0 x1 x2 xB (by omega) 0 0 (.slice none 0 0) 0 10
        clear h1
        gi_wp2
        exact pp_leave hg [D] _ p none 0 0 (fun w' h0 h1 h2 h3 h4 => by simp [results, Tryz.results9, go_sem, h0, h1, h2, h3, h4]) ((Marks.nil _ _).cons (by omega) ((f5.2.2.2.2 D (by omega)).trans hKD) List.not_mem_nil) (by rw [HF.out]; exact f5.1) (by rw [HF.out]; exact f5.2.1) (by rw [HF.out]; exact f5.2.2.1) f5.2.2.2.1 (by rw [HF.out]; rfl) (fun w' _ _ => by rw [HF.out]; exact RowsAt.nil _ _) (fun _ => rfl)
      | false =>
        obtain ⟨a8, c8, rfl, hrow, hlc, hcm, hn8, -⟩ := hO8.rows cell_l
        have hCS := checkScheme_any C R a8 l c8 W hrow (by omega)
        have hE3 : p = if (checkSc C R l).2 ≠ 0 then ⟨0, 0, [], 0, (checkSc C R l).2⟩ else ⟨C, R, l, 0, 0⟩ := by
          rw [HE2.out]; exact if_neg (by rw [not_or]; exact ⟨fun h => h h1, by simp⟩)
        obtain ⟨ck, hck⟩ : ∃ ck, ck = checkSc C R l := ⟨_, rfl⟩
        rw [← hck] at hCS hE3
        obtain ⟨k1, k2⟩ := ck
        have HCS := Lib.hid hCS
        have c30 : W.cell? ⟨g + 1 + 1 + 1, 0, none⟩ = some (.int .i64 C) := x3.cell 0
        have c32 : W.cell? ⟨g + 1 + 1 + 1, 2, none⟩ = some (.slice a8 l.length c8) := x3.cell 2
        obtain ⟨m, hm⟩ : ∃ m, m = l.length := ⟨_, rfl⟩
        rw [← hm] at c32
        have HM := Lib.hid hm
        clear hCS h1 hck hrow hcm
        by_cases h2 : k2 = 0
        · have HF := Lib.hid (show p = ⟨C, R, l, 0, 0⟩ by rw [hE3]; exact if_neg (fun h => h h2))
          subst h2
          clear hE3 hm
          gi_wp2
          refine ⟨trivial, ?_⟩
          refine (callsIn_wide.2 (by rw [HM.out]; exact HCS.out)).mono ?_
          rintro e W2 ⟨rfl, hb2⟩
          have o0 := x0.below hb2
          have o1 := x1.below hb2
          have o2 := x2.below hb2
          have o3 := x3.below hb2
          have oB := xB.trans (hb2.mono xB.size)
          have oO := hO8.below hb2
          have oD := (hb2.block _ (heap_lt hKD)).trans hKD
          have f5 := five o0 o1 o2 oB (by omega) C R (.slice a8 m c8) 0 0
          have n0 := own_ne oO o0 (by decide)
          have n1 := own_ne oO o1 (by decide)
          have n2 := own_ne oO o2 (by decide)
          have fO := oO.same (w' := F5 W2 g C R (.slice a8 m c8) 0 0) (fun q e => f5.2.2.2.2 q (by
            have h1 := (oO.lt q e).1
            have h2 : q ≠ g := fun h => n0 (by rw [← h]; exact e)
            have h3 : q ≠ g + 1 := fun h => n1 (by rw [← h]; exact e)
            have h4 : q ≠ g + 2 := fun h => n2 (by rw [← h]; exact e)
            omega))
          have e0 := o0.cell 0
          have e1 := o0.cell 1
          have e2 := o0.cell 2
          have e3 := o1.cell 0
          have e4 : W2.cell? ⟨g + 1 + 1, 0, none⟩ = some (.int .i64 0) := o2.cell 0
          have i0 := o0.free 0
          have i1 := o0.free 1
          have i2 := o0.free 2
          have i3 := o1.free 0
          have i4 : W2.frozen? ⟨g + 1 + 1, 0, none⟩ = false := o2.free 0
          have j0 : W2.cell? ⟨g + 1 + 1 + 1, 0, none⟩ = some (.int .i64 C) := o3.cell 0
          have j1 : W2.cell? ⟨g + 1 + 1 + 1, 1, none⟩ = some (.int .i64 R) := o3.cell 1
          have j2 : W2.cell? ⟨g + 1 + 1 + 1, 2, none⟩ = some (.slice a8 m c8) := by rw [HM.out]; exact o3.cell 2
          simp at e0 e1 e2 e3
          gi_wp2
          have hmk5 : Marks (g + 3) [D] (F5 W2 g C R (.slice a8 m c8) 0 0) := (Marks.nil _ _).cons (by omega) ((f5.2.2.2.2 D (by omega)).trans oD) List.not_mem_nil
          exact pp_leave hg [D] _ p a8 m c8 (fun w' h0 h1 h2 h3 h4 => by simp [results, Tryz.results9, go_sem, h0, h1, h2, h3, h4]) hmk5 (by rw [HF.out]; exact f5.1) (by rw [HF.out]; exact f5.2.1) (by rw [HF.out]; exact f5.2.2.1) f5.2.2.2.1 (by rw [HF.out]; exact HM.out) (fun w' h1 h2 => by rw [HF.out]; rw [HM.out] at fO hmk5 h2; exact own_later fO hmk5 h2) hn8
        · have HF := Lib.hid (show p = ⟨0, 0, [], 0, k2⟩ by rw [hE3]; exact if_pos h2)
          have hk2b : (k2 != 0) = true := by simpa using h2
          clear hE3 hm h2
          gi_wp2
          refine ⟨trivial, ?_⟩
          refine (callsIn_wide.2 (by rw [HM.out]; exact HCS.out)).mono ?_
          rintro e W2 ⟨rfl, hb2⟩
          have o0 := x0.below hb2
          have o1 := x1.below hb2
          have o2 := x2.below hb2
          have oB := xB.trans (hb2.mono xB.size)
          have oD := (hb2.block _ (heap_lt hKD)).trans hKD
          have f5 := five o0 o1 o2 oB (by omega) 0 0 (.slice none 0 0) 0 k2
          have e0 := o0.cell 0
          have e1 := o0.cell 1
          have e2 := o0.cell 2
          have e3 := o1.cell 0
          have e4 : W2.cell? ⟨g + 1 + 1, 0, none⟩ = some (.int .i64 0) := o2.cell 0
          have i0 := o0.free 0
          have i1 := o0.free 1
          have i2 := o0.free 2
          have i3 := o1.free 0
          have i4 : W2.frozen? ⟨g + 1 + 1, 0, none⟩ = false := o2.free 0
          simp at e0 e1 e2 e3
          gi_wp2
          exact pp_leave hg [D] _ p none 0 0 (fun w' h0 h1 h2 h3 h4 => by simp [results, Tryz.results9, go_sem, h0, h1, h2, h3, h4]) ((Marks.nil _ _).cons (by omega) ((f5.2.2.2.2 D (by omega)).trans oD) List.not_mem_nil) (by rw [HF.out]; exact f5.1) (by rw [HF.out]; exact f5.2.1) (by rw [HF.out]; exact f5.2.2.1) f5.2.2.2.1 (by rw [HF.out]; rfl) (fun w' _ _ => by rw [HF.out]; exact RowsAt.nil _ _) (fun _ => rfl)
    · have HF := Lib.hid (show p = ⟨0, 0, [], 0, 10⟩ by rw [HE2.out]; exact if_pos (Or.inl h1))
      have hb1 : ((n : Int) - 1 != R) = true := by simpa using h1
      have f5 := five x0 x1 x2 xB (by omega) 0 0 (.slice none 0 0) 0 10
      clear h1
      gi_wp2
      exact pp_leave hg [D] _ p none 0 0 (fun w' h0 h1 h2 h3 h4 => by simp [results, Tryz.results9, go_sem, h0, h1, h2, h3, h4]) ((Marks.nil _ _).cons (by omega) ((f5.2.2.2.2 D (by omega)).trans hKD) List.not_mem_nil) (by rw [HF.out]; exact f5.1) (by rw [HF.out]; exact f5.2.1) (by rw [HF.out]; exact f5.2.2.1) f5.2.2.2.1 (by rw [HF.out]; rfl) (fun w' _ _ => by rw [HF.out]; exact RowsAt.nil _ _) (fun _ => rfl)
  case stop =>
    rintro D c pre W hD ⟨r, hr⟩ ⟨rfl, hcn, hB9, q0, q1, q2⟩ hKD
    have HF := Lib.hid (show p = ⟨0, 0, [], pre.length, 7⟩ by rw [HE.out, ← hr, rdRaws_app, hcn]; rfl)
    clear hr hcn
    gi_wp2
    exact pp_leave hg [D] _ p none 0 0 (fun w' h0 h1 h2 h3 h4 => by simp [results, Tryz.results9, go_sem, h0, h1, h2, h3, h4]) ((Marks.nil _ _).cons (by omega) hKD List.not_mem_nil) (by rw [HF.out]; exact q0) (by rw [HF.out]; exact q1) (by rw [HF.out]; exact q2) hB9 (by rw [HF.out]; rfl) (fun w' _ _ => by rw [HF.out]; exact RowsAt.nil _ _) (fun _ => rfl)
end Go.Proofs.YtgoandhlcekmiaaGreatDoor
