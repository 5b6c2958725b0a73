/-
  Package impose: readLine.
-/
import Derived.Test.YtgoandhlcekmiaaGreatDoorKU
import Derived.Test.YtgoandhlcekmiaaGreatDoorKV
import Derived.Test.YtgoandhlcekmiaaGreatDoorKT
import Derived.Test.YtgoandhlcekmiaaGreatDoorKF
namespace Go.Proofs.YtgoandhlcekmiaaGreatDoor
open Go.RowKit Go.Shelf
attribute [local go_sem] Oper.semAt_some

abbrev rdCells (C R : Int) (v : Value) (n : Nat) (un : Bool) : Array Value := #[.int .i64 C, .int .i64 R, v, .int .i64 (n : Int), .bool un]
/-- All blocks that were there are as they were, but b5 and that of the row v. -/
structure KB (w W : World) (b5 : Nat) (v : Value) : Prop where
  size : w.heap.size ≤ W.heap.size
  block : ∀ k, k < w.heap.size → k ≠ b5 → v.ownBlock ≠ some k → W.heap[k]? = w.heap[k]?
section
variable {w W W' : World} {b5 : Nat} {v : Value}
theorem KB.refl (w : World) (b5 : Nat) (v : Value) : KB w w b5 v := ⟨Nat.le_refl _, fun _ _ _ _ => rfl⟩
theorem KB.below (h : KB w W b5 v) (hb : Below W.heap.size W W') : KB w W' b5 v := ⟨Nat.le_trans h.size hb.size, fun k hk h1 h2 => (hb.block k (Nat.lt_of_lt_of_le hk h.size)).trans (h.block k hk h1 h2)⟩
theorem KB.alloc (h : KB w W b5 v) (o : Obj) : KB w (W.alloc o) b5 v := h.below ((Below.refl _ _).alloc (Nat.le_refl _) o)
theorem KB.drewN (h : KB w W b5 v) (m : Nat) : KB w (W.drewN m) b5 v := ⟨h.size, h.block⟩
theorem KB.drew (h : KB w W b5 v) : KB w W.drew b5 v := ⟨h.size, h.block⟩
theorem KB.set (h : KB w W b5 v) {p : Addr} (hp : p.block = b5 ∨ w.heap.size ≤ p.block) (u : Value) : KB w (W.setCell p u) b5 v :=
  ⟨by rw [World.size_setCell]; exact h.size, fun k hk h1 h2 => (Below.heap_setCell _ _ _ _ (fun e => by rcases hp with hp | hp <;> omega)).trans (h.block k hk h1 h2)⟩
theorem KB.grown (h : KB w W b5 v) {row : Option Nat} (hg : W.grownBy W' row) (hr : ∀ q, row = some q → v.ownBlock = some q ∨ w.heap.size ≤ q) : KB w W' b5 v :=
  ⟨Nat.le_trans h.size hg.size, fun k hk h1 h2 => (hg.block k (Nat.lt_of_lt_of_le hk h.size) (fun e => by
    rcases hr k e.symm with h3 | h3
    · exact h2 h3
    · omega)).trans (h.block k hk h1 h2)⟩
end
/-- What a line leaves. -/
def RLPost (w0 w : World) (b5 : Nat) (v0 : Value) (n : Nat) (o : Option RdS) (e : Ending) (w' : World) : Prop :=
  e = .returned (.bool o.isSome) ∧ Below w0.heap.size w0 w' ∧ KB w w' b5 v0 ∧ ∃ (C R : Int) (v : Value) (un : Bool) (l : List Cell), BoxAt w' b5 (rdCells C R v n un) 94 ∧ OwnR 4 57 Cell.l w' w0.heap.size v l ∧ ∀ s, o = some s → s = ⟨C, R, l, n, un⟩
theorem nums_four (o : Option (List Int)) (h : ∀ L, o = some L → L.length = 4) : o = none ∨ ∃ a b c d, o = some [a, b, c, d] := by
  cases o with
  | none => exact Or.inl rfl
  | some L => obtain ⟨a, b, c, d, rfl⟩ := four_of (h L rfl); exact Or.inr ⟨a, b, c, d, rfl⟩
theorem nums_two (o : Option (List Int)) (h : ∀ L, o = some L → L.length = 2) : o = none ∨ ∃ a b, o = some [a, b] := by
  cases o with
  | none => exact Or.inl rfl
  | some L => obtain ⟨a, b, rfl⟩ := two_of (h L rfl); exact Or.inr ⟨a, b, rfl⟩
theorem OwnR.same {α : Type} {n : Nat} {E : TypeId} {g : α → List Int} {w w' : World} {B : Nat} {v : Value} {L : List α} (h : OwnR n E g w B v L) (hq : ∀ q, v.ownBlock = some q → w'.heap[q]? = w.heap[q]?) : OwnR n E g w' B v L := by
  rcases h.2 with ⟨e1, e2⟩ | ⟨gg, cap, cur, e1, e2, e3, e4⟩
  · exact ⟨h.1, Or.inl ⟨e1, e2⟩⟩
  · exact ⟨h.1, Or.inr ⟨gg, cap, cur, e1, e2, (hq gg (by rw [e1]; rfl)).trans e3, e4⟩⟩
theorem addS {a : Addr} {j : Nat} (h : j ≠ 0) : a.add j = ⟨a.block, a.off + j, none⟩ := by unfold Addr.add; rw [if_neg h]
theorem addZ (a : Addr) : a.add 0 = a := by unfold Addr.add; rw [if_pos rfl]
/-- How the call is left. -/
theorem rl_leave {F : Fence} {N : Nat} {tmps : Array Value} {w0 w : World} {v0 : Value} {b5 g n : Nat} {o : Option RdS} (Ds : List Nat) (V : World) (rb : Bool) (hres : ∀ w' : World, w'.cell? ⟨g + 1, 0, none⟩ = some (.bool rb) → (results Tryz.f34 tmps).run Tryz.prog w' = .ok (.bool rb) w') (hmk : Marks (g + 2) Ds V) (hrb : rb = o.isSome)
    (r1 : BoxAt V (g + 1) #[.bool rb] 4) (hg0 : w0.heap.size ≤ g) (hB : Below w0.heap.size w0 V) (C R : Int) (v : Value) (un : Bool) (l : List Cell) (r5 : BoxAt V b5 (rdCells C R v n un) 94) (hlt : b5 < g) (hO : OwnR 4 57 Cell.l V w0.heap.size v l)
    (hst : ∀ s, o = some s → s = ⟨C, R, l, n, un⟩) (hwg : w.heap.size ≤ g) (hkb : KB w V b5 v0) : LeavesInM F N Tryz.prog Tryz.f34 tmps (RLPost w0 w b5 v0 n o) (marksOf Ds) .returning V :=
  leaves_marks (B := g + 2) (v := .bool rb) Ds V hmk fun w' hs hk hb => by
    refine ⟨hres w' ?_, by rw [hrb], hB.trans (hb.mono (by omega)), ⟨Nat.le_trans hkb.size hs, fun k h1 h2 h3 => (hk k (Nat.lt_of_lt_of_le h1 hkb.size) (fun hm => by have := (hmk.at_ k hm).1; omega)).trans (hkb.block k h1 h2 h3)⟩, C, R, v, un, l, (hb.block _ (by omega)).trans r5, hO.same fun q e => ?_, hst⟩
    · have : BoxAt w' (g + 1) #[.bool rb] 4 := (hb.block _ (by omega)).trans r1
      rw [this.cell 0]; rfl
    · obtain ⟨cs, hc⟩ := own_block hO q e
      exact hk q (heap_lt hc) (fun hm => by
        have h2 := (hmk.at_ q hm).2
        rw [hc] at h2; cases h2)
/-- Between two words of a line. -/
structure RI (w0 w : World) (v : Value) (b5 g n : Nat) (C R : Int) (un : Bool) (l : List Cell) (pre : List TxS) (W : World) : Prop where
  low : Below w0.heap.size w0 W
  x0 : BoxAt W g #[.pointer (some ⟨b5, 0, none⟩)] 134
  x1 : BoxAt W (g + 1) #[.bool false] 4
  x2 : BoxAt W (g + 2) #[.int .i64 (pre.length : Int)] 3
  xs : ∃ u, BoxAt W (g + 3) #[u] 9
  xp : BoxAt W (g + 4) #[.string ⟨#[32]⟩] 9
  xz : BoxAt W (g + 5) #[.int .i64 0] 3
  kp : KB w W b5 v
  row : ∃ (cs : List Cell) (v8 : Value), cellsR (txs pre) = some cs ∧ BoxAt W b5 (rdCells C R v8 n un) 94 ∧ OwnR 4 57 Cell.l W w0.heap.size v8 (l ++ cs) ∧ (v8.ownBlock = v.ownBlock ∨ ∀ q, v8.ownBlock = some q → w.heap.size ≤ q)
/-- Where a word was wrong. -/
def RX (w0 w : World) (v : Value) (b5 g n : Nat) (C R : Int) (un : Bool) (c : Code) (pre : List TxS) (W : World) : Prop :=
  c = .ret ∧ cellsR (txs pre) = none ∧ Below w0.heap.size w0 W ∧ BoxAt W (g + 1) #[.bool false] 4 ∧ KB w W b5 v ∧ ∃ (v : Value) (l : List Cell), BoxAt W b5 (rdCells C R v n un) 94 ∧ OwnR 4 57 Cell.l W w0.heap.size v l
section
variable {w0 w : World} {v0 : Value} {b5 g n B : Nat} {C R : Int} {un : Bool} {l : List Cell}
theorem RI.own (hB : w0.heap.size ≤ B) (hw : w.heap.size ≤ B) : OwnFrom B (RI w0 w v0 b5 g n C R un l) := fun pre X Y row hs hg hr => by
  have hr2 : ∀ r, row = some r → ∃ o : Obj, X.heap[r]? = some o ∧ o.isCells = false := fun r e => (hr r e).2
  obtain ⟨u, hu⟩ := hs.xs
  obtain ⟨cs, v, h1, h2, h3, h4⟩ := hs.row
  exact ⟨hs.low.grown hg hs.low.size (fun r e => by have := (hr r e).1; omega), box_kept hs.x0 hg hr2, box_kept hs.x1 hg hr2, box_kept hs.x2 hg hr2, ⟨u, box_kept hu hg hr2⟩, box_kept hs.xp hg hr2, box_kept hs.xz hg hr2, hs.kp.grown hg (fun q e => Or.inr (by have := (hr q e).1; omega)), cs, v, h1, box_kept h2 hg hr2, h3.kept hg hr2, h4⟩
theorem RX.own (hB : w0.heap.size ≤ B) (hw : w.heap.size ≤ B) (c : Code) : OwnFrom B (RX w0 w v0 b5 g n C R un c) := fun pre X Y row hs hg hr => by
  have hr2 : ∀ r, row = some r → ∃ o : Obj, X.heap[r]? = some o ∧ o.isCells = false := fun r e => (hr r e).2
  obtain ⟨h1, h2, h3, h4, h7, v, l', h5, h6⟩ := hs
  exact ⟨h1, h2, h3.grown hg h3.size (fun r e => by have := (hr r e).1; omega), box_kept h4 hg hr2, h7.grown hg (fun q e => Or.inr (by have := (hr q e).1; omega)), v, l', box_kept h5 hg hr2, h6.kept hg hr2⟩
theorem RI.moved (h0 : w0.heap.size ≤ g) (hw : w.heap.size ≤ g) (hlt : b5 < g) : ∀ s X Y, RI w0 w v0 b5 g n C R un l s X → MvB (g + 3) X Y → RI w0 w v0 b5 g n C R un l s Y := fun s X Y hs ⟨u, hu⟩ => by
  subst hu
  obtain ⟨u0, hu0⟩ := hs.xs
  obtain ⟨cs, v, h1, h2, h3, h4⟩ := hs.row
  exact ⟨hs.low.setCell (p := ⟨g + 3, 0, none⟩) (by show w0.heap.size ≤ g + 3; omega) u, hs.x0.set_other (by show g ≠ g + 3; omega) u, hs.x1.set_other (by show g + 1 ≠ g + 3; omega) u, hs.x2.set_other (by show g + 2 ≠ g + 3; omega) u, ⟨u, hu0.set 0 u⟩, hs.xp.set_other (by show g + 4 ≠ g + 3; omega) u, hs.xz.set_other (by show g + 5 ≠ g + 3; omega) u, hs.kp.set (Or.inr (by show w.heap.size ≤ g + 3; omega)) u, cs, v, h1, h2.set_other (by show b5 ≠ g + 3; omega) u, h3.set (p := ⟨g + 3, 0, none⟩) (own_ne h3 hu0 (by decide)) u, h4⟩
end
set_option maxRecDepth 100000 in
set_option maxHeartbeats 1600000 in
theorem readLine_any (w0 : World) (b5 : Nat) (C R : Int) (v : Value) (l : List Cell) (n : Nat) (un : Bool) (s : ByteArray) (w : World) (hP : WF w0) (hB0 : Below w0.heap.size w0 w) (hb5 : w0.heap.size ≤ b5) (bx : BoxAt w b5 (rdCells C R v n un) 94) (hO : OwnR 4 57 Cell.l w w0.heap.size v l) (hs : s.size ≤ 100000) (hl : l.length ≤ 200000) (hn : n ≤ 200000) :
    Calls Tryz.prog 34 #[.pointer (some ⟨b5, 0, none⟩), .string s] w (RLPost w0 w b5 v n (rdRaw ⟨C, R, l, n, un⟩ s.data.toList)) := by
  obtain ⟨g, hg⟩ : ∃ g, w.heap.size = g := ⟨_, rfl⟩
  obtain ⟨W0, hW0⟩ : ∃ W0, W0 = (w.alloc (.cells #[.pointer (some ⟨b5, 0, none⟩)] 134)).alloc (.cells #[.bool false] 4) := ⟨_, rfl⟩
  have z0 : W0.heap.size = g + 2 := by rw [hW0]; simp; omega
  have hlt5 := bx.lt
  have r0 : BoxAt W0 g #[.pointer (some ⟨b5, 0, none⟩)] 134 := by rw [hW0, ← hg]; exact (BoxAt.new _ _ _).alloc _
  have r1 : BoxAt W0 (g + 1) #[.bool false] 4 := by
    have h := BoxAt.new (w.alloc (.cells #[.pointer (some ⟨b5, 0, none⟩)] 134)) #[.bool false] 4
    rw [World.size_alloc, hg, ← hW0] at h; exact h
  have r5 : BoxAt W0 b5 (rdCells C R v n un) 94 := by rw [hW0]; exact (bx.alloc _).alloc _
  have hO0 : OwnR 4 57 Cell.l W0 w0.heap.size v l := by rw [hW0]; exact (hO.alloc _).alloc _
  have hB : Below w0.heap.size w0 W0 := by rw [hW0]; exact (hB0.alloc hB0.size _).alloc (by have := hB0.size; simp; omega) _
  have hK0 : KB w W0 b5 v := by rw [hW0]; exact ((KB.refl _ _ _).alloc _).alloc _
  have hwg : w.heap.size ≤ g := by omega
  have hg0 : w0.heap.size ≤ g := by have := hB0.size; omega
  have hlt : b5 < g := by omega
  obtain ⟨o, ho⟩ : ∃ o, o = rdRaw ⟨C, R, l, n, un⟩ s.data.toList := ⟨_, rfl⟩
  rw [← ho]
  obtain ⟨t, ht⟩ : ∃ t : ByteArray, t = bs (Lib.trimSuffix s.data.toList [10]) := ⟨_, rfl⟩
  have htl : t.data.toList = Lib.trimSuffix s.data.toList [10] := by rw [ht]; rfl
  have hts : t.size ≤ 100000 := by
    have e : t.size = (Lib.trimSuffix s.data.toList [10]).length := by rw [ht, bs_size]
    have e2 : s.data.toList.length = s.size := Array.length_toList
    have e3 : (Lib.trimSuffix s.data.toList [10]).length ≤ s.data.toList.length := by
      unfold Lib.trimSuffix; split
      · rw [List.length_take]; omega
      · exact Nat.le_refl _
    omega
  have HCS := Lib.hid (fun W => Tryz.strings_CutSuffix s ⟨#[10]⟩ W (by omega))
  have HCT : Hid (∀ W, Calls Tryz.prog 64 #[.string s, .string ⟨#[10]⟩] W fun e w' => e = .returned (.tuple #[.string t, .bool (Lib.hasSuffix s.data.toList [10])]) ∧ w' = W) := Lib.hid (fun W => (HCS.out W).mono fun e w' h => ⟨by rw [h.1, ht]; rfl, h.2⟩)
  clear HCS bx hO hB0 ht
  have HW0 := Lib.hid hW0
  have HG := Lib.hid hg
  have HK0 := Lib.hid hK0
  clear hW0 hg hlt5 hK0
  refine (callsIn_wide (n := 9)).1 ?_
  refine callsIn_of_wp_marks Tryz.func34 rfl trivial ?_ rfl
  simp only [Tryz.ntmps34, List.size_toArray, List.length_cons, List.length_nil, Nat.reduceAdd, Nat.reduceSub, Array.replicate_succ, Array.replicate_zero, List.push_toArray, List.append_toArray, List.nil_append, List.cons_append]
  cases hsuf : Lib.hasSuffix s.data.toList [10]
  · rw [hsuf] at HCT
    have HO := Lib.hid (show o = none by rw [ho]; unfold rdRaw; rw [if_neg (by rw [hsuf]; decide)])
    clear hsuf
    have f1 := r1.free 0
    have k1 := r1.cell 0
    have q1 := r1.set 0 (.bool false)
    have hBs := hB.setCell (p := ⟨g + 1, 0, none⟩) (by show w0.heap.size ≤ g + 1; omega) (.bool false)
    have hOs := hO0.set (p := ⟨g + 1, 0, none⟩) (own_ne hO0 r1 (by decide)) (.bool false)
    have q5 := r5.set_other (p := ⟨g + 1, 0, none⟩) (by show b5 ≠ g + 1; omega) (.bool false)
    simp at k1
    gi_wp2
    rw [← HW0.out, HG.out]
    refine ⟨trivial, ?_⟩
    refine (callsIn_wide.2 (HCT.out _)).mono ?_
    rintro e w1 ⟨rfl, rfl⟩
    gi_wp2
    exact rl_leave [] _ false (fun w' h => by simp [results, Tryz.results34, go_sem, h]) (Marks.nil _ _) (by rw [HO.out]; rfl) q1 hg0 hBs C R v un l q5 hlt hOs (fun s' h => by rw [HO.out] at h; cases h) hwg (HK0.out.set (p := ⟨g + 1, 0, none⟩) (Or.inr (by show w.heap.size ≤ g + 1; omega)) _)
  · rw [hsuf] at HCT
    have HO := Lib.hid (show o = rdLine ⟨C, R, l, n, un⟩ t.data.toList by rw [ho]; unfold rdRaw; rw [if_pos hsuf, htl])
    clear hsuf ho htl
    have c0 := r0.cell 0
    have c3 := r5.cell 3
    simp [rdCells] at c0 c3
    have f1 := r1.free 0
    by_cases h1 : n = 1
    · subst h1
      have HN := Lib.hid (numbersOf_any t 32 2 W0 (by omega) (by decide) (hP.below hB))
      have HO1 := Lib.hid (show o = match numsM 32 2 t.data.toList with | some [a, b] => some ⟨a, b, l, 1, un⟩ | _ => none by rw [HO.out]; unfold rdLine; rw [if_pos rfl]; rfl)
      rcases nums_two (numsM 32 2 t.data.toList) (fun L h => numsM_len h) with hm | ⟨a, b, hm⟩
      · rw [hm] at HN
        have HZ := Lib.hid (show o = none by rw [HO1.out, hm])
        clear hm HO1 HO
        gi_wp2
        rw [← HW0.out, HG.out]
        refine ⟨trivial, ?_⟩
        refine (callsIn_wide.2 (HCT.out _)).mono ?_
        rintro e w1 ⟨rfl, rfl⟩
        gi_wp2
        refine ⟨trivial, ?_⟩
        refine (callsIn_wide.2 HN.out).mono ?_
        rintro e w2 ⟨a2, n2, c2, D, rfl, -, -, -, -, hb2⟩
        have hB2 := hB.trans (hb2.mono hB.size)
        have x1 := r1.below hb2
        have x5 := r5.below hb2
        have hO2 := hO0.below hb2
        have y1 := x1.cell 0
        have g1 := x1.free 0
        simp at y1
        gi_wp2
        exact rl_leave [] _ false (fun w' h => by simp [results, Tryz.results34, go_sem, h]) (Marks.nil _ _) (by rw [HZ.out]; rfl) (x1.set 0 (.bool false)) hg0 (hB2.setCell (p := ⟨g + 1, 0, none⟩) (by show w0.heap.size ≤ g + 1; omega) (.bool false)) C R v un l (x5.set_other (p := ⟨g + 1, 0, none⟩) (by show b5 ≠ g + 1; omega) (.bool false)) hlt (hO2.set (p := ⟨g + 1, 0, none⟩) (own_ne hO2 x1 (by decide)) (.bool false)) (fun s' h => by rw [HZ.out] at h; cases h) hwg ((HK0.out.below hb2).set (p := ⟨g + 1, 0, none⟩) (Or.inr (by show w.heap.size ≤ g + 1; omega)) _)
      · rw [hm] at HN
        have HZ := Lib.hid (show o = some ⟨a, b, l, 1, un⟩ by rw [HO1.out, hm])
        clear hm HO1 HO
        gi_wp2
        rw [← HW0.out, HG.out]
        refine ⟨trivial, ?_⟩
        refine (callsIn_wide.2 (HCT.out _)).mono ?_
        rintro e w1 ⟨rfl, rfl⟩
        gi_wp2
        refine ⟨trivial, ?_⟩
        refine (callsIn_wide.2 HN.out).mono ?_
        rintro e w2 ⟨a2, n2, c2, D, rfl, hD, hn2, hr2, -, hb2⟩
        obtain rfl := hD _ rfl
        obtain rfl : n2 = 2 := hn2
        have hB2 := hB.trans (hb2.mono hB.size)
        have x0 := r0.below hb2
        have x1 := r1.below hb2
        have x5 := r5.below hb2
        have hO2 := hO0.below hb2
        have y0 := x0.cell 0
        have y1 := x1.cell 0
        have g1 := x1.free 0
        have g50 := x5.free 0
        have g51 := x5.free 1
        have y50 := x5.cell 0
        have y51 := x5.cell 1
        simp [rdCells] at y0 y1 y50 y51
        obtain ⟨ad, rfl, had, s0⟩ := hr2.int (k := 0) (by simp)
        obtain ⟨_, e9, -, s1⟩ := hr2.int (k := 1) (by simp)
        cases e9
        rw [addZ] at s0
        rw [addS (by decide)] at s1
        simp at s0 s1
        gi_wp2
        refine wpIn_wide.2 ?_
        go_region
        have ne1 : ¬ g + 1 = b5 := by omega
        have ne2 : ¬ b5 = g + 1 := by omega
        have z1 := (x1.set_other (p := ⟨b5, 0, none⟩) (by show g + 1 ≠ b5; omega) (.int .i64 a)).set_other (p := ⟨b5, 1, none⟩) (by show g + 1 ≠ b5; omega) (.int .i64 b)
        have z5 := (x5.set 0 (.int .i64 a)).set 1 (.int .i64 b)
        have zO := (hO2.set (p := ⟨b5, 0, none⟩) (own_ne hO2 x5 (by decide)) (.int .i64 a))
        have zO2 := zO.set (p := ⟨b5, 1, none⟩) (own_ne zO (x5.set 0 (.int .i64 a)) (by decide)) (.int .i64 b)
        have zB := (hB2.setCell (p := ⟨b5, 0, none⟩) hb5 (.int .i64 a)).setCell (p := ⟨b5, 1, none⟩) hb5 (.int .i64 b)
        gi_wp2
        exact rl_leave [] _ true (fun w' h => by simp [results, Tryz.results34, go_sem, h]) (Marks.nil _ _) (by rw [HZ.out]; rfl) (z1.drew.set 0 (.bool true)) hg0 (zB.drew.setCell (p := ⟨g + 1, 0, none⟩) (by show w0.heap.size ≤ g + 1; omega) (.bool true)) a b v un l (z5.drew.set_other (p := ⟨g + 1, 0, none⟩) (by show b5 ≠ g + 1; omega) (.bool true)) hlt (zO2.drew.set (p := ⟨g + 1, 0, none⟩) (own_ne zO2.drew z1.drew (by decide)) (.bool true)) (fun s' h => by rw [HZ.out] at h; cases h; rfl) hwg ((((HK0.out.below hb2).set (p := ⟨b5, 0, none⟩) (Or.inl rfl) _).set (p := ⟨b5, 1, none⟩) (Or.inl rfl) _).drew.set (p := ⟨g + 1, 0, none⟩) (Or.inr (by show w.heap.size ≤ g + 1; omega)) _)
    · have hnb : ((n : Int) == 1) = false := by rw [beq_eq_false_iff_ne]; omega
      have HO1 := Lib.hid (show o = match cellsR (splitOn 32 t.data.toList) with | none => none | some cs => some ⟨C, R, l ++ cs, n, un || decide ((cs.length : Int) ≠ C)⟩ by rw [HO.out]; unfold rdLine; rw [if_neg h1]; rfl)
      obtain ⟨V, hV⟩ : ∃ V, V = SqW (W0.alloc (.cells #[.int .i64 0] 3)) t 32 := ⟨_, rfl⟩
      have zV : V.heap.size = g + 6 := by rw [hV]; unfold SqW; simp; omega
      have v2 : BoxAt V (g + 2) #[.int .i64 0] 3 := by
        have h := BoxAt.new W0 #[.int .i64 0] 3
        rw [z0] at h; rw [hV]; exact ((h.alloc _).alloc _).alloc _
      have vs : BoxAt V (g + 3) #[.string t] 9 := by
        have h := BoxAt.new (W0.alloc (.cells #[.int .i64 0] 3)) #[.string t] 9
        rw [World.size_alloc, z0] at h; rw [hV]; exact (h.alloc _).alloc _
      have vp : BoxAt V (g + 4) #[.string ⟨#[32]⟩] 9 := by
        have h := BoxAt.new ((W0.alloc (.cells #[.int .i64 0] 3)).alloc (.cells #[.string t] 9)) #[.string ⟨#[32]⟩] 9
        rw [World.size_alloc, World.size_alloc, z0] at h; rw [hV]; exact h.alloc _
      have vz : BoxAt V (g + 5) #[.int .i64 0] 3 := by
        have h := BoxAt.new (((W0.alloc (.cells #[.int .i64 0] 3)).alloc (.cells #[.string t] 9)).alloc (.cells #[.string ⟨#[32]⟩] 9)) #[.int .i64 0] 3
        rw [World.size_alloc, World.size_alloc, World.size_alloc, z0] at h; rw [hV]; exact h
      have hbV : Below W0.heap.size W0 V := by rw [hV]; exact ((((Below.refl _ _).alloc (Nat.le_refl _) _).alloc (by simp) _).alloc (by simp; omega) _).alloc (by simp; omega) _
      have v0 := r0.below hbV
      have v1 := r1.below hbV
      have v5 := r5.below hbV
      have vO := hO0.below hbV
      have vB := hB.trans (hbV.mono hB.size)
      have vK := HK0.out.below hbV
      have HV := Lib.hid hV
      clear hV h1 HO c0 f1
      have c0 := r0.cell 0
      simp at c0
      gi_wp2
      rw [← HW0.out, HG.out]
      refine ⟨trivial, ?_⟩
      refine (callsIn_wide.2 (HCT.out _)).mono ?_
      rintro e w1 ⟨rfl, rfl⟩
      gi_wp2
      refine ⟨trivial, ?_⟩
      refine (callsIn_wide.2 (splitSeq_any t 32 _)).mono ?_
      rintro e w2 ⟨rfl, rfl⟩
      gi_wp2
      rw [← HV.out]
      have hsize : V.heap.size = g + 6 := zV
      refine wpIn_rangeFunc_mv rfl (by omega) (gf := 99) (lb := #[.pointer (some ⟨g + 2 + 1 + 1, 0, none⟩), .pointer (some ⟨g + 2 + 1, 0, none⟩), .pointer (some ⟨g + 2 + 1 + 1 + 1, 0, none⟩)]) rfl trivial (enters_of Tryz.func99 (by kernel_rfl) rfl)
        (splitSeq_mv t 32 (g + 4) (g + 3) (g + 5) _ V vp vs vz (by omega) (by omega) hts) (fun h k => ⟨k.1.trans h.1, k.2.1.trans h.2.1, k.2.2.trans h.2.2⟩)
        (fun W q o' hq => ⟨World.putObj_heap_other (by omega), World.putObj_heap_other (by omega), World.putObj_heap_other (by omega)⟩) (fun _ => rfl)
        (RI w0 w v b5 g n C R un l) (RX w0 w v b5 g n C R un) (RI.own (by omega) (by omega)) (fun c => RX.own (by omega) (by omega) c) (RI.moved hg0 hwg hlt)
        (fun X Y k hk ⟨u, hu⟩ => by rw [hu]; exact Below.heap_setCell _ _ _ _ (by show k ≠ g + 3; omega))
        ⟨vB, v0, v1, v2, ⟨_, vs⟩, vp, vz, vK, [], v, rfl, v5, by rw [List.append_nil]; exact vO, Or.inl rfl⟩
        (fun x => { tmps := #[.pointer (some ⟨b5, 0, none⟩), .string t, .pointer (some ⟨g, 0, none⟩), undef, .pointer (some ⟨g + 1, 0, none⟩), .bool true, undef, undef, .pointer (some ⟨g + 2, 0, none⟩), .string x.1, undef, undef, undef, .tuple #[.string t, .bool true], .string s, .tuple #[.string t, .bool true], .string t, .bool true, .bool true, .bool false, .pointer (some ⟨b5, 0, none⟩), .pointer (some ⟨b5, 0, none⟩), .pointer (some ⟨b5, 3, none⟩), .int .i64 (n : Int), .bool false, undef, undef, undef, undef, undef, undef, undef, undef, undef, undef, undef, undef, undef, undef, undef, undef, undef, undef, undef, undef, undef, .string t, .func (.func 99) #[] #[.pointer (some ⟨g + 2 + 1 + 1, 0, none⟩), .pointer (some ⟨g + 2 + 1, 0, none⟩), .pointer (some ⟨g + 2 + 1 + 1 + 1, 0, none⟩)], .string x.1, undef, undef, undef, undef, undef, undef, undef, undef, undef, undef, undef, undef, undef, undef, undef, undef, undef, undef, undef, undef, undef, undef, undef, undef, undef, undef, undef, undef, undef, undef, undef, undef, undef, undef, undef, undef, undef, undef, undef, undef, undef, undef, undef, undef], defers := [] }) ?assign ?body ?done ?stop
      case assign =>
        intro l x W K hK
        gi_wp2
        exact hK
      case body =>
        intro lo pre x W hI hpl _
        have hb5' : w0.heap.size ≤ b5 := hb5
        have HNB := Lib.hid (numbersOf_any x.1 47 4 W (by have := x.2; omega) (by decide) (hP.below hI.low))
        obtain ⟨cs, v8, hcs, x5, hO8, how⟩ := hI.row
        have HCS := Lib.hid hcs
        have hlen := cellsR_len hcs
        have htl2 : (txs pre).length = pre.length := List.length_map _
        clear hcs
        rcases nums_four (numsM 47 4 x.1.data.toList) (fun L h => numsM_len h) with hm | ⟨a, b, c, d, hm⟩
        · rw [hm] at HNB
          have hno : cellsR (txs (pre ++ [x])) = none := by rw [txs_app, cellsR_app, HCS.out]; show (cellsR [x.1.data.toList]).map _ = none; rw [cellsR_one, cellR_none hm]; rfl
          have HNO := Lib.hid hno
          clear hno hm hlen htl2
          gi_wp2
          refine ⟨trivial, ?_⟩
          refine (CallsIn.inRound lo (callsIn_wide.2 HNB.out)).mono ?_
          rintro e w5 ⟨a5, n5, c5, D, rfl, -, -, -, -, hb5⟩
          have y1 := hI.x1.below hb5
          have cy1 := y1.cell 0
          have fy1 := y1.free 0
          simp at cy1
          gi_wp2
          exact ⟨(keeps_below hb5).trans ((KeepsOthers.setCell _ _ _).from _), rfl, HNO.out, (hI.low.trans (hb5.mono hI.low.size)).setCell (p := ⟨g + 1, 0, none⟩) (by show w0.heap.size ≤ g + 1; omega) _, y1.set 0 (.bool false), (hI.kp.below hb5).set (p := ⟨g + 1, 0, none⟩) (Or.inr (by show w.heap.size ≤ g + 1; omega)) _, v8, l ++ cs, (x5.below hb5).set_other (p := ⟨g + 1, 0, none⟩) (by show b5 ≠ g + 1; omega) _, (hO8.below hb5).set (p := ⟨g + 1, 0, none⟩) (own_ne (hO8.below hb5) y1 (by decide)) _⟩
        · rw [hm] at HNB
          have hyes : cellsR (txs (pre ++ [x])) = some (cs ++ [⟨a, b, c, d⟩]) := by rw [txs_app, cellsR_app, HCS.out]; show (cellsR [x.1.data.toList]).map (cs ++ ·) = _; rw [cellsR_one, cellR_some hm]; rfl
          have HYES := Lib.hid hyes
          clear hyes hm
          gi_wp2
          refine ⟨trivial, ?_⟩
          refine (CallsIn.inRound lo (callsIn_wide.2 HNB.out)).mono ?_
          rintro e w5 ⟨a5, n5, c4, D, rfl, hD, hn5, hr5, -, hb5⟩
          obtain rfl := hD _ rfl
          obtain rfl : n5 = 4 := hn5
          obtain ⟨ad, rfl, had, s0⟩ := hr5.int (k := 0) (by simp)
          obtain ⟨_, e9, -, s1⟩ := hr5.int (k := 1) (by simp)
          cases e9
          obtain ⟨_, e9, -, s2⟩ := hr5.int (k := 2) (by simp)
          cases e9
          obtain ⟨_, e9, -, s3⟩ := hr5.int (k := 3) (by simp)
          cases e9
          rw [addZ] at s0
          rw [addS (by decide)] at s1 s2 s3
          simp at s0 s1 s2 s3
          have i0 := hI.x0.below hb5
          have i1 := hI.x1.below hb5
          have i2 := hI.x2.below hb5
          have j3 := (hb5.block _ hI.xs.choose_spec.lt)
          have j4 := (hb5.block _ hI.xp.lt)
          have j5 := (hb5.block _ hI.xz.lt)
          have i5 := x5.below hb5
          have iO := hO8.below hb5
          have iB := hI.low.trans (hb5.mono hI.low.size)
          have ik := keeps_below (B := V.heap.size) hb5
          gi_wp2
          refine wpIn_round_held (S := fun Z => Z.cell? ad = some (.int .i64 a) ∧ Z.cell? (⟨ad.block, ad.off + 1, none⟩ : Addr) = some (.int .i64 b) ∧ Z.cell? (⟨ad.block, ad.off + 2, none⟩ : Addr) = some (.int .i64 c) ∧ Z.cell? (⟨ad.block, ad.off + 3, none⟩ : Addr) = some (.int .i64 d)) (by kernel_rfl) (by rfl) (fun ⟨_, _, h⟩ => h) ⟨s0, s1, s2, s3⟩ (fun hS => ?_)
          refine takeL (i := 0) (v := .slice (some ad) 4 c4) rfl (by kernel_rfl) (by kernel_rfl) (by kernel_rfl) (fun _ _ _ h => h) (Or.inl ⟨by rfl, fun V9 h9 => by dsimp only at h9; go_simp⟩) (by assumption) ?_
          try simp only [Act.put, List.setIfInBounds_toArray, List.set_cons_zero, List.set_cons_succ]
          refine takeL (i := 1) (v := .pointer (some ad)) rfl (by kernel_rfl) (by kernel_rfl) (by kernel_rfl) (fun _ _ _ h => h) (Or.inl ⟨by rfl, fun V9 h9 => by dsimp only at h9; go_simp⟩) (by assumption) ?_
          try simp only [Act.put, List.setIfInBounds_toArray, List.set_cons_zero, List.set_cons_succ]
          refine takeL (i := 2) (v := .int .i64 a) rfl (by kernel_rfl) (by kernel_rfl) (by kernel_rfl) (fun _ _ _ h => h) (Or.inl ⟨by rfl, fun V9 h9 => by dsimp only at h9; go_simp⟩) (by assumption) ?_
          try simp only [Act.put, List.setIfInBounds_toArray, List.set_cons_zero, List.set_cons_succ]
          refine takeL (i := 3) (v := .slice (some ad) 4 c4) rfl (by kernel_rfl) (by kernel_rfl) (by kernel_rfl) (fun _ _ _ h => h) (Or.inl ⟨by rfl, fun V9 h9 => by dsimp only at h9; go_simp⟩) (by assumption) ?_
          try simp only [Act.put, List.setIfInBounds_toArray, List.set_cons_zero, List.set_cons_succ]
          refine takeL (i := 4) (v := .pointer (some ⟨ad.block, ad.off + 1, none⟩)) rfl (by kernel_rfl) (by kernel_rfl) (by kernel_rfl) (fun _ _ _ h => h) (Or.inl ⟨by rfl, fun V9 h9 => by dsimp only at h9; go_simp⟩) (by assumption) ?_
          try simp only [Act.put, List.setIfInBounds_toArray, List.set_cons_zero, List.set_cons_succ]
          refine takeL (i := 5) (v := .int .i64 b) rfl (by kernel_rfl) (by kernel_rfl) (by kernel_rfl) (fun _ _ _ h => h) (Or.inl ⟨by rfl, fun V9 h9 => by dsimp only at h9; go_simp⟩) (by assumption) ?_
          try simp only [Act.put, List.setIfInBounds_toArray, List.set_cons_zero, List.set_cons_succ]
          refine takeL (i := 6) (v := .slice (some ad) 4 c4) rfl (by kernel_rfl) (by kernel_rfl) (by kernel_rfl) (fun _ _ _ h => h) (Or.inl ⟨by rfl, fun V9 h9 => by dsimp only at h9; go_simp⟩) (by assumption) ?_
          try simp only [Act.put, List.setIfInBounds_toArray, List.set_cons_zero, List.set_cons_succ]
          refine takeL (i := 7) (v := .pointer (some ⟨ad.block, ad.off + 2, none⟩)) rfl (by kernel_rfl) (by kernel_rfl) (by kernel_rfl) (fun _ _ _ h => h) (Or.inl ⟨by rfl, fun V9 h9 => by dsimp only at h9; go_simp⟩) (by assumption) ?_
          try simp only [Act.put, List.setIfInBounds_toArray, List.set_cons_zero, List.set_cons_succ]
          refine takeL (i := 8) (v := .int .i64 c) rfl (by kernel_rfl) (by kernel_rfl) (by kernel_rfl) (fun _ _ _ h => h) (Or.inl ⟨by rfl, fun V9 h9 => by dsimp only at h9; go_simp⟩) (by assumption) ?_
          try simp only [Act.put, List.setIfInBounds_toArray, List.set_cons_zero, List.set_cons_succ]
          refine takeL (i := 9) (v := .slice (some ad) 4 c4) rfl (by kernel_rfl) (by kernel_rfl) (by kernel_rfl) (fun _ _ _ h => h) (Or.inl ⟨by rfl, fun V9 h9 => by dsimp only at h9; go_simp⟩) (by assumption) ?_
          try simp only [Act.put, List.setIfInBounds_toArray, List.set_cons_zero, List.set_cons_succ]
          refine takeL (i := 10) (v := .pointer (some ⟨ad.block, ad.off + 3, none⟩)) rfl (by kernel_rfl) (by kernel_rfl) (by kernel_rfl) (fun _ _ _ h => h) (Or.inl ⟨by rfl, fun V9 h9 => by dsimp only at h9; go_simp⟩) (by assumption) ?_
          try simp only [Act.put, List.setIfInBounds_toArray, List.set_cons_zero, List.set_cons_succ]
          refine takeL (i := 11) (v := .int .i64 d) rfl (by kernel_rfl) (by kernel_rfl) (by kernel_rfl) (fun _ _ _ h => h) (Or.inl ⟨by rfl, fun V9 h9 => by dsimp only at h9; go_simp⟩) (by assumption) ?_
          try simp only [Act.put, List.setIfInBounds_toArray, List.set_cons_zero, List.set_cons_succ]
          refine takeL (i := 12) (v := .agg #[.int .i64 a, .int .i64 b, .int .i64 c, .int .i64 d]) rfl (by kernel_rfl) (by kernel_rfl) (by kernel_rfl) (fun _ _ _ h => h) (Or.inl ⟨by rfl, fun V9 h9 => by dsimp only at h9; go_simp⟩) (by assumption) ?_
          try simp only [Act.put, List.setIfInBounds_toArray, List.set_cons_zero, List.set_cons_succ]
          refine wpAnyH_ready (rs := [13]) (by kernel_rfl) (by simp) (consL rfl (fun K hK => ?_) AllReadyH.nil)
          go_simp
          have nb := BoxAt.new w5.drew #[.int .i64 0, .int .i64 0, .int .i64 0, .int .i64 0] 57
          have nk0 := nb.cell 0
          have nk1 := nb.cell 1
          have nk2 := nb.cell 2
          have nk3 := nb.cell 3
          have nf0 := nb.free 0
          have nf1 := nb.free 1
          have nf2 := nb.free 2
          have nf3 := nb.free 3
          simp at nk0 nk1 nk2 nk3 nf0 nf1 nf2 nf3
          refine hK.out _ _ ⟨cell_alloc_keep s0, cell_alloc_keep s1, cell_alloc_keep s2, cell_alloc_keep s3⟩ (fun hS => ?_)
          clear hK K
          try simp only [Act.put, List.setIfInBounds_toArray, List.set_cons_zero, List.set_cons_succ]
          refine wpAnyH_ready (rs := [14]) (by kernel_rfl) (by simp) (consL rfl (fun K hK => ?_) AllReadyH.nil)
          go_simp
          refine hK.out _ _ ⟨cell_alloc_keep s0, cell_alloc_keep s1, cell_alloc_keep s2, cell_alloc_keep s3⟩ (fun _ => wpAnyH_done (by kernel_rfl) ?_ _)
          clear hK K hS nb nk0 nk1 nk2 nk3 nf0 nf1 nf2 nf3
          try simp only [Act.put, List.setIfInBounds_toArray, List.set_cons_zero, List.set_cons_succ]
          obtain ⟨W6, hW6⟩ : ∃ W6, W6 = (w5.alloc (.cells #[.int .i64 a, .int .i64 b, .int .i64 c, .int .i64 d] 57)).drew := ⟨_, rfl⟩
          have b6 : BoxAt W6 w5.heap.size #[.int .i64 a, .int .i64 b, .int .i64 c, .int .i64 d] 57 := by rw [hW6]; exact (BoxAt.new w5 _ _).drew
          have hb6 : Below w5.heap.size w5 W6 := by rw [hW6]; exact ((Below.refl _ _).alloc (Nat.le_refl _) _).drew
          have ik6 : KeepsFrom V.heap.size W W6 := ik.trans (keeps_below hb6)
          have l0 := i0.below hb6
          have l5 := i5.below hb6
          have cl0 := l0.cell 0
          have cl52 := l5.cell 2
          have ck0 := b6.cell 0
          have ck1 := b6.cell 1
          have ck2 := b6.cell 2
          have ck3 := b6.cell 3
          simp [rdCells] at cl0 cl52 ck0 ck1 ck2 ck3
          have hownlt : ∀ q, v8.ownBlock = some q → q < w5.heap.size := fun q e => (iO.lt q e).2
          have iO7 : OwnR 4 57 Cell.l (W6.drew.alloc (.cells #[.int .i64 a, .int .i64 b, .int .i64 c, .int .i64 d] 57)) w0.heap.size v8 (l ++ cs) := ((iO.below hb6).drew).alloc _
          have hM7 : RowsAt 4 Cell.l (W6.drew.alloc (.cells #[.int .i64 a, .int .i64 b, .int .i64 c, .int .i64 d] 57)) (some ⟨W6.heap.size, 0, none⟩) [⟨a, b, c, d⟩] := rows_lit cell_l W6.drew _ [⟨a, b, c, d⟩] _ rfl
          have hb7 : Below w5.heap.size w5 (W6.drew.alloc (.cells #[.int .i64 a, .int .i64 b, .int .i64 c, .int .i64 d] 57)) := hb6.drew.alloc (by simp; have := hb6.size; omega) _
          have B7 : Below w0.heap.size w0 (W6.drew.alloc (.cells #[.int .i64 a, .int .i64 b, .int .i64 c, .int .i64 d] 57)) := iB.trans (hb7.mono iB.size)
          have k67 : KeepsFrom V.heap.size W6 (W6.drew.alloc (.cells #[.int .i64 a, .int .i64 b, .int .i64 c, .int .i64 d] 57)) := (((KeepsOthers.drew _).trans (KeepsOthers.alloc _ _))).from _
          have hlcs : (l ++ cs).length ≤ 1000000 := by rw [List.length_append, hlen, htl2]; omega
          have hsz5 : W.heap.size ≤ w5.heap.size := hb5.size
          have hgx : g < w5.heap.size := by have := i0.lt; omega
          have g5x : g + 5 < w5.heap.size := by have := i5.lt; have := (hI.xz.below hb5).lt; omega
          -- what holds behind the append and the stores, whatever the order was
          have fin : ∀ (v9 : Value) (w9 : World), OwnR 4 57 Cell.l w9 w0.heap.size v9 (l ++ cs ++ [⟨a, b, c, d⟩]) → (W6.drew.alloc (.cells #[.int .i64 a, .int .i64 b, .int .i64 c, .int .i64 d] 57)).grownBy w9 v8.ownBlock → Below w0.heap.size (W6.drew.alloc (.cells #[.int .i64 a, .int .i64 b, .int .i64 c, .int .i64 d] 57)) w9 → (v9.ownBlock = v8.ownBlock ∨ v9.ownBlock = some (W6.drew.alloc (.cells #[.int .i64 a, .int .i64 b, .int .i64 c, .int .i64 d] 57)).heap.size) →
              BoxAt w9 w5.heap.size #[.int .i64 a, .int .i64 b, .int .i64 c, .int .i64 d] 57 ∧ BoxAt w9 g #[.pointer (some ⟨b5, 0, none⟩)] 134 ∧ BoxAt w9 (g + 2) #[.int .i64 (pre.length : Int)] 3 ∧ BoxAt w9 b5 (rdCells C R v8 n un) 94 ∧
              (ownPostG V.heap.size (KpT (g + 4) (g + 3) (g + 5)) (RI w0 w v b5 g n C R un l) (RX w0 w v b5 g n C R un) (pre ++ [x]) W .normal { tmps := #[], defers := [] } ((w9.setCell ⟨b5, 2, none⟩ v9).setCell ⟨g + 2, 0, none⟩ (.int .i64 ((pre.length : Int) + 1)))) := fun v9 w9 hO9 hg9 hB9 hor9 => by
            have k7 := (hI.kp.below hb5).below hb7
            have k9' := k7.grown hg9 (fun q e => by
              rcases how with h | h
              · exact Or.inl (by rw [← h]; exact e)
              · exact Or.inr (h q e))
            have how9 : v9.ownBlock = v.ownBlock ∨ ∀ q, v9.ownBlock = some q → w.heap.size ≤ q := by
              rcases hor9 with h | h
              · rcases how with h2 | h2
                · exact Or.inl (h.trans h2)
                · exact Or.inr (fun q e => h2 q (by rw [← h]; exact e))
              · exact Or.inr (fun q e => by rw [h] at e; cases e; exact k7.size)
            have gr : ∀ {b' : Nat} {cs' : Array Value} {T' : TypeId}, BoxAt w5 b' cs' T' → v8.ownBlock ≠ some b' → BoxAt w9 b' cs' T' := fun h hne => BoxAt.grown (h.below hb7) hg9 (fun e => hne e.symm)
            obtain ⟨u, hu⟩ := hI.xs
            have i3 := hu.below hb5
            have i4 := hI.xp.below hb5
            have i6 := hI.xz.below hb5
            have n0 := own_ne iO i0 (by decide)
            have n1 := own_ne iO i1 (by decide)
            have n2 := own_ne iO i2 (by decide)
            have n3 := own_ne iO i3 (by decide)
            have n4 := own_ne iO i4 (by decide)
            have n6 := own_ne iO i6 (by decide)
            have n5 := own_ne iO i5 (by decide)
            have m0 := gr i0 n0
            have m1 := gr i1 n1
            have m2 := gr i2 n2
            have m3 := gr i3 n3
            have m4 := gr i4 n4
            have m6 := gr i6 n6
            have m5 := gr i5 n5
            have mb : BoxAt w9 w5.heap.size #[.int .i64 a, .int .i64 b, .int .i64 c, .int .i64 d] 57 := BoxAt.grown (b6.drew.alloc _) hg9 (fun e => by have := hownlt w5.heap.size e.symm; omega)
            have m5' := m5.set 2 v9
            have hO10 := hO9.set (p := ⟨b5, 2, none⟩) (own_ne hO9 m5 (by decide)) v9
            have hO11 := hO10.set (p := ⟨g + 2, 0, none⟩) (own_ne hO10 (m2.set_other (p := ⟨b5, 2, none⟩) (by show g + 2 ≠ b5; omega) v9) (by decide)) (.int .i64 ((pre.length : Int) + 1))
            have k9 : KeepsFrom V.heap.size (W6.drew.alloc (.cells #[.int .i64 a, .int .i64 b, .int .i64 c, .int .i64 d] 57)) w9 := (KeepsOthers.of_grownBy hg9 (fun q o' e ho' => by
              obtain ⟨c2, h2⟩ := own_block iO7 q e
              rw [h2] at ho'; cases ho'; rfl)).from _
            have hpx : (((pre ++ [x]).length : Nat) : Int) = (pre.length : Int) + 1 := by rw [List.length_append]; simp
            have so : ∀ {b' : Nat} {cs' : Array Value} {T' : TypeId}, BoxAt w9 b' cs' T' → b' ≠ b5 → b' ≠ g + 2 → BoxAt ((w9.setCell ⟨b5, 2, none⟩ v9).setCell ⟨g + 2, 0, none⟩ (.int .i64 ((pre.length : Int) + 1))) b' cs' T' := fun h h1 h2 => (h.set_other (p := ⟨b5, 2, none⟩) h1 v9).set_other (p := ⟨g + 2, 0, none⟩) h2 _
            have e4 : ∀ {b' : Nat} {cs' : Array Value} {T' : TypeId}, BoxAt W b' cs' T' → BoxAt ((w9.setCell ⟨b5, 2, none⟩ v9).setCell ⟨g + 2, 0, none⟩ (.int .i64 ((pre.length : Int) + 1))) b' cs' T' → ((w9.setCell ⟨b5, 2, none⟩ v9).setCell ⟨g + 2, 0, none⟩ (.int .i64 ((pre.length : Int) + 1))).heap[b']? = W.heap[b']? := fun h1 h2 => Eq.trans h2 (Eq.symm h1)
            refine ⟨mb, m0, m2, m5, ⟨(((ik6.trans k67).trans k9).trans (((KeepsOthers.setCell _ _ _).trans (KeepsOthers.setCell _ _ _)).from _)), ⟨e4 hI.xp (so m4 (by omega) (by omega)), e4 hu (so m3 (by omega) (by omega)), e4 hI.xz (so m6 (by omega) (by omega))⟩, ?_⟩⟩
            refine ⟨((B7.trans hB9).setCell (p := ⟨b5, 2, none⟩) hb5' v9).setCell (p := ⟨g + 2, 0, none⟩) (by show w0.heap.size ≤ g + 2; omega) _, so m0 (by omega) (by omega), so m1 (by omega) (by omega), ?_, ⟨u, so m3 (by omega) (by omega)⟩, so m4 (by omega) (by omega), so m6 (by omega) (by omega), (k9'.set (p := ⟨b5, 2, none⟩) (Or.inl rfl) v9).set (p := ⟨g + 2, 0, none⟩) (Or.inr (by show w.heap.size ≤ g + 2; omega)) _, cs ++ [⟨a, b, c, d⟩], v9, HYES.out, m5'.set_other (p := ⟨g + 2, 0, none⟩) (by show b5 ≠ g + 2; omega) _, by rw [← List.append_assoc]; exact hO11, how9⟩
            rw [hpx]
            exact (m2.set_other (p := ⟨b5, 2, none⟩) (by show g + 2 ≠ b5; omega) v9).set 0 (.int .i64 ((pre.length : Int) + 1))
          have FIN := Lib.hid fin
          have HW6 := Lib.hid hW6
          rw [← hW6]
          have nbg : ¬ b5 = g := by omega
          have ngb : ¬ g = b5 := by omega
          have nb5x : ¬ b5 = w5.heap.size := by omega
          have nxb5 : ¬ w5.heap.size = b5 := by omega
          have hplI : (pre.length : Int) ≤ 200000 := by omega
          clear fin hW6 s0 s1 s2 s3 hr5 had ik j3 j4 j5 hlen htl2
          gi_wp2
          refine wpIn_round_held (S := fun Z => Z.cell? ⟨g, 0, none⟩ = some (.pointer (some ⟨b5, 0, none⟩)) ∧ Z.cell? ⟨w5.heap.size, 0, none⟩ = some (.int .i64 a) ∧ Z.cell? ⟨w5.heap.size, 1, none⟩ = some (.int .i64 b) ∧ Z.cell? ⟨w5.heap.size, 2, none⟩ = some (.int .i64 c) ∧ Z.cell? ⟨w5.heap.size, 3, none⟩ = some (.int .i64 d)) (by kernel_rfl) (by rfl) (fun ⟨_, _, h⟩ => h) ⟨cl0, ck0, ck1, ck2, ck3⟩ (fun hS => ?_)
          refine takeL (i := 0) (v := .pointer (some ⟨b5, 0, none⟩)) rfl (by kernel_rfl) (by kernel_rfl) (by kernel_rfl) (fun _ _ _ h => h) (Or.inl ⟨by rfl, fun V9 h9 => by dsimp only at h9; go_simp⟩) (by assumption) ?_
          try simp only [Act.put, List.setIfInBounds_toArray, List.set_cons_zero, List.set_cons_succ]
          refine takeL (i := 1) (v := .pointer (some ⟨b5, 0, none⟩)) rfl (by kernel_rfl) (by kernel_rfl) (by kernel_rfl) (fun _ _ _ h => h) (Or.inl ⟨by rfl, fun V9 h9 => by dsimp only at h9; go_simp⟩) (by assumption) ?_
          try simp only [Act.put, List.setIfInBounds_toArray, List.set_cons_zero, List.set_cons_succ]
          refine takeL (i := 2) (v := .pointer (some ⟨b5, 0, none⟩)) rfl (by kernel_rfl) (by kernel_rfl) (by kernel_rfl) (fun _ _ _ h => h) (Or.inl ⟨by rfl, fun V9 h9 => by dsimp only at h9; go_simp⟩) (by assumption) ?_
          try simp only [Act.put, List.setIfInBounds_toArray, List.set_cons_zero, List.set_cons_succ]
          refine takeL (i := 3) (v := .pointer (some ⟨b5, 0, none⟩)) rfl (by kernel_rfl) (by kernel_rfl) (by kernel_rfl) (fun _ _ _ h => h) (Or.inl ⟨by rfl, fun V9 h9 => by dsimp only at h9; go_simp⟩) (by assumption) ?_
          try simp only [Act.put, List.setIfInBounds_toArray, List.set_cons_zero, List.set_cons_succ]
          refine takeL (i := 4) (v := .pointer (some ⟨b5, 2, none⟩)) rfl (by kernel_rfl) (by kernel_rfl) (by kernel_rfl) (fun _ _ _ h => h) (Or.inl ⟨by rfl, fun V9 h9 => by dsimp only at h9; go_simp⟩) (by assumption) ?_
          try simp only [Act.put, List.setIfInBounds_toArray, List.set_cons_zero, List.set_cons_succ]
          refine takeL (i := 6) (v := .agg #[.int .i64 a, .int .i64 b, .int .i64 c, .int .i64 d]) rfl (by kernel_rfl) (by kernel_rfl) (by kernel_rfl) (fun _ _ _ h => h) (Or.inl ⟨by rfl, fun V9 h9 => by dsimp only at h9; go_simp⟩) (by assumption) ?_
          try simp only [Act.put, List.setIfInBounds_toArray, List.set_cons_zero, List.set_cons_succ]
          refine wpAnyH_ready (rs := [5, 7]) (by kernel_rfl) (by simp) (consL rfl (fun K hK => ?_) (consL rfl (fun K hK => ?_) AllReadyH.nil))
          · go_simp
            refine hK.out _ _ hS (fun _ => ?_)
            clear hK K
            try simp only [Act.put, List.setIfInBounds_toArray, List.set_cons_zero, List.set_cons_succ]
            refine wpAnyH_ready (rs := [7]) (by kernel_rfl) (by simp) (consL rfl (fun K hK => ?_) AllReadyH.nil)
            go_simp
            refine hK.out _ _ ⟨cell_alloc_keep cl0, cell_alloc_keep ck0, cell_alloc_keep ck1, cell_alloc_keep ck2, cell_alloc_keep ck3⟩ (fun hS => ?_)
            clear hK K
            try simp only [Act.put, List.setIfInBounds_toArray, List.set_cons_zero, List.set_cons_succ]
            refine wpAnyH_ready (rs := [8]) (by kernel_rfl) (by simp) (consL rfl (fun K hK => ?_) AllReadyH.nil)
            refine step_appL tCell cell_l _ rfl _ _ rfl w0.heap.size v8 (l ++ cs) rfl iO7 (some ⟨W6.heap.size, 0, none⟩) [⟨a, b, c, d⟩] 1 1 rfl rfl hM7 (fun e => by cases e) hlcs (by simp) B7.size ?_
            intro v9 w9 hO9 hg9 hB9 hor9
            obtain ⟨a9, n9, c9, rfl⟩ : ∃ (a9 : Option Addr) (n9 c9 : Nat), v9 = .slice a9 n9 c9 := (by obtain ⟨a9, c9, e, _⟩ := hO9.rows cell_l; exact ⟨a9, _, c9, e⟩)
            obtain ⟨mb, m0, m2, m5, hfin⟩ := FIN.out _ w9 hO9 hg9 hB9 hor9
            have e0 := m0.cell 0
            have e1 := mb.cell 0
            have e2 := mb.cell 1
            have e3 := mb.cell 2
            have e4 := mb.cell 3
            have e5 := m5.cell 2
            have e6 := m5.free 2
            have e7 := m2.cell 0
            have e8 := m2.free 0
            simp [rdCells] at e0 e1 e2 e3 e4 e5 e7
            refine hK.out _ _ ⟨e0, e1, e2, e3, e4⟩ (fun hS => ?_)
            clear hK K
            try simp only [Act.put, List.setIfInBounds_toArray, List.set_cons_zero, List.set_cons_succ]
            refine takeL (i := 9) (v := .pointer (some ⟨b5, 0, none⟩)) rfl (by kernel_rfl) (by kernel_rfl) (by kernel_rfl) (fun _ _ _ h => h) (Or.inl ⟨by rfl, fun V9 h9 => by dsimp only at h9; go_simp⟩) (by assumption) ?_
            try simp only [Act.put, List.setIfInBounds_toArray, List.set_cons_zero, List.set_cons_succ]
            refine takeL (i := 10) (v := .pointer (some ⟨b5, 0, none⟩)) rfl (by kernel_rfl) (by kernel_rfl) (by kernel_rfl) (fun _ _ _ h => h) (Or.inl ⟨by rfl, fun V9 h9 => by dsimp only at h9; go_simp⟩) (by assumption) ?_
            try simp only [Act.put, List.setIfInBounds_toArray, List.set_cons_zero, List.set_cons_succ]
            refine takeL (i := 11) (v := .pointer (some ⟨b5, 2, none⟩)) rfl (by kernel_rfl) (by kernel_rfl) (by kernel_rfl) (fun _ _ _ h => h) (Or.inl ⟨by rfl, fun V9 h9 => by dsimp only at h9; go_simp⟩) (by assumption) ?_
            try simp only [Act.put, List.setIfInBounds_toArray, List.set_cons_zero, List.set_cons_succ]
            refine wpAnyH_ready (rs := [12]) (by kernel_rfl) (by simp) (consL rfl (fun K hK => ?_) AllReadyH.nil)
            go_simp
            refine hK.out _ _ ⟨(m0.set_other (p := ⟨b5, 2, none⟩) (by show g ≠ b5; omega) (.slice a9 n9 c9)).cell 0, (mb.set_other (p := ⟨b5, 2, none⟩) (by show w5.heap.size ≠ b5; omega) (.slice a9 n9 c9)).cell 0, (mb.set_other (p := ⟨b5, 2, none⟩) (by show w5.heap.size ≠ b5; omega) (.slice a9 n9 c9)).cell 1, (mb.set_other (p := ⟨b5, 2, none⟩) (by show w5.heap.size ≠ b5; omega) (.slice a9 n9 c9)).cell 2, (mb.set_other (p := ⟨b5, 2, none⟩) (by show w5.heap.size ≠ b5; omega) (.slice a9 n9 c9)).cell 3⟩ (fun _ => wpAnyH_done (by kernel_rfl) ?_ _)
            clear hK K
            try simp only [Act.put, List.setIfInBounds_toArray, List.set_cons_zero, List.set_cons_succ]
            gi_wp2
            exact hfin
          · go_simp
            refine hK.out _ _ ⟨cell_alloc_keep cl0, cell_alloc_keep ck0, cell_alloc_keep ck1, cell_alloc_keep ck2, cell_alloc_keep ck3⟩ (fun hS => ?_)
            clear hK K
            try simp only [Act.put, List.setIfInBounds_toArray, List.set_cons_zero, List.set_cons_succ]
            have cl53 := cell_alloc_keep (o := .cells #[.int .i64 a, .int .i64 b, .int .i64 c, .int .i64 d] 57) (w := W6) cl52
            refine wpAnyH_ready (rs := [5]) (by kernel_rfl) (by simp) (consL rfl (fun K hK => ?_) AllReadyH.nil)
            go_simp
            refine hK.out _ _ hS (fun _ => ?_)
            clear hK K
            try simp only [Act.put, List.setIfInBounds_toArray, List.set_cons_zero, List.set_cons_succ]
            refine wpAnyH_ready (rs := [8]) (by kernel_rfl) (by simp) (consL rfl (fun K hK => ?_) AllReadyH.nil)
            refine step_appL tCell cell_l _ rfl _ _ rfl w0.heap.size v8 (l ++ cs) rfl iO7 (some ⟨W6.heap.size, 0, none⟩) [⟨a, b, c, d⟩] 1 1 rfl rfl hM7 (fun e => by cases e) hlcs (by simp) B7.size ?_
            intro v9 w9 hO9 hg9 hB9 hor9
            obtain ⟨a9, n9, c9, rfl⟩ : ∃ (a9 : Option Addr) (n9 c9 : Nat), v9 = .slice a9 n9 c9 := (by obtain ⟨a9, c9, e, _⟩ := hO9.rows cell_l; exact ⟨a9, _, c9, e⟩)
            obtain ⟨mb, m0, m2, m5, hfin⟩ := FIN.out _ w9 hO9 hg9 hB9 hor9
            have e0 := m0.cell 0
            have e1 := mb.cell 0
            have e2 := mb.cell 1
            have e3 := mb.cell 2
            have e4 := mb.cell 3
            have e5 := m5.cell 2
            have e6 := m5.free 2
            have e7 := m2.cell 0
            have e8 := m2.free 0
            simp [rdCells] at e0 e1 e2 e3 e4 e5 e7
            refine hK.out _ _ ⟨e0, e1, e2, e3, e4⟩ (fun hS => ?_)
            clear hK K
            try simp only [Act.put, List.setIfInBounds_toArray, List.set_cons_zero, List.set_cons_succ]
            refine takeL (i := 9) (v := .pointer (some ⟨b5, 0, none⟩)) rfl (by kernel_rfl) (by kernel_rfl) (by kernel_rfl) (fun _ _ _ h => h) (Or.inl ⟨by rfl, fun V9 h9 => by dsimp only at h9; go_simp⟩) (by assumption) ?_
            try simp only [Act.put, List.setIfInBounds_toArray, List.set_cons_zero, List.set_cons_succ]
            refine takeL (i := 10) (v := .pointer (some ⟨b5, 0, none⟩)) rfl (by kernel_rfl) (by kernel_rfl) (by kernel_rfl) (fun _ _ _ h => h) (Or.inl ⟨by rfl, fun V9 h9 => by dsimp only at h9; go_simp⟩) (by assumption) ?_
            try simp only [Act.put, List.setIfInBounds_toArray, List.set_cons_zero, List.set_cons_succ]
            refine takeL (i := 11) (v := .pointer (some ⟨b5, 2, none⟩)) rfl (by kernel_rfl) (by kernel_rfl) (by kernel_rfl) (fun _ _ _ h => h) (Or.inl ⟨by rfl, fun V9 h9 => by dsimp only at h9; go_simp⟩) (by assumption) ?_
            try simp only [Act.put, List.setIfInBounds_toArray, List.set_cons_zero, List.set_cons_succ]
            refine wpAnyH_ready (rs := [12]) (by kernel_rfl) (by simp) (consL rfl (fun K hK => ?_) AllReadyH.nil)
            go_simp
            refine hK.out _ _ ⟨(m0.set_other (p := ⟨b5, 2, none⟩) (by show g ≠ b5; omega) (.slice a9 n9 c9)).cell 0, (mb.set_other (p := ⟨b5, 2, none⟩) (by show w5.heap.size ≠ b5; omega) (.slice a9 n9 c9)).cell 0, (mb.set_other (p := ⟨b5, 2, none⟩) (by show w5.heap.size ≠ b5; omega) (.slice a9 n9 c9)).cell 1, (mb.set_other (p := ⟨b5, 2, none⟩) (by show w5.heap.size ≠ b5; omega) (.slice a9 n9 c9)).cell 2, (mb.set_other (p := ⟨b5, 2, none⟩) (by show w5.heap.size ≠ b5; omega) (.slice a9 n9 c9)).cell 3⟩ (fun _ => wpAnyH_done (by kernel_rfl) ?_ _)
            clear hK K
            try simp only [Act.put, List.setIfInBounds_toArray, List.set_cons_zero, List.set_cons_succ]
            gi_wp2
            exact hfin
      case done =>
        rintro D ys W hD hys hI hKD
        obtain ⟨cs, v8, hcs, x5, hO8, -⟩ := hI.row
        have hkp := hI.kp
        rw [hys] at hcs
        have hlen := cellsR_len hcs
        have hyl : ys.length = cs.length := by rw [hlen, ← hys]; exact (List.length_map _).symm
        have x0 := hI.x0
        have x1 := hI.x1
        have x2 := hI.x2
        have xB := hI.low
        obtain ⟨m, hm⟩ : ∃ m, m = cs.length := ⟨_, rfl⟩
        rw [hyl, ← hm] at x2
        have c0' := x0.cell 0
        have c1' := x1.cell 0
        have c2' := x2.cell 0
        have c50 := x5.cell 0
        have f1' := x1.free 0
        have f54 := x5.free 4
        have c54 := x5.cell 4
        simp [rdCells] at c0' c1' c2' c50 c54
        clear hI hys hlen hyl
        have hgD : g + 2 ≤ D := by omega
        have ne1 : ¬ g + 1 = b5 := by omega
        have ne2 : ¬ b5 = g + 1 := by omega
        by_cases hC : (m : Int) = C
        · have HZ := Lib.hid (show o = some ⟨C, R, l ++ cs, n, un⟩ by rw [HO1.out, hcs]; show some (RdS.mk C R (l ++ cs) n (un || decide ((cs.length : Int) ≠ C))) = _; rw [← hm, decide_eq_false (fun h => h hC), Bool.or_false])
          have hb : ((m : Int) != C) = false := by simp [hC]
          clear hC hm hcs HO1
          gi_wp2
          refine wpIn_wide.2 ?_
          go_quiet (fail)
          gi_wp2
          exact rl_leave [D] _ true (fun w' h => by simp [results, Tryz.results34, go_sem, h]) ((Marks.nil _ _).cons hgD ((Below.heap_setCell _ _ _ _ (by show D ≠ g + 1; omega)).trans hKD) List.not_mem_nil) (by rw [HZ.out]; rfl) ((x1.drewN nq).set 0 (.bool true)) hg0 ((below_drewN xB nq).setCell (p := ⟨g + 1, 0, none⟩) (by show w0.heap.size ≤ g + 1; omega) (.bool true)) C R v8 un (l ++ cs) ((x5.drewN nq).set_other (p := ⟨g + 1, 0, none⟩) (by show b5 ≠ g + 1; omega) (.bool true)) hlt ((hO8.drewN nq).set (p := ⟨g + 1, 0, none⟩) (own_ne (hO8.drewN nq) (x1.drewN nq) (by decide)) (.bool true)) (fun s' h => by rw [HZ.out] at h; cases h; rfl) hwg ((hkp.drewN nq).set (p := ⟨g + 1, 0, none⟩) (Or.inr (by show w.heap.size ≤ g + 1; omega)) _)
        · have HZ := Lib.hid (show o = some ⟨C, R, l ++ cs, n, true⟩ by rw [HO1.out, hcs]; show some (RdS.mk C R (l ++ cs) n (un || decide ((cs.length : Int) ≠ C))) = _; rw [← hm, decide_eq_true hC, Bool.or_true])
          have hb : ((m : Int) != C) = true := by simp [hC]
          clear hC hm hcs HO1
          gi_wp2
          refine wpIn_wide.2 ?_
          go_quiet (fail)
          have y5 := (x5.drewN nq).set 4 (.bool true)
          have y1 := (x1.drewN nq).set_other (p := ⟨b5, 4, none⟩) (by show g + 1 ≠ b5; omega) (.bool true)
          have yO := (hO8.drewN nq).set (p := ⟨b5, 4, none⟩) (own_ne (hO8.drewN nq) (x5.drewN nq) (by decide)) (.bool true)
          gi_wp2
          exact rl_leave [D] _ true (fun w' h => by simp [results, Tryz.results34, go_sem, h]) ((Marks.nil _ _).cons hgD ((Below.heap_setCell _ _ _ _ (by show D ≠ g + 1; omega)).trans ((Below.heap_setCell _ _ _ _ (by show D ≠ b5; omega)).trans hKD)) List.not_mem_nil) (by rw [HZ.out]; rfl) (y1.set 0 (.bool true)) hg0 (((below_drewN xB _).setCell (p := ⟨b5, 4, none⟩) hb5 (.bool true)).setCell (p := ⟨g + 1, 0, none⟩) (by show w0.heap.size ≤ g + 1; omega) (.bool true)) C R v8 true (l ++ cs) (y5.set_other (p := ⟨g + 1, 0, none⟩) (by show b5 ≠ g + 1; omega) (.bool true)) hlt (yO.set (p := ⟨g + 1, 0, none⟩) (own_ne yO y1 (by decide)) (.bool true)) (fun s' h => by rw [HZ.out] at h; cases h; rfl) hwg (((hkp.drewN nq).set (p := ⟨b5, 4, none⟩) (Or.inl rfl) _).set (p := ⟨g + 1, 0, none⟩) (Or.inr (by show w.heap.size ≤ g + 1; omega)) _)
      case stop =>
        rintro D c pre W hD ⟨r, hr⟩ ⟨rfl, hcn, hB9, q1, hkp, v9, l9, q5, qO⟩ hKD
        have HZ := Lib.hid (show o = none by
          rw [HO1.out]
          have : cellsR (splitOn 32 t.data.toList) = none := by rw [← hr, cellsR_app, hcn]
          rw [this])
        clear hr hcn HO1
        gi_wp2
        exact rl_leave [D] _ false (fun w' h => by simp [results, Tryz.results34, go_sem, h]) ((Marks.nil _ _).cons (by omega) hKD List.not_mem_nil) (by rw [HZ.out]; rfl) q1 hg0 hB9 C R v9 un l9 q5 hlt qO (fun s' h => by rw [HZ.out] at h; cases h) hwg hkp
end Go.Proofs.YtgoandhlcekmiaaGreatDoor
