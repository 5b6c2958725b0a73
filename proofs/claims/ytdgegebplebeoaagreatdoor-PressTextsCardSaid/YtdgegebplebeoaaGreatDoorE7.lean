/-
  Package press: the order that takes least.
-/
import Derived.Test.YtdgegebplebeoaaGreatDoorE6
import Derived.StillTailTactics
namespace Go.Proofs.YtdgegebplebeoaaGreatDoor
open Go.RowKit Go.Maps Go.Shelf
attribute [local go_sem] Oper.semAt_some

def ClPost (O : List Int) (w : World) (e : Ending) (w' : World) : Prop := ∃ v', e = .returned v' ∧ OwnR 1 3 intL w' w.heap.size v' O ∧ Below w.heap.size w w'
theorem cloneOwn_any (B : Nat) (v : Value) (O : List Int) (w : World) (hO : OwnR 1 3 intL w B v O) (hl : O.length ≤ 1000000) : Calls Tryz.prog 67 #[v] w (ClPost O w) := by
  by_cases h0 : O.length = 0
  · obtain ⟨a, c, rfl, -⟩ := hO.rows int_l
    have : O = [] := List.eq_nil_of_length_eq_zero h0
    subst this
    cases a with
    | none =>
      refine (Tryz.slices_Clone_int_nil 0 c w).mono ?_
      rintro e w' ⟨rfl, rfl⟩
      exact ⟨_, rfl, OwnR.nil _ _, Below.refl _ _⟩
    | some a =>
      refine (Tryz.slices_Clone_int_zero a c w).mono ?_
      rintro e w' ⟨v', rfl, h1, -, h2⟩
      exact ⟨_, rfl, h1, h2⟩
  · obtain ⟨g, c, rfl, -, -⟩ := hO.form (by omega)
    refine (Tryz.slices_Clone_int g 0 O.length c O w (Nat.le_refl _) (by omega) (fun j hj => by rw [Nat.zero_add, own_cells hO hj, getD_eqI hj])).mono ?_
    rintro e w' ⟨v', rfl, h1, -, h2⟩
    rw [List.take_length] at h1
    exact ⟨_, rfl, own_ints.2 h1, h2⟩
set_option maxRecDepth 100000 in
set_option maxHeartbeats 1000000 in
theorem best1_any (x : Cols) (b : Nat) (B : Nat) (O : List Int) (v : Value) (w : World) (hb : BoxAt w b #[.slice x.ma x.m.length x.mc, .slice x.da x.T.length x.dc] 55) (hx : ColsAt w x) (hok : ColsOk x)
    (hO : OwnR 1 3 intL w B v O) (hol : O.length ≤ 6) (hin : ∀ y ∈ O, 0 ≤ y ∧ y < x.m.length) :
    Calls Tryz.prog 44 #[v, .pointer (some ⟨b, 0, none⟩)] w (TwoPost (minsE x O) w) := by
  obtain ⟨a, c, rfl, hRS, hc, -⟩ := hO.rows int_l
  have HM := Lib.hid (minutesOf_any x O a c w hx hok hRS hc hol hin)
  unfold Cols.v at HM
  have c0 : w.cell? ⟨b, 0, none⟩ = some (.slice x.ma x.m.length x.mc) := hb.cell 0
  have c1 : w.cell? ⟨b, 1, none⟩ = some (.slice x.da x.T.length x.dc) := hb.cell 1
  clear hx hok hO hin hRS
  go_enter Tryz.func44, Tryz.ntmps44
  go_wp2_with (go_at_call 45; refine HM.out.mono ?_; rintro e w1 ⟨rfl, hb1⟩)
  go_ret2
  exact ⟨rfl, hb1⟩
def lstP (tk : List Int → Int × Int) (st : List Int × Int × Int) (O : List Int) : List Int × Int × Int := if (tk O).2 = 0 ∧ (st.2.2 ≠ 0 ∨ (tk O).1 < st.2.1) then (O, (tk O).1, 0) else st
def lstF (tk : List Int → Int × Int) (L : List (List Int)) : List Int × Int × Int := L.foldl (lstP tk) ([], 0, 12)
theorem lstF_snoc (tk : List Int → Int × Int) (L : List (List Int)) (O : List Int) : lstF tk (L ++ [O]) = lstP tk (lstF tk L) O := by unfold lstF; rw [List.foldl_append]; rfl
theorem swp_mem {M : List Int} {i j : Nat} {y : Int} (h : y ∈ swp M i j) : y ∈ M ∨ y = 0 := by
  have hg : ∀ k, M.getD k 0 ∈ M ∨ M.getD k 0 = 0 := fun k => by
    rcases Nat.lt_or_ge k M.length with hk | hk
    · rw [getD_eqI hk]; exact Or.inl (List.getElem_mem hk)
    · right; rw [List.getD_eq_getElem?_getD, List.getElem?_eq_none hk]; rfl
  unfold swp at h
  rcases List.mem_or_eq_of_mem_set h with h | h
  · rcases List.mem_or_eq_of_mem_set h with h | h
    · exact Or.inl h
    · rw [h]; exact hg _
  · rw [h]; exact hg _
theorem advM_mem {M : List Int} {y : Int} (h : y ∈ advM M) : y ∈ M ∨ y = 0 := by
  unfold advM at h
  rcases List.mem_append.1 h with h | h
  · exact swp_mem (List.mem_of_mem_take h)
  · exact swp_mem (List.mem_of_mem_drop (List.mem_reverse.1 h))
theorem ord_in {n : Nat} (hn : 0 < n) : ∀ k, ∀ y ∈ ordAt n k, 0 ≤ y ∧ y < n
  | 0, y, h => by
    unfold ordAt iota at h
    obtain ⟨j, hj, rfl⟩ := List.mem_map.1 h
    have := List.mem_range.1 hj
    omega
  | k + 1, y, h => by
    rcases advM_mem h with h | h
    · exact ord_in hn k y h
    · omega
theorem ord_in' (n k : Nat) : ∀ y ∈ ordAt n k, 0 ≤ y ∧ y < n := fun y h => by
  rcases Nat.eq_zero_or_pos n with h0 | h0
  · have := ordAt_len n k
    rw [h0] at this h
    rw [List.eq_nil_of_length_eq_zero this] at h; cases h
  · exact ord_in h0 k y h
theorem ord_pick {n k : Nat} {pre : List Ord} {x : Ord} (h : (pre ++ [x]).map (·.l) = ordsL n k) : x.l = ordAt n pre.length := by
  have h1 : ((pre ++ [x]).map (·.l))[pre.length]? = some x.l := by simp
  rw [h] at h1
  unfold ordsL at h1
  rw [List.getElem?_map] at h1
  rcases Nat.lt_or_ge pre.length k with hk | hk
  · rw [List.getElem?_range hk] at h1
    exact (Option.some.inj h1).symm
  · rw [List.getElem?_eq_none (by simpa using hk)] at h1; cases h1
/-- What lies between two rounds. -/
structure LsI (w : World) (fv : Value) (st : List Int × Int × Int) (xs : List Ord) (V : Value) (W : World) : Prop where
  b0 : BoxAt W w.heap.size #[fv] 89
  b1 : BoxAt W (w.heap.size + 1) #[V] 49
  b2 : BoxAt W (w.heap.size + 2) #[.int .i64 st.2.1] 3
  b3 : BoxAt W (w.heap.size + 3) #[.int .i64 st.2.2] 29
  own : OwnR 1 3 intL W (w.heap.size + 5) V st.1
  ne : ∀ y ∈ xs, ∀ q, V.ownBlock = some q → y.v.ownBlock ≠ some q
  low : Below w.heap.size w W
  lo : w.heap.size + 5 ≤ W.heap.size
  emp : xs = [] → V.ownBlock = none
theorem LsI.below {w : World} {fv : Value} {st : List Int × Int × Int} {xs : List Ord} {V : Value} {W W' : World} (h : LsI w fv st xs V W) (hb : Below W.heap.size W W') : LsI w fv st xs V W' :=
  ⟨h.b0.below hb, h.b1.below hb, h.b2.below hb, h.b3.below hb, h.own.below hb, h.ne, h.low.trans (hb.mono h.low.size), Nat.le_trans h.lo hb.size, h.emp⟩
theorem LsI.kept {w : World} {fv : Value} {st : List Int × Int × Int} {xs : List Ord} {V : Value} {W W' : World} (h : LsI w fv st xs V W) {row : Option Nat} (hg : W.grownBy W' row) (hr : ∀ r, row = some r → w.heap.size ≤ r ∧ ∃ o : Obj, W.heap[r]? = some o ∧ o.isCells = false) : LsI w fv st xs V W' :=
  ⟨box_kept h.b0 hg (fun r e => (hr r e).2), box_kept h.b1 hg (fun r e => (hr r e).2), box_kept h.b2 hg (fun r e => (hr r e).2), box_kept h.b3 hg (fun r e => (hr r e).2), h.own.kept hg (fun r e => (hr r e).2), h.ne,
    h.low.grown hg h.low.size (fun k e => (hr k e).1), Nat.le_trans h.lo hg.size, h.emp⟩
theorem LsI.turn {w : World} {fv : Value} {st : List Int × Int × Int} {xs : List Ord} {V : Value} {W W' : World} (h : LsI w fv st xs V W) {x : Ord} (hx : x ∈ xs) (hge : ∀ k, x.v.ownBlock = some k → w.heap.size + 5 ≤ k) (ht : TurnRow x.v W W') : LsI w fv st xs V W' := by
  have hlo := h.lo
  have hk : ∀ k, k < w.heap.size + 5 → W'.heap[k]? = W.heap[k]? := fun k hk => ht.block k (by omega) (fun e => by have := hge k e; omega)
  refine ⟨(hk _ (by omega)).trans h.b0, (hk _ (by omega)).trans h.b1, (hk _ (by omega)).trans h.b2, (hk _ (by omega)).trans h.b3, h.own.same (fun q e => ht.block q (h.own.lt q e).2 (h.ne x hx q e)), h.ne, h.low.trans ⟨ht.os, ht.tape, ht.output, ht.size, fun k hkk => hk k (by omega)⟩, Nat.le_trans hlo ht.size, h.emp⟩
theorem LsI.put {w : World} {fv : Value} {st : List Int × Int × Int} {xs xs' : List Ord} {V v2 : Value} {W : World} {O : List Int} {mn : Int} {B2 : Nat} (h : LsI w fv st xs V W) (hO : OwnR 1 3 intL W B2 v2 O) (hB2 : w.heap.size + 5 ≤ B2) (hne : ∀ y ∈ xs', ∀ q, v2.ownBlock = some q → y.v.ownBlock ≠ some q) (hx : xs' ≠ []) :
    LsI w fv (O, mn, 0) xs' v2 (((W.setCell ⟨w.heap.size + 1, 0, none⟩ v2).setCell ⟨w.heap.size + 1 + 1, 0, none⟩ (.int .i64 mn)).setCell ⟨w.heap.size + 1 + 1 + 1, 0, none⟩ (.int .i64 0)) ∧
    ∀ k, w.heap.size + 5 ≤ k → (((W.setCell ⟨w.heap.size + 1, 0, none⟩ v2).setCell ⟨w.heap.size + 1 + 1, 0, none⟩ (.int .i64 mn)).setCell ⟨w.heap.size + 1 + 1 + 1, 0, none⟩ (.int .i64 0)).heap[k]? = W.heap[k]? := by
  have hlo := h.lo
  have hn : ∀ q, v2.ownBlock = some q → w.heap.size + 5 ≤ q := fun q e => Nat.le_trans hB2 (hO.lt q e).1
  have e1 : ∀ j u, j ≠ w.heap.size + 1 → (W.setCell ⟨w.heap.size + 1, 0, none⟩ u).heap[j]? = W.heap[j]? := fun j u hj => Below.heap_setCell _ _ _ _ hj
  refine ⟨⟨?_, ?_, ?_, ?_, ?_, hne, ?_, ?_, fun e => absurd e hx⟩, fun k hk => ?_⟩
  · exact ((h.b0.set_other (by show w.heap.size ≠ w.heap.size + 1; omega) _).set_other (by show w.heap.size ≠ w.heap.size + 1 + 1; omega) _).set_other (by show w.heap.size ≠ w.heap.size + 1 + 1 + 1; omega) _
  · exact ((h.b1.set 0 v2).set_other (by show w.heap.size + 1 ≠ w.heap.size + 1 + 1; omega) _).set_other (by show w.heap.size + 1 ≠ w.heap.size + 1 + 1 + 1; omega) _
  · exact ((h.b2.set_other (by show w.heap.size + 2 ≠ w.heap.size + 1; omega) _).set 0 (.int .i64 mn)).set_other (by show w.heap.size + 2 ≠ w.heap.size + 1 + 1 + 1; omega) _
  · exact ((h.b3.set_other (by show w.heap.size + 3 ≠ w.heap.size + 1; omega) _).set_other (by show w.heap.size + 3 ≠ w.heap.size + 1 + 1; omega) _).set 0 (.int .i64 0)
  · exact (((hO.set (fun e => by have h9 : w.heap.size + 5 ≤ w.heap.size + 1 := hn _ e; omega) _).set (fun e => by have h9 : w.heap.size + 5 ≤ w.heap.size + 1 + 1 := hn _ e; omega) _).set (fun e => by have h9 : w.heap.size + 5 ≤ w.heap.size + 1 + 1 + 1 := hn _ e; omega) _).mono hB2
  · exact ((h.low.setCell (by show w.heap.size ≤ w.heap.size + 1; omega) _).setCell (by show w.heap.size ≤ w.heap.size + 1 + 1; omega) _).setCell (by show w.heap.size ≤ w.heap.size + 1 + 1 + 1; omega) _
  · simp; omega
  · rw [Below.heap_setCell _ _ _ _ (by show k ≠ w.heap.size + 1 + 1 + 1; omega), Below.heap_setCell _ _ _ _ (by show k ≠ w.heap.size + 1 + 1; omega), Below.heap_setCell _ _ _ _ (by show k ≠ w.heap.size + 1; omega)]
def LstPost (st : List Int × Int × Int) (w : World) (e : Ending) (w' : World) : Prop := ∃ v, e = .returned (.tuple #[v, .int .i64 st.2.1, .int .i64 st.2.2]) ∧ OwnR 1 3 intL w' w.heap.size v st.1 ∧ Below w.heap.size w w'
set_option maxRecDepth 100000 in
set_option maxHeartbeats 4000000 in
theorem leastOrder_any (cn c : Nat) (tk : List Int → Int × Int) (lb : Value) (w : World) (hE : OrdsEnd cn c) (hcn : cn ≤ 100)
    (htk : ∀ (O : List Int) (v : Value) (B : Nat) (W : World), Below w.heap.size w W → OwnR 1 3 intL W B v O → O.length = cn → (∀ y ∈ O, 0 ≤ y ∧ y < cn) → Calls Tryz.prog 44 #[v, lb] W (TwoPost (tk O) W)) :
    Calls Tryz.prog 43 #[.int .i64 cn, .func (.func 44) #[] #[lb]] w (LstPost (lstF tk (ordsL cn c)) w) := by
  have HE := Lib.hid hE; have HTK := Lib.hid htk
  clear hE htk
  refine (callsIn_wide (n := 9)).1 ?_
  refine callsIn_of_wp_marks Tryz.func43 rfl trivial ?_ rfl
  simp only [Tryz.ntmps43, List.size_toArray, List.length_cons, List.length_nil, Nat.reduceAdd, Nat.reduceSub, Array.replicate_succ, Array.replicate_zero, List.push_toArray, List.append_toArray, List.nil_append, List.cons_append]
  gi_wp2_with (refine ⟨trivial, ?_⟩; gi_at_call 66; refine (callsIn_wide.2 (orders_any _ _)).mono ?_; rintro e w' ⟨rfl, rfl⟩)
  obtain ⟨fv, hfv⟩ : ∃ fv, fv = Value.func (.func 44) #[] #[lb] := ⟨_, rfl⟩
  have HFV := Lib.hid hfv
  obtain ⟨A1, hA1⟩ : ∃ A1, A1 = w.alloc (.cells #[Value.func (.func 44) #[] #[lb]] 89) := ⟨_, rfl⟩
  obtain ⟨A2, hA2⟩ : ∃ A2, A2 = A1.alloc (.cells #[.slice none 0 0] 49) := ⟨_, rfl⟩
  obtain ⟨A3, hA3⟩ : ∃ A3, A3 = A2.alloc (.cells #[.int .i64 0] 3) := ⟨_, rfl⟩
  obtain ⟨A4, hA4⟩ : ∃ A4, A4 = A3.alloc (.cells #[.int .i64 12] 29) := ⟨_, rfl⟩
  obtain ⟨A5, hA5⟩ : ∃ A5, A5 = A4.alloc (.cells #[.int .i64 cn] 3) := ⟨_, rfl⟩
  have hz1 : A1.heap.size = w.heap.size + 1 := by rw [hA1]; simp
  have hz2 : A2.heap.size = w.heap.size + 1 + 1 := by rw [hA2]; simp [hz1]
  have hz3 : A3.heap.size = w.heap.size + 1 + 1 + 1 := by rw [hA3]; simp [hz2]
  have hz4 : A4.heap.size = w.heap.size + 1 + 1 + 1 + 1 := by rw [hA4]; simp [hz3]
  have hz5 : A5.heap.size = w.heap.size + 5 := by rw [hA5]; simp [hz4]
  have b0 : BoxAt A5 w.heap.size #[fv] 89 := by rw [hA5, hA4, hA3, hA2, hA1, hfv]; exact ((((BoxAt.new w _ _).alloc _).alloc _).alloc _).alloc _
  have b1 : BoxAt A5 (w.heap.size + 1) #[.slice none 0 0] 49 := by rw [hA5, hA4, hA3, hA2, ← hz1]; exact (((BoxAt.new A1 _ _).alloc _).alloc _).alloc _
  have b2 : BoxAt A5 (w.heap.size + 2) #[.int .i64 0] 3 := by rw [hA5, hA4, hA3, show w.heap.size + 2 = A2.heap.size by omega]; exact ((BoxAt.new A2 _ _).alloc _).alloc _
  have b3 : BoxAt A5 (w.heap.size + 3) #[.int .i64 12] 29 := by rw [hA5, hA4, show w.heap.size + 3 = A3.heap.size by omega]; exact (BoxAt.new A3 _ _).alloc _
  have b4 : BoxAt A5 (w.heap.size + 1 + 1 + 1 + 1) #[.int .i64 cn] 3 := by rw [hA5, ← hz4]; exact BoxAt.new A4 _ _
  have hlow : Below w.heap.size w A5 := by
    rw [hA5, hA4, hA3, hA2, hA1]
    exact ((((((Below.refl w.heap.size w).alloc (Nat.le_refl _) _).alloc (by simp) _).alloc (by simp; omega) _).alloc (by simp; omega) _).alloc (by simp; omega) _)
  have hLI : LsI w fv (lstF tk []) [] (.slice none 0 0) A5 := ⟨b0, b1, b2, b3, OwnR.nil _ _, (fun y hy => by cases hy), hlow, by omega, fun _ => rfl⟩
  change Code.wpIn _ _ _ _ _ _ (((((w.alloc (.cells #[Value.func (.func 44) #[] #[lb]] 89)).alloc (.cells #[.slice none 0 0] 49)).alloc (.cells #[.int .i64 0] 3)).alloc (.cells #[.int .i64 12] 29)).alloc (.cells #[.int .i64 cn] 3))
  rw [← hA1, ← hA2, ← hA3, ← hA4, ← hA5]
  clear hA1 hA2 hA3 hA4 hA5 hz1 hz2 hz3 hz4 b0 b1 b2 b3 hfv
  refine wpIn_rangeFunc_rw rfl (by omega) (gf := 93) (lb := #[.pointer (some ⟨w.heap.size + 1 + 1 + 1 + 1, 0, none⟩)]) rfl trivial (enters_of Tryz.func93 (by kernel_rfl) rfl)
    (orders_rw cn c (w.heap.size + 1 + 1 + 1 + 1) _ A5 HE.out hcn b4) rfl
    (fun xs W => ∃ V, LsI w fv (lstF tk (xs.map (·.l))) xs V W)
    (fun _ _ _ => False)
    (fun xs X Y row hs hg hr => by obtain ⟨V, h⟩ := hs; exact ⟨V, h.kept hg (fun r e => ⟨by have := (hr r e).1; omega, (hr r e).2⟩)⟩)
    (fun _ _ _ _ _ hs _ _ => hs)
    (fun xs x X Y hs ho ht => by obtain ⟨V, h⟩ := hs; exact ⟨V, h.turn (List.mem_append.2 (Or.inr (List.mem_singleton.2 rfl))) (fun k e => by have := (ho.lt k e).1; omega) ht⟩)
    (fun X hX => ⟨_, hLI.below hX⟩)
    (fun x => { tmps := #[.int .i64 cn, .func (.func 44) #[] #[lb], undef, .pointer (some ⟨w.heap.size, 0, none⟩), .slice none 0 0, .int .i64 0, .int .i64 0, .pointer (some ⟨w.heap.size + 1, 0, none⟩), .pointer (some ⟨w.heap.size + 1 + 1, 0, none⟩), .pointer (some ⟨w.heap.size + 1 + 1 + 1, 0, none⟩), x.v, undef, undef, .int .i64 cn, .func (.func 93) #[] #[.pointer (some ⟨w.heap.size + 1 + 1 + 1 + 1, 0, none⟩)], x.v, undef, undef, undef, undef, undef, undef, undef, undef, undef, undef, undef, undef, undef, undef, undef, undef, undef, undef, undef, undef, undef, undef, undef], defers := [] }) ?assign ?body ?done ?stop
  case assign =>
    intro l x W K hK
    gi_wp2
    exact hK
  case body =>
    rintro l pre x W ⟨V, hI⟩ hlen ⟨hone, k, hk, hm⟩ how
    have hxl := ord_pick hm
    have HLEN := Lib.hid (show x.l.length = cn by rw [hxl]; exact ordAt_len _ _)
    have HTC := Lib.hid (HTK.out x.l x.v (A5.heap.size + 2) W hI.low how HLEN.out (by rw [hxl]; exact ord_in' _ _))
    have HSN := Lib.hid (show lstF tk ((pre ++ [x]).map (·.l)) = lstP tk (lstF tk (pre.map (·.l))) x.l by rw [List.map_append]; exact lstF_snoc _ _ _)
    obtain ⟨st, hst⟩ : ∃ st, st = lstF tk (pre.map (·.l)) := ⟨_, rfl⟩
    rw [← hst] at hI HSN
    have HONE := Lib.hid hone
    clear hst hm hxl hone
    obtain ⟨F, le, fo⟩ := st
    obtain ⟨t, ht⟩ : ∃ t, t = tk x.l := ⟨_, rfl⟩
    rw [← ht] at HTC
    have HLP := Lib.hid (show lstP tk (F, le, fo) x.l = if t.2 = 0 ∧ (fo ≠ 0 ∨ t.1 < le) then (x.l, t.1, 0) else (F, le, fo) by unfold lstP; rw [← ht])
    clear ht
    obtain ⟨mn, er⟩ := t
    dsimp only at HLP
    have c0 : W.cell? ⟨w.heap.size, 0, none⟩ = some fv := hI.b0.cell 0
    rw [HFV.out] at c0
    have HI := Lib.hid hI
    have HOW := Lib.hid how
    have hlo := hI.lo
    have HZ5 := Lib.hid hz5
    have HLX0 := Lib.hid (fun (W' : World) (hb : Below W.heap.size W W') => (show LsI w fv (F, le, fo) (pre ++ [x]) V W' from
      { hI.below hb with
        ne := fun y hy q e => by
          have hq : ∀ y ∈ pre, y.v = x.v := fun y hy => by
            obtain ⟨v, h⟩ := HONE.out
            rw [h y (List.mem_append.2 (Or.inl hy)), h x (List.mem_append.2 (Or.inr (List.mem_singleton.2 rfl)))]
          rcases List.mem_append.1 hy with h | h
          · exact hI.ne y h q e
          · rw [List.mem_singleton.1 h]
            rcases pre with _ | ⟨y0, pre0⟩
            · rw [hI.emp rfl] at e; cases e
            · rw [← hq y0 List.mem_cons_self]; exact hI.ne y0 List.mem_cons_self q e
        emp := fun h => by simp at h }))
    clear hI how hlow hz5 hLI b4
    refine wpIn_block ?_
    refine wpIn_seq ?_
    refine wpIn_round_plain (by rfl) (fun ⟨_, _, h⟩ => h) ?_
    go_wp2_with (go_at_call 44; refine HTC.out.mono ?_; rintro e W1 ⟨rfl, hb1⟩)
    have HB1 := Lib.hid hb1
    have HLX := Lib.hid (HLX0.out W1 hb1)
    have hI1 := HI.out.below hb1
    have hz1 := hb1.size
    have d2 : W1.cell? ⟨w.heap.size + 1 + 1, 0, none⟩ = some (.int .i64 le) := hI1.b2.cell 0
    have d3 : W1.cell? ⟨w.heap.size + 1 + 1 + 1, 0, none⟩ = some (.int .i64 fo) := hI1.b3.cell 0
    have HI1 := Lib.hid hI1
    have HO1 := Lib.hid (HOW.out.below hb1)
    clear c0 hb1 hI1 HLX0
    refine wpIn_seq ?_
    by_cases h1 : er = 0
    · by_cases h2 : fo = 0
      · by_cases h3 : mn < le
        · have HLP : Hid (lstP tk (F, le, fo) x.l = (x.l, mn, 0)) := Lib.hid (by rw [HLP.out, if_pos ⟨h1, Or.inr h3⟩])
          have h1' : (er == 0) = true := by simpa using h1
          have h2' : (fo != 0) = false := by simpa using h2
          have h3' : decide (mn < le) = true := decide_eq_true h3
          clear h1 h2 h3
          refine wpIn_round_plain (by rfl) (fun ⟨_, _, h⟩ => h) ?_
          go_wp2
          refine wpIn_cond (t := true) rfl ?_
          refine wpIn_round_plain (by rfl) (fun ⟨_, _, h⟩ => h) ?_
          go_wp2_with (go_at_call 67; refine (cloneOwn_any _ x.v x.l W1 HO1.out (by rw [HLEN.out]; omega)).mono ?_; rintro e W2 ⟨v2, rfl, hO2, hb2⟩; obtain ⟨ca, cc, ev, -⟩ := hO2.rows int_l; subst ev; have B1 := HI1.out.b1.below hb2; have B2 := HI1.out.b2.below hb2; have B3 := HI1.out.b3.below hb2; have k1 : W2.cell? ⟨w.heap.size + 1, 0, none⟩ = some V := B1.cell 0; have k2 : W2.cell? ⟨w.heap.size + 1 + 1, 0, none⟩ = some (.int .i64 le) := B2.cell 0; have k3 : W2.cell? ⟨w.heap.size + 1 + 1 + 1, 0, none⟩ = some (.int .i64 fo) := B3.cell 0; have f1 : W2.frozen? ⟨w.heap.size + 1, 0, none⟩ = false := B1.free 0; have f2 : W2.frozen? ⟨w.heap.size + 1 + 1, 0, none⟩ = false := B2.free 0; have f3 : W2.frozen? ⟨w.heap.size + 1 + 1 + 1, 0, none⟩ = false := B3.free 0; have l1 : w.heap.size + 1 + 1 + 1 < W2.heap.size := B3.lt; clear B1 B2 B3; have HO2 := Lib.hid hO2; have HB2 := Lib.hid hb2; clear hO2 hb2)
          have hne : ∀ y ∈ pre ++ [x], ∀ q, (Value.slice ca x.l.length cc).ownBlock = some q → y.v.ownBlock ≠ some q := fun y hy q e e2 => by
            obtain ⟨v, h⟩ := HONE.out
            have h1 := (HO2.out.lt q e).1
            rw [h y hy, ← h x (List.mem_append.2 (Or.inr (List.mem_singleton.2 rfl)))] at e2
            have h2 := (HO1.out.lt q e2).2
            omega
          have hP := (HI1.out.below HB2.out).put (mn := mn) (xs' := pre ++ [x]) HO2.out (by omega) hne (by simp)
          have hkk : ∀ k, k < W.heap.size → w.heap.size + 5 ≤ k → (((W2.setCell ⟨w.heap.size + 1, 0, none⟩ (.slice ca x.l.length cc)).setCell ⟨w.heap.size + 1 + 1, 0, none⟩ (.int .i64 mn)).setCell ⟨w.heap.size + 1 + 1 + 1, 0, none⟩ (.int .i64 0)).heap[k]? = W.heap[k]? := fun k hk hk2 => (hP.2 k hk2).trans ((HB2.out.block k (by omega)).trans (HB1.out.block k hk))
          have hz5 := HZ5.out
          refine ⟨⟨by simp; have := HB2.out.size; omega, fun k o hk ho _ => (hkk k (heap_lt ho) (by omega)).trans ho⟩, fun q e => hkk q (HOW.out.lt q e).2 (by have := (HOW.out.lt q e).1; omega), .slice ca x.l.length cc, ?_⟩
          rw [HSN.out, HLP.out]
          exact hP.1
        · have HLP : Hid (lstP tk (F, le, fo) x.l = (F, le, fo)) := Lib.hid (by rw [HLP.out, if_neg (by rintro ⟨_, h | h⟩; exact h h2; exact h3 h)])
          have h1' : (er == 0) = true := by simpa using h1
          have h2' : (fo != 0) = false := by simpa using h2
          have h3' : decide (mn < le) = false := decide_eq_false h3
          clear h1 h2 h3
          refine wpIn_round_plain (by rfl) (fun ⟨_, _, h⟩ => h) ?_
          go_wp2
          refine wpIn_cond (t := false) rfl ?_
          refine wpIn_skip ?_
          refine ⟨keeps_below HB1.out, fun q e => HB1.out.block q (HOW.out.lt q e).2, V, ?_⟩
          rw [HSN.out, HLP.out]
          exact HLX.out
      · have HLP : Hid (lstP tk (F, le, fo) x.l = (x.l, mn, 0)) := Lib.hid (by rw [HLP.out, if_pos ⟨h1, Or.inl h2⟩])
        have h1' : (er == 0) = true := by simpa using h1
        have h2' : (fo != 0) = true := by simpa using h2
        clear h1 h2
        refine wpIn_round_plain (by rfl) (fun ⟨_, _, h⟩ => h) ?_
        go_wp2
        refine wpIn_cond (t := true) rfl ?_
        refine wpIn_round_plain (by rfl) (fun ⟨_, _, h⟩ => h) ?_
        go_wp2_with (go_at_call 67; refine (cloneOwn_any _ x.v x.l W1 HO1.out (by rw [HLEN.out]; omega)).mono ?_; rintro e W2 ⟨v2, rfl, hO2, hb2⟩; obtain ⟨ca, cc, ev, -⟩ := hO2.rows int_l; subst ev; have B1 := HI1.out.b1.below hb2; have B2 := HI1.out.b2.below hb2; have B3 := HI1.out.b3.below hb2; have k1 : W2.cell? ⟨w.heap.size + 1, 0, none⟩ = some V := B1.cell 0; have k2 : W2.cell? ⟨w.heap.size + 1 + 1, 0, none⟩ = some (.int .i64 le) := B2.cell 0; have k3 : W2.cell? ⟨w.heap.size + 1 + 1 + 1, 0, none⟩ = some (.int .i64 fo) := B3.cell 0; have f1 : W2.frozen? ⟨w.heap.size + 1, 0, none⟩ = false := B1.free 0; have f2 : W2.frozen? ⟨w.heap.size + 1 + 1, 0, none⟩ = false := B2.free 0; have f3 : W2.frozen? ⟨w.heap.size + 1 + 1 + 1, 0, none⟩ = false := B3.free 0; have l1 : w.heap.size + 1 + 1 + 1 < W2.heap.size := B3.lt; clear B1 B2 B3; have HO2 := Lib.hid hO2; have HB2 := Lib.hid hb2; clear hO2 hb2)
        have hne : ∀ y ∈ pre ++ [x], ∀ q, (Value.slice ca x.l.length cc).ownBlock = some q → y.v.ownBlock ≠ some q := fun y hy q e e2 => by
          obtain ⟨v, h⟩ := HONE.out
          have h1 := (HO2.out.lt q e).1
          rw [h y hy, ← h x (List.mem_append.2 (Or.inr (List.mem_singleton.2 rfl)))] at e2
          have h2 := (HO1.out.lt q e2).2
          omega
        have hP := (HI1.out.below HB2.out).put (mn := mn) (xs' := pre ++ [x]) HO2.out (by omega) hne (by simp)
        have hkk : ∀ k, k < W.heap.size → w.heap.size + 5 ≤ k → (((W2.setCell ⟨w.heap.size + 1, 0, none⟩ (.slice ca x.l.length cc)).setCell ⟨w.heap.size + 1 + 1, 0, none⟩ (.int .i64 mn)).setCell ⟨w.heap.size + 1 + 1 + 1, 0, none⟩ (.int .i64 0)).heap[k]? = W.heap[k]? := fun k hk hk2 => (hP.2 k hk2).trans ((HB2.out.block k (by omega)).trans (HB1.out.block k hk))
        have hz5 := HZ5.out
        refine ⟨⟨by simp; have := HB2.out.size; omega, fun k o hk ho _ => (hkk k (heap_lt ho) (by omega)).trans ho⟩, fun q e => hkk q (HOW.out.lt q e).2 (by have := (HOW.out.lt q e).1; omega), .slice ca x.l.length cc, ?_⟩
        rw [HSN.out, HLP.out]
        exact hP.1
    · have HLP : Hid (lstP tk (F, le, fo) x.l = (F, le, fo)) := Lib.hid (by rw [HLP.out, if_neg (fun h => h1 h.1)])
      have h1' : (er == 0) = false := by simpa using h1
      clear h1
      refine wpIn_round_plain (by rfl) (fun ⟨_, _, h⟩ => h) ?_
      go_wp2
      refine wpIn_cond (t := false) rfl ?_
      refine wpIn_skip ?_
      refine ⟨keeps_below HB1.out, fun q e => HB1.out.block q (HOW.out.lt q e).2, V, ?_⟩
      rw [HSN.out, HLP.out]
      exact HLX.out
  case done =>
    rintro D xs W hD ⟨hone, hm⟩ ⟨V, hI⟩ hK
    rw [hm] at hI
    have c6 : W.cell? ⟨w.heap.size + 1, 0, none⟩ = some V := hI.b1.cell 0
    have c7 : W.cell? ⟨w.heap.size + 1 + 1, 0, none⟩ = some (.int .i64 (lstF tk (ordsL cn c)).2.1) := hI.b2.cell 0
    have c8 : W.cell? ⟨w.heap.size + 1 + 1 + 1, 0, none⟩ = some (.int .i64 (lstF tk (ordsL cn c)).2.2) := hI.b3.cell 0
    have HI := Lib.hid hI
    obtain ⟨va, vc, ev, -⟩ := hI.own.rows int_l
    subst ev
    clear hI hm hone
    gi_wp2
    refine wpIn_wide.2 ?_
    go_quiet (fail)
    gi_wp2
    have hnb : (Value.slice va (lstF tk (ordsL cn c)).1.length vc).ownBlock ≠ some D := fun e => by
      obtain ⟨cs, hcs⟩ := own_block HI.out.own D e
      rw [hK] at hcs; cases hcs
    refine ⟨by simp, .inl ⟨_, _, rfl, run_takeDeferred (w := W.drewN nq) hK, ?_⟩⟩
    refine ⟨.tuple #[.slice va (lstF tk (ordsL cn c)).1.length vc, .int .i64 (lstF tk (ordsL cn c)).2.1, .int .i64 (lstF tk (ordsL cn c)).2.2], by simp [results, Tryz.results43, go_sem], .slice va (lstF tk (ordsL cn c)).1.length vc, rfl, ?_, ?_⟩
    · exact ((HI.out.own.drewN nq).putObj hnb _).mono (by omega)
    · exact below_putObj (below_drewN HI.out.low nq) (by omega) _
  case stop =>
    rintro D cc pre W _ _ h _
    exact h.elim
end Go.Proofs.YtdgegebplebeoaaGreatDoor
