/-
  Package text: the reader of copy ends a part.
-/
import Derived.Test.YtomblajlpanmjaaGreatDoorQH
namespace Go.Proofs.YtomblajlpanmjaaGreatDoor
open Go.RowKit Go.Maps Go.Shelf

/-- The end of a part: the mark, the error, the reader. -/
def endP (st : CRd) : (Int × Int) × Int × CRd :=
  if st.kd = 0 then ((0, 0), 0, st)
  else if st.ws.length = 0 then ((st.ln, st.cl), 6, st)
  else ((0, 0), 0, { st with ps := st.ps ++ [⟨st.kd, none, 0, st.ws⟩], kd := 0, ws := [] })
theorem infoCP2 : (Tryz.prog.info? 72).map (fun i => (i.zero, i.size, i.bytes)) = some (some (.agg #[.int .i64 0, .slice none 0 0]), 2, 32) := by kernel_rfl
def EPPost (w : World) (B b : Nat) (st : CRd) (v u : Value) (e : Ending) (w' : World) : Prop :=
  e = .returned (.tuple #[.agg #[.int .i64 (endP st).1.1, .int .i64 (endP st).1.2], .int .i64 (endP st).2.1]) ∧ ∃ v' u', CRAt w' B b (endP st).2.2 v' u' ∧ (∀ q, u'.ownBlock = some q → u.ownBlock = some q ∨ w.heap.size ≤ q) ∧ (∀ q, v'.ownBlock = some q → v.ownBlock = some q ∨ w.heap.size ≤ q) ∧ KR w w' b v ∧ Below B w w'
theorem getD_old {l : List CP} {x : CP} {j : Nat} (h : j < l.length) : (l ++ [x]).getD j noCP = l.getD j noCP := by
  rw [List.getD_eq_getElem?_getD, List.getD_eq_getElem?_getD, List.getElem?_append_left h]
theorem getD_new {l : List CP} {x : CP} : (l ++ [x]).getD l.length noCP = x := by
  rw [List.getD_eq_getElem?_getD, List.getElem?_append_right (Nat.le_refl _), Nat.sub_self]; try rfl
/-- A part more. -/
theorem CRAt.ended {wa w5 W8 : World} {B b g n gg cap : Nat} {ps : List CP} {kd l0 k0 : Int} {ws : List ByteArray} {v u : Value} {xs : List Value} (hn : n = ps.length) (hB : B ≤ b)
    (hpo : wa.ownsRow B 72 2 v n xs)
    (hpx : ∀ j, j < n → ∃ v2, xs[j * 2]? = some (.int .i64 (ps.getD j noCP).kd) ∧ xs[j * 2 + 1]? = some v2 ∧ wa.ownsRow B 9 1 v2 (ps.getD j noCP).l.length (txs (ps.getD j noCP).l) ∧ ∀ q, v2.ownBlock = some q → u.ownBlock ≠ some q)
    (hwo : wa.ownsRow B 9 1 u ws.length (txs ws))
    (hown : w5.ownsRow B 72 2 (.slice (some ⟨gg, 0, none⟩) (n + 1) cap) (n + 1) (xs ++ [.int .i64 kd, u])) (hgrow : ((wa.alloc (.cells #[.int .i64 kd, u] 72)).drew).grownBy w5 v.ownBlock)
    (box : BoxAt W8 b #[.slice (some ⟨gg, 0, none⟩) (n + 1) cap, .int .i64 0, .slice none 0 0, .int .i64 l0, .int .i64 k0] 143)
    {cb cg : Array Value} (hb5 : BoxAt w5 b cb 143) (hg5 : BoxAt w5 g cg 49) (hk8 : ∀ k, k ≠ b → k ≠ g → W8.heap[k]? = w5.heap[k]?) :
    CRAt W8 B b ⟨ps ++ [⟨kd, none, 0, ws⟩], 0, [], l0, k0⟩ (.slice (some ⟨gg, 0, none⟩) (n + 1) cap) (.slice none 0 0) := by
  subst hn
  have str : ∀ {v2 : Value} {m : Nat} {ys : List Value}, wa.ownsRow B 9 1 v2 m ys → W8.ownsRow B 9 1 v2 m ys := fun {v2 m ys} h2 => own_still h2 fun q hq => by
    obtain ⟨cs, hc⟩ := own_blk h2 q hq
    have h5 : w5.heap[q]? = wa.heap[q]? := (hgrow.block q (by have := hp_lt hc; simp; omega) (fun e => by
      obtain ⟨c2, h3⟩ := own_blk hpo q e.symm
      rw [hc] at h3; cases h3)).trans (Below.heap_alloc _ _ _ (hp_lt hc))
    have hc5 := h5.trans hc
    exact (hk8 q (fun e => by rw [e, show w5.heap[b]? = _ from hb5] at hc5; cases hc5) (fun e => by rw [e, show w5.heap[g]? = _ from hg5] at hc5; cases hc5)).trans h5
  refine ⟨box, ⟨xs ++ [.int .i64 kd, u], ?_, fun j hj => ?_⟩, World.ownsRow_nil _ _ _ _, hB⟩
  · show World.ownsRow _ _ _ _ _ (ps ++ [_]).length _
    rw [List.length_append]
    refine own_still hown fun q hq => ?_
    obtain ⟨cs, hc⟩ := own_blk hown q hq
    exact hk8 q (fun e => by rw [e, show w5.heap[b]? = _ from hb5] at hc; cases hc) (fun e => by rw [e, show w5.heap[g]? = _ from hg5] at hc; cases hc)
  · have hxl : xs.length = ps.length * 2 := hpo.1
    have hj : j < (ps ++ [(⟨kd, none, 0, ws⟩ : CP)]).length := hj
    rw [List.length_append] at hj
    by_cases e : j < ps.length
    · obtain ⟨v2, e1, e2, h3, -⟩ := hpx j e
      show ∃ v2, _ ∧ _
      rw [getD_old e]
      exact ⟨v2, by rw [List.getElem?_append_left (by omega)]; exact e1, by rw [List.getElem?_append_left (by omega)]; exact e2, str h3, fun q _ h => by cases h⟩
    · obtain rfl : j = ps.length := by simp at hj; omega
      show ∃ v2, _ ∧ _
      rw [getD_new]
      exact ⟨u, by rw [← hxl, List.getElem?_append_right (Nat.le_refl _), Nat.sub_self]; try rfl, by rw [← hxl, List.getElem?_append_right (by omega), show xs.length + 1 - xs.length = 1 by omega]; try rfl, str hwo, fun q _ h => by cases h⟩
set_option maxRecDepth 100000 in
set_option maxHeartbeats 2000000 in
theorem endPart_any (B b : Nat) (st : CRd) (v u : Value) (w : World) (h : CRAt w B b st v u) (hps : st.ps.length ≤ 100000) (hws : st.ws.length ≤ 100000) (hBw : B ≤ w.heap.size) :
    Calls Tryz.prog 75 #[.pointer (some ⟨b, 0, none⟩)] w (EPPost w B b st v u) := by
  obtain ⟨ps, kd, ws, l0, k0⟩ := st
  change ps.length ≤ 100000 at hps
  change ws.length ≤ 100000 at hws
  have hbl : b < w.heap.size := h.box.lt
  have hBb := h.hB
  obtain ⟨A, c, rfl, hAc, hA0⟩ := own_shapeQ h.words
  change Nat at c
  obtain ⟨xs, hpo, hpx⟩ := h.parts
  obtain ⟨A2, c2, rfl, hA2, _⟩ := own_shapeQ hpo
  have c1 := h.box.cell 1; have c2' := h.box.cell 2; have c0 := h.box.cell 0; have c3 := h.box.cell 3; have c4 := h.box.cell 4
  have f0 := h.box.free 0; have f1 := h.box.free 1; have f2 := h.box.free 2
  simp at c0 c1 c2' c3 c4
  have bm := BoxAt.new w #[.int .i64 0, .int .i64 0] 49
  have ha := h.alloc (.cells #[.int .i64 0, .int .i64 0] 49)
  have ka := (KR.refl w b (.slice A2 ps.length c2)).alloc (.cells #[.int .i64 0, .int .i64 0] 49)
  have La := (Below.refl B w).alloc hBw (.cells #[.int .i64 0, .int .i64 0] 49)
  by_cases hk0 : kd = 0
  · subst hk0
    go_enter Tryz.func75, Tryz.ntmps75
    go_wp2_with fail
    refine bodyPost_ret (v := .tuple #[.agg #[.int .i64 0, .int .i64 0], .int .i64 0]) (by simp [results, Tryz.results75, go_sem]) rfl ⟨?_, .slice A2 ps.length c2, .slice A ws.length c, ?_, fun q e => Or.inl e, fun q e => Or.inl e, ka, La⟩
    · simp [endP]
    · rw [show (endP ⟨ps, 0, ws, l0, k0⟩).2.2 = ⟨ps, 0, ws, l0, k0⟩ by simp [endP]]; exact ha
  have hkI : (kd == 0) = false := by simpa using hk0
  by_cases hl0 : ws.length = 0
  · have hlI : ((ws.length : Int) == 0) = true := by rw [beq_iff_eq]; omega
    have hE := Lib.hid (show endP ⟨ps, kd, ws, l0, k0⟩ = ((l0, k0), 6, ⟨ps, kd, ws, l0, k0⟩) by simp [endP, hk0]; exact List.length_eq_zero_iff.1 hl0)
    clear hl0
    go_enter Tryz.func75, Tryz.ntmps75
    go_wp2_with fail
    refine bodyPost_ret (v := .tuple #[.agg #[.int .i64 l0, .int .i64 k0], .int .i64 6]) (by simp [results, Tryz.results75, go_sem]) rfl ⟨by rw [hE.out], .slice A2 ps.length c2, .slice A ws.length c, ?_, fun q e => Or.inl e, fun q e => Or.inl e, (KR.refl w b (.slice A2 ps.length c2)).alloc _, (Below.refl B w).alloc hBw _⟩
    rw [hE.out]; exact h.alloc _
  have hlI : ((ws.length : Int) == 0) = false := by rw [beq_eq_false_iff_ne]; omega
  have hl9 : ws ≠ [] := fun e => hl0 (by rw [e]; try rfl)
  have hE := Lib.hid (show endP ⟨ps, kd, ws, l0, k0⟩ = ((0, 0), 0, ⟨ps ++ [⟨kd, none, 0, ws⟩], 0, [], l0, k0⟩) by simp [endP, hk0, hl9])
  clear hl0 hl9
  go_enter Tryz.func75, Tryz.ntmps75
  go_wp2_with fail
  obtain ⟨wa, hwa⟩ : ∃ wa, wa = w.alloc (.cells #[.int .i64 0, .int .i64 0] 49) := ⟨_, rfl⟩
  rw [← hwa] at bm ha ka La ⊢
  have hpoA : wa.ownsRow B 72 2 (.slice A2 ps.length c2) ps.length xs := own_still hpo fun q hq => by
    obtain ⟨cs, hc⟩ := own_blk hpo q hq
    rw [hwa]; exact Below.heap_alloc _ _ _ (hp_lt hc)
  have hpxA : ∀ j, j < ps.length → ∃ v2, xs[j * 2]? = some (.int .i64 (ps.getD j noCP).kd) ∧ xs[j * 2 + 1]? = some v2 ∧ wa.ownsRow B 9 1 v2 (ps.getD j noCP).l.length (txs (ps.getD j noCP).l) ∧ ∀ q, v2.ownBlock = some q → (Value.slice A ws.length c).ownBlock ≠ some q := fun j hj => by
    obtain ⟨v2, e1, e2, e3, e4⟩ := hpx j hj
    exact ⟨v2, e1, e2, own_still e3 fun q hq => by
      obtain ⟨cs, hc⟩ := own_blk e3 q hq
      rw [hwa]; exact Below.heap_alloc _ _ _ (hp_lt hc), e4⟩
  have HPX := Lib.hid hpxA
  have a0 := ha.box.cell 0; have a1 := ha.box.cell 1; have a2 := ha.box.cell 2
  have z0 := ha.box.free 0
  simp at a0 a1 a2
  have hal := ha.box.lt
  have hml := bm.lt
  have hks := ka.size
  have hno := own_nob hpoA ha.box (by decide)
  have hnm := own_nob hpoA bm (by decide)
  obtain ⟨i0, hi0, hz0, hz1, hz2⟩ := info_parts infoCP2
  have h63 : ps.length + 1 ≤ maxLen := by unfold maxLen; omega
  have hby : (ps.length + 1) * 32 ≤ 140737488355328 := by omega
  clear hwa hpo hpx hpxA c0 c1 c2' c3 c4 f0 f1 f2
  go_region_law (first
    | (refine step_append_lies _ (by rfl) _ _ _ (by rfl) B 72 i0 _ 2 32 Tryz.underlying42 hi0 hz0 hz1 hz2 rfl (by omega) _ ps.length _ (by rfl) ((hpoA.alloc _).drew)
        ⟨wa.heap.size, 0, none⟩ 1 1 [.int .i64 kd, .slice A ws.length c] (by rfl) (by rfl) (World.news_of_block (cs := #[.int .i64 kd, .slice A ws.length c]) (t := 72) (fr := (0, 0)) (heap_alloc_new wa _)) (by simp [Value.oneCell'])
        (by omega) h63 hby (by simp; omega) (wa.heap.size + 1) (by simp) ?_; intro gg cap5 w5 hown5 hgrow hat hlt5; have b5 : BoxAt w5 b #[.slice A2 ps.length c2, .int .i64 kd, .slice A ws.length c, .int .i64 l0, .int .i64 k0] 143 := (hgrow.block b (by simp; omega) (fun e => hno e.symm)).trans ((Below.heap_alloc wa _ b hal).trans ha.box); have g5 : BoxAt w5 w.heap.size #[.int .i64 0, .int .i64 0] 49 := (hgrow.block w.heap.size (by simp; omega) (fun e => hnm e.symm)).trans ((Below.heap_alloc wa _ _ hml).trans bm); have z5 := b5.free 0; have x5 := b5.cell 0; simp at x5))
  all_goals
    obtain ⟨w6, e6⟩ : ∃ w6, w6 = w5.setCell ⟨b, 0, none⟩ (.slice (some ⟨gg, 0, none⟩) (ps.length + 1) cap5) := ⟨_, rfl⟩
    have hgb : w.heap.size ≠ b := by omega
    have b6 : BoxAt w6 b #[.slice (some ⟨gg, 0, none⟩) (ps.length + 1) cap5, .int .i64 kd, .slice A ws.length c, .int .i64 l0, .int .i64 k0] 143 := by rw [e6]; exact b5.set 0 _
    have g6 : BoxAt w6 w.heap.size #[.int .i64 0, .int .i64 0] 49 := by rw [e6]; exact g5.set_other hgb _
    have L6 : Below B w w6 := by rw [e6]; exact (((La.alloc (by omega) (.cells #[.int .i64 kd, .slice A ws.length c] 72)).drew).grown hgrow (by simp; omega) (fun q hq => (hpoA.lt q hq).1)).setCell (p := ⟨b, 0, none⟩) hBb _
    have K6 : KR w w6 b (.slice A2 ps.length c2) := by rw [e6]; exact (((ka.alloc (.cells #[.int .i64 kd, .slice A ws.length c] 72)).drew).grown hgrow (fun q hq => Or.inl hq)).set (p := ⟨b, 0, none⟩) (Or.inl rfl) _
    have hk6 : ∀ k, k ≠ b → w6.heap[k]? = w5.heap[k]? := fun k hk => by rw [e6]; exact Below.heap_setCell _ _ _ _ hk
    rw [← e6]
    have hS : ∀ q, (Value.slice (some ⟨gg, 0, none⟩) (ps.length + 1) cap5).ownBlock = some q → (Value.slice A2 ps.length c2).ownBlock = some q ∨ w.heap.size ≤ q := fun q hq => by
      have : gg = q := by simpa [Value.ownBlock] using hq
      subst this
      rcases hat with h1 | h1
      · exact Or.inl h1
      · right; omega
    clear e6 x5 z5 a0 a1 a2 z0
    have x61 := b6.cell 1; have x62 := b6.cell 2; have z61 := b6.free 1; have z62 := b6.free 2
    simp at x61 x62
    have b8 := (b6.set 1 (.int .i64 0)).set 2 (.slice none 0 0)
    have g7 := (g6.set_other (p := ⟨b, 1, none⟩) hgb (.int .i64 0)).set_other (p := ⟨b, 2, none⟩) hgb (.slice none 0 0)
    have m0 : ((w6.setCell ⟨b, 1, none⟩ (.int .i64 0)).setCell ⟨b, 2, none⟩ (.slice none 0 0)).cell? ⟨w.heap.size, 0, none⟩ = some (.int .i64 0) := g7.cell 0
    have m1 : ((w6.setCell ⟨b, 1, none⟩ (.int .i64 0)).setCell ⟨b, 2, none⟩ (.slice none 0 0)).cell? ⟨w.heap.size, 1, none⟩ = some (.int .i64 0) := g7.cell 1
    have n0 := g7.free 0; have n1 := g7.free 1
    have b9 := (b8.set_other (p := ⟨w.heap.size, 0, none⟩) (Ne.symm hgb) (.int .i64 0)).set_other (p := ⟨w.heap.size, 1, none⟩) (Ne.symm hgb) (.int .i64 0)
    have g9 := (g7.set 0 (.int .i64 0)).set 1 (.int .i64 0)
    have L9 := (((L6.setCell (p := ⟨b, 1, none⟩) hBb (.int .i64 0)).setCell (p := ⟨b, 2, none⟩) hBb (.slice none 0 0)).setCell (p := ⟨w.heap.size, 0, none⟩) hBw (.int .i64 0)).setCell (p := ⟨w.heap.size, 1, none⟩) hBw (.int .i64 0)
    have K9 := (((K6.set (p := ⟨b, 1, none⟩) (Or.inl rfl) (.int .i64 0)).set (p := ⟨b, 2, none⟩) (Or.inl rfl) (.slice none 0 0)).set (p := ⟨w.heap.size, 0, none⟩) (Or.inr (Nat.le_refl _)) (.int .i64 0)).set (p := ⟨w.heap.size, 1, none⟩) (Or.inr (Nat.le_refl _)) (.int .i64 0)
    have C9 := CRAt.ended rfl hBb hpoA HPX.out ha.words hown5 hgrow b9 b5 g5 (fun k h1 h2 => (Below.heap_setCell _ _ _ _ h2).trans ((Below.heap_setCell _ _ _ _ h2).trans ((Below.heap_setCell _ _ _ _ h1).trans ((Below.heap_setCell _ _ _ _ h1).trans (hk6 k h1)))))
    obtain ⟨w9, e9⟩ : ∃ w9, w9 = (((w6.setCell ⟨b, 1, none⟩ (.int .i64 0)).setCell ⟨b, 2, none⟩ (.slice none 0 0)).setCell ⟨w.heap.size, 0, none⟩ (.int .i64 0)).setCell ⟨w.heap.size, 1, none⟩ (.int .i64 0) := ⟨_, rfl⟩
    rw [← e9] at b9 g9 L9 K9 C9
    have q0 : w9.cell? ⟨w.heap.size, 0, none⟩ = some (.int .i64 0) := g9.cell 0
    have q1 : w9.cell? ⟨w.heap.size, 1, none⟩ = some (.int .i64 0) := g9.cell 1
    have HE9 := Lib.hid e9
    clear b8 g7 g6 b6 L6 K6 b9 g9 hk6 e9
    go_wp2
    rw [← HE9.out]
    refine bodyPost_ret (v := .tuple #[.agg #[.int .i64 0, .int .i64 0], .int .i64 0]) (by simp [results, Tryz.results75, go_sem, q0, q1]) rfl ⟨by rw [hE.out], _, _, by rw [hE.out]; exact C9, (fun q e => by cases e), hS, K9, L9⟩
end Go.Proofs.YtomblajlpanmjaaGreatDoor

namespace Go.Proofs.YtomblajlpanmjaaGreatDoor
open Go.RowKit Go.Maps Go.Shelf

/-- The words of line n go into the reader, up to the first error. -/
def rdWs (n : Int) : CRd → List (Nat × List UInt8) → ((Int × Int) × Int) ⊕ CRd
  | st, [] => .inr st
  | st, (k, t) :: r => if (rdW st ⟨t.toArray⟩ n ((k : Int) + 1)).1 ≠ 0 then .inl ((n, (k : Int) + 1), (rdW st ⟨t.toArray⟩ n ((k : Int) + 1)).1) else rdWs n (rdW st ⟨t.toArray⟩ n ((k : Int) + 1)).2 r
theorem rdWs_app (n : Int) : ∀ (a b : List (Nat × List UInt8)) (st : CRd), rdWs n st (a ++ b) = match rdWs n st a with
    | .inl e => .inl e
    | .inr s => rdWs n s b
  | [], _, _ => rfl
  | (k, t) :: a, b, st => by
    show (if (rdW st ⟨t.toArray⟩ n ((k : Int) + 1)).1 ≠ 0 then Sum.inl _ else rdWs n _ (a ++ b)) = match (if (rdW st ⟨t.toArray⟩ n ((k : Int) + 1)).1 ≠ 0 then Sum.inl _ else rdWs n _ a) with
      | .inl e => .inl e
      | .inr s => rdWs n s b
    by_cases h : (rdW st ⟨t.toArray⟩ n ((k : Int) + 1)).1 ≠ 0
    · rw [if_pos h, if_pos h]
    · rw [if_neg h, if_neg h]; exact rdWs_app n a b _
theorem rdWs_stop {n : Int} {a b : List (Nat × List UInt8)} {st : CRd} {e : (Int × Int) × Int} (h : rdWs n st a = .inl e) : rdWs n st (a ++ b) = .inl e := by rw [rdWs_app, h]
theorem rdWs_one {n : Int} {a : List (Nat × List UInt8)} {st s : CRd} {k : Nat} {t : List UInt8} (h : rdWs n st a = .inr s) :
    rdWs n st (a ++ [(k, t)]) = if (rdW s ⟨t.toArray⟩ n ((k : Int) + 1)).1 ≠ 0 then .inl ((n, (k : Int) + 1), (rdW s ⟨t.toArray⟩ n ((k : Int) + 1)).1) else .inr (rdW s ⟨t.toArray⟩ n ((k : Int) + 1)).2 := by
  rw [rdWs_app, h]; try rfl
/-- What a line does to the reader: the mark, the error, the reader. -/
def rdLn (st : CRd) (n : Int) (t : List UInt8) : (Int × Int) × Int × Option CRd :=
  if wordsL t = [] then ((endP st).1, (endP st).2.1, some (endP st).2.2)
  else match rdWs n st (wordsL t) with
    | .inl e => (e.1, e.2, none)
    | .inr s => ((0, 0), 0, some s)
theorem rdW_ps (st : CRd) (wd : ByteArray) (n k : Int) : (rdW st wd n k).2.ps = st.ps := by
  unfold rdW; split; · rfl
  split; · rfl
  split; · rfl
  split <;> rfl
/-- What holds between two words: g is where the call's own boxes begin, the iterator's are at g + 8 to g + 12. -/
structure LIq (w : World) (B b g : Nat) (st : CRd) (v u : Value) (n : Int) (pre : List WdS) (X : World) : Prop where
  low : Below B w X
  kr : KR w X b u
  x0 : BoxAt X g #[.pointer (some ⟨b, 0, none⟩)] 203
  x1 : BoxAt X (g + 1) #[.int .i64 n] 3
  x2 : BoxAt X (g + 2) #[.int .i64 0, .int .i64 0] 49
  x3 : BoxAt X (g + 3) #[.int .i64 0] 27
  x4 : BoxAt X (g + 4) #[.bool pre.isEmpty] 4
  rd : ∃ (s : CRd) (u' : Value), rdWs n st (wds pre) = .inr s ∧ BoxAt X b #[v, .int .i64 s.kd, u', .int .i64 s.ln, .int .i64 s.cl] 143 ∧ X.ownsRow B 9 1 u' s.ws.length (txs s.ws) ∧ s.ps = st.ps ∧ s.ws.length ≤ st.ws.length + pre.length ∧ ∀ q, u'.ownBlock = some q → u.ownBlock = some q ∨ g + 13 ≤ q
section
variable {w X Y : World} {B b g : Nat} {st : CRd} {v u : Value} {n : Int} {pre : List WdS}
theorem LIq.reader (h : LIq w B b g st v u n pre X) (h0 : CRAt w B b st v u) (hg : w.heap.size ≤ g) : ∃ (s : CRd) (u' : Value), rdWs n st (wds pre) = .inr s ∧ CRAt X B b s v u' ∧ s.ps = st.ps ∧ s.ws.length ≤ st.ws.length + pre.length ∧ ∀ q, u'.ownBlock = some q → u.ownBlock = some q ∨ g + 13 ≤ q := by
  obtain ⟨s, u', h1, h2, h3, h4, h5, h6⟩ := h.rd
  refine ⟨s, u', h1, ⟨h2, ?_, h3, h0.hB⟩, h4, h5, h6⟩
  rw [h4]
  refine h0.parts.still (fun q hq => (h6 q hq).imp id (fun h => by omega)) (fun k cs T hk hT => ?_)
  refine h.kr.block k (hp_lt hk) (fun e => ?_) (fun e => ?_)
  · rw [e, show w.heap[b]? = _ from h0.box] at hk; cases hk
    rcases hT with hT | ⟨hT, _⟩ <;> exact absurd hT (by decide)
  · rcases hT with hT | ⟨_, hT⟩
    · obtain ⟨c2, h2⟩ := own_blk h0.words k e
      rw [hk] at h2; cases h2; exact absurd hT (by decide)
    · exact hT e
theorem LIq.own (hg : w.heap.size ≤ g) (hB : B ≤ g) : OwnFrom (g + 6) (LIq w B b g st v u n) := fun pre X Y row h hgr hr => by
  have hc : ∀ r, row = some r → ∃ o : Obj, X.heap[r]? = some o ∧ o.isCells = false := fun r e => (hr r e).2
  obtain ⟨s, u', h1, h2, h3, h4, h5, h6⟩ := h.rd
  refine ⟨h.low.grown hgr (by have := hr; exact Nat.le_trans (by omega) (Nat.le_trans (Nat.le_of_lt h.x0.lt) (Nat.le_refl _))) (fun q hq => by have := (hr q hq).1; omega), h.kr.grown hgr (fun q hq => Or.inr (by have := (hr q hq).1; omega)), box_keeps h.x0 hgr hc, box_keeps h.x1 hgr hc, box_keeps h.x2 hgr hc, box_keeps h.x3 hgr hc, box_keeps h.x4 hgr hc, s, u', h1, box_keeps h2 hgr hc, own_still h3 (fun q hq => ?_), h4, h5, h6⟩
  obtain ⟨cs, hk⟩ := own_blk h3 q hq
  exact box_keeps (show BoxAt X q cs _ from hk) hgr hc |>.trans hk.symm
theorem LIq.moved (hg : w.heap.size ≤ g) (hB : B ≤ g) (hb : b < g) (h0 : CRAt w B b st v u) (h : LIq w B b g st v u n pre X) (hw : WinSet (g + 6 + 2) (g + 6 + 2 + 5) X Y) : LIq w B b g st v u n pre Y := by
  obtain ⟨p, x, h8, h9, rfl⟩ := hw
  obtain ⟨s, u', h1, h2, h3, h4, h5, h6⟩ := h.rd
  refine ⟨h.low.setCell (by omega) _, h.kr.set (Or.inr (by omega)) _, h.x0.set_other (by omega) _, h.x1.set_other (by omega) _, h.x2.set_other (by omega) _, h.x3.set_other (by omega) _, h.x4.set_other (by omega) _, s, u', h1, h2.set_other (by omega) _, own_still h3 (fun q hq => Below.heap_setCell _ _ _ _ ?_), h4, h5, h6⟩
  rcases h6 q hq with h7 | h7
  · obtain ⟨cs, hc⟩ := own_blk h0.words q h7
    have := hp_lt hc; omega
  · omega
end
/-- What is left where a word is refused. -/
def LX (w : World) (B g : Nat) (st : CRd) (n : Int) (c : Code) (pre : List WdS) (X : World) : Prop :=
  c = .ret ∧ ∃ (m1 m2 er : Int), rdWs n st (wds pre) = .inl ((m1, m2), er) ∧ Below B w X ∧ BoxAt X (g + 2) #[.int .i64 m1, .int .i64 m2] 49 ∧ BoxAt X (g + 3) #[.int .i64 er] 27
theorem LX.own {w : World} {B g : Nat} {st : CRd} {n : Int} (hB : B ≤ g) (c : Code) : OwnFrom (g + 6) (LX w B g st n c) := fun pre X Y row ⟨h1, m1, m2, er, h2, h3, h4, h5⟩ hgr hr => by
  have hc : ∀ r, row = some r → ∃ o : Obj, X.heap[r]? = some o ∧ o.isCells = false := fun r e => (hr r e).2
  exact ⟨h1, m1, m2, er, h2, h3.grown hgr (by have := h4.lt; omega) (fun q hq => by have := (hr q hq).1; omega), box_keeps h4 hgr hc, box_keeps h5 hgr hc⟩
end Go.Proofs.YtomblajlpanmjaaGreatDoor

namespace Go.Proofs.YtomblajlpanmjaaGreatDoor
open Go.RowKit Go.Maps Go.Shelf
attribute [local go_sem] Oper.semAt_some

def RLP (w : World) (B b : Nat) (st : CRd) (n : Int) (t : List UInt8) (e : Ending) (w' : World) : Prop :=
  e = .returned (.tuple #[.agg #[.int .i64 (rdLn st n t).1.1, .int .i64 (rdLn st n t).1.2], .int .i64 (rdLn st n t).2.1]) ∧ Below B w w' ∧ ∀ s, (rdLn st n t).2.2 = some s → ∃ v' u', CRAt w' B b s v' u'
theorem CRAt.other {w : World} {B b p : Nat} {st : CRd} {v u : Value} {cs : Array Value} {T : TypeId} (h : CRAt w B b st v u) (hp : BoxAt w p cs T) (h1 : T ≠ 143) (h2 : T ≠ 9) (h3 : T ≠ 72) (j : Nat) (x : Value) : CRAt (w.setCell ⟨p, j, none⟩ x) B b st v u :=
  ⟨h.box.set_other (fun e => by have h4 := hp; rw [← show b = p from e, show BoxAt w b cs T = (w.heap[b]? = _) from rfl, show w.heap[b]? = _ from h.box] at h4; cases h4; exact h1 rfl) _,
   h.parts.still (fun q hq => Or.inl hq) (fun k c T' hk hT => Below.heap_setCell _ _ _ _ (fun e => by
     rw [show k = p from e, show w.heap[p]? = _ from hp] at hk; cases hk
     rcases hT with hT | ⟨hT, _⟩
     · exact h3 hT
     · exact h2 hT)), own_setB h.words hp h2 j x, h.hB⟩
theorem rdW_ws (st : CRd) (wd : ByteArray) (n k : Int) : (rdW st wd n k).2.ws.length ≤ st.ws.length + 1 := by
  unfold rdW; split; · exact Nat.le_succ _
  split; · exact Nat.le_succ _
  split; · exact Nat.le_succ _
  split; · exact Nat.le_succ _
  simp
/-- A function leaves past one mark, its results lying in memory. -/
theorem leave_at {F : Fence} {n : Nat} {P : Program} {fn : Func} {tmps : Array Value} {R : Ending → World → Prop} {D : Nat} {X : World} {v : Value} (hD : X.heap[D]? = some (.deferred (some [])))
    (h1 : (results fn tmps).run P (X.putObj D (.deferred none)) = .ok v (X.putObj D (.deferred none))) (h2 : R (.returned v) (X.putObj D (.deferred none))) : LeavesInM F n P fn tmps R [{ target := .collected D, args := #[] }] .returning X :=
  ⟨by simp, .inl ⟨D, _, rfl, run_takeDeferred hD, ⟨v, h1, h2⟩⟩⟩
theorem box_putD {X : World} {D b : Nat} {cs : Array Value} {T : TypeId} {o : Obj} (h : BoxAt X b cs T) (hD : X.heap[D]? = some (.deferred (some []))) : BoxAt (X.putObj D o) b cs T :=
  (World.putObj_heap_other (fun e => by rw [← e, show X.heap[b]? = _ from h] at hD; cases hD)).trans h
theorem below_putD {w X : World} {B D : Nat} {o : Obj} (h : Below B w X) (hD : B ≤ D) : Below B w (X.putObj D o) :=
  h.trans ⟨rfl, rfl, rfl, by simp [World.putObj], fun k hk => World.putObj_heap_other (fun e => by omega)⟩
theorem CRAt.putD {X : World} {B b D : Nat} {st : CRd} {v u : Value} {o : Obj} (h : CRAt X B b st v u) (hD : X.heap[D]? = some (.deferred (some []))) : CRAt (X.putObj D o) B b st v u := by
  have hk : ∀ (k : Nat) (cs : Array Value) (T : TypeId), X.heap[k]? = some (Obj.cells cs T (0, 0)) → (X.putObj D o).heap[k]? = X.heap[k]? := fun k cs T hk => World.putObj_heap_other (fun e => by rw [← e, hk] at hD; cases hD)
  exact ⟨(hk _ _ _ h.box).trans h.box, h.parts.still (fun q hq => Or.inl hq) (fun k cs T h1 _ => hk k cs T h1), own_still h.words (fun q hq => by obtain ⟨cs, hc⟩ := own_blk h.words q hq; exact hk _ _ _ hc), h.hB⟩
set_option maxRecDepth 100000 in
set_option maxHeartbeats 2000000 in
theorem copyLine_any (B b : Nat) (st : CRd) (v u : Value) (s : ByteArray) (n : Int) (w : World) (h : CRAt w B b st v u) (hs : s.size ≤ 60000) (hps : st.ps.length ≤ 30000) (hws : st.ws.length ≤ 30000) (hBw : B ≤ w.heap.size) :
    Calls Tryz.prog 74 #[.pointer (some ⟨b, 0, none⟩), .string s, .int .i64 n] w (RLP w B b st n s.data.toList) := by
  obtain ⟨g, hg⟩ : ∃ g, w.heap.size = g := ⟨_, rfl⟩
  have hbl : b < g := by have := h.box.lt; omega
  have hBb := h.hB
  obtain ⟨V5, hV5⟩ : ∃ V5, V5 = ((((w.alloc (.cells #[.pointer (some ⟨b, 0, none⟩)] 203)).alloc (.cells #[.int .i64 n] 3)).alloc (.cells #[.int .i64 0, .int .i64 0] 49)).alloc (.cells #[.int .i64 0] 27)).alloc (.cells #[.bool true] 4) := ⟨_, rfl⟩
  obtain ⟨V, hV⟩ : ∃ V, V = V5.alloc (.cells #[.string s] 9) := ⟨_, rfl⟩
  have z5 : V5.heap.size = g + 5 := by rw [hV5]; simp; omega
  have zV : V.heap.size = g + 6 := by rw [hV, World.size_alloc, z5]
  have x0 : BoxAt V g #[.pointer (some ⟨b, 0, none⟩)] 203 := by
    have h := BoxAt.new w #[.pointer (some ⟨b, 0, none⟩)] 203
    rw [hg] at h; rw [hV, hV5]; exact ((((h.alloc _).alloc _).alloc _).alloc _).alloc _
  have x1 : BoxAt V (g + 1) #[.int .i64 n] 3 := by
    have h := BoxAt.new (w.alloc (.cells #[.pointer (some ⟨b, 0, none⟩)] 203)) #[.int .i64 n] 3
    rw [World.size_alloc, hg] at h; rw [hV, hV5]; exact (((h.alloc _).alloc _).alloc _).alloc _
  have x2 : BoxAt V (g + 2) #[.int .i64 0, .int .i64 0] 49 := by
    have h := BoxAt.new ((w.alloc (.cells #[.pointer (some ⟨b, 0, none⟩)] 203)).alloc (.cells #[.int .i64 n] 3)) #[.int .i64 0, .int .i64 0] 49
    rw [World.size_alloc, World.size_alloc, hg] at h; rw [hV, hV5]; exact ((h.alloc _).alloc _).alloc _
  have x3 : BoxAt V (g + 3) #[.int .i64 0] 27 := by
    have h := BoxAt.new (((w.alloc (.cells #[.pointer (some ⟨b, 0, none⟩)] 203)).alloc (.cells #[.int .i64 n] 3)).alloc (.cells #[.int .i64 0, .int .i64 0] 49)) #[.int .i64 0] 27
    rw [World.size_alloc, World.size_alloc, World.size_alloc, hg] at h; rw [hV, hV5]; exact (h.alloc _).alloc _
  have x4 : BoxAt V (g + 4) #[.bool true] 4 := by
    have h := BoxAt.new ((((w.alloc (.cells #[.pointer (some ⟨b, 0, none⟩)] 203)).alloc (.cells #[.int .i64 n] 3)).alloc (.cells #[.int .i64 0, .int .i64 0] 49)).alloc (.cells #[.int .i64 0] 27)) #[.bool true] 4
    rw [World.size_alloc, World.size_alloc, World.size_alloc, World.size_alloc, hg] at h; rw [hV, hV5]; exact h.alloc _
  have x5 : BoxAt V (g + 5) #[.string s] 9 := by
    have h := BoxAt.new V5 #[.string s] 9
    rw [z5] at h; rw [hV]; exact h
  have hbV : Below w.heap.size w V := by
    rw [hV, hV5]
    exact ((((((Below.refl _ w).alloc (by omega) _).alloc (by simp) _).alloc (by simp; omega) _).alloc (by simp; omega) _).alloc (by simp; omega) _).alloc (by simp; omega) _
  have hLV : Below B w V := hbV.mono hBw
  have hKV : KR w V b u := (KR.refl w b u).below hbV
  have hI0 : ∀ X, Below V.heap.size V X → V.heap.size + 2 + 5 ≤ X.heap.size → LIq w B b g st v u n [] X := fun X hX _ => by
    have hw := hbV.trans (hX.mono (by omega))
    have hr : CRAt X B b st v u := ⟨h.box.below hw, h.parts.still (fun q hq => Or.inl hq) (fun k cs T hk _ => hw.block k (hp_lt hk)), own_still h.words (fun q hq => by obtain ⟨cs, hc⟩ := own_blk h.words q hq; exact hw.block q (hp_lt hc)), h.hB⟩
    exact ⟨hLV.trans (hX.mono (by omega)), hKV.below hX, x0.below hX, x1.below hX, x2.below hX, x3.below hX, x4.below hX, st, u, rfl, hr.box, hr.words, rfl, by simp, fun q hq => Or.inl hq⟩
  have HV := Lib.hid hV; have HV5 := Lib.hid hV5
  clear hV hV5
  refine (callsIn_wide (n := 9)).1 ?_
  refine callsIn_of_wp_marks Tryz.func74 rfl trivial ?_ rfl
  simp only [Tryz.ntmps74, List.size_toArray, List.length_cons, List.length_nil, Nat.reduceAdd, Nat.reduceSub, Array.replicate_succ, Array.replicate_zero, List.push_toArray, List.append_toArray, List.nil_append, List.cons_append]
  gi_wp2
  refine ⟨trivial, ?_⟩
  rw [← HV5.out]
  refine (callsIn_wide.2 (wordsIn_any s _)).mono ?_
  rintro e w2 ⟨rfl, rfl⟩
  rw [← HV.out, z5]
  gi_wp2
  refine wpIn_rangeFunc_mw rfl (by omega) (gf := 152) (lb := #[.pointer (some ⟨g + 5, 0, none⟩)]) rfl trivial (enters_of Tryz.func152 (by kernel_rfl) rfl)
    (wordsIn_mw s (g + 5) _ V (by decide) x5 (by omega)) (fun _ => rfl)
    (LIq w B b g st v u n) (LX w B g st n) (by rw [zV]; exact LIq.own (by omega) (by omega)) (fun c => by rw [zV]; exact LX.own (by omega) c)
    (fun pre X Y hX hw => by rw [zV] at hw; exact LIq.moved (by omega) (by omega) hbl h hX hw) hI0
    (fun x => { tmps := #[.pointer (some ⟨b, 0, none⟩), .string s, .int .i64 n, .pointer (some ⟨g, 0, none⟩), undef, .pointer (some ⟨g + 1, 0, none⟩), .pointer (some ⟨g + 1 + 1, 0, none⟩), .pointer (some ⟨g + 1 + 1 + 1, 0, none⟩), .pointer (some ⟨g + 1 + 1 + 1 + 1, 0, none⟩), .int .i64 (x.1.1 : Int), .string x.1.2, undef, undef, .string s, .func (.func 152) #[] #[.pointer (some ⟨g + 5, 0, none⟩)], .int .i64 (x.1.1 : Int), .string x.1.2, undef, undef, undef, undef, undef, undef, undef, undef, undef, undef, undef, undef, undef, undef, undef, undef, undef, undef], defers := [] }) ?assign ?body ?done ?stop
  case assign =>
    intro l2 x X K hK
    gi_wp2
    exact hK
  case body =>
    rintro lo pre x X hI hXs hpl hr
    rw [zV] at hXs
    obtain ⟨s1, u1, q1, hC1, hp1, hw1, ho1⟩ := hI.reader h (by omega)
    obtain ⟨k, hk⟩ : ∃ k : Nat, k = x.1.1 := ⟨_, rfl⟩
    obtain ⟨wd, hwd⟩ : ∃ wd, wd = x.1.2 := ⟨_, rfl⟩
    have hkb : k ≤ 200000 := by rw [hk]; exact x.2.1
    have hwb : wd.size ≤ 100000 := by rw [hwd]; exact x.2.2
    rw [← hk, ← hwd]
    have hpx : wds (pre ++ [x]) = wds pre ++ [(k, wd.data.toList)] := by rw [wds_app, hk, hwd]; try rfl
    have hone := rdWs_one (k := k) (t := wd.data.toList) q1
    rw [show (⟨wd.data.toList.toArray⟩ : ByteArray) = wd by simp, ← hpx] at hone
    obtain ⟨XW, hXW⟩ : ∃ XW, XW = (X.setCell ⟨g + 1 + 1 + 1 + 1, 0, none⟩ (.bool false)).alloc (.cells #[.int .i64 n, .int .i64 ((k : Int) + 1)] 49) := ⟨_, rfl⟩
    have hzX : XW.heap.size = X.heap.size + 1 := by rw [hXW]; simp
    have y4 : BoxAt (X.setCell ⟨g + 4, 0, none⟩ (.bool false)) (g + 4) #[.bool false] 4 := hI.x4.set 0 _
    have hC2 : CRAt XW B b s1 v u1 := by rw [hXW]; exact (hC1.other hI.x4 (by decide) (by decide) (by decide) 0 (.bool false)).alloc _
    have m0 : BoxAt XW X.heap.size #[.int .i64 n, .int .i64 ((k : Int) + 1)] 49 := by
      have h := BoxAt.new (X.setCell ⟨g + 1 + 1 + 1 + 1, 0, none⟩ (.bool false)) #[.int .i64 n, .int .i64 ((k : Int) + 1)] 49
      rw [World.size_setCell] at h; rw [hXW]; exact h
    have w0 : BoxAt XW g #[.pointer (some ⟨b, 0, none⟩)] 203 := by rw [hXW]; exact (hI.x0.set_other (by show g ≠ g + 4; omega) _).alloc _
    have w1 : BoxAt XW (g + 1) #[.int .i64 n] 3 := by rw [hXW]; exact (hI.x1.set_other (by show g + 1 ≠ g + 4; omega) _).alloc _
    have w2 : BoxAt XW (g + 2) #[.int .i64 0, .int .i64 0] 49 := by rw [hXW]; exact (hI.x2.set_other (by show g + 2 ≠ g + 4; omega) _).alloc _
    have w3 : BoxAt XW (g + 3) #[.int .i64 0] 27 := by rw [hXW]; exact (hI.x3.set_other (by show g + 3 ≠ g + 4; omega) _).alloc _
    have w4 : BoxAt XW (g + 4) #[.bool false] 4 := by rw [hXW]; exact y4.alloc _
    have LX1 : Below B w XW := by rw [hXW]; exact (hI.low.setCell (p := ⟨g + 4, 0, none⟩) (by show B ≤ g + 4; omega) _).alloc (by simp; omega) _
    have KX1 : KR w XW b u := by rw [hXW]; exact (hI.kr.set (p := ⟨g + 4, 0, none⟩) (Or.inr (by show w.heap.size ≤ g + 4; omega)) _).alloc _
    have kf1 : KeepsFrom V.heap.size X XW := by rw [hXW]; exact ((KeepsOthers.setCell _ _ _).trans (KeepsOthers.alloc _ _)).from _
    have wk1 : WinKp (V.heap.size + 2) (V.heap.size + 2 + 5) X XW := fun q h1 h2 => by rw [hXW, zV] at *; exact (Below.heap_alloc _ _ _ (by rw [World.size_setCell]; omega)).trans (Below.heap_setCell _ _ _ _ (by show q ≠ g + 4; omega))
    have hRW := readWord_any B b s1 v u1 wd n ((k : Int) + 1) XW hC2 hwb (by rw [hp1]; omega) (by omega) (by omega)
    have d0 := hI.x0.cell 0; have d1 := hI.x1.cell 0
    have d4 : X.cell? ⟨g + 1 + 1 + 1 + 1, 0, none⟩ = some (.bool pre.isEmpty) := hI.x4.cell 0
    have f4 : X.frozen? ⟨g + 1 + 1 + 1 + 1, 0, none⟩ = false := hI.x4.free 0
    have hgl := hI.x0.lt
    simp at d0 d1
    have HXW := Lib.hid hXW
    have HRW := Lib.hid hRW
    have HONE := Lib.hid hone
    clear hXW hRW hone hpx hk hwd hr y4
    gi_wp2
    refine ⟨trivial, ?_⟩
    rw [← HXW.out]
    refine (CallsIn.inRound lo (callsIn_wide.2 HRW.out)).mono ?_
    rintro e W5 ⟨rfl, u2, hC5, hu5, hk5, hL5⟩
    have hXl : g + 13 ≤ X.heap.size := by omega
    have bk : ∀ {p : Nat} {cs : Array Value} {T : TypeId}, BoxAt XW p cs T → p ≠ b → T ≠ 9 → BoxAt W5 p cs T := fun h1 h2 h3 => (hk5.block _ h1.lt h2 (own_nob hC2.words h1 h3)).trans h1
    have m5 := bk m0 (by omega) (by decide)
    have r0 := bk w0 (by omega) (by decide)
    have r1 := bk w1 (by omega) (by decide)
    have r2 := bk w2 (by omega) (by decide)
    have r3 := bk w3 (by omega) (by decide)
    have r4 := bk w4 (by omega) (by decide)
    have hul : ∀ q, u.ownBlock = some q → q < g := fun q hq => by obtain ⟨cs, hc⟩ := own_blk h.words q hq; have := hp_lt hc; omega
    have LL := LX1.trans hL5
    have KK : KR w W5 b u := ⟨Nat.le_trans KX1.size hk5.size, fun q hq h1 h2 => (hk5.block q (Nat.lt_of_lt_of_le hq KX1.size) h1 (fun e => by
      rcases ho1 q e with h3 | h3
      · exact h2 h3
      · omega)).trans (KX1.block q hq h1 h2)⟩
    have kf5 : KeepsFrom V.heap.size X W5 := kf1.trans ⟨hk5.size, fun q o _ hq hf => (hk5.block q (hp_lt hq) (fun e => by
        rw [e, show XW.heap[b]? = _ from hC2.box] at hq; cases hq; cases hf) (fun e => by
        obtain ⟨c2, h2⟩ := own_blk hC2.words q e
        rw [h2] at hq; cases hq; cases hf)).trans hq⟩
    have wk5 : WinKp (V.heap.size + 2) (V.heap.size + 2 + 5) X W5 := fun q h1 h2 => (hk5.block q (by omega) (by omega) (fun e => by
      rcases ho1 q e with h3 | h3
      · have := hul q h3; omega
      · omega)).trans (wk1 q h1 h2)
    have ho5 : ∀ q, u2.ownBlock = some q → u.ownBlock = some q ∨ g + 13 ≤ q := fun q hq => by
      rcases hu5 q hq with h3 | h3
      · exact ho1 q h3
      · right; omega
    have hps5 := (rdW_ps s1 wd n ((k : Int) + 1)).trans hp1
    have hws5 := rdW_ws s1 wd n ((k : Int) + 1)
    obtain ⟨er, her⟩ : ∃ er, (rdW s1 wd n ((k : Int) + 1)).1 = er := ⟨_, rfl⟩
    rw [her] at HONE ⊢
    by_cases he : er = 0
    · subst he
      have HO := Lib.hid (show rdWs n st (wds (pre ++ [x])) = .inr (rdW s1 wd n ((k : Int) + 1)).2 by rw [HONE.out, if_neg (fun e => e rfl)])
      clear HONE her m5 d0 d1 d4 f4
      gi_wp2
      refine ⟨kf5, ⟨wk5, kf5.size⟩, LL, KK, r0, r1, r2, r3, ?_, _, u2, HO.out, hC5.box, hC5.words, hps5, by rw [List.length_append]; simp; omega, ho5⟩
      rw [show (pre ++ [x]).isEmpty = false by simp]; exact r4
    · have HO := Lib.hid (show rdWs n st (wds (pre ++ [x])) = .inl ((n, (k : Int) + 1), er) by rw [HONE.out, if_pos he])
      have heb : (er != 0) = true := by simpa using he
      have e0 := m5.cell 0; have e1 := m5.cell 1
      have t0 : W5.cell? ⟨g + 1 + 1, 0, none⟩ = some (.int .i64 0) := r2.cell 0
      have t1 : W5.cell? ⟨g + 1 + 1, 1, none⟩ = some (.int .i64 0) := r2.cell 1
      have t3 : W5.cell? ⟨g + 1 + 1 + 1, 0, none⟩ = some (.int .i64 0) := r3.cell 0
      have k0 : W5.frozen? ⟨g + 1 + 1, 0, none⟩ = false := r2.free 0
      have k1 : W5.frozen? ⟨g + 1 + 1, 1, none⟩ = false := r2.free 1
      have k3 : W5.frozen? ⟨g + 1 + 1 + 1, 0, none⟩ = false := r3.free 0
      simp at e0 e1
      clear HONE her d0 d1 d4 f4 he
      gi_wp2
      refine ⟨kf5.trans ((((KeepsOthers.setCell _ _ _).trans (KeepsOthers.setCell _ _ _)).trans (KeepsOthers.setCell _ _ _)).from _), rfl, n, (k : Int) + 1, er, HO.out,
        ((LL.setCell (p := ⟨g + 2, 0, none⟩) (by show B ≤ g + 2; omega) _).setCell (p := ⟨g + 2, 1, none⟩) (by show B ≤ g + 2; omega) _).setCell (p := ⟨g + 3, 0, none⟩) (by show B ≤ g + 3; omega) _,
        ((r2.set 0 _).set 1 _).set_other (p := ⟨g + 3, 0, none⟩) (by show g + 2 ≠ g + 3; omega) _, ((r3.set_other (p := ⟨g + 2, 0, none⟩) (by show g + 3 ≠ g + 2; omega) _).set_other (p := ⟨g + 2, 1, none⟩) (by show g + 3 ≠ g + 2; omega) _).set 0 _⟩
  case done =>
    rintro D ys X hD hys hI hKD
    obtain ⟨s1, u1, q1, hC1, hp1, hw1, ho1⟩ := hI.reader h (by omega)
    have hXl : g < X.heap.size := hI.x0.lt
    have fin : ∀ (Y : World) (m1 m2 er : Int) (s2 : CRd) (v2 u2 : Value), BoxAt Y (g + 2) #[.int .i64 0, .int .i64 0] 49 → BoxAt Y (g + 3) #[.int .i64 0] 27 → Y.heap[D]? = some (.deferred (some [])) → CRAt Y B b s2 v2 u2 → Below B w Y → rdLn st n s.data.toList = ((m1, m2), er, some s2) →
        ∀ Z, Z = ((Y.setCell ⟨g + 1 + 1, 0, none⟩ (.int .i64 m1)).setCell ⟨g + 1 + 1, 1, none⟩ (.int .i64 m2)).setCell ⟨g + 1 + 1 + 1, 0, none⟩ (.int .i64 er) →
        Z.heap[D]? = some (.deferred (some [])) ∧ (Z.putObj D (.deferred none)).cell? ⟨g + 1 + 1, 0, none⟩ = some (.int .i64 m1) ∧ (Z.putObj D (.deferred none)).cell? ⟨g + 1 + 1, 1, none⟩ = some (.int .i64 m2) ∧ (Z.putObj D (.deferred none)).cell? ⟨g + 1 + 1 + 1, 0, none⟩ = some (.int .i64 er) ∧
        RLP w B b st n s.data.toList (.returned (.tuple #[.agg #[.int .i64 m1, .int .i64 m2], .int .i64 er])) (Z.putObj D (.deferred none)) := by
      intro Y m1 m2 er s2 v2 u2 y2 y3 yD yC yL hE Z hZ
      have hD2 : D ≠ g + 2 := fun e => by rw [e, show Y.heap[g + 2]? = _ from y2] at yD; cases yD
      have hD3 : D ≠ g + 3 := fun e => by rw [e, show Y.heap[g + 3]? = _ from y3] at yD; cases yD
      have b2 : BoxAt Z (g + 2) #[.int .i64 m1, .int .i64 m2] 49 := by rw [hZ]; exact ((y2.set 0 _).set 1 _).set_other (p := ⟨g + 3, 0, none⟩) (by show g + 2 ≠ g + 3; omega) _
      have y3' := (y3.set_other (p := ⟨g + 2, 0, none⟩) (by show g + 3 ≠ g + 2; omega) (.int .i64 m1)).set_other (p := ⟨g + 2, 1, none⟩) (by show g + 3 ≠ g + 2; omega) (.int .i64 m2)
      have b3 : BoxAt Z (g + 3) #[.int .i64 er] 27 := by rw [hZ]; exact y3'.set 0 _
      have zD : Z.heap[D]? = some (.deferred (some [])) := by rw [hZ]; exact (Below.heap_setCell _ _ _ _ (by show D ≠ g + 3; exact hD3)).trans ((Below.heap_setCell _ _ _ _ (by show D ≠ g + 2; exact hD2)).trans ((Below.heap_setCell _ _ _ _ (by show D ≠ g + 2; exact hD2)).trans yD))
      have zC : CRAt Z B b s2 v2 u2 := by
        rw [hZ]
        have k1 := yC.other y2 (by decide) (by decide) (by decide) 0 (.int .i64 m1)
        have k2 := k1.other (y2.set 0 (.int .i64 m1)) (by decide) (by decide) (by decide) 1 (.int .i64 m2)
        exact k2.other y3' (by decide) (by decide) (by decide) 0 (.int .i64 er)
      have zL : Below B w Z := by rw [hZ]; exact ((yL.setCell (p := ⟨g + 2, 0, none⟩) (by show B ≤ g + 2; omega) _).setCell (p := ⟨g + 2, 1, none⟩) (by show B ≤ g + 2; omega) _).setCell (p := ⟨g + 3, 0, none⟩) (by show B ≤ g + 3; omega) _
      have p2 := box_putD (o := .deferred none) b2 zD
      have p3 := box_putD (o := .deferred none) b3 zD
      exact ⟨zD, p2.cell 0, p2.cell 1, p3.cell 0, by rw [hE], below_putD zL (by omega), fun s' hs' => by rw [hE] at hs'; cases hs'; exact ⟨v2, u2, zC.putD zD⟩⟩
    have FIN := Lib.hid fin
    have e4 : X.cell? ⟨g + 1 + 1 + 1 + 1, 0, none⟩ = some (.bool ys.isEmpty) := hI.x4.cell 0
    have e0 := hI.x0.cell 0
    simp at e0
    by_cases hy : ys = []
    · subst hy
      obtain rfl : st = s1 := by cases q1; rfl
      have hw0 : wordsL s.data.toList = [] := hys.symm
      have hEP := endPart_any B b st v u1 X hC1 (by omega) (by omega) (by omega)
      obtain ⟨⟨m1, m2⟩, er, s2, hep⟩ : ∃ (m : Int × Int) (er : Int) (s2 : CRd), endP st = (m, er, s2) := ⟨_, _, _, rfl⟩
      have HRL := Lib.hid (show rdLn st n s.data.toList = ((m1, m2), er, some s2) by unfold rdLn; rw [if_pos hw0, hep])
      unfold EPPost at hEP
      rw [hep] at hEP
      have HEP := Lib.hid hEP
      obtain ⟨xs, hpo, -⟩ := hC1.parts
      have e4' : X.cell? ⟨g + 1 + 1 + 1 + 1, 0, none⟩ = some (.bool true) := e4
      clear fin e4 hEP hep hys q1 hw0
      gi_wp2
      refine ⟨trivial, ?_⟩
      refine (callsIn_wide.2 HEP.out).mono ?_
      rintro e W5 ⟨rfl, v2, u2, hC5, -, -, hk5, hL5⟩
      have r2 : BoxAt W5 (g + 2) #[.int .i64 0, .int .i64 0] 49 := (hk5.block _ hI.x2.lt (by omega) (own_nob hpo hI.x2 (by decide))).trans hI.x2
      have r3 : BoxAt W5 (g + 3) #[.int .i64 0] 27 := (hk5.block _ hI.x3.lt (by omega) (own_nob hpo hI.x3 (by decide))).trans hI.x3
      have rD : W5.heap[D]? = some (.deferred (some [])) := (hk5.block _ (hp_lt hKD) (fun e => by rw [e, show X.heap[b]? = _ from hC1.box] at hKD; cases hKD) (fun e => by
        obtain ⟨c2, h2⟩ := own_blk hpo D e
        rw [h2] at hKD; cases hKD)).trans hKD
      have t0 : W5.cell? ⟨g + 1 + 1, 0, none⟩ = some (.int .i64 0) := r2.cell 0
      have t1 : W5.cell? ⟨g + 1 + 1, 1, none⟩ = some (.int .i64 0) := r2.cell 1
      have t3 : W5.cell? ⟨g + 1 + 1 + 1, 0, none⟩ = some (.int .i64 0) := r3.cell 0
      have k0 : W5.frozen? ⟨g + 1 + 1, 0, none⟩ = false := r2.free 0
      have k1 : W5.frozen? ⟨g + 1 + 1, 1, none⟩ = false := r2.free 1
      have k3 : W5.frozen? ⟨g + 1 + 1 + 1, 0, none⟩ = false := r3.free 0
      obtain ⟨zD, z0, z1, z3, zR⟩ := FIN.out W5 m1 m2 er s2 v2 u2 r2 r3 rD hC5 (hI.low.trans hL5) HRL.out _ rfl
      have HZ := Lib.hid (And.intro zD (And.intro z0 (And.intro z1 (And.intro z3 zR))))
      clear zD z0 z1 z3 zR
      gi_wp2
      exact leave_at HZ.out.1 (by simp [results, Tryz.results74, go_sem, HZ.out.2.1, HZ.out.2.2.1, HZ.out.2.2.2.1]) HZ.out.2.2.2.2
    · have hne : wordsL s.data.toList ≠ [] := fun e => by
        rw [e] at hys
        exact hy (List.map_eq_nil_iff.1 hys)
      have HRL := Lib.hid (show rdLn st n s.data.toList = ((0, 0), 0, some s1) by unfold rdLn; rw [if_neg hne, ← hys, q1])
      have e4' : X.cell? ⟨g + 1 + 1 + 1 + 1, 0, none⟩ = some (.bool false) := by rw [e4]; cases ys with
        | nil => exact absurd rfl hy
        | cons a r => rfl
      have r2 := hI.x2
      have r3 := hI.x3
      have t0 : X.cell? ⟨g + 1 + 1, 0, none⟩ = some (.int .i64 0) := r2.cell 0
      have t1 : X.cell? ⟨g + 1 + 1, 1, none⟩ = some (.int .i64 0) := r2.cell 1
      have t3 : X.cell? ⟨g + 1 + 1 + 1, 0, none⟩ = some (.int .i64 0) := r3.cell 0
      have k0 : X.frozen? ⟨g + 1 + 1, 0, none⟩ = false := r2.free 0
      have k1 : X.frozen? ⟨g + 1 + 1, 1, none⟩ = false := r2.free 1
      have k3 : X.frozen? ⟨g + 1 + 1 + 1, 0, none⟩ = false := r3.free 0
      obtain ⟨zD, z0, z1, z3, zR⟩ := FIN.out X 0 0 0 s1 v u1 r2 r3 hKD hC1 hI.low HRL.out _ rfl
      have HZ := Lib.hid (And.intro zD (And.intro z0 (And.intro z1 (And.intro z3 zR))))
      clear fin e4 hys q1 hne zD z0 z1 z3 zR
      gi_wp2
      exact leave_at HZ.out.1 (by simp [results, Tryz.results74, go_sem, HZ.out.2.1, HZ.out.2.2.1, HZ.out.2.2.2.1]) HZ.out.2.2.2.2
  case stop =>
    rintro D c pre X hD ⟨r, hr⟩ ⟨rfl, m1, m2, er, h2, h3, h4, h5⟩ hKD
    have hne : wordsL s.data.toList ≠ [] := fun e => by
      rw [e] at hr
      have : wds pre = [] := (List.append_eq_nil_iff.1 hr).1
      rw [this] at h2; cases h2
    have HE := Lib.hid (show rdLn st n s.data.toList = ((m1, m2), er, none) by unfold rdLn; rw [if_neg hne, ← hr, rdWs_stop h2])
    have b2 := box_putD (o := .deferred none) h4 hKD
    have b3 := box_putD (o := .deferred none) h5 hKD
    have e0 : (X.putObj D (.deferred none)).cell? ⟨g + 1 + 1, 0, none⟩ = some (.int .i64 m1) := b2.cell 0
    have e1 : (X.putObj D (.deferred none)).cell? ⟨g + 1 + 1, 1, none⟩ = some (.int .i64 m2) := b2.cell 1
    have e3 : (X.putObj D (.deferred none)).cell? ⟨g + 1 + 1 + 1, 0, none⟩ = some (.int .i64 er) := b3.cell 0
    have hL := below_putD (o := .deferred none) h3 (show B ≤ D by omega)
    gi_wp2
    exact leave_at (v := .tuple #[.agg #[.int .i64 m1, .int .i64 m2], .int .i64 er]) hKD (by simp [results, Tryz.results74, go_sem, e0, e1, e3]) ⟨by rw [HE.out], hL, fun s hs => by rw [HE.out] at hs; cases hs⟩
end Go.Proofs.YtomblajlpanmjaaGreatDoor

namespace Go.Proofs.YtomblajlpanmjaaGreatDoor
open Go.RowKit Go.Maps Go.Shelf

/-- The first byte that no copy has: its mark. -/
def badAt : Nat → List (List UInt8) → Option (Int × Int)
  | _, [] => none
  | i, t :: r => if (strangeL t 0).2 = true then some ((i : Int) + 1, (strangeL t 0).1 + 1) else badAt (i + 1) r
/-- The lines go into the reader, up to the first error. -/
def rdLns : Nat → CRd → List (List UInt8) → ((Int × Int) × Int) ⊕ CRd
  | _, st, [] => .inr st
  | i, st, t :: r => if (rdLn st ((i : Int) + 1) t).2.1 ≠ 0 then .inl ((rdLn st ((i : Int) + 1) t).1, (rdLn st ((i : Int) + 1) t).2.1) else rdLns (i + 1) ((rdLn st ((i : Int) + 1) t).2.2.getD st) r
/-- The parts of a text of copy, the mark, the error. -/
def copyP (t : List UInt8) : List CP × (Int × Int) × Int :=
  if 60000 < t.length then ([], (0, 0), 8)
  else match badAt 0 (splitOn 10 t) with
    | some m => ([], m, 3)
    | none => match rdLns 0 ⟨[], 0, [], 0, 0⟩ (splitOn 10 t) with
      | .inl e => ([], e.1, e.2)
      | .inr s => if (endP s).2.1 ≠ 0 then ([], (endP s).1, (endP s).2.1) else ((endP s).2.2.ps, (0, 0), 0)
/-- How much a reader holds. -/
structure RdOk (st : CRd) : Prop where
  ps : st.ps.length ≤ 60
  on : st.kd ≠ 0 → st.ps.length < 60
  ws : st.ws.length ≤ 100
theorem rdW_ok {st : CRd} {wd : ByteArray} {n k : Int} (h : RdOk st) (he : (rdW st wd n k).1 = 0) : RdOk (rdW st wd n k).2 := by
  obtain ⟨h1, h2, h3⟩ := h
  unfold rdW at he ⊢
  split at he
  · exact absurd (show (8 : Int) = 0 from he) (by decide)
  rename_i c1
  have hlt : st.ps.length < 60 := by
    by_cases h0 : st.kd = 0
    · have : st.ps.length ≠ 60 := fun e => c1 ⟨h0, e⟩
      omega
    · exact h2 h0
  rw [if_neg c1]
  split at he
  · rename_i c2
    rw [if_pos c2]
    exact ⟨h1, fun _ => hlt, h3⟩
  rename_i c2
  rw [if_neg c2]
  split at he
  · exact absurd (show (3 : Int) = 0 from he) (by decide)
  rename_i c3
  rw [if_neg c3]
  split at he
  · exact absurd (show (8 : Int) = 0 from he) (by decide)
  rename_i c4
  rw [if_neg c4]
  exact ⟨h1, fun _ => hlt, by rw [List.length_append]; simp; omega⟩
theorem rdWs_ok {n : Int} : ∀ {l : List (Nat × List UInt8)} {st s : CRd}, RdOk st → rdWs n st l = .inr s → RdOk s
  | [], _, _, h, e => by cases e; exact h
  | (k, t) :: r, st, s, h, e => by
    have e : (if (rdW st ⟨t.toArray⟩ n ((k : Int) + 1)).1 ≠ 0 then Sum.inl ((n, (k : Int) + 1), (rdW st ⟨t.toArray⟩ n ((k : Int) + 1)).1) else rdWs n (rdW st ⟨t.toArray⟩ n ((k : Int) + 1)).2 r) = .inr s := e
    by_cases h0 : (rdW st ⟨t.toArray⟩ n ((k : Int) + 1)).1 = 0
    · rw [if_neg (fun h => h h0)] at e
      exact rdWs_ok (rdW_ok h h0) e
    · rw [if_pos h0] at e; cases e
theorem endP_ok {st : CRd} (h : RdOk st) : RdOk (endP st).2.2 := by
  obtain ⟨h1, h2, h3⟩ := h
  unfold endP
  split
  · exact ⟨h1, h2, h3⟩
  rename_i c1
  split
  · exact ⟨h1, h2, h3⟩
  · have := h2 c1
    exact ⟨by rw [List.length_append]; simp; omega, fun e => absurd rfl e, by simp⟩
theorem rdLn_ok {st : CRd} {n : Int} {t : List UInt8} (h : RdOk st) : RdOk ((rdLn st n t).2.2.getD st) := by
  unfold rdLn
  split
  · exact endP_ok h
  · cases e : rdWs n st (wordsL t) with
    | inl e => exact h
    | inr s => exact rdWs_ok h e
theorem rdLn_some {st : CRd} {n : Int} {t : List UInt8} (he : (rdLn st n t).2.1 = 0) (h0 : ∀ e, rdWs n st (wordsL t) = .inl e → e.2 ≠ 0) : (rdLn st n t).2.2 = some ((rdLn st n t).2.2.getD st) := by
  unfold rdLn at he ⊢
  split at he
  · rename_i c; rw [if_pos c]; try rfl
  · rename_i c
    rw [if_neg c]
    cases e : rdWs n st (wordsL t) with
    | inl q => rw [e] at he; exact absurd he (h0 q e)
    | inr s => rfl
theorem rdWs_err {n : Int} : ∀ {l : List (Nat × List UInt8)} {st : CRd} {e : (Int × Int) × Int}, rdWs n st l = .inl e → e.2 ≠ 0
  | [], _, _, h => by cases h
  | (k, t) :: r, st, e, h => by
    have h : (if (rdW st ⟨t.toArray⟩ n ((k : Int) + 1)).1 ≠ 0 then Sum.inl ((n, (k : Int) + 1), (rdW st ⟨t.toArray⟩ n ((k : Int) + 1)).1) else rdWs n (rdW st ⟨t.toArray⟩ n ((k : Int) + 1)).2 r) = .inl e := h
    by_cases h0 : (rdW st ⟨t.toArray⟩ n ((k : Int) + 1)).1 = 0
    · rw [if_neg (fun h => h h0)] at h
      exact rdWs_err h
    · rw [if_pos h0] at h; cases h; exact h0
end Go.Proofs.YtomblajlpanmjaaGreatDoor

namespace Go.Proofs.YtomblajlpanmjaaGreatDoor
open Go.RowKit Go.Maps Go.Shelf

def CPPost (w : World) (p : List CP × (Int × Int) × Int) (e : Ending) (w' : World) : Prop :=
  ∃ v, e = .returned (.tuple #[v, .agg #[.int .i64 p.2.1.1, .int .i64 p.2.1.2], .int .i64 p.2.2]) ∧ POwn w' w.heap.size v p.1.length p.1 (.slice none 0 0) ∧ Below w.heap.size w w'
theorem pown_nil (w : World) (B : Nat) (u : Value) : POwn w B (.slice none 0 0) 0 [] u := ⟨[], World.ownsRow_nil _ _ _ _, fun _ h => absurd h (Nat.not_lt_zero _)⟩
theorem badAt_go {L : List (List UInt8)} {k : Nat} (hk : k < L.length) (h : (strangeL L[k] 0).2 = false) : badAt k (L.drop k) = badAt (k + 1) (L.drop (k + 1)) := by
  rw [List.drop_eq_getElem_cons hk]; show (if _ then _ else _) = _; rw [if_neg (by rw [h]; simp)]
theorem badAt_at {L : List (List UInt8)} {k : Nat} (hk : k < L.length) (h : (strangeL L[k] 0).2 = true) : badAt k (L.drop k) = some ((k : Int) + 1, (strangeL L[k] 0).1 + 1) := by
  rw [List.drop_eq_getElem_cons hk]; show (if _ then _ else _) = _; rw [if_pos h]
theorem badAt_end {L : List (List UInt8)} {k : Nat} (hk : ¬ k < L.length) : badAt k (L.drop k) = none := by rw [List.drop_of_length_le (by omega)]; try rfl
theorem rdLns_step {L : List (List UInt8)} {k : Nat} {st : CRd} (hk : k < L.length) : rdLns k st (L.drop k) = if (rdLn st ((k : Int) + 1) L[k]).2.1 ≠ 0 then .inl ((rdLn st ((k : Int) + 1) L[k]).1, (rdLn st ((k : Int) + 1) L[k]).2.1) else rdLns (k + 1) ((rdLn st ((k : Int) + 1) L[k]).2.2.getD st) (L.drop (k + 1)) := by
  rw [List.drop_eq_getElem_cons hk]; try rfl
theorem rdLns_end {L : List (List UInt8)} {k : Nat} {st : CRd} (hk : ¬ k < L.length) : rdLns k st (L.drop k) = .inr st := by rw [List.drop_of_length_le (by omega)]; try rfl
theorem strangeL_le : ∀ (l : List UInt8) (k : Nat), 0 ≤ (strangeL l k).1 ∧ (strangeL l k).1 ≤ k + l.length
  | [], k => by constructor <;> show _ ≤ _ <;> simp [strangeL] <;> omega
  | c :: l, k => by
    have ih := strangeL_le l (k + 1)
    unfold strangeL
    split
    · simp only [List.length_cons]; omega
    · simp only [List.length_cons]; omega
theorem pown_end {w W : World} {B b : Nat} {st : CRd} {v u : Value} (h : CRAt w B b st v u) (B2 : Nat) (hB : B2 ≤ B) (hk : ∀ (k : Nat) (cs : Array Value) (T : TypeId), w.heap[k]? = some (Obj.cells cs T (0, 0)) → T = 72 ∨ T = 9 → W.heap[k]? = w.heap[k]?) : POwn W B2 v st.ps.length st.ps (.slice none 0 0) := by
  have lowB : ∀ {e size m : Nat} {x : Value} {xs : List Value}, W.ownsRow B e size x m xs → W.ownsRow B2 e size x m xs := fun h => by
    rcases h.2 with ⟨e1, e2⟩ | ⟨g, cap, cur, e1, e2, e3, e4⟩
    · exact ⟨h.1, Or.inl ⟨e1, e2⟩⟩
    · exact ⟨h.1, Or.inr ⟨g, cap, cur, e1, Nat.le_trans hB e2, e3, e4⟩⟩
  obtain ⟨xs, h1, h2⟩ := h.parts
  refine ⟨xs, lowB (own_still h1 (fun q hq => ?_)), fun j hj => ?_⟩
  · obtain ⟨cs, hc⟩ := own_blk h1 q hq
    exact hk q cs _ hc (Or.inl rfl)
  · obtain ⟨v2, e1, e2, h3, -⟩ := h2 j hj
    exact ⟨v2, e1, e2, lowB (own_still h3 (fun q hq => by obtain ⟨cs, hc⟩ := own_blk h3 q hq; exact hk q cs _ hc (Or.inr rfl))), fun q _ e => by cases e⟩
set_option maxRecDepth 100000 in
set_option maxHeartbeats 2000000 in
theorem textParse_any (s : ByteArray) (w : World) (hs : s.size ≤ 70000) (hM : ∃ m, w.cell? ⟨0, 0, none⟩ = some (.int .i64 m)) (h0 : 0 < w.heap.size) :
    Calls Tryz.prog 23 #[.string s] w (CPPost w (copyP s.data.toList)) := by
  obtain ⟨mm, hm⟩ := hM
  have hsl : s.data.toList.length = s.size := Array.length_toList
  by_cases h6 : 60000 < s.size
  · have hE := Lib.hid (show copyP s.data.toList = ([], (0, 0), 8) by unfold copyP; rw [if_pos (by rw [hsl]; exact h6)])
    have hI : (60000 : Int) < (s.size : Int) := by omega
    have hB := (Below.refl w.heap.size w).alloc (Nat.le_refl _) (.cells #[.int .i64 0, .int .i64 0] 49)
    go_enter Tryz.func23, Tryz.ntmps23
    go_wp2_with fail
    refine bodyPost_ret (v := .tuple #[.slice none 0 0, .agg #[.int .i64 0, .int .i64 0], .int .i64 8]) (by simp [results, Tryz.results23, go_sem]) rfl ⟨_, by rw [hE.out], by rw [hE.out]; exact pown_nil _ _ _, hB⟩
  have hI : ¬ (60000 : Int) < (s.size : Int) := by omega
  obtain ⟨g, hg⟩ : ∃ g, w.heap.size = g := ⟨_, rfl⟩
  obtain ⟨P, hP⟩ : ∃ P, P = Lib.splitB ⟨#[10]⟩ 0 (Lib.countB s ⟨#[10]⟩) s := ⟨_, rfl⟩
  obtain ⟨L, hL⟩ : ∃ L, L = splitOn 10 s.data.toList := ⟨_, rfl⟩
  have hPL : P.map (·.data.toList) = L := by rw [hP, hL]; exact splitB_one 10 s
  have hlen : L.length = P.length := by rw [← hPL, List.length_map]
  have hcn : Lib.countB s ⟨#[10]⟩ + 1 = P.length := by rw [hP]; exact (Lib.splitB_all ⟨#[10]⟩ (Nat.le_refl 1) 0 _ s rfl).symm
  have hpn : P.length ≤ 70001 := by
    have h1 := splitOn_len 10 s.data.toList
    rw [← hL, hsl] at h1; omega
  have hpz : ∀ k (hk : k < P.length), P[k].size ≤ 60000 := fun k hk => by
    have h1 := splitOn_len 10 s.data.toList
    rw [← hL, hsl] at h1
    have h2 : P[k].data.toList.length ≤ L.flatten.length := by
      have h3 : P[k].data.toList ∈ L := by rw [← hPL]; exact List.mem_map_of_mem (List.getElem_mem hk)
      exact (List.sublist_flatten_of_mem h3).length_le
    rw [show P[k].data.toList.length = P[k].size from Array.length_toList] at h2
    omega
  have hb1 := (Below.refl w.heap.size w).alloc (Nat.le_refl _) (.cells #[.int .i64 0, .int .i64 0] 49)
  have hm1 := (hb1.cell (p := ⟨0, 0, none⟩) h0).trans hm
  have hsp := Tryz.strings_Split s ⟨#[10]⟩ mm _ (by omega) hm1 (Nat.le_refl 1)
  rw [← hP, hcn] at hsp
  have HSP := Lib.hid hsp
  have HPL := Lib.hid hPL
  have HLL := Lib.hid hL
  have HLN := Lib.hid hlen
  have HPZ := Lib.hid hpz
  obtain ⟨w2, hw2⟩ : ∃ w2, w2 = (w.alloc (.cells #[.int .i64 0, .int .i64 0] 49)).alloc (.cells (P.map Value.string).toArray 9) := ⟨_, rfl⟩
  have bm : BoxAt w2 g #[.int .i64 0, .int .i64 0] 49 := by
    have h := BoxAt.new w #[.int .i64 0, .int .i64 0] 49
    rw [hg] at h; rw [hw2]; exact h.alloc _
  have bp : BoxAt w2 (g + 1) (P.map Value.string).toArray 9 := by
    have h := BoxAt.new (w.alloc (.cells #[.int .i64 0, .int .i64 0] 49)) (P.map Value.string).toArray 9
    rw [World.size_alloc, hg] at h; rw [hw2]; exact h
  have hz2 : w2.heap.size = g + 2 := by rw [hw2]; simp; omega
  have hB2 : Below w.heap.size w w2 := by rw [hw2]; exact hb1.alloc (by simp) _
  have HW2 := Lib.hid hw2
  clear hsp hP hPL hL hlen hpz hm1 hb1 hcn hw2 hm
  have el : ∀ (W : World), BoxAt W (g + 1) (P.map Value.string).toArray 9 → ∀ k (hk : k < P.length), W.cell? ⟨g + 1, k, none⟩ = some (.string P[k]) := fun W hW k hk => by
    rw [hW.cell k]; simp [hk]
  have HEL := Lib.hid el
  clear el
  go_enter Tryz.func23, Tryz.ntmps23
  go_wp2_with (go_at_call 72; refine HSP.out.mono ?_; rintro e w3 ⟨rfl, rfl⟩)
  rw [← HW2.out]
  go_loop [25] (fun i => ∃ k : Nat, k ≤ P.length ∧ i = .int .i64 k ∧ Hid (badAt 0 L = badAt k (L.drop k))) (fun i => P.length - (intOf i).toNat)
  case atStart => exact ⟨0, Nat.zero_le _, rfl, Lib.hid (by rw [List.drop_zero])⟩
  case round =>
    obtain ⟨k, hk, rfl, HB⟩ := hrel
    by_cases hlt : k < P.length
    · have hkI : (k : Int) < (P.length : Int) := by omega
      have c0 := HEL.out w2 bp k hlt
      have hpl : (g + 1 : Nat) < w2.heap.size := bp.lt
      obtain ⟨d, hd⟩ : ∃ d, d = P[k] := ⟨_, rfl⟩
      have hdz : d.size ≤ 60000 := by rw [hd]; exact HPZ.out k hlt
      have hkL : k < L.length := by rw [HLN.out]; exact hlt
      have hdL : L[k] = d.data.toList := by
        have h2 := HPL.out
        subst h2
        rw [List.getElem_map, hd]
      rw [← hd] at c0
      have HFS := Lib.hid (fun W => firstStrange_any d W (by unfold maxLen; omega))
      obtain ⟨p, hp⟩ : ∃ p, (strangeL d.data.toList 0).1 = p := ⟨_, rfl⟩
      obtain ⟨bad, hbad⟩ : ∃ x, (strangeL d.data.toList 0).2 = x := ⟨_, rfl⟩
      rw [hp, hbad] at HFS
      have m0 := bm.cell 0; have m1 := bm.cell 1; have z0 := bm.free 0; have z1 := bm.free 1
      simp at m0 m1
      cases bad with
      | false =>
        have HB2 : Hid (badAt 0 L = badAt (k + 1) (L.drop (k + 1))) := Lib.hid (by rw [HB.out]; exact badAt_go hkL (by rw [hdL]; exact hbad))
        clear hp hbad hd hdL
        go_wp2_with (go_at_call 73; refine (HFS.out _).mono ?_; rintro e w' ⟨rfl, rfl⟩)
        go_round
        case rel => exact ⟨k + 1, by omega, by go_num, HB2⟩
        case measure => simp [intOf]; omega
      | true =>
        have HE := Lib.hid (show badAt 0 L = some ((k : Int) + 1, p + 1) by rw [HB.out, badAt_at hkL (by rw [hdL]; exact hbad), hdL, hp])
        have hpb : 0 ≤ p ∧ p ≤ 60000 := by
          have h1 := strangeL_le d.data.toList 0
          rw [hp, show d.data.toList.length = d.size from Array.length_toList] at h1; omega
        have HC := Lib.hid (show copyP s.data.toList = ([], ((k : Int) + 1, p + 1), 3) by unfold copyP; rw [if_neg (by rw [hsl]; exact h6), ← HLL.out, HE.out])
        clear hp hbad hd hdL
        go_wp2_with (go_at_call 73; refine (HFS.out _).mono ?_; rintro e w' ⟨rfl, rfl⟩)
        obtain ⟨w9, e9⟩ : ∃ w9, w9 = (w2.setCell ⟨g, 0, none⟩ (.int .i64 ((k : Int) + 1))).setCell ⟨g, 1, none⟩ (.int .i64 (p + 1)) := ⟨_, rfl⟩
        rw [← e9]
        have g9 : BoxAt w9 g #[.int .i64 ((k : Int) + 1), .int .i64 (p + 1)] 49 := by rw [e9]; exact (bm.set 0 _).set 1 _
        have B9 : Below w.heap.size w w9 := by rw [e9]; exact (hB2.setCell (p := ⟨g, 0, none⟩) (by show w.heap.size ≤ g; omega) _).setCell (p := ⟨g, 1, none⟩) (by show w.heap.size ≤ g; omega) _
        have q0 : w9.cell? ⟨g, 0, none⟩ = some (.int .i64 ((k : Int) + 1)) := g9.cell 0
        have q1 : w9.cell? ⟨g, 1, none⟩ = some (.int .i64 (p + 1)) := g9.cell 1
        refine bodyPost_ret (v := .tuple #[.slice none 0 0, .agg #[.int .i64 ((k : Int) + 1), .int .i64 (p + 1)], .int .i64 3]) (by simp [results, Tryz.results23, go_sem, q0, q1]) rfl ⟨_, by rw [HC.out], by rw [HC.out]; exact pown_nil _ _ _, B9⟩
    · have hkI : ¬ (k : Int) < (P.length : Int) := by omega
      have HN : Hid (badAt 0 L = none) := Lib.hid (by rw [HB.out]; exact badAt_end (by rw [HLN.out]; exact hlt))
      obtain ⟨w3, hw3⟩ : ∃ w3, w3 = w2.alloc (.cells #[.slice none 0 0, .int .i64 0, .slice none 0 0, .int .i64 0, .int .i64 0] 143) := ⟨_, rfl⟩
      have hC3 : CRAt w3 (g + 2) (g + 2) ⟨[], 0, [], 0, 0⟩ (.slice none 0 0) (.slice none 0 0) := by
        have h := BoxAt.new w2 #[.slice none 0 0, .int .i64 0, .slice none 0 0, .int .i64 0, .int .i64 0] 143
        rw [hz2] at h
        exact ⟨by rw [hw3]; exact h, pown_nil _ _ _, World.ownsRow_nil _ _ _ _, Nat.le_refl _⟩
      have m3 : BoxAt w3 g #[.int .i64 0, .int .i64 0] 49 := by rw [hw3]; exact bm.alloc _
      have p3 : BoxAt w3 (g + 1) (P.map Value.string).toArray 9 := by rw [hw3]; exact bp.alloc _
      have B3 : Below w.heap.size w w3 := by rw [hw3]; exact hB2.alloc (by omega) _
      have HW3 := Lib.hid hw3
      clear hw3 hlt bm bp hB2
      go_wp2_with fail
      rw [← HW3.out]
      go_loopw [44] (fun i wr => ∃ (k : Nat) (st : CRd) (v u : Value), k ≤ P.length ∧ i = .int .i64 k ∧ CRAt wr (g + 2) (g + 2) st v u ∧ RdOk st ∧ BoxAt wr g #[.int .i64 0, .int .i64 0] 49 ∧ BoxAt wr (g + 1) (P.map Value.string).toArray 9 ∧ Below w.heap.size w wr ∧ Hid (rdLns 0 ⟨[], 0, [], 0, 0⟩ L = rdLns k st (L.drop k))) (fun i _ => P.length - (intOf i).toNat)
      case atStart => exact ⟨0, _, _, _, Nat.zero_le _, rfl, hC3, ⟨by simp, fun e => absurd rfl e, by simp⟩, m3, p3, B3, Lib.hid (by rw [List.drop_zero])⟩
      case round =>
        obtain ⟨k, st, v, u, hk, rfl, hC, hOk, bm, bp, hB, HL⟩ := hrel
        by_cases hlt : k < P.length
        · have hkI : (k : Int) < (P.length : Int) := by omega
          have c0 := HEL.out wr bp k hlt
          have hpl : (g + 1 : Nat) < wr.heap.size := bp.lt
          obtain ⟨d, hd⟩ : ∃ d, d = P[k] := ⟨_, rfl⟩
          have hdz : d.size ≤ 60000 := by rw [hd]; exact HPZ.out k hlt
          have hkL : k < L.length := by rw [HLN.out]; exact hlt
          have hdL : L[k] = d.data.toList := by
            have h2 := HPL.out
            subst h2
            rw [List.getElem_map, hd]
          rw [← hd] at c0
          have hstep := rdLns_step (st := st) hkL
          rw [hdL] at hstep
          have hRL := copyLine_any (g + 2) (g + 2) st v u d ((k : Int) + 1) wr hC hdz (by have := hOk.ps; omega) (by have := hOk.ws; omega) (by have := hC.box.lt; omega)
          obtain ⟨⟨m1, m2⟩, er, o, hro⟩ : ∃ (m : Int × Int) (er : Int) (o : Option CRd), rdLn st ((k : Int) + 1) d.data.toList = (m, er, o) := ⟨_, _, _, rfl⟩
          unfold RLP at hRL
          have hok2 := rdLn_ok (n := (k : Int) + 1) (t := d.data.toList) hOk
          have hsm := rdLn_some (st := st) (n := (k : Int) + 1) (t := d.data.toList)
          rw [hro] at hRL hstep hok2 hsm
          have HRL := Lib.hid hRL
          have HST := Lib.hid hstep
          have HSM := Lib.hid hsm
          clear hRL hro hstep hd hdL hsm
          by_cases he : er = 0
          · subst he
            have hos : o = some (o.getD st) := HSM.out rfl (fun e h => rdWs_err h)
            have HOS := Lib.hid hos
            have HL2 : Hid (rdLns 0 ⟨[], 0, [], 0, 0⟩ L = rdLns (k + 1) (o.getD st) (L.drop (k + 1))) := Lib.hid (by rw [HL.out, HST.out, if_neg (fun h => h rfl)])
            clear hos
            go_wp2_with (go_at_call 74; refine HRL.out.mono ?_; rintro e W5 ⟨rfl, hL5, hs5⟩)
            obtain ⟨v2, u2, hC5⟩ := hs5 _ HOS.out
            go_roundw
            case rel => exact ⟨k + 1, o.getD st, v2, u2, by omega, by go_num, hC5.alloc _, hok2, BoxAt.alloc ((hL5.block _ (by omega)).trans bm) _, BoxAt.alloc ((hL5.block _ (by omega)).trans bp) _, (hB.trans (hL5.mono (by omega))).alloc (by have := hB.size; have := hL5.size; omega) _, HL2⟩
            case measure => simp [intOf]; omega
          · have heb : (er != 0) = true := by simpa using he
            have HC : Hid (copyP s.data.toList = ([], (m1, m2), er)) := Lib.hid (by unfold copyP; rw [if_neg (by rw [hsl]; exact h6), ← HLL.out, HN.out]; show (match rdLns 0 _ L with | .inl e => _ | .inr s => _) = _; rw [HL.out, HST.out, if_pos he])
            clear he
            go_wp2_with (go_at_call 74; refine HRL.out.mono ?_; rintro e W5 ⟨rfl, hL5, hs5⟩)
            have g5 : BoxAt W5 g #[.int .i64 0, .int .i64 0] 49 := (hL5.block _ (by omega)).trans bm
            have m0 := g5.cell 0; have m1' := g5.cell 1; have z0 := g5.free 0; have z1 := g5.free 1
            have hgl := g5.lt
            simp at m0 m1'
            go_region
            obtain ⟨w9, e9⟩ : ∃ w9, w9 = (((W5.setCell ⟨g, 0, none⟩ (.int .i64 m1)).setCell ⟨g, 1, none⟩ (.int .i64 m2)).alloc (.cells #[.int .i64 m1, .int .i64 m2] 49)).drew := ⟨_, rfl⟩
            rw [← e9]
            have g9 : BoxAt w9 g #[.int .i64 m1, .int .i64 m2] 49 := by rw [e9]; exact (((g5.set 0 _).set 1 _).alloc _).drew
            have B9 : Below w.heap.size w w9 := by rw [e9]; exact ((((hB.trans (hL5.mono (by omega))).setCell (p := ⟨g, 0, none⟩) (by show w.heap.size ≤ g; omega) _).setCell (p := ⟨g, 1, none⟩) (by show w.heap.size ≤ g; omega) _).alloc (by have := hB.size; have := hL5.size; simp; omega) _).drew
            have q0 : w9.cell? ⟨g, 0, none⟩ = some (.int .i64 m1) := g9.cell 0
            have q1 : w9.cell? ⟨g, 1, none⟩ = some (.int .i64 m2) := g9.cell 1
            go_wp2
            refine bodyPost_ret (v := .tuple #[.slice none 0 0, .agg #[.int .i64 m1, .int .i64 m2], .int .i64 er]) (by simp [results, Tryz.results23, go_sem, q0, q1]) rfl ⟨_, by rw [HC.out], by rw [HC.out]; exact pown_nil _ _ _, B9⟩
        · have hkI : ¬ (k : Int) < (P.length : Int) := by omega
          have HE1 : Hid (rdLns 0 ⟨[], 0, [], 0, 0⟩ L = .inr st) := Lib.hid (by rw [HL.out]; exact rdLns_end (by rw [HLN.out]; exact hlt))
          have hEP := endPart_any (g + 2) (g + 2) st v u wr hC (by have := hOk.ps; omega) (by have := hOk.ws; omega) (by have := hC.box.lt; omega)
          obtain ⟨⟨m1, m2⟩, er, s2, hep⟩ : ∃ (m : Int × Int) (er : Int) (s2 : CRd), endP st = (m, er, s2) := ⟨_, _, _, rfl⟩
          unfold EPPost at hEP
          rw [hep] at hEP
          have HEP := Lib.hid hEP
          have HPP := Lib.hid hep
          clear hEP hep
          by_cases he : er = 0
          · subst he
            have HC : Hid (copyP s.data.toList = (s2.ps, (0, 0), 0)) := Lib.hid (by unfold copyP; rw [if_neg (by rw [hsl]; exact h6), ← HLL.out, HN.out]; show (match rdLns 0 _ L with | .inl e => _ | .inr s => _) = _; rw [HE1.out]; show (if (endP st).2.1 ≠ 0 then _ else _) = _; rw [HPP.out]; try rfl)
            go_wp2_with (go_at_call 75; refine HEP.out.mono ?_; rintro e W5 ⟨rfl, v2, u2, hC5, -, -, -, hL5⟩; obtain ⟨xs, hpo, -⟩ := hC5.parts; obtain ⟨A, c2, rfl, -, -⟩ := own_shapeQ hpo; have x0 := hC5.box.cell 0; have hbl := hC5.box.lt; have g5 : BoxAt W5 g #[.int .i64 0, .int .i64 0] 49 := (hL5.block _ (by omega)).trans bm; have m0 := g5.cell 0; have m1' := g5.cell 1; have z0 := g5.free 0; have z1 := g5.free 1; have hgl := g5.lt; simp at x0 m0 m1')
            obtain ⟨w9, e9⟩ : ∃ w9, w9 = ((W5.setCell ⟨g, 0, none⟩ (.int .i64 0)).setCell ⟨g, 1, none⟩ (.int .i64 0)).alloc (.cells #[.int .i64 m1, .int .i64 m2] 49) := ⟨_, rfl⟩
            rw [← e9]
            have g9 : BoxAt w9 g #[.int .i64 0, .int .i64 0] 49 := by rw [e9]; exact ((g5.set 0 _).set 1 _).alloc _
            have B9 : Below w.heap.size w w9 := by rw [e9]; exact (((hB.trans (hL5.mono (by omega))).setCell (p := ⟨g, 0, none⟩) (by show w.heap.size ≤ g; omega) _).setCell (p := ⟨g, 1, none⟩) (by show w.heap.size ≤ g; omega) _).alloc (by have := hB.size; have := hL5.size; simp; omega) _
            have q0 : w9.cell? ⟨g, 0, none⟩ = some (.int .i64 0) := g9.cell 0
            have q1 : w9.cell? ⟨g, 1, none⟩ = some (.int .i64 0) := g9.cell 1
            have hkp : ∀ (k : Nat) (cs : Array Value) (T : TypeId), W5.heap[k]? = some (Obj.cells cs T (0, 0)) → T = 72 ∨ T = 9 → w9.heap[k]? = W5.heap[k]? := fun k cs T hk hT => by
              have hne : k ≠ g := fun e => by
                rw [e, show W5.heap[g]? = _ from g5] at hk; cases hk
                rcases hT with hT | hT <;> exact absurd hT (by decide)
              rw [e9]
              exact (Below.heap_alloc _ _ _ (by rw [World.size_setCell, World.size_setCell]; exact hp_lt hk)).trans ((Below.heap_setCell _ _ _ _ hne).trans (Below.heap_setCell _ _ _ _ hne))
            refine bodyPost_ret (v := .tuple #[.slice A s2.ps.length c2, .agg #[.int .i64 0, .int .i64 0], .int .i64 0]) (by simp [results, Tryz.results23, go_sem, q0, q1]) rfl ⟨_, by rw [HC.out], by rw [HC.out]; exact pown_end hC5 _ (by omega) hkp, B9⟩
          · have heb : (er != 0) = true := by simpa using he
            have HC : Hid (copyP s.data.toList = ([], (m1, m2), er)) := Lib.hid (by unfold copyP; rw [if_neg (by rw [hsl]; exact h6), ← HLL.out, HN.out]; show (match rdLns 0 _ L with | .inl e => _ | .inr s => _) = _; rw [HE1.out]; show (if (endP st).2.1 ≠ 0 then _ else _) = _; rw [HPP.out, if_pos he])
            clear he
            go_wp2_with (go_at_call 75; refine HEP.out.mono ?_; rintro e W5 ⟨rfl, v2, u2, hC5, -, -, -, hL5⟩)
            have g5 : BoxAt W5 g #[.int .i64 0, .int .i64 0] 49 := (hL5.block _ (by omega)).trans bm
            have m0 := g5.cell 0; have m1' := g5.cell 1; have z0 := g5.free 0; have z1 := g5.free 1
            have hgl := g5.lt
            simp at m0 m1'
            go_region
            obtain ⟨w9, e9⟩ : ∃ w9, w9 = (((W5.setCell ⟨g, 0, none⟩ (.int .i64 m1)).setCell ⟨g, 1, none⟩ (.int .i64 m2)).alloc (.cells #[.int .i64 m1, .int .i64 m2] 49)).drew := ⟨_, rfl⟩
            rw [← e9]
            have g9 : BoxAt w9 g #[.int .i64 m1, .int .i64 m2] 49 := by rw [e9]; exact (((g5.set 0 _).set 1 _).alloc _).drew
            have B9 : Below w.heap.size w w9 := by rw [e9]; exact ((((hB.trans (hL5.mono (by omega))).setCell (p := ⟨g, 0, none⟩) (by show w.heap.size ≤ g; omega) _).setCell (p := ⟨g, 1, none⟩) (by show w.heap.size ≤ g; omega) _).alloc (by have := hB.size; have := hL5.size; simp; omega) _).drew
            have q0 : w9.cell? ⟨g, 0, none⟩ = some (.int .i64 m1) := g9.cell 0
            have q1 : w9.cell? ⟨g, 1, none⟩ = some (.int .i64 m2) := g9.cell 1
            go_wp2
            refine bodyPost_ret (v := .tuple #[.slice none 0 0, .agg #[.int .i64 m1, .int .i64 m2], .int .i64 er]) (by simp [results, Tryz.results23, go_sem, q0, q1]) rfl ⟨_, by rw [HC.out], by rw [HC.out]; exact pown_nil _ _ _, B9⟩
end Go.Proofs.YtomblajlpanmjaaGreatDoor
