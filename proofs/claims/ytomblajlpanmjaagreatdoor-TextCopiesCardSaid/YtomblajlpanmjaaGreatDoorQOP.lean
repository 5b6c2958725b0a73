/-
  Package text: a text of copy, as the reference reads it: maths. No program is walked here.
-/
import Derived.Test.YtomblajlpanmjaaGreatDoorQIM
import Derived.Lib.Join
import Derived.Laws.ResultCell
namespace Go.Proofs.YtomblajlpanmjaaGreatDoor
open Go.RowKit Go.Maps

/-- What a line does to the reader of the reference: its end, too. -/
def rfLn (st : CRd) (n : Int) (t : List UInt8) (last : Bool) : ((Int × Int) × Int) ⊕ CRd :=
  match rdWs n st (wordsL t) with
  | .inl e => .inl e
  | .inr s => if s.kd ≠ 0 ∧ (wordsL t = [] ∨ last = true) then (if s.ws.length = 0 then .inl ((s.ln, s.cl), 6) else .inr (endP s).2.2) else .inr s
def rfRest : Nat → CRd → List (List UInt8) → List CP × (Int × Int) × Int
  | _, st, [] => (st.ps, (0, 0), 0)
  | i, st, t :: r => match rfLn st ((i : Int) + 1) t r.isEmpty with
    | .inl e => ([], e.1, e.2)
    | .inr s => rfRest (i + 1) s r
def prRest (i : Nat) (st : CRd) (L : List (List UInt8)) : List CP × (Int × Int) × Int :=
  match rdLns i st L with
  | .inl e => ([], e.1, e.2)
  | .inr s => if (endP s).2.1 ≠ 0 then ([], (endP s).1, (endP s).2.1) else ((endP s).2.2.ps, (0, 0), 0)
theorem rdWs_ne {n : Int} : ∀ {l : List (Nat × List UInt8)} {st : CRd} {e : (Int × Int) × Int}, rdWs n st l = .inl e → e.2 ≠ 0
  | [], _, _, h => by cases h
  | (k, t) :: r, st, e, h => by
    have h : (if (rdW st ⟨t.toArray⟩ n ((k : Int) + 1)).1 ≠ 0 then Sum.inl ((n, (k : Int) + 1), (rdW st ⟨t.toArray⟩ n ((k : Int) + 1)).1) else rdWs n (rdW st ⟨t.toArray⟩ n ((k : Int) + 1)).2 r) = .inl e := h
    by_cases h0 : (rdW st ⟨t.toArray⟩ n ((k : Int) + 1)).1 = 0
    · rw [if_neg (fun h => h h0)] at h
      exact rdWs_ne h
    · rw [if_pos h0] at h
      injection h with h
      rw [← h]; exact h0
theorem endP_zero {s : CRd} (h : s.kd = 0) : endP s = ((0, 0), 0, s) := by unfold endP; rw [if_pos h]
theorem endP_bare {s : CRd} (h : s.kd ≠ 0) (h2 : s.ws.length = 0) : endP s = ((s.ln, s.cl), 6, s) := by unfold endP; rw [if_neg h, if_pos h2]
theorem endP_more {s : CRd} (h : s.kd ≠ 0) (h2 : ¬ s.ws.length = 0) : endP s = ((0, 0), 0, { s with ps := s.ps ++ [⟨s.kd, none, 0, s.ws⟩], kd := 0, ws := [] }) := by unfold endP; rw [if_neg h, if_neg h2]
theorem pr_nil (i : Nat) (s : CRd) (h : s.kd = 0) : prRest i s [] = (s.ps, (0, 0), 0) := by
  unfold prRest
  show (if (endP s).2.1 ≠ 0 then _ else _) = _
  rw [endP_zero h, if_neg (by simp)]
theorem pr_cons {i : Nat} {st : CRd} {t : List UInt8} {r : List (List UInt8)} : prRest i st (t :: r) = if (rdLn st ((i : Int) + 1) t).2.1 ≠ 0 then ([], (rdLn st ((i : Int) + 1) t).1, (rdLn st ((i : Int) + 1) t).2.1) else prRest (i + 1) ((rdLn st ((i : Int) + 1) t).2.2.getD st) r := by
  unfold prRest
  rw [show rdLns i st (t :: r) = if (rdLn st ((i : Int) + 1) t).2.1 ≠ 0 then .inl ((rdLn st ((i : Int) + 1) t).1, (rdLn st ((i : Int) + 1) t).2.1) else rdLns (i + 1) ((rdLn st ((i : Int) + 1) t).2.2.getD st) r from rfl]
  by_cases h : (rdLn st ((i : Int) + 1) t).2.1 ≠ 0
  · rw [if_pos h, if_pos h]
  · rw [if_neg h, if_neg h]
theorem rf_eq : ∀ (L : List (List UInt8)) (i : Nat) (st : CRd), L ≠ [] → rfRest i st L = prRest i st L
  | [], _, _, h => absurd rfl h
  | t :: r, i, st, _ => by
    have ih : ∀ s : CRd, (r = [] → s.kd = 0) → rfRest (i + 1) s r = prRest (i + 1) s r := fun s hs => by
      by_cases hr : r = []
      · rw [hr, pr_nil _ _ (hs hr)]; try rfl
      · exact rf_eq r (i + 1) s hr
    rw [pr_cons, show rfRest i st (t :: r) = (match rfLn st ((i : Int) + 1) t r.isEmpty with | .inl e => ([], e.1, e.2) | .inr s => rfRest (i + 1) s r) from rfl]
    unfold rfLn
    by_cases hw : wordsL t = []
    · have hL : rdLn st ((i : Int) + 1) t = ((endP st).1, (endP st).2.1, some (endP st).2.2) := by unfold rdLn; rw [if_pos hw]
      rw [hL, hw]
      have hR : rdWs ((i : Int) + 1) st [] = .inr st := rfl
      rw [hR]
      dsimp only
      by_cases h0 : st.kd = 0
      · rw [if_neg (fun h => h.1 h0), endP_zero h0, if_neg (by simp)]
        exact ih st (fun _ => h0)
      · rw [if_pos ⟨h0, Or.inl rfl⟩]
        by_cases h1 : st.ws.length = 0
        · rw [if_pos h1, endP_bare h0 h1, if_pos (show (6 : Int) ≠ 0 by decide)]
        · rw [if_neg h1, endP_more h0 h1, if_neg (by simp)]
          exact ih _ (fun _ => rfl)
    · cases e : rdWs ((i : Int) + 1) st (wordsL t) with
      | inl e1 =>
        have hL : rdLn st ((i : Int) + 1) t = (e1.1, e1.2, none) := by unfold rdLn; rw [if_neg hw, e]
        rw [hL, if_pos (rdWs_ne e)]
      | inr s =>
        have hL : rdLn st ((i : Int) + 1) t = ((0, 0), 0, some s) := by unfold rdLn; rw [if_neg hw, e]
        rw [hL, if_neg (by simp)]
        show _ = prRest (i + 1) s r
        dsimp only
        by_cases hr : r = []
        · subst hr
          have hp : prRest (i + 1) s [] = if (endP s).2.1 ≠ 0 then ([], (endP s).1, (endP s).2.1) else ((endP s).2.2.ps, (0, 0), 0) := rfl
          rw [hp]
          by_cases h0 : s.kd = 0
          · rw [if_neg (fun h => h.1 h0), endP_zero h0, if_neg (by simp)]; try rfl
          · rw [if_pos ⟨h0, Or.inr rfl⟩]
            by_cases h1 : s.ws.length = 0
            · rw [if_pos h1, endP_bare h0 h1, if_pos (show (6 : Int) ≠ 0 by decide)]
            · rw [if_neg h1, endP_more h0 h1, if_neg (by simp)]; try rfl
        · have hre : r.isEmpty = false := by cases r with
            | nil => exact absurd rfl hr
            | cons a b => rfl
          rw [if_neg (fun h => by rcases h.2 with h2 | h2; exact hw h2; rw [hre] at h2; cases h2)]
          exact ih s (fun h => absurd h hr)
theorem copyP_ref (t : List UInt8) : copyP t = if 60000 < t.length then ([], (0, 0), 8) else match badAt 0 (splitOn 10 t) with | some m => ([], m, 3) | none => rfRest 0 ⟨[], 0, [], 0, 0⟩ (splitOn 10 t) := by
  unfold copyP
  rw [rf_eq _ _ _ (splitOn_ne 10 t)]
  rfl
end Go.Proofs.YtomblajlpanmjaaGreatDoor

namespace Go.Proofs.YtomblajlpanmjaaGreatDoor
open Go.RowKit Go.Maps

def gdW (ws : List ByteArray) : Prop := ws.length ≤ 100 ∧ (∀ s ∈ ws, isWordB s = true) ∧ ∀ s, ws[0]? = some s → markB s = false
def gdP (x : CP) : Prop := (1 ≤ x.kd ∧ x.kd ≤ 3) ∧ x.l ≠ [] ∧ gdW x.l
end Go.Proofs.YtomblajlpanmjaaGreatDoor

namespace Go.Proofs.YtomblajlpanmjaaGreatDoor
open Go.RowKit Go.Maps

def headL (k : Int) : List (List UInt8) := if k = 2 then [[35]] else if k = 3 then [[94]] else []
def bytesL (l : List ByteArray) : List (List UInt8) := l.map (·.data.toList)
/-- The line of a part. -/
def lineC (x : CP) : List UInt8 := Lib.join (headL x.kd ++ bytesL x.l) [32]
def prK (f : Bool) (x : CP) : List UInt8 := (if f = true then [] else [10]) ++ lineC x ++ [10]
/-- A copy as a text. -/
def prL (f : Bool) : List CP → List UInt8
  | [] => []
  | x :: r => prK f x ++ prL false r
theorem prL_app : ∀ (f : Bool) (a b : List CP), prL f (a ++ b) = prL f a ++ prL (f && a.isEmpty) b
  | f, [], b => by show prL f b = [] ++ prL (f && true) b; rw [Bool.and_true]; try rfl
  | f, x :: a, b => by
    show prK f x ++ prL false (a ++ b) = prK f x ++ prL false a ++ prL (f && false) b
    rw [prL_app false a b, List.append_assoc, Bool.and_false, Bool.false_and]
theorem prL_step {l : List CP} {k : Nat} (hk : k < l.length) : prL true (l.take (k + 1)) = prL true (l.take k) ++ prK (decide (k = 0)) l[k] := by
  rw [List.take_succ_eq_append_getElem hk, prL_app]
  congr 1
  show prK (true && (l.take k).isEmpty) l[k] ++ [] = _
  rw [List.append_nil, Bool.true_and]
  congr 1
  rw [Bool.eq_iff_iff, decide_eq_true_iff, List.isEmpty_iff, List.take_eq_nil_iff]
  constructor
  · intro h
    rcases h with h | h
    · exact h
    · rw [h] at hk; exact absurd hk (Nat.not_lt_zero _)
  · intro h; exact Or.inl h
theorem split_cleanQ {m : UInt8} : ∀ {x : List UInt8}, (∀ b ∈ x, b ≠ m) → splitOn m x = [x]
  | [], _ => rfl
  | c :: r, h => by
    unfold splitOn
    rw [if_neg (h c List.mem_cons_self), split_cleanQ fun b hb => h b (List.mem_cons_of_mem _ hb)]
theorem split_appQ {m : UInt8} {y : List UInt8} : ∀ {x : List UInt8}, (∀ b ∈ x, b ≠ m) → splitOn m (x ++ m :: y) = x :: splitOn m y
  | [], _ => by
    show splitOn m (m :: y) = _
    rw [splitOn, if_pos rfl]
  | c :: r, h => by
    show splitOn m (c :: (r ++ m :: y)) = _
    rw [splitOn, if_neg (h c List.mem_cons_self), split_appQ fun b hb => h b (List.mem_cons_of_mem _ hb)]
theorem join_oneQ (x : List UInt8) (s : List UInt8) : Lib.join [x] s = x := by simp [Lib.join, List.intercalate, List.intersperse]
theorem join_consQ (x y : List UInt8) (r : List (List UInt8)) (s : List UInt8) : Lib.join (x :: y :: r) s = x ++ s ++ Lib.join (y :: r) s := by simp [Lib.join, List.intercalate, List.intersperse]
theorem split_joinQ {m : UInt8} : ∀ {L : List (List UInt8)}, L ≠ [] → (∀ x ∈ L, ∀ b ∈ x, b ≠ m) → splitOn m (Lib.join L [m]) = L
  | [], h, _ => absurd rfl h
  | [x], _, h => by rw [join_oneQ]; exact split_cleanQ (h x List.mem_cons_self)
  | x :: y :: r, _, h => by
    rw [join_consQ, List.append_assoc, List.singleton_append, split_appQ (h x List.mem_cons_self), split_joinQ (by simp) fun z hz => h z (List.mem_cons_of_mem _ hz)]
theorem join_mem {b : UInt8} : ∀ {L : List (List UInt8)} {s : List UInt8}, b ∈ Lib.join L s → (∃ x ∈ L, b ∈ x) ∨ b ∈ s
  | [], s, h => by simp [Lib.join, List.intercalate, List.intersperse] at h
  | [x], s, h => by rw [join_oneQ] at h; exact Or.inl ⟨x, List.mem_cons_self, h⟩
  | x :: y :: r, s, h => by
    rw [join_consQ] at h
    rcases List.mem_append.1 h with h | h
    · rcases List.mem_append.1 h with h | h
      · exact Or.inl ⟨x, List.mem_cons_self, h⟩
      · exact Or.inr h
    · rcases join_mem h with ⟨z, hz, hb⟩ | h
      · exact Or.inl ⟨z, List.mem_cons_of_mem _ hz, hb⟩
      · exact Or.inr h
theorem word_bytes {s : ByteArray} (h : isWordB s = true) : (1 ≤ s.size ∧ s.size ≤ 30) ∧ ∀ b ∈ s.data.toList, 33 ≤ (b.toNat : Int) ∧ (b.toNat : Int) ≤ 126 := by
  unfold isWordB at h
  simp only [Bool.and_eq_true, decide_eq_true_eq] at h
  refine ⟨h.1, fun b hb => ?_⟩
  have h2 := h.2
  unfold allB at h2
  have h3 := List.all_eq_true.1 h2 b hb
  unfold prB at h3
  exact of_decide_eq_true h3
theorem head_bytes {k : Int} {x : List UInt8} (h : x ∈ headL k) : x = [35] ∨ x = [94] := by
  unfold headL at h
  split at h
  · exact Or.inl (List.mem_singleton.1 h)
  · split at h
    · exact Or.inr (List.mem_singleton.1 h)
    · cases h
/-- The bytes of a right part's line. -/
theorem line_bytes {x : CP} (h : gdP x) : ∀ y ∈ headL x.kd ++ bytesL x.l, ∀ b ∈ y, 33 ≤ (b.toNat : Int) ∧ (b.toNat : Int) ≤ 126 := by
  intro y hy b hb
  rcases List.mem_append.1 hy with hy | hy
  · rcases head_bytes hy with rfl | rfl
    · rw [List.mem_singleton.1 hb]; decide
    · rw [List.mem_singleton.1 hb]; decide
  · unfold bytesL at hy
    obtain ⟨s, hs, rfl⟩ := List.mem_map.1 hy
    exact (word_bytes (h.2.2.2.1 s hs)).2 b hb
theorem line_in {x : CP} (h : gdP x) : ∀ b ∈ lineC x, 32 ≤ (b.toNat : Int) ∧ (b.toNat : Int) ≤ 126 := by
  intro b hb
  rcases join_mem hb with ⟨y, hy, hb⟩ | hb
  · have := line_bytes h y hy b hb; omega
  · rw [List.mem_singleton.1 hb]; decide
theorem line_ne {x : CP} (h : gdP x) : headL x.kd ++ bytesL x.l ≠ [] := by
  intro e
  have h2 := h.2.1
  have e2 := (List.append_eq_nil_iff.1 e).2
  unfold bytesL at e2
  exact h2 (List.map_eq_nil_iff.1 e2)
theorem line_split {x : CP} (h : gdP x) : splitOn 32 (lineC x) = headL x.kd ++ bytesL x.l := by
  refine split_joinQ (line_ne h) fun y hy b hb e => ?_
  have := line_bytes h y hy b hb
  rw [e] at this
  exact absurd this.1 (by decide)
theorem line_10 {x : CP} (h : gdP x) : ∀ b ∈ lineC x, b ≠ 10 := fun b hb e => by
  have := line_in h b hb
  rw [e] at this
  exact absurd this.1 (by decide)
/-- The lines of a copy's text, behind the first part's. -/
def linesR : List CP → List (List UInt8)
  | [] => [[]]
  | x :: r => [] :: lineC x :: linesR r
theorem split_rest : ∀ {r : List CP}, (∀ x ∈ r, gdP x) → splitOn 10 (prL false r) = linesR r
  | [], _ => rfl
  | x :: r, h => by
    have e : prL false (x :: r) = [] ++ 10 :: (lineC x ++ 10 :: prL false r) := by
      show (([10] : List UInt8) ++ lineC x ++ [10]) ++ prL false r = _
      simp
    rw [e, split_appQ (fun b hb => by cases hb), split_appQ (line_10 (h x List.mem_cons_self)), split_rest fun y hy => h y (List.mem_cons_of_mem _ hy)]
    rfl
theorem split_all {x : CP} {r : List CP} (h : ∀ y ∈ x :: r, gdP y) : splitOn 10 (prL true (x :: r)) = lineC x :: linesR r := by
  have e : prL true (x :: r) = lineC x ++ 10 :: prL false r := by
    show (([] : List UInt8) ++ lineC x ++ [10]) ++ prL false r = _
    simp
  rw [e, split_appQ (line_10 (h x List.mem_cons_self)), split_rest fun y hy => h y (List.mem_cons_of_mem _ hy)]
theorem strange_none : ∀ {l : List UInt8} {k : Nat}, (∀ b ∈ l, 32 ≤ (b.toNat : Int) ∧ (b.toNat : Int) ≤ 126) → (strangeL l k).2 = false
  | [], _, _ => rfl
  | c :: l, k, h => by
    show (if lineB (c.toNat : Int) = true then strangeL l (k + 1) else ((k : Int), true)).2 = false
    rw [if_pos (by unfold lineB; exact decide_eq_true (h c List.mem_cons_self))]
    exact strange_none fun b hb => h b (List.mem_cons_of_mem _ hb)
theorem bad_noQ : ∀ {L : List (List UInt8)} {i : Nat}, (∀ t ∈ L, (strangeL t 0).2 = false) → badAt i L = none
  | [], _, _ => rfl
  | x :: L, i, h => by
    show (if (strangeL x 0).2 = true then some ((i : Int) + 1, (strangeL x 0).1 + 1) else badAt (i + 1) L) = none
    rw [if_neg (by rw [h x List.mem_cons_self]; simp)]
    exact bad_noQ fun t ht => h t (List.mem_cons_of_mem _ ht)
theorem rest_none : ∀ {r : List CP}, (∀ x ∈ r, gdP x) → ∀ t ∈ linesR r, (strangeL t 0).2 = false
  | [], _, t, ht => by rw [List.mem_singleton.1 (show t ∈ [[]] from ht)]; rfl
  | x :: r, h, t, ht => by
    rcases List.mem_cons.1 (show t ∈ [] :: lineC x :: linesR r from ht) with rfl | ht
    · rfl
    · rcases List.mem_cons.1 ht with rfl | ht
      · exact strange_none (line_in (h x List.mem_cons_self))
      · exact rest_none (fun y hy => h y (List.mem_cons_of_mem _ hy)) t ht
theorem data_bsQ (s : ByteArray) : (⟨s.data.toList.toArray⟩ : ByteArray) = s := by simp
theorem mark35 : markB ⟨#[35]⟩ = true ∧ kindOfW ⟨#[35]⟩ = 2 := by
  have e : (⟨#[35]⟩ : ByteArray).toList = [35] := by rw [Lib.toList_data]
  exact ⟨by unfold markB; rw [e]; try rfl, by unfold kindOfW; rw [e]; try rfl⟩
theorem mark94 : markB ⟨#[94]⟩ = true ∧ kindOfW ⟨#[94]⟩ = 3 := by
  have e : (⟨#[94]⟩ : ByteArray).toList = [94] := by rw [Lib.toList_data]
  exact ⟨by unfold markB; rw [e]; try rfl, by unfold kindOfW; rw [e]; try rfl⟩
theorem kind_one {s : ByteArray} (h : markB s = false) : kindOfW s = 1 := by
  rw [markB_kind] at h
  simpa using h
/-- Right words go into a part that has begun. -/
theorem words_in (n : Int) : ∀ (W : List ByteArray) (k : Nat) (st : CRd), st.kd ≠ 0 → (∀ s ∈ W, isWordB s = true) → (st.ws = [] → ∀ s, W[0]? = some s → markB s = false) → st.ws.length + W.length ≤ 100 → rdWs n st (wdP k (bytesL W)) = .inr { st with ws := st.ws ++ W }
  | [], k, st, _, _, _, _ => by
    show Sum.inr st = _
    rw [List.append_nil]
  | s :: W, k, st, h0, h1, h2, h3 => by
    have hw := h1 s List.mem_cons_self
    have hne : s.data.toList ≠ [] := fun e => by
      have h9 := (word_bytes hw).1
      have : s.data.toList.length = s.size := Array.length_toList
      rw [e] at this; simp at this; omega
    have hl : st.ws.length + (W.length + 1) ≤ 100 := h3
    have hd : rdW st s n ((k : Int) + 1) = (0, { st with ws := st.ws ++ [s] }) := by
      unfold rdW
      rw [if_neg (fun h => h0 h.1), if_neg (fun h => h0 h.1), if_neg (fun h => by
        rcases h with h | ⟨h, hm⟩
        · rw [hw] at h; cases h
        · rw [h2 (List.length_eq_zero_iff.1 h) s rfl] at hm; cases hm), if_neg (by omega), if_neg h0]
    show rdWs n st (wdP k (s.data.toList :: bytesL W)) = _
    have e : wdP k (s.data.toList :: bytesL W) = (k, s.data.toList) :: wdP (k + s.data.toList.length + 1) (bytesL W) := by
      show (if s.data.toList = [] then _ else _) = _; rw [if_neg hne]
    rw [e]
    show (if (rdW st ⟨s.data.toList.toArray⟩ n ((k : Int) + 1)).1 ≠ 0 then Sum.inl ((n, (k : Int) + 1), (rdW st ⟨s.data.toList.toArray⟩ n ((k : Int) + 1)).1) else rdWs n (rdW st ⟨s.data.toList.toArray⟩ n ((k : Int) + 1)).2 (wdP (k + s.data.toList.length + 1) (bytesL W))) = _
    rw [data_bsQ, hd, if_neg (by simp)]
    rw [words_in n W _ { st with ws := st.ws ++ [s] } h0 (fun z hz => h1 z (List.mem_cons_of_mem _ hz)) (fun e => by simp at e) (by show (st.ws ++ [s]).length + W.length ≤ 100; rw [List.length_append]; simp; omega)]
    show Sum.inr { st with ws := st.ws ++ [s] ++ W } = _
    rw [List.append_assoc]; try rfl
/-- A right part's line goes into the reader. -/
theorem line_rd {x : CP} (h : gdP x) {P : List CP} (hP : P.length < 60) (n a b : Int) : ∃ a2 b2, rdLn ⟨P, 0, [], a, b⟩ n (lineC x) = ((0, 0), 0, some ⟨P, x.kd, x.l, a2, b2⟩) := by
  obtain ⟨h1, h2, h3, h4, h5⟩ := h
  have hg : gdP x := ⟨h1, h2, h3, h4, h5⟩
  have hne : wordsL (lineC x) ≠ [] := by
    unfold wordsL
    rw [line_split hg]
    cases e : headL x.kd ++ bytesL x.l with
    | nil => exact absurd e (line_ne hg)
    | cons y r =>
      have hy : y ≠ [] := fun e2 => by
        have hm : y ∈ headL x.kd ++ bytesL x.l := by rw [e]; exact List.mem_cons_self
        rcases List.mem_append.1 hm with hm | hm
        · rcases head_bytes hm with e3 | e3 <;> rw [e2] at e3 <;> cases e3
        · unfold bytesL at hm
          obtain ⟨s, hs, e3⟩ := List.mem_map.1 hm
          have h9 := (word_bytes (h4 s hs)).1
          have : s.data.toList.length = s.size := Array.length_toList
          rw [e3, e2] at this; simp at this; omega
      intro e3
      have e4 : wdP 0 (y :: r) = (0, y) :: wdP (0 + y.length + 1) r := by
        show (if y = [] then _ else _) = _; rw [if_neg hy]
      rw [e4] at e3; cases e3
  have key : ∃ a2 b2, rdWs n ⟨P, 0, [], a, b⟩ (wordsL (lineC x)) = .inr ⟨P, x.kd, x.l, a2, b2⟩ := by
    unfold wordsL
    rw [line_split hg]
    have mk : ∀ (m : UInt8) (kd : Int), markB ⟨#[m]⟩ = true → kindOfW ⟨#[m]⟩ = kd → kd ≠ 0 → x.kd = kd → headL x.kd = [[m]] → ∃ a2 b2, rdWs n ⟨P, 0, [], a, b⟩ (wdP 0 (headL x.kd ++ bytesL x.l)) = .inr ⟨P, x.kd, x.l, a2, b2⟩ := fun m kd q1 q2 q3 q4 q5 => by
      rw [q5]
      refine ⟨n, ((0 : Nat) : Int) + 1, ?_⟩
      have hd : rdW ⟨P, 0, [], a, b⟩ ⟨#[m]⟩ n (((0 : Nat) : Int) + 1) = (0, ⟨P, kd, [], n, ((0 : Nat) : Int) + 1⟩) := by
        unfold rdW
        rw [if_neg (fun h => by have h2 : P.length = 60 := h.2; omega), if_pos ⟨rfl, q1⟩, q2]
      show (if (rdW ⟨P, 0, [], a, b⟩ ⟨#[m]⟩ n (((0 : Nat) : Int) + 1)).1 ≠ 0 then _ else rdWs n (rdW ⟨P, 0, [], a, b⟩ ⟨#[m]⟩ n (((0 : Nat) : Int) + 1)).2 (wdP (0 + 1 + 1) (bytesL x.l))) = _
      rw [hd, if_neg (by simp)]
      rw [words_in n x.l _ ⟨P, kd, [], n, ((0 : Nat) : Int) + 1⟩ q3 h4 (fun _ => h5) (by show 0 + x.l.length ≤ 100; omega), q4]
      rfl
    by_cases k2 : x.kd = 2
    · exact mk 35 2 mark35.1 mark35.2 (by decide) k2 (by unfold headL; rw [if_pos k2])
    by_cases k3 : x.kd = 3
    · exact mk 94 3 mark94.1 mark94.2 (by decide) k3 (by unfold headL; rw [if_neg k2, if_pos k3])
    have k1 : x.kd = 1 := by omega
    have hh : headL x.kd = [] := by unfold headL; rw [if_neg k2, if_neg k3]
    rw [hh, List.nil_append]
    cases e : x.l with
    | nil => exact absurd e h2
    | cons s W =>
      rw [e] at h3 h4 h5
      have hw := h4 s List.mem_cons_self
      have hm := h5 s rfl
      have hne2 : s.data.toList ≠ [] := fun e => by
        have h9 := (word_bytes hw).1
        have : s.data.toList.length = s.size := Array.length_toList
        rw [e] at this; simp at this; omega
      refine ⟨a, b, ?_⟩
      have hd : rdW ⟨P, 0, [], a, b⟩ s n (((0 : Nat) : Int) + 1) = (0, ⟨P, 1, [s], a, b⟩) := by
        unfold rdW
        rw [if_neg (fun h => by have h2 : P.length = 60 := h.2; omega), if_neg (fun h => by rw [hm] at h; cases h.2), if_neg (fun h => by
          rcases h with h | ⟨-, h⟩
          · rw [hw] at h; cases h
          · rw [hm] at h; cases h), if_neg (by simp), if_pos rfl, kind_one hm]
        rfl
      have e4 : wdP 0 (bytesL (s :: W)) = (0, s.data.toList) :: wdP (0 + s.data.toList.length + 1) (bytesL W) := by
        show (if s.data.toList = [] then _ else _) = _; rw [if_neg hne2]; try rfl
      rw [e4]
      show (if (rdW ⟨P, 0, [], a, b⟩ ⟨s.data.toList.toArray⟩ n (((0 : Nat) : Int) + 1)).1 ≠ 0 then _ else rdWs n (rdW ⟨P, 0, [], a, b⟩ ⟨s.data.toList.toArray⟩ n (((0 : Nat) : Int) + 1)).2 (wdP (0 + s.data.toList.length + 1) (bytesL W))) = _
      rw [data_bsQ, hd, if_neg (by simp)]
      rw [words_in n W _ ⟨P, 1, [s], a, b⟩ (by show (1 : Int) ≠ 0; decide) (fun z hz => h4 z (List.mem_cons_of_mem _ hz)) (fun e => by cases e) (by show 1 + W.length ≤ 100; have : (s :: W).length ≤ 100 := h3; simp at this; omega), k1]
      rfl
  obtain ⟨a2, b2, hk⟩ := key
  refine ⟨a2, b2, ?_⟩
  unfold rdLn
  rw [if_neg hne, hk]
theorem blank_rd (P : List CP) (kd : Int) (ws : List ByteArray) (a b n : Int) (h0 : kd ≠ 0) (h1 : ws ≠ []) : rdLn ⟨P, kd, ws, a, b⟩ n [] = ((0, 0), 0, some ⟨P ++ [⟨kd, none, 0, ws⟩], 0, [], a, b⟩) := by
  unfold rdLn
  rw [if_pos (show wordsL [] = [] from rfl), endP_more (s := ⟨P, kd, ws, a, b⟩) h0 (fun e => h1 (List.length_eq_zero_iff.1 e))]
def nCP (x : CP) : CP := ⟨x.kd, none, 0, x.l⟩
theorem rest_rd : ∀ (r : List CP) (x : CP) (P : List CP) (i : Nat) (a b : Int), gdP x → (∀ y ∈ r, gdP y) → P.length + 1 + r.length ≤ 60 → prRest i ⟨P, x.kd, x.l, a, b⟩ (linesR r) = (P ++ (x :: r).map nCP, (0, 0), 0)
  | [], x, P, i, a, b, hx, _, _ => by
    have h0 : x.kd ≠ 0 := by have := hx.1; omega
    show prRest i _ [[]] = _
    rw [pr_cons, blank_rd P x.kd x.l a b _ h0 hx.2.1, if_neg (by simp)]
    show prRest (i + 1) ⟨P ++ [⟨x.kd, none, 0, x.l⟩], 0, [], a, b⟩ [] = _
    rw [pr_nil _ _ rfl]
    rfl
  | y :: r, x, P, i, a, b, hx, hr, hl => by
    have h0 : x.kd ≠ 0 := by have := hx.1; omega
    have hy := hr y List.mem_cons_self
    have hl2 : P.length + 1 + (r.length + 1) ≤ 60 := hl
    show prRest i _ ([] :: lineC y :: linesR r) = _
    rw [pr_cons, blank_rd P x.kd x.l a b _ h0 hx.2.1, if_neg (by simp)]
    show prRest (i + 1) ⟨P ++ [⟨x.kd, none, 0, x.l⟩], 0, [], a, b⟩ (lineC y :: linesR r) = _
    obtain ⟨a2, b2, he⟩ := line_rd hy (P := P ++ [⟨x.kd, none, 0, x.l⟩]) (by rw [List.length_append]; simp; omega) (((i + 1 : Nat) : Int) + 1) a b
    rw [pr_cons, he, if_neg (by simp)]
    show prRest (i + 1 + 1) ⟨P ++ [⟨x.kd, none, 0, x.l⟩], y.kd, y.l, a2, b2⟩ (linesR r) = _
    rw [rest_rd r y _ _ a2 b2 hy (fun z hz => hr z (List.mem_cons_of_mem _ hz)) (by rw [List.length_append]; simp; omega)]
    rw [List.append_assoc]
    rfl
/-- What is written is read again. -/
theorem copy_back {l : List CP} (h : ∀ x ∈ l, gdP x) (hl : l.length ≤ 60) (ht : (prL true l).length ≤ 60000) : copyP (prL true l) = (l.map nCP, (0, 0), 0) := by
  rw [copyP_ref, if_neg (by omega)]
  cases l with
  | nil => rfl
  | cons x r =>
    rw [split_all h]
    have hb : badAt 0 (lineC x :: linesR r) = none := bad_noQ (fun t ht => by
      rcases List.mem_cons.1 ht with rfl | ht
      · exact strange_none (line_in (h x List.mem_cons_self))
      · exact rest_none (fun y hy => h y (List.mem_cons_of_mem _ hy)) t ht)
    rw [hb]
    dsimp only
    rw [rf_eq _ _ _ (by simp), pr_cons]
    obtain ⟨a2, b2, he⟩ := line_rd (h x List.mem_cons_self) (P := []) (by decide) (((0 : Nat) : Int) + 1) 0 0
    rw [he, if_neg (by simp)]
    show prRest (0 + 1) ⟨[], x.kd, x.l, a2, b2⟩ (linesR r) = _
    rw [rest_rd r x [] _ a2 b2 (h x List.mem_cons_self) (fun y hy => h y (List.mem_cons_of_mem _ hy)) (by simp at hl ⊢; omega)]
    rfl
end Go.Proofs.YtomblajlpanmjaaGreatDoor

namespace Go.Proofs.YtomblajlpanmjaaGreatDoor
open Go.RowKit Go.Maps Go.Shelf

theorem POwn.stillB {w W : World} {B n : Nat} {v u u2 : Value} {l : List CP} (h : POwn w B v n l u) (hu : ∀ q, u2.ownBlock = some q → u.ownBlock = some q ∨ w.heap.size ≤ q)
    (hk : ∀ k cs T, B ≤ k → w.heap[k]? = some (.cells cs T (0, 0)) → (T = 72 ∨ T = 9 ∧ u.ownBlock ≠ some k) → W.heap[k]? = w.heap[k]?) : POwn W B v n l u2 := by
  obtain ⟨xs, h1, h2⟩ := h
  refine ⟨xs, own_still h1 (fun q hq => ?_), fun j hj => ?_⟩
  · obtain ⟨cs, hc⟩ := own_blk h1 q hq
    exact hk q cs _ (h1.lt q hq).1 hc (Or.inl rfl)
  · obtain ⟨v2, e1, e2, h3, h4⟩ := h2 j hj
    refine ⟨v2, e1, e2, own_still h3 (fun q hq => ?_), fun q hq e => ?_⟩
    · obtain ⟨cs, hc⟩ := own_blk h3 q hq
      exact hk q cs _ (h3.lt q hq).1 hc (Or.inr ⟨rfl, h4 q hq⟩)
    · obtain ⟨cs, hc⟩ := own_blk h3 q hq
      rcases hu q e with h5 | h5
      · exact h4 q hq h5
      · have := hp_lt hc; omega
theorem own_lowB {w : World} {B B2 e size m : Nat} {x : Value} {xs : List Value} (h : w.ownsRow B e size x m xs) (hB : B2 ≤ B) : w.ownsRow B2 e size x m xs := by
  rcases h.2 with ⟨e1, e2⟩ | ⟨g, cap, cur, e1, e2, e3, e4⟩
  · exact ⟨h.1, Or.inl ⟨e1, e2⟩⟩
  · exact ⟨h.1, Or.inr ⟨g, cap, cur, e1, Nat.le_trans hB e2, e3, e4⟩⟩
theorem POwn.lowB {w : World} {B B2 n : Nat} {v u : Value} {l : List CP} (h : POwn w B v n l u) (hB : B2 ≤ B) : POwn w B2 v n l (.slice none 0 0) := by
  obtain ⟨xs, h1, h2⟩ := h
  refine ⟨xs, own_lowB h1 hB, fun j hj => ?_⟩
  obtain ⟨v2, e1, e2, h3, -⟩ := h2 j hj
  exact ⟨v2, e1, e2, own_lowB h3 hB, fun q _ e => by cases e⟩
/-- The reader of the reference: the part under way at bp, its mark at bm, all its rows from B on. -/
structure RfAt (W : World) (B bp bm : Nat) (st : CRd) (v u : Value) : Prop where
  part : BoxAt W bp #[.int .i64 st.kd, u] 72
  mark : BoxAt W bm #[.int .i64 st.ln, .int .i64 st.cl] 49
  parts : POwn W B v st.ps.length st.ps u
  words : W.ownsRow B 9 1 u st.ws.length (txs st.ws)
  zero : st.kd = 0 → u = .slice none 0 0 ∧ st.ws = []
  hp : bp < B
  hm : bm < B
  ne : bp ≠ bm
section
variable {W W' : World} {B bp bm : Nat} {st : CRd} {v u : Value}
theorem RfAt.moved (h : RfAt W B bp bm st v u) (hb : ∀ k, k < W.heap.size → W'.heap[k]? = W.heap[k]?) : RfAt W' B bp bm st v u :=
  ⟨(hb _ h.part.lt).trans h.part, (hb _ h.mark.lt).trans h.mark, h.parts.stillB (fun q hq => Or.inl hq) (fun k cs T _ hk _ => hb k (hp_lt hk)), own_still h.words (fun q hq => by obtain ⟨cs, hc⟩ := own_blk h.words q hq; exact hb q (hp_lt hc)), h.zero, h.hp, h.hm, h.ne⟩
theorem RfAt.below (h : RfAt W B bp bm st v u) (hb : Below W.heap.size W W') : RfAt W' B bp bm st v u := h.moved (fun k hk => hb.block k hk)
theorem RfAt.alloc (h : RfAt W B bp bm st v u) (o : Obj) : RfAt (W.alloc o) B bp bm st v u := h.below ((Below.refl _ _).alloc (Nat.le_refl _) o)
theorem RfAt.rowsLow (h : RfAt W B bp bm st v u) {p : Addr} (hp : p.block < B) (x : Value) : POwn (W.setCell p x) B v st.ps.length st.ps u ∧ (W.setCell p x).ownsRow B 9 1 u st.ws.length (txs st.ws) :=
  ⟨h.parts.stillB (fun q hq => Or.inl hq) (fun k cs T hk _ _ => Below.heap_setCell _ _ _ _ (by omega)), own_still h.words (fun q hq => Below.heap_setCell _ _ _ _ (by have := (h.words.lt q hq).1; omega))⟩
/-- A part begins. -/
theorem RfAt.begin (h : RfAt W B bp bm st v u) (h0 : st.kd = 0) (k : Int) (hk : k ≠ 0) : RfAt ((W.setCell ⟨bp, 0, none⟩ (.int .i64 k)).setCell ⟨bp, 1, none⟩ (.slice none 0 0)) B bp bm { st with kd := k } v u := by
  obtain ⟨hu, hw⟩ := h.zero h0
  subst hu
  have h1 : RfAt (W.setCell ⟨bp, 0, none⟩ (.int .i64 k)) B bp bm { st with kd := k } v (.slice none 0 0) :=
    ⟨h.part.set 0 _, h.mark.set_other (Ne.symm h.ne) _, (h.rowsLow (p := ⟨bp, 0, none⟩) h.hp _).1, (h.rowsLow (p := ⟨bp, 0, none⟩) h.hp _).2, fun e => absurd e hk, h.hp, h.hm, h.ne⟩
  exact ⟨h1.part.set 1 _, h1.mark.set_other (Ne.symm h.ne) _, (h1.rowsLow (p := ⟨bp, 1, none⟩) h.hp _).1, (h1.rowsLow (p := ⟨bp, 1, none⟩) h.hp _).2, fun e => absurd e hk, h.hp, h.hm, h.ne⟩
theorem RfAt.kind (h : RfAt W B bp bm st v u) (k : Int) (hk : k ≠ 0) : RfAt (W.setCell ⟨bp, 0, none⟩ (.int .i64 k)) B bp bm { st with kd := k } v u :=
  ⟨h.part.set 0 _, h.mark.set_other (Ne.symm h.ne) _, (h.rowsLow (p := ⟨bp, 0, none⟩) h.hp _).1, (h.rowsLow (p := ⟨bp, 0, none⟩) h.hp _).2, fun e => absurd e hk, h.hp, h.hm, h.ne⟩
end
/-- A word more. -/
theorem RfAt.more {wa w5 : World} {B bp bm : Nat} {st : CRd} {v : Value} {A : Option Addr} {c gg cap : Nat} {wd : ByteArray} {n : Nat} (hn : n = st.ws.length) (h : RfAt wa B bp bm st v (.slice A n c)) (h0 : st.kd ≠ 0)
    (hown : w5.ownsRow B 9 1 (.slice (some ⟨gg, 0, none⟩) (n + 1) cap) (n + 1) (txs st.ws ++ [.string wd])) (hgrow : (wa.alloc (.cells #[.string wd] 9)).grownBy w5 (Value.slice A n c).ownBlock) (hat : (Value.slice A n c).ownBlock = some gg ∨ gg = wa.heap.size + 1) :
    RfAt (w5.setCell ⟨bp, 1, none⟩ (.slice (some ⟨gg, 0, none⟩) (n + 1) cap)) B bp bm { st with ws := st.ws ++ [wd] } v (.slice (some ⟨gg, 0, none⟩) (n + 1) cap) := by
  subst hn
  have hkeep : ∀ k o, wa.heap[k]? = some o → (Value.slice A st.ws.length c).ownBlock ≠ some k → w5.heap[k]? = wa.heap[k]? := fun k o hk hne =>
    (hgrow.block k (by have := hp_lt hk; simp; omega) (fun e => hne e.symm)).trans (Below.heap_alloc _ _ _ (hp_lt hk))
  have low : ∀ k, k < B → (Value.slice A st.ws.length c).ownBlock ≠ some k := fun k hk e => by have := (h.words.lt k e).1; omega
  have b5 : BoxAt w5 bp #[.int .i64 st.kd, .slice A st.ws.length c] 72 := (hkeep bp _ h.part (low bp h.hp)).trans h.part
  have m5 : BoxAt w5 bm #[.int .i64 st.ln, .int .i64 st.cl] 49 := (hkeep bm _ h.mark (low bm h.hm)).trans h.mark
  refine ⟨b5.set 1 _, m5.set_other (Ne.symm h.ne) _, h.parts.stillB (fun q hq => ?_) (fun k cs T hkB hk hT => ?_), ?_, fun e => absurd e h0, h.hp, h.hm, h.ne⟩
  · have : gg = q := by simpa [Value.ownBlock] using hq
    subst this
    rcases hat with h1 | h1
    · exact Or.inl h1
    · right; omega
  · refine (Below.heap_setCell _ _ _ _ (by show k ≠ bp; have := h.hp; omega)).trans (hkeep k _ hk (fun e => ?_))
    rcases hT with hT | ⟨_, hT⟩
    · obtain ⟨c2, h2⟩ := own_blk h.words k e
      rw [hk] at h2; cases h2; exact absurd hT (by decide)
    · exact hT e
  · have h6 : (w5.setCell ⟨bp, 1, none⟩ (.slice (some ⟨gg, 0, none⟩) (st.ws.length + 1) cap)).ownsRow B 9 1 (.slice (some ⟨gg, 0, none⟩) (st.ws.length + 1) cap) (st.ws.length + 1) (txs st.ws ++ [.string wd]) :=
      own_still hown (fun q hq => Below.heap_setCell _ _ _ _ (by show q ≠ bp; have := (hown.lt q hq).1; have := h.hp; omega))
    rw [txs_snc] at h6
    show World.ownsRow _ _ _ _ _ (st.ws ++ [wd]).length _
    rw [List.length_append]; exact h6
/-- A part more. -/
theorem RfAt.ended {wa w5 : World} {B bp bm gg cap n : Nat} {st : CRd} {v u : Value} {xs : List Value} (hn : n = st.ps.length) (h : RfAt wa B bp bm st v u)
    (hpo : wa.ownsRow B 72 2 v n xs)
    (hpx : ∀ j, j < n → ∃ v2, xs[j * 2]? = some (.int .i64 (st.ps.getD j noCP).kd) ∧ xs[j * 2 + 1]? = some v2 ∧ wa.ownsRow B 9 1 v2 (st.ps.getD j noCP).l.length (txs (st.ps.getD j noCP).l) ∧ ∀ q, v2.ownBlock = some q → u.ownBlock ≠ some q)
    (hown : w5.ownsRow B 72 2 (.slice (some ⟨gg, 0, none⟩) (n + 1) cap) (n + 1) (xs ++ [.int .i64 st.kd, u])) (hgrow : (wa.alloc (.cells #[.int .i64 st.kd, u] 72)).grownBy w5 v.ownBlock) :
    RfAt ((w5.setCell ⟨bp, 0, none⟩ (.int .i64 0)).setCell ⟨bp, 1, none⟩ (.slice none 0 0)) B bp bm ⟨st.ps ++ [⟨st.kd, none, 0, st.ws⟩], 0, [], st.ln, st.cl⟩ (.slice (some ⟨gg, 0, none⟩) (n + 1) cap) (.slice none 0 0) := by
  subst hn
  have low : ∀ k, k < B → v.ownBlock ≠ some k := fun k hk e => by have := (hpo.lt k e).1; omega
  have hkeep : ∀ k o, wa.heap[k]? = some o → v.ownBlock ≠ some k → w5.heap[k]? = wa.heap[k]? := fun k o hk hne =>
    (hgrow.block k (by have := hp_lt hk; simp; omega) (fun e => hne e.symm)).trans (Below.heap_alloc _ _ _ (hp_lt hk))
  have b5 : BoxAt w5 bp #[.int .i64 st.kd, u] 72 := (hkeep bp _ h.part (low bp h.hp)).trans h.part
  have m5 : BoxAt w5 bm #[.int .i64 st.ln, .int .i64 st.cl] 49 := (hkeep bm _ h.mark (low bm h.hm)).trans h.mark
  have far : ∀ k, B ≤ k → (((w5.setCell ⟨bp, 0, none⟩ (.int .i64 0)).setCell ⟨bp, 1, none⟩ (.slice none 0 0))).heap[k]? = w5.heap[k]? := fun k hk => by
    have := h.hp
    exact (Below.heap_setCell _ _ _ _ (by show k ≠ bp; omega)).trans (Below.heap_setCell _ _ _ _ (by show k ≠ bp; omega))
  have str : ∀ {v2 : Value} {m : Nat} {ys : List Value}, wa.ownsRow B 9 1 v2 m ys → ((w5.setCell ⟨bp, 0, none⟩ (.int .i64 0)).setCell ⟨bp, 1, none⟩ (.slice none 0 0)).ownsRow B 9 1 v2 m ys := fun {v2 m ys} h2 => own_still h2 fun q hq => by
    obtain ⟨cs, hc⟩ := own_blk h2 q hq
    exact (far q (h2.lt q hq).1).trans (hkeep q _ hc (fun e => by
      obtain ⟨c2, h3⟩ := own_blk hpo q e
      rw [hc] at h3; cases h3))
  refine ⟨(b5.set 0 _).set 1 _, (m5.set_other (Ne.symm h.ne) _).set_other (Ne.symm h.ne) _, ⟨xs ++ [.int .i64 st.kd, u], ?_, fun j hj => ?_⟩, World.ownsRow_nil _ _ _ _, fun _ => ⟨rfl, rfl⟩, h.hp, h.hm, h.ne⟩
  · show World.ownsRow _ _ _ _ _ (st.ps ++ [_]).length _
    rw [List.length_append]
    exact own_still hown fun q hq => far q (hown.lt q hq).1
  · have hxl : xs.length = st.ps.length * 2 := hpo.1
    have hj : j < (st.ps ++ [(⟨st.kd, none, 0, st.ws⟩ : CP)]).length := hj
    rw [List.length_append] at hj
    by_cases e : j < st.ps.length
    · obtain ⟨v2, e1, e2, h3, -⟩ := hpx j e
      show ∃ v2, _ ∧ _
      rw [getD_old e]
      exact ⟨v2, by rw [List.getElem?_append_left (by omega)]; exact e1, by rw [List.getElem?_append_left (by omega)]; exact e2, str h3, fun q _ h => by cases h⟩
    · obtain rfl : j = st.ps.length := by simp at hj; omega
      show ∃ v2, _ ∧ _
      rw [getD_new]
      exact ⟨u, by rw [← hxl, List.getElem?_append_right (Nat.le_refl _), Nat.sub_self]; try rfl, by rw [← hxl, List.getElem?_append_right (by omega), show xs.length + 1 - xs.length = 1 by omega]; try rfl, str h.words, fun q _ h => by cases h⟩
theorem RfAt.other {W : World} {B bp bm : Nat} {st : CRd} {v u : Value} (h : RfAt W B bp bm st v u) {p : Addr} (hp : p.block < B) (h1 : bp ≠ p.block) (h2 : bm ≠ p.block) (x : Value) : RfAt (W.setCell p x) B bp bm st v u :=
  ⟨h.part.set_other h1 _, h.mark.set_other h2 _, (h.rowsLow hp x).1, (h.rowsLow hp x).2, h.zero, h.hp, h.hm, h.ne⟩
end Go.Proofs.YtomblajlpanmjaaGreatDoor
