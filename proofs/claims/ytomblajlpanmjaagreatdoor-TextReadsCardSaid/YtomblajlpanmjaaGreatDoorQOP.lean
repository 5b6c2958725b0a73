/-
  Package text: a text of copy, as the reference reads it: maths. No program is walked here.
-/
import Derived.Test.YtomblajlpanmjaaGreatDoorQIM
import Derived.Laws.ResultCell
namespace Go.Proofs.YtomblajlpanmjaaGreatDoor
open Go.RowKit Go.Maps

/-- What a line does to the reader of the reference: its end, too. -/
def rfLn (st : CRd) (n : Int) (t : List UInt8) (last : Bool) : ((Int × Int) × Int) ⊕ CRd :=
  match rdWs n st (wordsL t) with
  | .inl e => .inl e
  | .inr s => if s.kd ≠ 0 ∧ (wordsL t = [] ∨ last = true) then (if s.ws.length = 0 then .inl ((s.ln, s.cl), 6) else .inr (endP s).2.2) else .inr s
def rfRest : Nat → CRd → List (List UInt8) → List CP × (Int × Int) × Int
  | _, st, [] => (st.ps, (0, 0), 0)
  | i, st, t :: r => match rfLn st ((i : Int) + 1) t r.isEmpty with
    | .inl e => ([], e.1, e.2)
    | .inr s => rfRest (i + 1) s r
def prRest (i : Nat) (st : CRd) (L : List (List UInt8)) : List CP × (Int × Int) × Int :=
  match rdLns i st L with
  | .inl e => ([], e.1, e.2)
  | .inr s => if (endP s).2.1 ≠ 0 then ([], (endP s).1, (endP s).2.1) else ((endP s).2.2.ps, (0, 0), 0)
theorem rdWs_ne {n : Int} : ∀ {l : List (Nat × List UInt8)} {st : CRd} {e : (Int × Int) × Int}, rdWs n st l = .inl e → e.2 ≠ 0
  | [], _, _, h => by cases h
  | (k, t) :: r, st, e, h => by
    have h : (if (rdW st ⟨t.toArray⟩ n ((k : Int) + 1)).1 ≠ 0 then Sum.inl ((n, (k : Int) + 1), (rdW st ⟨t.toArray⟩ n ((k : Int) + 1)).1) else rdWs n (rdW st ⟨t.toArray⟩ n ((k : Int) + 1)).2 r) = .inl e := h
    by_cases h0 : (rdW st ⟨t.toArray⟩ n ((k : Int) + 1)).1 = 0
    · rw [if_neg (fun h => h h0)] at h
      exact rdWs_ne h
    · rw [if_pos h0] at h
      injection h with h
      rw [← h]; exact h0
theorem endP_zero {s : CRd} (h : s.kd = 0) : endP s = ((0, 0), 0, s) := by unfold endP; rw [if_pos h]
theorem endP_bare {s : CRd} (h : s.kd ≠ 0) (h2 : s.ws.length = 0) : endP s = ((s.ln, s.cl), 6, s) := by unfold endP; rw [if_neg h, if_pos h2]
theorem endP_more {s : CRd} (h : s.kd ≠ 0) (h2 : ¬ s.ws.length = 0) : endP s = ((0, 0), 0, { s with ps := s.ps ++ [⟨s.kd, none, 0, s.ws⟩], kd := 0, ws := [] }) := by unfold endP; rw [if_neg h, if_neg h2]
theorem pr_nil (i : Nat) (s : CRd) (h : s.kd = 0) : prRest i s [] = (s.ps, (0, 0), 0) := by
  unfold prRest
  show (if (endP s).2.1 ≠ 0 then _ else _) = _
  rw [endP_zero h, if_neg (by simp)]
theorem pr_cons {i : Nat} {st : CRd} {t : List UInt8} {r : List (List UInt8)} : prRest i st (t :: r) = if (rdLn st ((i : Int) + 1) t).2.1 ≠ 0 then ([], (rdLn st ((i : Int) + 1) t).1, (rdLn st ((i : Int) + 1) t).2.1) else prRest (i + 1) ((rdLn st ((i : Int) + 1) t).2.2.getD st) r := by
  unfold prRest
  rw [show rdLns i st (t :: r) = if (rdLn st ((i : Int) + 1) t).2.1 ≠ 0 then .inl ((rdLn st ((i : Int) + 1) t).1, (rdLn st ((i : Int) + 1) t).2.1) else rdLns (i + 1) ((rdLn st ((i : Int) + 1) t).2.2.getD st) r from rfl]
  by_cases h : (rdLn st ((i : Int) + 1) t).2.1 ≠ 0
  · rw [if_pos h, if_pos h]
  · rw [if_neg h, if_neg h]
theorem rf_eq : ∀ (L : List (List UInt8)) (i : Nat) (st : CRd), L ≠ [] → rfRest i st L = prRest i st L
  | [], _, _, h => absurd rfl h
  | t :: r, i, st, _ => by
    have ih : ∀ s : CRd, (r = [] → s.kd = 0) → rfRest (i + 1) s r = prRest (i + 1) s r := fun s hs => by
      by_cases hr : r = []
      · rw [hr, pr_nil _ _ (hs hr)]; try rfl
      · exact rf_eq r (i + 1) s hr
    rw [pr_cons, show rfRest i st (t :: r) = (match rfLn st ((i : Int) + 1) t r.isEmpty with | .inl e => ([], e.1, e.2) | .inr s => rfRest (i + 1) s r) from rfl]
    unfold rfLn
    by_cases hw : wordsL t = []
    · have hL : rdLn st ((i : Int) + 1) t = ((endP st).1, (endP st).2.1, some (endP st).2.2) := by unfold rdLn; rw [if_pos hw]
      rw [hL, hw]
      have hR : rdWs ((i : Int) + 1) st [] = .inr st := rfl
      rw [hR]
      dsimp only
      by_cases h0 : st.kd = 0
      · rw [if_neg (fun h => h.1 h0), endP_zero h0, if_neg (by simp)]
        exact ih st (fun _ => h0)
      · rw [if_pos ⟨h0, Or.inl rfl⟩]
        by_cases h1 : st.ws.length = 0
        · rw [if_pos h1, endP_bare h0 h1, if_pos (show (6 : Int) ≠ 0 by decide)]
        · rw [if_neg h1, endP_more h0 h1, if_neg (by simp)]
          exact ih _ (fun _ => rfl)
    · cases e : rdWs ((i : Int) + 1) st (wordsL t) with
      | inl e1 =>
        have hL : rdLn st ((i : Int) + 1) t = (e1.1, e1.2, none) := by unfold rdLn; rw [if_neg hw, e]
        rw [hL, if_pos (rdWs_ne e)]
      | inr s =>
        have hL : rdLn st ((i : Int) + 1) t = ((0, 0), 0, some s) := by unfold rdLn; rw [if_neg hw, e]
        rw [hL, if_neg (by simp)]
        show _ = prRest (i + 1) s r
        dsimp only
        by_cases hr : r = []
        · subst hr
          have hp : prRest (i + 1) s [] = if (endP s).2.1 ≠ 0 then ([], (endP s).1, (endP s).2.1) else ((endP s).2.2.ps, (0, 0), 0) := rfl
          rw [hp]
          by_cases h0 : s.kd = 0
          · rw [if_neg (fun h => h.1 h0), endP_zero h0, if_neg (by simp)]; try rfl
          · rw [if_pos ⟨h0, Or.inr rfl⟩]
            by_cases h1 : s.ws.length = 0
            · rw [if_pos h1, endP_bare h0 h1, if_pos (show (6 : Int) ≠ 0 by decide)]
            · rw [if_neg h1, endP_more h0 h1, if_neg (by simp)]; try rfl
        · have hre : r.isEmpty = false := by cases r with
            | nil => exact absurd rfl hr
            | cons a b => rfl
          rw [if_neg (fun h => by rcases h.2 with h2 | h2; exact hw h2; rw [hre] at h2; cases h2)]
          exact ih s (fun h => absurd h hr)
theorem copyP_ref (t : List UInt8) : copyP t = if 60000 < t.length then ([], (0, 0), 8) else match badAt 0 (splitOn 10 t) with | some m => ([], m, 3) | none => rfRest 0 ⟨[], 0, [], 0, 0⟩ (splitOn 10 t) := by
  unfold copyP
  rw [rf_eq _ _ _ (splitOn_ne 10 t)]
  rfl
theorem bad_none : ∀ {L : List (List UInt8)} {i : Nat}, badAt i L = none → ∀ t ∈ L, (strangeL t 0).2 = false
  | [], _, _, t, h => by cases h
  | x :: L, i, h, t, ht => by
    have h : (if (strangeL x 0).2 = true then some ((i : Int) + 1, (strangeL x 0).1 + 1) else badAt (i + 1) L) = none := h
    by_cases h1 : (strangeL x 0).2 = true
    · rw [if_pos h1] at h; cases h
    · rw [if_neg h1] at h
      rcases List.mem_cons.1 ht with rfl | ht
      · simpa using h1
      · exact bad_none h t ht
theorem strange_all : ∀ {l : List UInt8} {k : Nat}, (strangeL l k).2 = false → ∀ b ∈ l, lineB (b.toNat : Int) = true
  | [], _, _, b, h => by cases h
  | c :: l, k, h, b, hb => by
    have h : (if lineB (c.toNat : Int) = true then strangeL l (k + 1) else ((k : Int), true)).2 = false := h
    by_cases h1 : lineB (c.toNat : Int) = true
    · rw [if_pos h1] at h
      rcases List.mem_cons.1 hb with rfl | hb
      · exact h1
      · exact strange_all h b hb
    · rw [if_neg h1] at h; cases h
theorem split_mem {m : UInt8} : ∀ {l : List UInt8} {x : List UInt8}, x ∈ splitOn m l → ∀ b ∈ x, b ∈ l ∧ b ≠ m
  | [], x, hx, b, hb => by
    have : splitOn m [] = [[]] := rfl
    rw [this] at hx
    rw [List.mem_singleton.1 hx] at hb; cases hb
  | c :: l, x, hx, b, hb => by
    by_cases h : c = m
    · have e : splitOn m (c :: l) = [] :: splitOn m l := by rw [splitOn, if_pos h]
      rw [e] at hx
      rcases List.mem_cons.1 hx with rfl | hx
      · cases hb
      · exact ⟨List.mem_cons_of_mem _ (split_mem hx b hb).1, (split_mem hx b hb).2⟩
    · have e : splitOn m (c :: l) = (c :: (splitOn m l).headD []) :: (splitOn m l).tail := by
        rw [splitOn, if_neg h]
        cases h2 : splitOn m l with
        | nil => exact absurd h2 (splitOn_ne m l)
        | cons a t => rfl
      rw [e] at hx
      rcases List.mem_cons.1 hx with rfl | hx
      · rcases List.mem_cons.1 (show b ∈ c :: (splitOn m l).headD [] from hb) with rfl | hb
        · exact ⟨List.mem_cons_self, h⟩
        · have h3 : (splitOn m l).headD [] ∈ splitOn m l := by
            cases h4 : splitOn m l with
            | nil => exact absurd h4 (splitOn_ne m l)
            | cons a t => exact List.mem_cons_self
          exact ⟨List.mem_cons_of_mem _ (split_mem h3 b hb).1, (split_mem h3 b hb).2⟩
      · have h3 := split_mem (List.mem_of_mem_tail hx) b hb
        exact ⟨List.mem_cons_of_mem _ h3.1, h3.2⟩
/-- The pieces of a right line are words but for their length. -/
theorem piece_pr {t x : List UInt8} (h : (strangeL t 0).2 = false) (hx : x ∈ splitOn 32 t) : allB prB x = true := by
  unfold allB
  rw [List.all_eq_true]
  intro b hb
  obtain ⟨h1, h2⟩ := split_mem hx b hb
  have h3 := strange_all h b h1
  unfold lineB at h3
  unfold prB
  have h3 := of_decide_eq_true h3
  refine decide_eq_true ⟨?_, h3.2⟩
  rcases (by omega : 32 < (b.toNat : Int) ∨ (b.toNat : Int) ≤ 32) with h4 | h4
  · omega
  · have h5 : b.toNat = 32 := by omega
    exact absurd (UInt8.toNat_inj.1 (by rw [h5]; try rfl)) h2
end Go.Proofs.YtomblajlpanmjaaGreatDoor

namespace Go.Proofs.YtomblajlpanmjaaGreatDoor
open Go.RowKit Go.Maps

def gdW (ws : List ByteArray) : Prop := ws.length ≤ 100 ∧ (∀ s ∈ ws, isWordB s = true) ∧ ∀ s, ws[0]? = some s → markB s = false
def gdP (x : CP) : Prop := (1 ≤ x.kd ∧ x.kd ≤ 3) ∧ x.l ≠ [] ∧ gdW x.l
theorem gdW_nil : gdW [] := ⟨by simp, fun s hs => (by cases hs), fun s hs => (by cases hs)⟩
structure RdG (st : CRd) : Prop where
  ps : ∀ x ∈ st.ps, gdP x
  kd : 0 ≤ st.kd ∧ st.kd ≤ 3
  ws : gdW st.ws
theorem kind_bd (wd : ByteArray) : 0 ≤ kindOfW wd ∧ kindOfW wd ≤ 3 := by
  unfold kindOfW
  split
  · omega
  · split <;> omega
theorem rdW_good {st : CRd} {wd : ByteArray} {n k : Int} (h : RdG st) (h3 : st.ws.length ≤ 100) (he : (rdW st wd n k).1 = 0) : RdG (rdW st wd n k).2 := by
  obtain ⟨h1, h2, h4, h5, h6⟩ := h
  have hkd : 0 ≤ (if st.kd = 0 then kindOfW wd else st.kd) ∧ (if st.kd = 0 then kindOfW wd else st.kd) ≤ 3 := by
    split
    · exact kind_bd wd
    · exact h2
  unfold rdW at he ⊢
  split at he
  · exact absurd (show (8 : Int) = 0 from he) (by decide)
  rename_i c1
  rw [if_neg c1]
  split at he
  · rename_i c2
    rw [if_pos c2]
    exact ⟨h1, kind_bd wd, h4, h5, h6⟩
  rename_i c2
  rw [if_neg c2]
  split at he
  · exact absurd (show (3 : Int) = 0 from he) (by decide)
  rename_i c3
  rw [if_neg c3]
  split at he
  · exact absurd (show (8 : Int) = 0 from he) (by decide)
  rename_i c4
  rw [if_neg c4]
  have hw : isWordB wd = true := by
    cases e : isWordB wd with
    | true => rfl
    | false => exact absurd (Or.inl e) c3
  refine ⟨h1, hkd, by show (st.ws ++ [wd]).length ≤ 100; rw [List.length_append]; simp; omega, fun s hs => ?_, fun s hs => ?_⟩
  · rcases List.mem_append.1 hs with hs | hs
    · exact h5 s hs
    · rw [List.mem_singleton.1 hs]; exact hw
  · have hs : (st.ws ++ [wd])[0]? = some s := hs
    by_cases h0 : st.ws.length = 0
    · have e : st.ws = [] := List.length_eq_zero_iff.1 h0
      rw [e] at hs
      have hs : some wd = some s := hs
      injection hs with hs
      rw [← hs]
      cases e2 : markB wd with
      | false => rfl
      | true => exact absurd (Or.inr ⟨h0, e2⟩) c3
    · rw [List.getElem?_append_left (by omega)] at hs
      exact h6 s hs
theorem rdWs_good {n : Int} : ∀ {l : List (Nat × List UInt8)} {st s : CRd}, RdG st → RdOk st → rdWs n st l = .inr s → RdG s
  | [], _, _, h, _, e => by cases e; exact h
  | (k, t) :: r, st, s, h, ho, e => by
    have e : (if (rdW st ⟨t.toArray⟩ n ((k : Int) + 1)).1 ≠ 0 then Sum.inl ((n, (k : Int) + 1), (rdW st ⟨t.toArray⟩ n ((k : Int) + 1)).1) else rdWs n (rdW st ⟨t.toArray⟩ n ((k : Int) + 1)).2 r) = .inr s := e
    by_cases h0 : (rdW st ⟨t.toArray⟩ n ((k : Int) + 1)).1 = 0
    · rw [if_neg (fun h => h h0)] at e
      exact rdWs_good (rdW_good h ho.ws h0) (rdW_ok ho h0) e
    · rw [if_pos h0] at e; cases e
theorem end_good {st : CRd} (h : RdG st) (h0 : st.kd ≠ 0) (h1 : ¬ st.ws.length = 0) : RdG (endP st).2.2 := by
  rw [endP_more h0 h1]
  refine ⟨fun x hx => ?_, by show (0 : Int) ≤ 0 ∧ (0 : Int) ≤ 3; omega, gdW_nil⟩
  rcases List.mem_append.1 (show x ∈ st.ps ++ [⟨st.kd, none, 0, st.ws⟩] from hx) with hx | hx
  · exact h.ps x hx
  · rw [List.mem_singleton.1 hx]
    have := h.kd
    exact ⟨by show 1 ≤ st.kd ∧ st.kd ≤ 3; omega, fun e => h1 (by rw [show st.ws = [] from e]; rfl), h.ws⟩
theorem rfRest_cons {i : Nat} {st : CRd} {t : List UInt8} {r : List (List UInt8)} : rfRest i st (t :: r) = (match rfLn st ((i : Int) + 1) t r.isEmpty with | .inl e => ([], e.1, e.2) | .inr s => rfRest (i + 1) s r) := rfl
theorem rfLn_err {st : CRd} {n : Int} {t : List UInt8} {b : Bool} {e : (Int × Int) × Int} (h : rfLn st n t b = .inl e) : e.2 ≠ 0 := by
  unfold rfLn at h
  cases e1 : rdWs n st (wordsL t) with
  | inl e2 =>
    rw [e1] at h
    injection h with h
    rw [← h]; exact rdWs_ne e1
  | inr s =>
    rw [e1] at h
    dsimp only at h
    split at h
    · split at h
      · injection h with h
        rw [← h]; show (6 : Int) ≠ 0; decide
      · cases h
    · cases h
theorem rfLn_ok {st s : CRd} {n : Int} {t : List UInt8} {b : Bool} (h : rfLn st n t b = .inr s) (hg : RdG st) (ho : RdOk st) : RdG s ∧ RdOk s := by
  unfold rfLn at h
  cases e1 : rdWs n st (wordsL t) with
  | inl e2 => rw [e1] at h; cases h
  | inr s2 =>
    rw [e1] at h
    dsimp only at h
    have h2 := rdWs_good hg ho e1
    have h3 := rdWs_ok ho e1
    split at h
    · rename_i hc
      split at h
      · cases h
      · rename_i h0
        injection h with h
        rw [← h]
        exact ⟨end_good h2 hc.1 h0, endP_ok h3⟩
    · injection h with h
      rw [← h]; exact ⟨h2, h3⟩
theorem rf_good : ∀ (L : List (List UInt8)) (i : Nat) (st : CRd), RdG st → RdOk st → ((rfRest i st L).2.2 = 0 → (∀ x ∈ (rfRest i st L).1, gdP x) ∧ (rfRest i st L).1.length ≤ 60) ∧ ((rfRest i st L).2.2 ≠ 0 → (rfRest i st L).1 = [])
  | [], i, st, hg, ho => ⟨fun _ => ⟨hg.ps, ho.ps⟩, fun h => absurd rfl h⟩
  | t :: r, i, st, hg, ho => by
    rw [rfRest_cons]
    cases e : rfLn st ((i : Int) + 1) t r.isEmpty with
    | inl e2 => exact ⟨fun h => absurd h (rfLn_err e), fun _ => rfl⟩
    | inr s =>
      obtain ⟨h1, h2⟩ := rfLn_ok e hg ho
      exact rf_good r (i + 1) s h1 h2
theorem copyP_good (t : List UInt8) : ((copyP t).2.2 = 0 → (∀ x ∈ (copyP t).1, gdP x) ∧ (copyP t).1.length ≤ 60) ∧ ((copyP t).2.2 ≠ 0 → (copyP t).1 = []) := by
  rw [copyP_ref]
  split
  · exact ⟨fun h => absurd (show (8 : Int) = 0 from h) (by decide), fun _ => rfl⟩
  · cases badAt 0 (splitOn 10 t) with
    | some m => exact ⟨fun h => absurd (show (3 : Int) = 0 from h) (by decide), fun _ => rfl⟩
    | none => exact rf_good _ _ _ ⟨fun x hx => (by cases hx), by show (0 : Int) ≤ 0 ∧ (0 : Int) ≤ 3; omega, gdW_nil⟩ ⟨by simp, fun h => absurd rfl h, by simp⟩
theorem part_good {x : CP} (h : gdP x) : partErr x.kd x.l = 0 := by
  obtain ⟨h1, h2, h3, h4, h5⟩ := h
  have hl : x.l.length ≠ 0 := fun e => h2 (List.length_eq_zero_iff.1 e)
  have hm : markB (x.l.getD 0 noTx) = false := by
    have h6 : 0 < x.l.length := by omega
    rw [List.getD_eq_getElem?_getD, List.getElem?_eq_getElem h6]
    exact h5 _ (List.getElem?_eq_getElem h6)
  have hb : firstAt (badTx x.l) (x.l.length - 0) 0 = none := by
    cases e : firstAt (badTx x.l) (x.l.length - 0) 0 with
    | none => rfl
    | some i =>
      obtain ⟨q1, -, q3, -⟩ := firstAt_some e
      have hi : i < x.l.length := by omega
      unfold badTx at q1
      rw [List.getD_eq_getElem?_getD, List.getElem?_eq_getElem hi, Option.getD_some, h4 _ (List.getElem_mem hi)] at q1
      cases q1
  unfold partErr
  rw [if_neg (by omega), if_neg hl, if_neg (by omega), if_neg (by rw [hm]; simp), hb]
  rfl
/-- A copy of right parts is right. -/
theorem copy_good {l : List CP} (h : ∀ k, k < l.length → partErr (l.getD k noCP).kd (l.getD k noCP).l = 0) (hl : l.length ≤ 60) : checkP l = (0, 0) := by
  have hb : firstAt (isBadP l) (l.length - 0) 0 = none := by
    cases e : firstAt (isBadP l) (l.length - 0) 0 with
    | none => rfl
    | some i =>
      obtain ⟨q1, -, q3, -⟩ := firstAt_some e
      unfold isBadP at q1
      rw [h i (by omega)] at q1
      cases q1
  unfold checkP
  rw [if_neg (by omega), hb]
end Go.Proofs.YtomblajlpanmjaaGreatDoor

namespace Go.Proofs.YtomblajlpanmjaaGreatDoor
open Go.RowKit Go.Maps Go.Shelf

theorem info_mark : (Tryz.prog.info? 49).map (·.size) = some 2 := by kernel_rfl
theorem res_mark {fn : Func} {p q r : Tmp} {tmps : Array Value} {Y : World} {d : Nat} {T : TypeId} {y z x0 x1 : Value} (hf : fn.results = #[.tmp q, .cell p 49, .tmp r]) (hq : tmps.getD q undef = y) (hp : tmps.getD p undef = .pointer (some ⟨d, 0, none⟩)) (hr : tmps.getD r undef = z) (h : BoxAt Y d #[x0, x1] T) : (results fn tmps).run Tryz.prog Y = .ok (.tuple #[y, .agg #[x0, x1], z]) Y := by
  have hl : (loadVar 49 ⟨d, 0, none⟩).run Tryz.prog Y = .ok (.agg #[x0, x1]) Y := run_loadVar_row (P := Tryz.prog) Y d T 49 _ (0, 0) _ h Tryz.underlying49 rfl info_mark
  have hp' : tmps[p]?.getD undef = .pointer (some ⟨d, 0, none⟩) := by simpa using hp
  have hq' : tmps[q]?.getD undef = y := by simpa using hq
  have hr' : tmps[r]?.getD undef = z := by simpa using hr
  simp only [results, hf]
  simp [hp', hq', hr', asAddr, hl]
theorem POwn.stillB {w W : World} {B n : Nat} {v u u2 : Value} {l : List CP} (h : POwn w B v n l u) (hu : ∀ q, u2.ownBlock = some q → u.ownBlock = some q ∨ w.heap.size ≤ q)
    (hk : ∀ k cs T, B ≤ k → w.heap[k]? = some (.cells cs T (0, 0)) → (T = 72 ∨ T = 9 ∧ u.ownBlock ≠ some k) → W.heap[k]? = w.heap[k]?) : POwn W B v n l u2 := by
  obtain ⟨xs, h1, h2⟩ := h
  refine ⟨xs, own_still h1 (fun q hq => ?_), fun j hj => ?_⟩
  · obtain ⟨cs, hc⟩ := own_blk h1 q hq
    exact hk q cs _ (h1.lt q hq).1 hc (Or.inl rfl)
  · obtain ⟨v2, e1, e2, h3, h4⟩ := h2 j hj
    refine ⟨v2, e1, e2, own_still h3 (fun q hq => ?_), fun q hq e => ?_⟩
    · obtain ⟨cs, hc⟩ := own_blk h3 q hq
      exact hk q cs _ (h3.lt q hq).1 hc (Or.inr ⟨rfl, h4 q hq⟩)
    · obtain ⟨cs, hc⟩ := own_blk h3 q hq
      rcases hu q e with h5 | h5
      · exact h4 q hq h5
      · have := hp_lt hc; omega
theorem own_lowB {w : World} {B B2 e size m : Nat} {x : Value} {xs : List Value} (h : w.ownsRow B e size x m xs) (hB : B2 ≤ B) : w.ownsRow B2 e size x m xs := by
  rcases h.2 with ⟨e1, e2⟩ | ⟨g, cap, cur, e1, e2, e3, e4⟩
  · exact ⟨h.1, Or.inl ⟨e1, e2⟩⟩
  · exact ⟨h.1, Or.inr ⟨g, cap, cur, e1, Nat.le_trans hB e2, e3, e4⟩⟩
theorem POwn.lowB {w : World} {B B2 n : Nat} {v u : Value} {l : List CP} (h : POwn w B v n l u) (hB : B2 ≤ B) : POwn w B2 v n l (.slice none 0 0) := by
  obtain ⟨xs, h1, h2⟩ := h
  refine ⟨xs, own_lowB h1 hB, fun j hj => ?_⟩
  obtain ⟨v2, e1, e2, h3, -⟩ := h2 j hj
  exact ⟨v2, e1, e2, own_lowB h3 hB, fun q _ e => by cases e⟩
/-- The reader of the reference: the part under way at bp, its mark at bm, all its rows from B on. -/
structure RfAt (W : World) (B bp bm : Nat) (st : CRd) (v u : Value) : Prop where
  part : BoxAt W bp #[.int .i64 st.kd, u] 72
  mark : BoxAt W bm #[.int .i64 st.ln, .int .i64 st.cl] 49
  parts : POwn W B v st.ps.length st.ps u
  words : W.ownsRow B 9 1 u st.ws.length (txs st.ws)
  zero : st.kd = 0 → u = .slice none 0 0 ∧ st.ws = []
  hp : bp < B
  hm : bm < B
  ne : bp ≠ bm
section
variable {W W' : World} {B bp bm : Nat} {st : CRd} {v u : Value}
theorem RfAt.moved (h : RfAt W B bp bm st v u) (hb : ∀ k, k < W.heap.size → W'.heap[k]? = W.heap[k]?) : RfAt W' B bp bm st v u :=
  ⟨(hb _ h.part.lt).trans h.part, (hb _ h.mark.lt).trans h.mark, h.parts.stillB (fun q hq => Or.inl hq) (fun k cs T _ hk _ => hb k (hp_lt hk)), own_still h.words (fun q hq => by obtain ⟨cs, hc⟩ := own_blk h.words q hq; exact hb q (hp_lt hc)), h.zero, h.hp, h.hm, h.ne⟩
theorem RfAt.below (h : RfAt W B bp bm st v u) (hb : Below W.heap.size W W') : RfAt W' B bp bm st v u := h.moved (fun k hk => hb.block k hk)
theorem RfAt.alloc (h : RfAt W B bp bm st v u) (o : Obj) : RfAt (W.alloc o) B bp bm st v u := h.below ((Below.refl _ _).alloc (Nat.le_refl _) o)
theorem RfAt.rowsLow (h : RfAt W B bp bm st v u) {p : Addr} (hp : p.block < B) (x : Value) : POwn (W.setCell p x) B v st.ps.length st.ps u ∧ (W.setCell p x).ownsRow B 9 1 u st.ws.length (txs st.ws) :=
  ⟨h.parts.stillB (fun q hq => Or.inl hq) (fun k cs T hk _ _ => Below.heap_setCell _ _ _ _ (by omega)), own_still h.words (fun q hq => Below.heap_setCell _ _ _ _ (by have := (h.words.lt q hq).1; omega))⟩
theorem RfAt.setMark (h : RfAt W B bp bm st v u) (x y : Int) : RfAt ((W.setCell ⟨bm, 0, none⟩ (.int .i64 x)).setCell ⟨bm, 1, none⟩ (.int .i64 y)) B bp bm { st with ln := x, cl := y } v u := by
  have h1 : RfAt (W.setCell ⟨bm, 0, none⟩ (.int .i64 x)) B bp bm { st with ln := x } v u :=
    ⟨h.part.set_other h.ne _, h.mark.set 0 _, (h.rowsLow (p := ⟨bm, 0, none⟩) h.hm _).1, (h.rowsLow (p := ⟨bm, 0, none⟩) h.hm _).2, h.zero, h.hp, h.hm, h.ne⟩
  exact ⟨h1.part.set_other h.ne _, h1.mark.set 1 _, (h1.rowsLow (p := ⟨bm, 1, none⟩) h.hm _).1, (h1.rowsLow (p := ⟨bm, 1, none⟩) h.hm _).2, h.zero, h.hp, h.hm, h.ne⟩
/-- A part begins. -/
theorem RfAt.begin (h : RfAt W B bp bm st v u) (h0 : st.kd = 0) (k : Int) (hk : k ≠ 0) : RfAt ((W.setCell ⟨bp, 0, none⟩ (.int .i64 k)).setCell ⟨bp, 1, none⟩ (.slice none 0 0)) B bp bm { st with kd := k } v u := by
  obtain ⟨hu, hw⟩ := h.zero h0
  subst hu
  have h1 : RfAt (W.setCell ⟨bp, 0, none⟩ (.int .i64 k)) B bp bm { st with kd := k } v (.slice none 0 0) :=
    ⟨h.part.set 0 _, h.mark.set_other (Ne.symm h.ne) _, (h.rowsLow (p := ⟨bp, 0, none⟩) h.hp _).1, (h.rowsLow (p := ⟨bp, 0, none⟩) h.hp _).2, fun e => absurd e hk, h.hp, h.hm, h.ne⟩
  exact ⟨h1.part.set 1 _, h1.mark.set_other (Ne.symm h.ne) _, (h1.rowsLow (p := ⟨bp, 1, none⟩) h.hp _).1, (h1.rowsLow (p := ⟨bp, 1, none⟩) h.hp _).2, fun e => absurd e hk, h.hp, h.hm, h.ne⟩
theorem RfAt.kind (h : RfAt W B bp bm st v u) (k : Int) (hk : k ≠ 0) : RfAt (W.setCell ⟨bp, 0, none⟩ (.int .i64 k)) B bp bm { st with kd := k } v u :=
  ⟨h.part.set 0 _, h.mark.set_other (Ne.symm h.ne) _, (h.rowsLow (p := ⟨bp, 0, none⟩) h.hp _).1, (h.rowsLow (p := ⟨bp, 0, none⟩) h.hp _).2, fun e => absurd e hk, h.hp, h.hm, h.ne⟩
end
/-- A word more. -/
theorem RfAt.more {wa w5 : World} {B bp bm : Nat} {st : CRd} {v : Value} {A : Option Addr} {c gg cap : Nat} {wd : ByteArray} {n : Nat} (hn : n = st.ws.length) (h : RfAt wa B bp bm st v (.slice A n c)) (h0 : st.kd ≠ 0)
    (hown : w5.ownsRow B 9 1 (.slice (some ⟨gg, 0, none⟩) (n + 1) cap) (n + 1) (txs st.ws ++ [.string wd])) (hgrow : (wa.alloc (.cells #[.string wd] 9)).grownBy w5 (Value.slice A n c).ownBlock) (hat : (Value.slice A n c).ownBlock = some gg ∨ gg = wa.heap.size + 1) :
    RfAt (w5.setCell ⟨bp, 1, none⟩ (.slice (some ⟨gg, 0, none⟩) (n + 1) cap)) B bp bm { st with ws := st.ws ++ [wd] } v (.slice (some ⟨gg, 0, none⟩) (n + 1) cap) := by
  subst hn
  have hkeep : ∀ k o, wa.heap[k]? = some o → (Value.slice A st.ws.length c).ownBlock ≠ some k → w5.heap[k]? = wa.heap[k]? := fun k o hk hne =>
    (hgrow.block k (by have := hp_lt hk; simp; omega) (fun e => hne e.symm)).trans (Below.heap_alloc _ _ _ (hp_lt hk))
  have low : ∀ k, k < B → (Value.slice A st.ws.length c).ownBlock ≠ some k := fun k hk e => by have := (h.words.lt k e).1; omega
  have b5 : BoxAt w5 bp #[.int .i64 st.kd, .slice A st.ws.length c] 72 := (hkeep bp _ h.part (low bp h.hp)).trans h.part
  have m5 : BoxAt w5 bm #[.int .i64 st.ln, .int .i64 st.cl] 49 := (hkeep bm _ h.mark (low bm h.hm)).trans h.mark
  refine ⟨b5.set 1 _, m5.set_other (Ne.symm h.ne) _, h.parts.stillB (fun q hq => ?_) (fun k cs T hkB hk hT => ?_), ?_, fun e => absurd e h0, h.hp, h.hm, h.ne⟩
  · have : gg = q := by simpa [Value.ownBlock] using hq
    subst this
    rcases hat with h1 | h1
    · exact Or.inl h1
    · right; omega
  · refine (Below.heap_setCell _ _ _ _ (by show k ≠ bp; have := h.hp; omega)).trans (hkeep k _ hk (fun e => ?_))
    rcases hT with hT | ⟨_, hT⟩
    · obtain ⟨c2, h2⟩ := own_blk h.words k e
      rw [hk] at h2; cases h2; exact absurd hT (by decide)
    · exact hT e
  · have h6 : (w5.setCell ⟨bp, 1, none⟩ (.slice (some ⟨gg, 0, none⟩) (st.ws.length + 1) cap)).ownsRow B 9 1 (.slice (some ⟨gg, 0, none⟩) (st.ws.length + 1) cap) (st.ws.length + 1) (txs st.ws ++ [.string wd]) :=
      own_still hown (fun q hq => Below.heap_setCell _ _ _ _ (by show q ≠ bp; have := (hown.lt q hq).1; have := h.hp; omega))
    rw [txs_snc] at h6
    show World.ownsRow _ _ _ _ _ (st.ws ++ [wd]).length _
    rw [List.length_append]; exact h6
/-- A part more. -/
theorem RfAt.ended {wa w5 : World} {B bp bm gg cap n : Nat} {st : CRd} {v u : Value} {xs : List Value} (hn : n = st.ps.length) (h : RfAt wa B bp bm st v u)
    (hpo : wa.ownsRow B 72 2 v n xs)
    (hpx : ∀ j, j < n → ∃ v2, xs[j * 2]? = some (.int .i64 (st.ps.getD j noCP).kd) ∧ xs[j * 2 + 1]? = some v2 ∧ wa.ownsRow B 9 1 v2 (st.ps.getD j noCP).l.length (txs (st.ps.getD j noCP).l) ∧ ∀ q, v2.ownBlock = some q → u.ownBlock ≠ some q)
    (hown : w5.ownsRow B 72 2 (.slice (some ⟨gg, 0, none⟩) (n + 1) cap) (n + 1) (xs ++ [.int .i64 st.kd, u])) (hgrow : (wa.alloc (.cells #[.int .i64 st.kd, u] 72)).grownBy w5 v.ownBlock) :
    RfAt ((w5.setCell ⟨bp, 0, none⟩ (.int .i64 0)).setCell ⟨bp, 1, none⟩ (.slice none 0 0)) B bp bm ⟨st.ps ++ [⟨st.kd, none, 0, st.ws⟩], 0, [], st.ln, st.cl⟩ (.slice (some ⟨gg, 0, none⟩) (n + 1) cap) (.slice none 0 0) := by
  subst hn
  have low : ∀ k, k < B → v.ownBlock ≠ some k := fun k hk e => by have := (hpo.lt k e).1; omega
  have hkeep : ∀ k o, wa.heap[k]? = some o → v.ownBlock ≠ some k → w5.heap[k]? = wa.heap[k]? := fun k o hk hne =>
    (hgrow.block k (by have := hp_lt hk; simp; omega) (fun e => hne e.symm)).trans (Below.heap_alloc _ _ _ (hp_lt hk))
  have b5 : BoxAt w5 bp #[.int .i64 st.kd, u] 72 := (hkeep bp _ h.part (low bp h.hp)).trans h.part
  have m5 : BoxAt w5 bm #[.int .i64 st.ln, .int .i64 st.cl] 49 := (hkeep bm _ h.mark (low bm h.hm)).trans h.mark
  have far : ∀ k, B ≤ k → (((w5.setCell ⟨bp, 0, none⟩ (.int .i64 0)).setCell ⟨bp, 1, none⟩ (.slice none 0 0))).heap[k]? = w5.heap[k]? := fun k hk => by
    have := h.hp
    exact (Below.heap_setCell _ _ _ _ (by show k ≠ bp; omega)).trans (Below.heap_setCell _ _ _ _ (by show k ≠ bp; omega))
  have str : ∀ {v2 : Value} {m : Nat} {ys : List Value}, wa.ownsRow B 9 1 v2 m ys → ((w5.setCell ⟨bp, 0, none⟩ (.int .i64 0)).setCell ⟨bp, 1, none⟩ (.slice none 0 0)).ownsRow B 9 1 v2 m ys := fun {v2 m ys} h2 => own_still h2 fun q hq => by
    obtain ⟨cs, hc⟩ := own_blk h2 q hq
    exact (far q (h2.lt q hq).1).trans (hkeep q _ hc (fun e => by
      obtain ⟨c2, h3⟩ := own_blk hpo q e
      rw [hc] at h3; cases h3))
  refine ⟨(b5.set 0 _).set 1 _, (m5.set_other (Ne.symm h.ne) _).set_other (Ne.symm h.ne) _, ⟨xs ++ [.int .i64 st.kd, u], ?_, fun j hj => ?_⟩, World.ownsRow_nil _ _ _ _, fun _ => ⟨rfl, rfl⟩, h.hp, h.hm, h.ne⟩
  · show World.ownsRow _ _ _ _ _ (st.ps ++ [_]).length _
    rw [List.length_append]
    exact own_still hown fun q hq => far q (hown.lt q hq).1
  · have hxl : xs.length = st.ps.length * 2 := hpo.1
    have hj : j < (st.ps ++ [(⟨st.kd, none, 0, st.ws⟩ : CP)]).length := hj
    rw [List.length_append] at hj
    by_cases e : j < st.ps.length
    · obtain ⟨v2, e1, e2, h3, -⟩ := hpx j e
      show ∃ v2, _ ∧ _
      rw [getD_old e]
      exact ⟨v2, by rw [List.getElem?_append_left (by omega)]; exact e1, by rw [List.getElem?_append_left (by omega)]; exact e2, str h3, fun q _ h => by cases h⟩
    · obtain rfl : j = st.ps.length := by simp at hj; omega
      show ∃ v2, _ ∧ _
      rw [getD_new]
      exact ⟨u, by rw [← hxl, List.getElem?_append_right (Nat.le_refl _), Nat.sub_self]; try rfl, by rw [← hxl, List.getElem?_append_right (by omega), show xs.length + 1 - xs.length = 1 by omega]; try rfl, str h.words, fun q _ h => by cases h⟩
theorem RfAt.part5 {wa w5 : World} {B bp bm : Nat} {st : CRd} {v u : Value} {o : Obj} (h : RfAt wa B bp bm st v u) (hgrow : (wa.alloc o).grownBy w5 u.ownBlock) : BoxAt w5 bp #[.int .i64 st.kd, u] 72 :=
  (hgrow.block bp (by have := h.part.lt; simp; omega) (fun e => by have := (h.words.lt bp e.symm).1; have := h.hp; omega)).trans ((Below.heap_alloc _ _ _ h.part.lt).trans h.part)
theorem RfAt.part6 {wa w5 : World} {B bp bm n : Nat} {st : CRd} {v u : Value} {o : Obj} {xs : List Value} (h : RfAt wa B bp bm st v u) (hpo : wa.ownsRow B 72 2 v n xs) (hgrow : (wa.alloc o).grownBy w5 v.ownBlock) : BoxAt w5 bp #[.int .i64 st.kd, u] 72 :=
  (hgrow.block bp (by have := h.part.lt; simp; omega) (fun e => by have := (hpo.lt bp e.symm).1; have := h.hp; omega)).trans ((Below.heap_alloc _ _ _ h.part.lt).trans h.part)
theorem RfAt.other {W : World} {B bp bm : Nat} {st : CRd} {v u : Value} (h : RfAt W B bp bm st v u) {p : Addr} (hp : p.block < B) (h1 : bp ≠ p.block) (h2 : bm ≠ p.block) (x : Value) : RfAt (W.setCell p x) B bp bm st v u :=
  ⟨h.part.set_other h1 _, h.mark.set_other h2 _, (h.rowsLow hp x).1, (h.rowsLow hp x).2, h.zero, h.hp, h.hm, h.ne⟩
end Go.Proofs.YtomblajlpanmjaaGreatDoor
