/-
  Schemes read line by line: the state, as maths. No program is walked here.
-/
import Derived.Test.YtgoandhlcekmiaaGreatDoorKT
import Derived.Test.YtgoandhlcekmiaaGreatDoorKU
import Derived.Test.YtgoandhlcekmiaaGreatDoorYB
namespace Go.Proofs.YtgoandhlcekmiaaGreatDoor

/-- What has been read. -/
structure RdS where
  C : Int
  R : Int
  l : List Cell
  n : Nat
  un : Bool
/-- One line, without its line feed. -/
def rdLine (st : RdS) (t : List UInt8) : Option RdS :=
  if st.n = 1 then match numsM 32 2 t with
    | some [a, b] => some { st with C := a, R := b }
    | _ => none
  else match cellsR (splitOn 32 t) with
    | none => none
    | some cs => some { st with l := st.l ++ cs, un := st.un || decide ((cs.length : Int) ≠ st.C) }
/-- Lines: the number of the first that is wrong, or the state. -/
def rdAll : RdS → List (List UInt8) → Nat ⊕ RdS
  | st, [] => .inr st
  | st, t :: r => match rdLine { st with n := st.n + 1 } t with
    | none => .inl (st.n + 1)
    | some s => rdAll s r
/-- One line as the program reads it, with its line feed. -/
def rdRaw (st : RdS) (t : List UInt8) : Option RdS := if Lib.hasSuffix t [10] = true then rdLine st (Lib.trimSuffix t [10]) else none
def rdRaws : RdS → List (List UInt8) → Nat ⊕ RdS
  | st, [] => .inr st
  | st, t :: r => match rdRaw { st with n := st.n + 1 } t with
    | none => .inl (st.n + 1)
    | some s => rdRaws s r
theorem rdLine_n {st s : RdS} {t : List UInt8} (h : rdLine st t = some s) : s.n = st.n := by
  unfold rdLine at h
  split at h
  · split at h
    · cases h; rfl
    · cases h
  · split at h
    · cases h
    · cases h; rfl
theorem rdRaw_n {st s : RdS} {t : List UInt8} (h : rdRaw st t = some s) : s.n = st.n := by
  unfold rdRaw at h
  split at h
  · exact rdLine_n h
  · cases h
theorem rdRaws_app (st : RdS) : ∀ (a b : List (List UInt8)), rdRaws st (a ++ b) = match rdRaws st a with
    | .inl k => .inl k
    | .inr s => rdRaws s b
  | [], _ => rfl
  | t :: a, b => by
    show (match rdRaw { st with n := st.n + 1 } t with | none => Sum.inl (st.n + 1) | some s => rdRaws s (a ++ b)) = _
    show _ = (match (match rdRaw { st with n := st.n + 1 } t with | none => (Sum.inl (st.n + 1) : Nat ⊕ RdS) | some s => rdRaws s a) with | .inl k => (Sum.inl k : Nat ⊕ RdS) | .inr s => rdRaws s b)
    cases rdRaw { st with n := st.n + 1 } t with
    | none => rfl
    | some s => exact rdRaws_app s a b
theorem rdRaws_n {st s : RdS} : ∀ {a : List (List UInt8)}, rdRaws st a = .inr s → s.n = st.n + a.length
  | [], h => by cases h; rfl
  | t :: a, h => by
    have h : (match rdRaw { st with n := st.n + 1 } t with | none => Sum.inl (st.n + 1) | some s => rdRaws s a) = Sum.inr s := h
    cases hr : rdRaw { st with n := st.n + 1 } t with
    | none => rw [hr] at h; cases h
    | some q =>
      rw [hr] at h
      have h1 := rdRaws_n h
      have h2 := rdRaw_n hr
      rw [h1, h2, List.length_cons]; simp only; omega
theorem suf_yes (x : List UInt8) : Lib.hasSuffix (x ++ [10]) [10] = true := by
  unfold Lib.hasSuffix; rw [List.isSuffixOf_iff_suffix]; exact ⟨x, rfl⟩
theorem suf_trim (x : List UInt8) : Lib.trimSuffix (x ++ [10]) [10] = x := by
  unfold Lib.trimSuffix
  rw [if_pos (suf_yes x), List.length_append]
  simp
theorem suf_no {x : List UInt8} (h : ∀ b ∈ x, b ≠ 10) : Lib.hasSuffix x [10] = false := by
  rw [Bool.eq_false_iff]
  intro e
  unfold Lib.hasSuffix at e
  rw [List.isSuffixOf_iff_suffix] at e
  obtain ⟨p, rfl⟩ := e
  exact h 10 (by simp) rfl
theorem splitOn_no {m : UInt8} : ∀ (l : List UInt8), ∀ x ∈ splitOn m l, ∀ b ∈ x, b ≠ m
  | [], x, hx, b, hb => by rw [List.mem_singleton.1 hx] at hb; cases hb
  | c :: r, x, hx, b, hb => by
    by_cases e : c = m
    · rw [e, splitOn_cons_eq] at hx
      rcases List.mem_cons.1 hx with rfl | hx
      · cases hb
      · exact splitOn_no r x hx b hb
    · rw [splitOn_cons_ne e, preTo] at hx
      rcases List.mem_cons.1 hx with rfl | hx
      · rcases List.mem_cons.1 hb with rfl | hb
        · exact e
        · have hf := splitOn_form (m := m) r
          exact splitOn_no r _ (by rw [hf]; exact List.mem_cons_self) b hb
      · have hf := splitOn_form (m := m) r
        exact splitOn_no r x (by rw [hf]; exact List.mem_cons_of_mem _ hx) b hb
/-- What the program reads of its lines is what is read of all lines but the last, if that is empty. -/
theorem raws_all : ∀ (L : List (List UInt8)) (st : RdS), L ≠ [] → (∀ x ∈ L, ∀ b ∈ x, b ≠ 10) → rdRaws st (linesP L) = match rdAll st L.dropLast with
    | .inl k => .inl k
    | .inr s => if L.getLastD [] = [] then .inr s else .inl (s.n + 1)
  | [], _, h, _ => absurd rfl h
  | [x], st, _, h => by
    show rdRaws st (if x = [] then [] else [x]) = if x = [] then .inr st else .inl (st.n + 1)
    by_cases hx : x = []
    · rw [if_pos hx, if_pos hx]; try rfl
    · rw [if_neg hx, if_neg hx]
      show (match rdRaw { st with n := st.n + 1 } x with | none => Sum.inl (st.n + 1) | some s => rdRaws s []) = _
      have : rdRaw { st with n := st.n + 1 } x = none := by
        unfold rdRaw
        rw [if_neg (by rw [suf_no (h x List.mem_cons_self)]; decide)]
      rw [this]
  | x :: y :: r, st, _, h => by
    have e : linesP (x :: y :: r) = (x ++ [10]) :: linesP (y :: r) := rfl
    have e1 : rdRaw { st with n := st.n + 1 } (x ++ [10]) = rdLine { st with n := st.n + 1 } x := by
      unfold rdRaw; rw [if_pos (suf_yes x), suf_trim]
    have e2 : (x :: y :: r).dropLast = x :: (y :: r).dropLast := rfl
    have e3 : (x :: y :: r).getLastD [] = (y :: r).getLastD [] := rfl
    rw [e, e2, e3]
    show (match rdRaw { st with n := st.n + 1 } (x ++ [10]) with | none => Sum.inl (st.n + 1) | some s => rdRaws s (linesP (y :: r))) = match (match rdLine { st with n := st.n + 1 } x with | none => Sum.inl (st.n + 1) | some s => rdAll s (y :: r).dropLast) with | .inl k => .inl k | .inr s => if (y :: r).getLastD [] = [] then .inr s else .inl (s.n + 1)
    rw [e1]
    cases rdLine { st with n := st.n + 1 } x with
    | none => rfl
    | some s => exact raws_all (y :: r) s (by simp) (fun z hz => h z (List.mem_cons_of_mem _ hz))
theorem cellsR_len : ∀ {X : List (List UInt8)} {L : List Cell}, cellsR X = some L → L.length = X.length
  | [], L, h => by cases h; rfl
  | t :: r, L, h => by
    have h : (match cellR t with | none => none | some x => (cellsR r).map (x :: ·)) = some L := h
    cases hr : cellR t with
    | none => rw [hr] at h; cases h
    | some f =>
      rw [hr] at h
      obtain ⟨M, hM, rfl⟩ := Option.map_eq_some_iff.1 h
      rw [List.length_cons, cellsR_len hM]; try rfl
theorem cellsR_app : ∀ (a b : List (List UInt8)), cellsR (a ++ b) = match cellsR a with
    | none => none
    | some cs => (cellsR b).map (cs ++ ·)
  | [], b => by show cellsR b = (cellsR b).map ([] ++ ·); simp
  | t :: a, b => by
    show (match cellR t with | none => none | some x => (cellsR (a ++ b)).map (x :: ·)) = match (match cellR t with | none => none | some x => (cellsR a).map (x :: ·)) with | none => none | some cs => (cellsR b).map (cs ++ ·)
    cases cellR t with
    | none => rfl
    | some x =>
      rw [cellsR_app a b]
      cases cellsR a with
      | none => rfl
      | some cs => simp [Option.map_map, Function.comp_def]
/-- The cells of some lines, under way. -/
theorem numsM_len {m : UInt8} {q : Nat} {t : List UInt8} {L : List Int} (h : numsM m q t = some L) : L.length = q := by
  unfold numsM at h
  split at h
  · rename_i hq; rw [numsI_len h]; exact hq
  · cases h
theorem four_of {L : List Int} (h : L.length = 4) : ∃ a b c d, L = [a, b, c, d] := by
  match L, h with
  | [a, b, c, d], _ => exact ⟨a, b, c, d, rfl⟩
theorem two_of {L : List Int} (h : L.length = 2) : ∃ a b, L = [a, b] := by
  match L, h with
  | [a, b], _ => exact ⟨a, b, rfl⟩
theorem cellR_none {t : List UInt8} (h : numsM 47 4 t = none) : cellR t = none := by unfold cellR; rw [h]
theorem cellR_some {t : List UInt8} {a b c d : Int} (h : numsM 47 4 t = some [a, b, c, d]) : cellR t = some ⟨a, b, c, d⟩ := by unfold cellR; rw [h]
theorem cellsR_one {t : List UInt8} : cellsR [t] = (cellR t).map ([·]) := by
  show (match cellR t with | none => none | some x => (cellsR []).map (x :: ·)) = _
  cases cellR t <;> rfl
end Go.Proofs.YtgoandhlcekmiaaGreatDoor

namespace Go.Proofs.YtgoandhlcekmiaaGreatDoor

structure RdP where
  C : Int
  R : Int
  l : List Cell
  line : Int
  err : Int
abbrev st0 : RdS := ⟨0, 0, [], 0, false⟩
def parseT (t : List UInt8) : RdP :=
  if 60000 < t.length then ⟨0, 0, [], 0, 8⟩
  else match rdAll st0 (splitOn 10 t).dropLast with
    | .inl k => ⟨0, 0, [], k, 7⟩
    | .inr st =>
      if (splitOn 10 t).getLastD [] ≠ [] ∨ (splitOn 10 t).length = 1 then ⟨0, 0, [], (splitOn 10 t).length, 7⟩
      else if st.un = true ∨ ((splitOn 10 t).length : Int) - 2 ≠ st.R then ⟨0, 0, [], 0, 10⟩
      else if (checkSc st.C st.R st.l).2 ≠ 0 then ⟨0, 0, [], 0, (checkSc st.C st.R st.l).2⟩
      else ⟨st.C, st.R, st.l, 0, 0⟩
def parseR : Nat ⊕ RdS → RdP
  | .inl k => ⟨0, 0, [], k, 7⟩
  | .inr st => if (st.n : Int) - 1 ≠ st.R ∨ st.un = true then ⟨0, 0, [], 0, 10⟩
    else if (checkSc st.C st.R st.l).2 ≠ 0 then ⟨0, 0, [], 0, (checkSc st.C st.R st.l).2⟩
    else ⟨st.C, st.R, st.l, 0, 0⟩
theorem rdAll_n {st s : RdS} : ∀ {a : List (List UInt8)}, rdAll st a = .inr s → s.n = st.n + a.length
  | [], h => by cases h; rfl
  | t :: a, h => by
    have h : (match rdLine { st with n := st.n + 1 } t with | none => Sum.inl (st.n + 1) | some s => rdAll s a) = Sum.inr s := h
    cases hr : rdLine { st with n := st.n + 1 } t with
    | none => rw [hr] at h; cases h
    | some q =>
      rw [hr] at h
      have h1 := rdAll_n h
      have h2 := rdLine_n hr
      rw [h1, h2, List.length_cons]; simp only; omega
theorem parseT_raw {t : List UInt8} (h0 : t ≠ []) (hl : ¬ 60000 < t.length) : parseT t = parseR (rdRaws st0 (linesL t)) := by
  have hne := splitOn_ne 10 t
  have hra := raws_all (splitOn 10 t) st0 hne (splitOn_no t)
  have hlen := splitOn_len 10 t
  have hdl : (splitOn 10 t).dropLast.length + 1 = (splitOn 10 t).length := by
    rw [List.length_dropLast]; have := List.length_pos_iff.2 hne; omega
  unfold parseT
  rw [if_neg hl]
  show _ = parseR (rdRaws st0 (linesP (splitOn 10 t)))
  rw [hra]
  cases hr : rdAll st0 (splitOn 10 t).dropLast with
  | inl k => rfl
  | inr st =>
    have hn := rdAll_n hr
    show (if (splitOn 10 t).getLastD [] ≠ [] ∨ (splitOn 10 t).length = 1 then (⟨0, 0, [], ((splitOn 10 t).length : Nat), 7⟩ : RdP) else _) = parseR (if (splitOn 10 t).getLastD [] = [] then .inr st else .inl (st.n + 1))
    have hn : st.n + 1 = (splitOn 10 t).length := by rw [hn]; show 0 + _ + 1 = _; omega
    by_cases hla : (splitOn 10 t).getLastD [] = []
    · have h1 : ¬ (splitOn 10 t).length = 1 := fun h1 => by
        match hs : splitOn 10 t, h1 with
        | [x], _ =>
          rw [hs] at hla hlen
          have hla : x = [] := hla
          rw [hla] at hlen
          have : t.length = 0 := by simpa using hlen.symm
          exact h0 (List.length_eq_zero_iff.1 this)
      rw [if_neg (by rw [not_or]; exact ⟨fun h => h hla, h1⟩), if_pos hla]
      show _ = if (st.n : Int) - 1 ≠ st.R ∨ st.un = true then (⟨0, 0, [], 0, 10⟩ : RdP) else _
      have e : ((splitOn 10 t).length : Int) - 2 = (st.n : Int) - 1 := by omega
      rw [e]
      by_cases h2 : st.un = true ∨ (st.n : Int) - 1 ≠ st.R
      · rw [if_pos h2, if_pos h2.symm]
      · rw [if_neg h2, if_neg (show ¬ ((st.n : Int) - 1 ≠ st.R ∨ st.un = true) from fun h => h2 h.symm)]
    · rw [if_pos (Or.inl hla), if_neg hla, ← hn]; try rfl
theorem parseT_empty : parseT [] = ⟨0, 0, [], 1, 7⟩ := rfl
theorem parseT_large {t : List UInt8} (hl : 60000 < t.length) : parseT t = ⟨0, 0, [], 0, 8⟩ := by unfold parseT; rw [if_pos hl]
theorem rdRaw_len {st s : RdS} {t : List UInt8} (h : rdRaw st t = some s) : s.l.length ≤ st.l.length + t.length := by
  unfold rdRaw at h
  split at h
  · rename_i hs
    have hp : 1 ≤ t.length := by
      cases t with
      | nil => simp [Lib.hasSuffix] at hs
      | cons a r => simp
    unfold rdLine at h
    split at h
    · split at h
      · cases h; simp only; omega
      · cases h
    · split at h
      · cases h
      · rename_i cs hc
        cases h
        have h1 := cellsR_len hc
        have h2 := splitOn_len 32 (Lib.trimSuffix t [10])
        have h3 : (Lib.trimSuffix t [10]).length + 1 = t.length := by
          unfold Lib.trimSuffix
          rw [if_pos hs, List.length_take]
          simp only [List.length_cons, List.length_nil]; omega
        simp only [List.length_append]; omega
  · cases h
theorem rdRaws_len {s : RdS} : ∀ {a : List (List UInt8)} {st : RdS}, rdRaws st a = .inr s → s.l.length ≤ st.l.length + (a.map List.length).sum
  | [], _, h => by cases h; simp
  | t :: a, st, h => by
    have h : (match rdRaw { st with n := st.n + 1 } t with | none => Sum.inl (st.n + 1) | some s => rdRaws s a) = Sum.inr s := h
    cases hr : rdRaw { st with n := st.n + 1 } t with
    | none => rw [hr] at h; cases h
    | some q =>
      rw [hr] at h
      have h1 := rdRaws_len h
      have h2 := rdRaw_len hr
      rw [List.map_cons, List.sum_cons]
      simp only at h2
      omega
theorem linesP_sum : ∀ (L : List (List UInt8)), L ≠ [] → ((linesP L).map List.length).sum + 1 ≤ L.flatten.length + L.length
  | [], h => absurd rfl h
  | [x], _ => by
    show ((if x = [] then [] else [x]).map List.length).sum + 1 ≤ _
    split <;> simp
  | x :: y :: r, _ => by
    have ih := linesP_sum (y :: r) (by simp)
    show ((x ++ [10]).length :: (linesP (y :: r)).map List.length).sum + 1 ≤ _
    rw [List.sum_cons, List.flatten_cons, List.length_append, List.length_append, List.length_cons (a := x)]
    simp only [List.length_cons, List.length_nil] at ih ⊢
    omega
theorem linesL_sum (t : List UInt8) : ((linesL t).map List.length).sum ≤ t.length := by
  have h1 := linesP_sum (splitOn 10 t) (splitOn_ne 10 t)
  have h2 := splitOn_len 10 t
  unfold linesL
  omega
theorem rdRaws_one {st s : RdS} {a : List (List UInt8)} {x : List UInt8} (h : rdRaws st a = .inr s) : rdRaws st (a ++ [x]) = match rdRaw { s with n := s.n + 1 } x with
    | none => .inl (s.n + 1)
    | some q => .inr q := by
  rw [rdRaws_app, h]
  show (match rdRaw { s with n := s.n + 1 } x with | none => Sum.inl (s.n + 1) | some q => rdRaws q []) = _
  cases rdRaw { s with n := s.n + 1 } x <;> rfl
/-- How many cells there are where a beginning of the lines has been read. -/
theorem rd_bound {t : List UInt8} {a r : List (List UInt8)} {s : RdS} (h : rdRaws st0 a = .inr s) (hp : a ++ r = linesL t) : s.l.length ≤ t.length := by
  have h1 := rdRaws_len h
  have h2 := linesL_sum t
  rw [← hp, List.map_append, List.sum_append] at h2
  have h1 : s.l.length ≤ 0 + (a.map List.length).sum := h1
  omega
end Go.Proofs.YtgoandhlcekmiaaGreatDoor
