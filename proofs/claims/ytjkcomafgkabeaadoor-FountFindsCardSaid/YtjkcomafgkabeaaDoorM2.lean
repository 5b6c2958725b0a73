/-
  The plain mathematics of cases: the first error of counts, sums, what is left, what is lacking, the metal. No program is named here.
-/
import Derived.Test.YtjkcomafgkabeaaDoorM1
namespace Go.Proofs.YtjkcomafgkabeaaDoor
open Go.RowKit

def outB (n : Int) : Bool := decide (n < 0 ∨ 1000000 < n)
/-- The error of counts for so many sorts. -/
def countErr (n : Nat) (l : List Int) : Int := if l.length ≠ n then 10 else if l.any outB = true then 2 else 0
def listsErr (n : Nat) : List (List Int) → Int
  | [] => 0
  | x :: r => if countErr n x ≠ 0 then countErr n x else listsErr n r
def casesErr (f : FT) (ls : List (List Int)) : Int := if (checkF f).2 ≠ 0 then (checkF f).2 else listsErr f.sorts.length ls
def caseErr (f : FT) (l : List Int) : Int := if (checkF f).2 ≠ 0 then (checkF f).2 else countErr f.sorts.length l

theorem listsErr_go {n : Nat} {ls : List (List Int)} {k : Nat} (h : k < ls.length) (e : countErr n (ls.getD k []) = 0) : listsErr n (ls.drop k) = listsErr n (ls.drop (k + 1)) := by
  rw [List.drop_eq_getElem_cons h]
  have : ls.getD k [] = ls[k] := by rw [List.getD_eq_getElem?_getD, List.getElem?_eq_getElem h]; rfl
  rw [this] at e
  show (if _ then _ else _) = _
  rw [if_neg (by simp [e])]
theorem listsErr_stop {n : Nat} {ls : List (List Int)} {k : Nat} (h : k < ls.length) (e : countErr n (ls.getD k []) ≠ 0) : listsErr n (ls.drop k) = countErr n (ls.getD k []) := by
  rw [List.drop_eq_getElem_cons h]
  have : ls.getD k [] = ls[k] := by rw [List.getD_eq_getElem?_getD, List.getElem?_eq_getElem h]; rfl
  rw [this] at e ⊢
  show (if _ then _ else _) = _
  rw [if_pos e]
theorem listsErr_end {n : Nat} {ls : List (List Int)} {k : Nat} (h : ¬ k < ls.length) : listsErr n (ls.drop k) = 0 := by
  rw [List.drop_of_length_le (by omega)]; rfl
theorem getI {l : List Int} {k : Nat} (h : k < l.length) : l.getD k 0 = l[k] := by
  rw [List.getD_eq_getElem?_getD, List.getElem?_eq_getElem h]; rfl
theorem outs_cons {l : List Int} {k : Nat} (h : k < l.length) : (l.drop k).any outB = (outB (l.getD k 0) || (l.drop (k + 1)).any outB) := by
  rw [List.drop_eq_getElem_cons h, getI h]; rfl
theorem outs_end {l : List Int} {k : Nat} (h : ¬ k < l.length) : (l.drop k).any outB = false := by
  rw [List.drop_of_length_le (by omega)]; rfl
theorem out_yes {c : Int} (h : c < 0 ∨ 1000000 < c) : outB c = true := decide_eq_true h
theorem out_no {c : Int} (h : ¬ (c < 0 ∨ 1000000 < c)) : outB c = false := decide_eq_false h
theorem countErr_len {n : Nat} {l : List Int} (h : l.length ≠ n) : countErr n l = 10 := by unfold countErr; rw [if_pos h]
theorem countErr_rest {n : Nat} {l : List Int} (h : l.length = n) : countErr n l = if l.any outB = true then 2 else 0 := by unfold countErr; rw [if_neg (by simp [h])]
theorem countErr_zero {n : Nat} {l : List Int} (h : countErr n l = 0) : l.length = n ∧ ∀ k, k < l.length → 0 ≤ l.getD k 0 ∧ l.getD k 0 ≤ 1000000 := by
  unfold countErr at h
  split at h
  · cases h
  split at h
  · cases h
  rename_i h1 h2
  refine ⟨by simpa using h1, fun k hk => ?_⟩
  rw [getI hk]
  have : outB l[k] = false := by
    cases e : outB l[k]
    · rfl
    · exact absurd (List.any_eq_true.2 ⟨_, List.getElem_mem hk, e⟩) h2
  unfold outB at this
  have := of_decide_eq_false this
  omega

/-- A right fount: what its numbers are bounded by. -/
def RightF (f : FT) : Prop := 1 ≤ f.body ∧ f.body ≤ 144 ∧ 1 ≤ f.sorts.length ∧ f.sorts.length ≤ 120 ∧ ∀ k, k < f.sorts.length → 1 ≤ (f.sorts.getD k noTS).width ∧ (f.sorts.getD k noTS).width ≤ 100000 ∧ 1 ≤ (f.sorts.getD k noTS).kind ∧ (f.sorts.getD k noTS).kind ≤ 3
theorem firstErr_all {l : List TS} : ∀ (n k : Nat), k + n = l.length → (firstErr l n k).2 = 0 → ∀ j, k ≤ j → j < l.length → sortErr (l.take j) (l.getD j noTS) = 0 := by
  intro n
  induction n with
  | zero => intro k hk _ j h1 h2; omega
  | succ n ih =>
    intro k hk h j h1 h2
    unfold firstErr at h
    split at h
    · rename_i he; exact absurd h he
    · rename_i he
      by_cases hj : j = k
      · subst hj; exact Decidable.not_not.1 he
      · exact ih (k + 1) (by omega) h j (by omega) h2
theorem checkF_right {f : FT} (h : (checkF f).2 = 0) : isNameB f.name = true ∧ RightF f ∧ ∀ j, j < f.sorts.length → sortErr (f.sorts.take j) (f.sorts.getD j noTS) = 0 := by
  unfold checkF at h
  split at h
  · rename_i he; exact absurd h he
  rename_i he
  have hall := firstErr_all f.sorts.length 0 (by omega) h
  have he := Decidable.not_not.1 he
  unfold frameErr at he
  split at he
  · cases he
  rename_i e1
  split at he
  · cases he
  rename_i e2
  split at he
  · cases he
  rename_i e3
  split at he
  · cases he
  rename_i e4
  have e2' : inB f.body 1 144 = true := by simpa using e2
  unfold inB at e2'
  have e2'' := of_decide_eq_true e2'
  refine ⟨by simpa using e1, ⟨e2''.1, e2''.2, by omega, by omega, fun k hk => ?_⟩, fun j hj => hall j (by omega) hj⟩
  obtain ⟨_, _, h3, h4, _⟩ := sortErr_zero (hall k (by omega) hk)
  unfold inB at h3 h4
  have h3 := of_decide_eq_true h3
  have h4 := of_decide_eq_true h4
  omega

/-- The metal of the first k counts. -/
def metalN (f : FT) (l : List Int) : Nat → Int
  | 0 => 0
  | k + 1 => metalN f l k + l.getD k 0 * (f.sorts.getD k noTS).width * f.body
def metal (f : FT) (l : List Int) : Int := metalN f l l.length
theorem term_bd {n w b : Int} (h1 : 0 ≤ n) (h2 : n ≤ 1000000) (h3 : 1 ≤ w) (h4 : w ≤ 100000) (h5 : 1 ≤ b) (h6 : b ≤ 144) : 0 ≤ n * w ∧ n * w ≤ 100000000000 ∧ 0 ≤ n * w * b ∧ n * w * b ≤ 14400000000000 := by
  have a1 : 0 ≤ n * w := Int.mul_nonneg h1 (by omega)
  have a2 : n * w ≤ 1000000 * 100000 := Int.mul_le_mul h2 h4 (by omega) (by omega)
  have a3 : 0 ≤ n * w * b := Int.mul_nonneg a1 (by omega)
  have a4 : n * w * b ≤ 100000000000 * 144 := Int.mul_le_mul (by omega) h6 (by omega) (by omega)
  omega
theorem metalN_bd {f : FT} {l : List Int} (hf : RightF f) (hl : l.length = f.sorts.length) (hv : ∀ k, k < l.length → 0 ≤ l.getD k 0 ∧ l.getD k 0 ≤ 1000000) : ∀ k, k ≤ l.length → 0 ≤ metalN f l k ∧ metalN f l k ≤ k * 14400000000000 := by
  intro k
  induction k with
  | zero => intro _; exact ⟨Int.le_refl _, by simp [metalN]⟩
  | succ k ih =>
    intro hk
    obtain ⟨i1, i2⟩ := ih (by omega)
    obtain ⟨v1, v2⟩ := hv k (by omega)
    obtain ⟨b1, b2, _, _, hw⟩ := hf
    obtain ⟨w1, w2, _⟩ := hw k (by omega)
    obtain ⟨_, _, t1, t2⟩ := term_bd v1 v2 w1 w2 b1 b2
    unfold metalN
    constructor
    · omega
    · push_cast; omega
end Go.Proofs.YtjkcomafgkabeaaDoor
