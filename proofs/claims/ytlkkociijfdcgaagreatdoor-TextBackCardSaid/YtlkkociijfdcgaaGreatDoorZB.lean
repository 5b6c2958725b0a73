/-
  The plain mathematics of cases: the first error of counts, sums, what is left, what is lacking, the metal. No program is named here.
-/
import Derived.Test.YtlkkociijfdcgaaGreatDoorZA
import Derived.IntWalk
import Derived.Deep.OwnRows
import Derived.Laws.Rows
import Derived.RegionTactic
import Derived.BigRegion
namespace Go.Proofs.YtlkkociijfdcgaaGreatDoor
open Go.RowKit

def outB (n : Int) : Bool := decide (n < 0 ∨ 1000000 < n)
/-- The error of counts for so many sorts. -/
def countErr (n : Nat) (l : List Int) : Int := if l.length ≠ n then 10 else if l.any outB = true then 2 else 0
def listsErr (n : Nat) : List (List Int) → Int
  | [] => 0
  | x :: r => if countErr n x ≠ 0 then countErr n x else listsErr n r
def casesErr (f : FT) (ls : List (List Int)) : Int := if (checkF f).2 ≠ 0 then (checkF f).2 else listsErr f.sorts.length ls
def caseErr (f : FT) (l : List Int) : Int := if (checkF f).2 ≠ 0 then (checkF f).2 else countErr f.sorts.length l

theorem listsErr_go {n : Nat} {ls : List (List Int)} {k : Nat} (h : k < ls.length) (e : countErr n (ls.getD k []) = 0) : listsErr n (ls.drop k) = listsErr n (ls.drop (k + 1)) := by
  rw [List.drop_eq_getElem_cons h]
  have : ls.getD k [] = ls[k] := by rw [List.getD_eq_getElem?_getD, List.getElem?_eq_getElem h]; rfl
  rw [this] at e
  show (if _ then _ else _) = _
  rw [if_neg (by simp [e])]
theorem listsErr_stop {n : Nat} {ls : List (List Int)} {k : Nat} (h : k < ls.length) (e : countErr n (ls.getD k []) ≠ 0) : listsErr n (ls.drop k) = countErr n (ls.getD k []) := by
  rw [List.drop_eq_getElem_cons h]
  have : ls.getD k [] = ls[k] := by rw [List.getD_eq_getElem?_getD, List.getElem?_eq_getElem h]; rfl
  rw [this] at e ⊢
  show (if _ then _ else _) = _
  rw [if_pos e]
theorem listsErr_end {n : Nat} {ls : List (List Int)} {k : Nat} (h : ¬ k < ls.length) : listsErr n (ls.drop k) = 0 := by
  rw [List.drop_of_length_le (by omega)]; rfl
theorem getI {l : List Int} {k : Nat} (h : k < l.length) : l.getD k 0 = l[k] := by
  rw [List.getD_eq_getElem?_getD, List.getElem?_eq_getElem h]; rfl
theorem outs_cons {l : List Int} {k : Nat} (h : k < l.length) : (l.drop k).any outB = (outB (l.getD k 0) || (l.drop (k + 1)).any outB) := by
  rw [List.drop_eq_getElem_cons h, getI h]; rfl
theorem outs_end {l : List Int} {k : Nat} (h : ¬ k < l.length) : (l.drop k).any outB = false := by
  rw [List.drop_of_length_le (by omega)]; rfl
theorem out_yes {c : Int} (h : c < 0 ∨ 1000000 < c) : outB c = true := decide_eq_true h
theorem out_no {c : Int} (h : ¬ (c < 0 ∨ 1000000 < c)) : outB c = false := decide_eq_false h
theorem countErr_len {n : Nat} {l : List Int} (h : l.length ≠ n) : countErr n l = 10 := by unfold countErr; rw [if_pos h]
theorem countErr_rest {n : Nat} {l : List Int} (h : l.length = n) : countErr n l = if l.any outB = true then 2 else 0 := by unfold countErr; rw [if_neg (by simp [h])]
theorem countErr_zero {n : Nat} {l : List Int} (h : countErr n l = 0) : l.length = n ∧ ∀ k, k < l.length → 0 ≤ l.getD k 0 ∧ l.getD k 0 ≤ 1000000 := by
  unfold countErr at h
  split at h
  · cases h
  split at h
  · cases h
  rename_i h1 h2
  refine ⟨by simpa using h1, fun k hk => ?_⟩
  rw [getI hk]
  have : outB l[k] = false := by
    cases e : outB l[k]
    · rfl
    · exact absurd (List.any_eq_true.2 ⟨_, List.getElem_mem hk, e⟩) h2
  unfold outB at this
  have := of_decide_eq_false this
  omega

/-- A right fount: what its numbers are bounded by. -/
def RightF (f : FT) : Prop := 1 ≤ f.body ∧ f.body ≤ 144 ∧ 1 ≤ f.sorts.length ∧ f.sorts.length ≤ 120 ∧ ∀ k, k < f.sorts.length → 1 ≤ (f.sorts.getD k noTS).width ∧ (f.sorts.getD k noTS).width ≤ 100000 ∧ 1 ≤ (f.sorts.getD k noTS).kind ∧ (f.sorts.getD k noTS).kind ≤ 3
theorem firstErr_all {l : List TS} : ∀ (n k : Nat), k + n = l.length → (firstErr l n k).2 = 0 → ∀ j, k ≤ j → j < l.length → sortErr (l.take j) (l.getD j noTS) = 0 := by
  intro n
  induction n with
  | zero => intro k hk _ j h1 h2; omega
  | succ n ih =>
    intro k hk h j h1 h2
    unfold firstErr at h
    split at h
    · rename_i he; exact absurd h he
    · rename_i he
      by_cases hj : j = k
      · subst hj; exact Decidable.not_not.1 he
      · exact ih (k + 1) (by omega) h j (by omega) h2
theorem checkF_right {f : FT} (h : (checkF f).2 = 0) : isNameB f.name = true ∧ RightF f ∧ ∀ j, j < f.sorts.length → sortErr (f.sorts.take j) (f.sorts.getD j noTS) = 0 := by
  unfold checkF at h
  split at h
  · rename_i he; exact absurd h he
  rename_i he
  have hall := firstErr_all f.sorts.length 0 (by omega) h
  have he := Decidable.not_not.1 he
  unfold frameErr at he
  split at he
  · cases he
  rename_i e1
  split at he
  · cases he
  rename_i e2
  split at he
  · cases he
  rename_i e3
  split at he
  · cases he
  rename_i e4
  have e2' : inB f.body 1 144 = true := by simpa using e2
  unfold inB at e2'
  have e2'' := of_decide_eq_true e2'
  refine ⟨by simpa using e1, ⟨e2''.1, e2''.2, by omega, by omega, fun k hk => ?_⟩, fun j hj => hall j (by omega) hj⟩
  obtain ⟨_, _, h3, h4, _⟩ := sortErr_zero (hall k (by omega) hk)
  unfold inB at h3 h4
  have h3 := of_decide_eq_true h3
  have h4 := of_decide_eq_true h4
  omega

/-- The metal of the first k counts. -/
def metalN (f : FT) (l : List Int) : Nat → Int
  | 0 => 0
  | k + 1 => metalN f l k + l.getD k 0 * (f.sorts.getD k noTS).width * f.body
def metal (f : FT) (l : List Int) : Int := metalN f l l.length
theorem term_bd {n w b : Int} (h1 : 0 ≤ n) (h2 : n ≤ 1000000) (h3 : 1 ≤ w) (h4 : w ≤ 100000) (h5 : 1 ≤ b) (h6 : b ≤ 144) : 0 ≤ n * w ∧ n * w ≤ 100000000000 ∧ 0 ≤ n * w * b ∧ n * w * b ≤ 14400000000000 := by
  have a1 : 0 ≤ n * w := Int.mul_nonneg h1 (by omega)
  have a2 : n * w ≤ 1000000 * 100000 := Int.mul_le_mul h2 h4 (by omega) (by omega)
  have a3 : 0 ≤ n * w * b := Int.mul_nonneg a1 (by omega)
  have a4 : n * w * b ≤ 100000000000 * 144 := Int.mul_le_mul (by omega) h6 (by omega) (by omega)
  omega
theorem metalN_bd {f : FT} {l : List Int} (hf : RightF f) (hl : l.length = f.sorts.length) (hv : ∀ k, k < l.length → 0 ≤ l.getD k 0 ∧ l.getD k 0 ≤ 1000000) : ∀ k, k ≤ l.length → 0 ≤ metalN f l k ∧ metalN f l k ≤ k * 14400000000000 := by
  intro k
  induction k with
  | zero => intro _; exact ⟨Int.le_refl _, by simp [metalN]⟩
  | succ k ih =>
    intro hk
    obtain ⟨i1, i2⟩ := ih (by omega)
    obtain ⟨v1, v2⟩ := hv k (by omega)
    obtain ⟨b1, b2, _, _, hw⟩ := hf
    obtain ⟨w1, w2, _⟩ := hw k (by omega)
    obtain ⟨_, _, t1, t2⟩ := term_bd v1 v2 w1 w2 b1 b2
    unfold metalN
    constructor
    · omega
    · push_cast; omega
end Go.Proofs.YtlkkociijfdcgaaGreatDoor
/-
  The errors of any number of cases.
-/
namespace Go.Proofs.YtlkkociijfdcgaaGreatDoor
open Go.RowKit Go.Maps

def IntsAt (w : World) (a : Option Addr) (l : List Int) : Prop :=
  ∀ k, k < l.length → ∃ ad, a = some ad ∧ ad.block < w.heap.size ∧ w.cell? (ad.add k) = some (.int .i64 (l.getD k 0))
theorem IntsAt.below {w w' : World} {a : Option Addr} {l : List Int} (h : IntsAt w a l) (hb : Below w.heap.size w w') : IntsAt w' a l := fun k hk => by
  obtain ⟨ad, e, hlt, hs⟩ := h k hk
  exact ⟨ad, e, Nat.lt_of_lt_of_le hlt hb.size, (hb.cell (by rw [add_block]; exact hlt)).trans hs⟩
theorem IntsAt.alloc {w : World} {a : Option Addr} {l : List Int} (h : IntsAt w a l) (o : Obj) : IntsAt (w.alloc o) a l := h.below ((Below.refl _ _).alloc (Nat.le_refl _) o)
theorem IntsAt.at_ {w : World} {a : Option Addr} {l : List Int} {k : Nat} (h : IntsAt w a l) (hk : k < l.length) : ∃ ad, a = some ad ∧ ad.block < w.heap.size ∧ w.cell? (ad.add k) = some (.int .i64 (l.getD k 0)) := h k hk

/-- The world wr is w0 behind some draws. -/
def Drew (w0 wr : World) : Prop := ∃ n, wr = w0.drewN n
theorem Drew.refl (w : World) : Drew w w := ⟨0, rfl⟩
theorem Drew.drew {w0 wr : World} (h : Drew w0 wr) : Drew w0 wr.drew := by obtain ⟨n, rfl⟩ := h; exact ⟨n + 1, rfl⟩
theorem Drew.drewN {w0 wr : World} (h : Drew w0 wr) (m : Nat) : Drew w0 (wr.drewN m) := by obtain ⟨n, rfl⟩ := h; exact ⟨n + m, by rw [World.drewN_drewN]⟩
theorem Drew.ints {w0 wr : World} (h : Drew w0 wr) {a : Option Addr} {l : List Int} (hi : IntsAt w0 a l) : IntsAt wr a l := by obtain ⟨n, rfl⟩ := h; exact hi
theorem Drew.sorts {w0 wr : World} (h : Drew w0 wr) {a : Option Addr} {l : List TS} (hi : SortsAt w0 a l) : SortsAt wr a l := by obtain ⟨n, rfl⟩ := h; exact hi
theorem Drew.cell {w0 wr : World} (h : Drew w0 wr) {p : Addr} {v : Value} (hi : w0.cell? p = some v) : wr.cell? p = some v := by obtain ⟨n, rfl⟩ := h; exact hi
theorem Drew.size {w0 wr : World} (h : Drew w0 wr) : wr.heap.size = w0.heap.size := by obtain ⟨n, rfl⟩ := h; rfl
theorem below_drewN {B : Nat} {a w : World} (h : Below B a w) (n : Nat) : Below B a (w.drewN n) := ⟨h.os, h.tape, h.output, h.size, h.block⟩
theorem Drew.below {w0 wr : World} (h : Drew w0 wr) {B : Nat} {a : World} (hb : Below B a w0) : Below B a wr := by obtain ⟨n, rfl⟩ := h; exact below_drewN hb n

/-- A slice of numbers: where it lies, its capacity, what it reads. -/
structure IS where
  a : Option Addr
  c : Nat
  l : List Int
def noIS : IS := ⟨none, 0, []⟩
def IS.at_ (x : IS) (w : World) : Prop := IntsAt w x.a x.l ∧ x.l.length ≤ maxLen
def ListsAt (w : World) (a : Option Addr) (ls : List IS) : Prop :=
  ∀ k, k < ls.length → ∃ ad, a = some ad ∧ ad.block < w.heap.size ∧ w.cell? (ad.add k) = some (.slice (ls.getD k noIS).a (ls.getD k noIS).l.length (ls.getD k noIS).c) ∧ (ls.getD k noIS).at_ w
theorem ListsAt.below {w w' : World} {a : Option Addr} {ls : List IS} (h : ListsAt w a ls) (hb : Below w.heap.size w w') : ListsAt w' a ls := fun k hk => by
  obtain ⟨ad, e, hlt, hs, hi⟩ := h k hk
  exact ⟨ad, e, Nat.lt_of_lt_of_le hlt hb.size, (hb.cell (by rw [add_block]; exact hlt)).trans hs, hi.1.below hb, hi.2⟩
theorem ListsAt.alloc {w : World} {a : Option Addr} {l : List IS} (h : ListsAt w a l) (o : Obj) : ListsAt (w.alloc o) a l := h.below ((Below.refl _ _).alloc (Nat.le_refl _) o)
theorem ListsAt.at_ {w : World} {a : Option Addr} {ls : List IS} {k : Nat} (h : ListsAt w a ls) (hk : k < ls.length) : ∃ ad, a = some ad ∧ ad.block < w.heap.size ∧ w.cell? (ad.add k) = some (.slice (ls.getD k noIS).a (ls.getD k noIS).l.length (ls.getD k noIS).c) ∧ (ls.getD k noIS).at_ w := h k hk
theorem map_getD (ls : List IS) (k : Nat) : (ls.map (·.l)).getD k [] = (ls.getD k noIS).l := by
  rw [List.getD_eq_getElem?_getD, List.getD_eq_getElem?_getD, List.getElem?_map]
  cases ls[k]? <;> rfl
theorem casesErr_fount {f : FT} {ls : List (List Int)} (h : (checkF f).2 ≠ 0) : casesErr f ls = (checkF f).2 := by unfold casesErr; rw [if_pos h]
theorem casesErr_rest {f : FT} {ls : List (List Int)} (h : (checkF f).2 = 0) : casesErr f ls = listsErr f.sorts.length ls := by unfold casesErr; rw [if_neg (by simp [h])]

end Go.Proofs.YtlkkociijfdcgaaGreatDoor

/-
  The metal of a case.
-/
namespace Go.Proofs.YtlkkociijfdcgaaGreatDoor
open Go.RowKit Go.Maps

theorem ret2_int {k1 k2 : IntKind} {a b c d : Int} (h : a = c) (h' : b = d) : Ending.returned (.tuple #[.int k1 a, .int k2 b]) = .returned (.tuple #[.int k1 c, .int k2 d]) := by rw [h, h']
theorem ret3_int {k1 k2 k3 : IntKind} {a b c d x y : Int} (h : a = c) (h' : b = d) (h'' : x = y) : Ending.returned (.tuple #[.int k1 a, .int k2 b, .int k3 x]) = .returned (.tuple #[.int k1 c, .int k2 d, .int k3 y]) := by rw [h, h', h'']

/-- A fount in memory: its texts are texts, its sorts lie there, the table lies there. -/
structure FAt (w : World) (a : Option Addr) (f : FT) : Prop where
  ok : OkF f
  at_ : SortsAt w a f.sorts
  tab : TabOk w
theorem FAt.below {w w' : World} {a : Option Addr} {f : FT} (h : FAt w a f) (hb : Below w.heap.size w w') : FAt w' a f := ⟨h.ok, h.at_.below hb, h.tab.below hb h.tab.1⟩
theorem FAt.alloc {w : World} {a : Option Addr} {f : FT} (h : FAt w a f) (o : Obj) : FAt (w.alloc o) a f := h.below ((Below.refl _ _).alloc (Nat.le_refl _) o)

theorem lists_one {W : World} {b : Option Addr} {l : List Int} {d : Nat} (hX : IntsAt W b l) (hl : l.length ≤ maxLen) :
    ListsAt (W.alloc (.cells #[.slice b l.length d] 63)) (some ⟨W.heap.size, 0, none⟩) [⟨b, d, l⟩] := by
  intro k hk
  have hk0 : k = 0 := by simpa using hk
  subst hk0
  exact ⟨_, rfl, by simp, by simp [Addr.add], hX.alloc _, hl⟩
theorem lists_two {W : World} {b1 b2 : Option Addr} {l1 l2 : List Int} {d1 d2 : Nat} (hX1 : IntsAt W b1 l1) (hl1 : l1.length ≤ maxLen) (hX2 : IntsAt W b2 l2) (hl2 : l2.length ≤ maxLen) :
    ListsAt (W.alloc (.cells #[.slice b1 l1.length d1, .slice b2 l2.length d2] 63)) (some ⟨W.heap.size, 0, none⟩) [⟨b1, d1, l1⟩, ⟨b2, d2, l2⟩] := by
  intro k hk
  have hk0 : k = 0 ∨ k = 1 := by simp at hk; omega
  rcases hk0 with rfl | rfl
  · exact ⟨_, rfl, by simp, by simp [Addr.add], hX1.alloc _, hl1⟩
  · exact ⟨_, rfl, by simp, by simp [Addr.add], hX2.alloc _, hl2⟩

theorem cases_zero {f : FT} {ls : List (List Int)} (h : casesErr f ls = 0) : (checkF f).2 = 0 ∧ ∀ l ∈ ls, countErr f.sorts.length l = 0 := by
  unfold casesErr at h
  split at h
  · rename_i h1; exact absurd h h1
  rename_i h1
  refine ⟨Decidable.not_not.1 h1, ?_⟩
  clear h1
  induction ls with
  | nil => intro l hl; cases hl
  | cons x r ih =>
    unfold listsErr at h
    split at h
    · rename_i h2; exact absurd h h2
    rename_i h2
    intro l hl
    rcases List.mem_cons.1 hl with rfl | hl
    · exact Decidable.not_not.1 h2
    · exact ih h l hl

def metalR (f : FT) (l : List Int) : Int × Int := if casesErr f [l] ≠ 0 then (0, casesErr f [l]) else (metal f l, 0)
end Go.Proofs.YtlkkociijfdcgaaGreatDoor

/-
  Casting of metal.
-/
namespace Go.Proofs.YtlkkociijfdcgaaGreatDoor
open Go.RowKit Go.Maps

def castR (f : FT) (m : Int) (l : List Int) : Int × Int × Int :=
  if (checkF f).2 ≠ 0 then (0, 0, (checkF f).2) else if m < 0 ∨ 1000000000000000000 < m then (0, 0, 2) else if casesErr f [l] ≠ 0 then (0, 0, casesErr f [l]) else
    if metal f l = 0 then (0, 0, 11) else (m / metal f l, m % metal f l, 0)

end Go.Proofs.YtlkkociijfdcgaaGreatDoor

/-
  A slice of the call's own that is filled number by number; taking a need from a case.
-/
namespace Go.Proofs.YtlkkociijfdcgaaGreatDoor
open Go.RowKit Go.Maps

theorem info3 : (Tryz.prog.info? 3).map (fun i => (i.zero, i.size, i.bytes)) = some (some (.int .i64 0), 1, 8) := by kernel_rfl
/-- Block g is a row of n cells; the first k of them hold the numbers of fn. -/
def Own (w : World) (g n : Nat) (fn : Nat → Int) (k : Nat) : Prop := ∃ cs : Array Value, w.heap[g]? = some (.cells cs 3 (0, 0)) ∧ cs.size = n ∧ ∀ j, j < k → cs[j]? = some (.int .i64 (fn j))
theorem Own.made (w : World) (n : Nat) (fn : Nat → Int) (k : Nat) (h : k ≤ n) (hz : ∀ j, j < k → fn j = 0) : Own (w.alloc (.cells (madeCells #[.int .i64 0] n) 3)) w.heap.size n fn k := by
  refine ⟨_, heap_alloc_new w _, size_madeCells _ _, fun j hj => ?_⟩
  rw [hz j hj]
  have : j < n := by omega
  simp [madeCells, this, Nat.mod_one]
theorem Own.lt {w : World} {g n : Nat} {fn : Nat → Int} {k : Nat} (h : Own w g n fn k) : g < w.heap.size := by
  obtain ⟨cs, h1, _⟩ := h
  rcases Nat.lt_or_ge g w.heap.size with hlt | hge
  · exact hlt
  · rw [Array.getElem?_eq_none hge] at h1; cases h1
theorem Own.some_ {w : World} {g n : Nat} {fn : Nat → Int} {k : Nat} (h : Own w g n fn k) {j : Nat} (hj : j < n) : ∃ v, w.cell? ⟨g, j, none⟩ = some v := by
  obtain ⟨cs, h1, h2, _⟩ := h
  exact ⟨cs[j]'(by omega), by rw [cell_of_row w g j cs _ (0, 0) h1]; exact Array.getElem?_eq_getElem (by omega)⟩
theorem Own.cell {w : World} {g n : Nat} {fn : Nat → Int} {k : Nat} (h : Own w g n fn k) {j : Nat} (hj : j < k) : w.cell? ⟨g, j, none⟩ = some (.int .i64 (fn j)) := by
  obtain ⟨cs, h1, h2, h3⟩ := h
  rw [cell_of_row w g j cs _ (0, 0) h1]; exact h3 j hj
theorem Own.frozen {w : World} {g n : Nat} {fn : Nat → Int} {k : Nat} (h : Own w g n fn k) (j : Nat) : w.frozen? ⟨g, j, none⟩ = false := by
  obtain ⟨cs, h1, _⟩ := h
  simp [World.frozen?, h1]
theorem Own.drewN {w : World} {g n : Nat} {fn : Nat → Int} {k : Nat} (h : Own w g n fn k) (m : Nat) : Own (w.drewN m) g n fn k := h
theorem Own.drew {w : World} {g n : Nat} {fn : Nat → Int} {k : Nat} (h : Own w g n fn k) : Own w.drew g n fn k := h
theorem Own.set_ {w : World} {g n : Nat} {fn : Nat → Int} {k : Nat} (h : Own w g n fn k) (hk : k < n) {v : Int} (hv : v = fn k) : Own (w.setCell ⟨g, k, none⟩ (.int .i64 v)) g n fn (k + 1) := by
  obtain ⟨cs, h1, h2, h3⟩ := h
  refine ⟨cs.setIfInBounds k (.int .i64 v), by simp [World.setCell, Array.getElem?_modify, h1], by simp [h2], fun j hj => ?_⟩
  by_cases e : j = k
  · subst e; rw [hv, Array.getElem?_setIfInBounds_self_of_lt (by omega)]
  · rw [Array.getElem?_setIfInBounds_ne (fun h => e h.symm)]
    exact h3 j (by omega)
def tab (n : Nat) (fn : Nat → Int) : List Int := (List.range n).map fn
theorem tab_len (n : Nat) (fn : Nat → Int) : (tab n fn).length = n := by simp [tab]
theorem tab_at {n : Nat} {fn : Nat → Int} {k : Nat} (h : k < n) : (tab n fn).getD k 0 = fn k := by
  rw [getI (by rw [tab_len]; exact h)]; simp [tab]
theorem Own.ints {w : World} {g n : Nat} {fn : Nat → Int} (h : Own w g n fn n) : IntsAt w (some ⟨g, 0, none⟩) (tab n fn) := by
  intro k hk
  rw [tab_len] at hk
  refine ⟨_, rfl, h.lt, ?_⟩
  rw [tab_at hk]
  have : (⟨g, 0, none⟩ : Addr).add k = ⟨g, k, none⟩ := by
    unfold Addr.add; split
    · rename_i h0; rw [h0]
    · simp
  rw [this]; exact h.cell hk

/-- The first sort of which there is not enough. -/
def short (l1 l2 : List Int) : Nat → Nat → Option Nat
  | 0, _ => none
  | n + 1, k => if l1.getD k 0 < l2.getD k 0 then some k else short l1 l2 n (k + 1)
theorem short_stop {l1 l2 : List Int} {n k : Nat} (h : k < n) (e : l1.getD k 0 < l2.getD k 0) : short l1 l2 (n - k) k = some k := by
  obtain ⟨m, hm⟩ : ∃ m, n - k = m + 1 := ⟨n - k - 1, by omega⟩
  rw [hm]; unfold short; rw [if_pos e]
theorem short_go {l1 l2 : List Int} {n k : Nat} (h : k < n) (e : ¬ l1.getD k 0 < l2.getD k 0) : short l1 l2 (n - k) k = short l1 l2 (n - (k + 1)) (k + 1) := by
  obtain ⟨m, hm⟩ : ∃ m, n - k = m + 1 := ⟨n - k - 1, by omega⟩
  rw [hm, show n - (k + 1) = m by omega]
  show (if _ then _ else _) = _
  rw [if_neg e]
theorem short_end {l1 l2 : List Int} {n k : Nat} (h : ¬ k < n) : short l1 l2 (n - k) k = none := by rw [show n - k = 0 by omega]; rfl
def minus (l1 l2 : List Int) (k : Nat) : Int := l1.getD k 0 - l2.getD k 0

def TakenPost (w : World) (f : FT) (l1 l2 : List Int) (e : Ending) (w' : World) : Prop :=
  Below w.heap.size w w' ∧
  ((casesErr f [l1, l2] ≠ 0 ∧ e = .returned (.tuple #[.slice none 0 0, .int .i64 0, .int .i64 (casesErr f [l1, l2])])) ∨
   (casesErr f [l1, l2] = 0 ∧ ∃ i : Nat, short l1 l2 l1.length 0 = some i ∧ e = .returned (.tuple #[.slice none 0 0, .int .i64 i, .int .i64 20])) ∨
   (casesErr f [l1, l2] = 0 ∧ short l1 l2 l1.length 0 = none ∧ ∃ g : Nat, e = .returned (.tuple #[.slice (some ⟨g, 0, none⟩) l1.length l1.length, .int .i64 0, .int .i64 0]) ∧ Own w' g l1.length (minus l1 l2) l1.length))

end Go.Proofs.YtlkkociijfdcgaaGreatDoor

/-
  What a case lacks; two cases joined.
-/
namespace Go.Proofs.YtlkkociijfdcgaaGreatDoor
open Go.RowKit Go.Maps

def lack (l1 l2 : List Int) (k : Nat) : Int := max (l2.getD k 0 - l1.getD k 0) 0
def plus (l1 l2 : List Int) (k : Nat) : Int := l1.getD k 0 + l2.getD k 0
/-- Is a sum too great, from the k-th on? -/
def over (l1 l2 : List Int) : Nat → Nat → Bool
  | 0, _ => false
  | n + 1, k => if 1000000 < plus l1 l2 k then true else over l1 l2 n (k + 1)
theorem over_stop {l1 l2 : List Int} {n k : Nat} (h : k < n) (e : 1000000 < plus l1 l2 k) : over l1 l2 (n - k) k = true := by
  obtain ⟨m, hm⟩ : ∃ m, n - k = m + 1 := ⟨n - k - 1, by omega⟩
  rw [hm]; unfold over; rw [if_pos e]
theorem over_go {l1 l2 : List Int} {n k : Nat} (h : k < n) (e : ¬ 1000000 < plus l1 l2 k) : over l1 l2 (n - k) k = over l1 l2 (n - (k + 1)) (k + 1) := by
  obtain ⟨m, hm⟩ : ∃ m, n - k = m + 1 := ⟨n - k - 1, by omega⟩
  rw [hm, show n - (k + 1) = m by omega]
  show (if _ then _ else _) = _
  rw [if_neg e]
theorem over_end {l1 l2 : List Int} {n k : Nat} (h : ¬ k < n) : over l1 l2 (n - k) k = false := by rw [show n - k = 0 by omega]; rfl

def LackPost (w : World) (f : FT) (l1 l2 : List Int) (e : Ending) (w' : World) : Prop :=
  Below w.heap.size w w' ∧
  ((casesErr f [l1, l2] ≠ 0 ∧ e = .returned (.tuple #[.slice none 0 0, .int .i64 (casesErr f [l1, l2])])) ∨
   (casesErr f [l1, l2] = 0 ∧ ∃ g : Nat, e = .returned (.tuple #[.slice (some ⟨g, 0, none⟩) l1.length l1.length, .int .i64 0]) ∧ Own w' g l1.length (lack l1 l2) l1.length))
def JoinPost (w : World) (f : FT) (l1 l2 : List Int) (e : Ending) (w' : World) : Prop :=
  Below w.heap.size w w' ∧
  ((casesErr f [l1, l2] ≠ 0 ∧ e = .returned (.tuple #[.slice none 0 0, .int .i64 (casesErr f [l1, l2])])) ∨
   (casesErr f [l1, l2] = 0 ∧ over l1 l2 l1.length 0 = true ∧ e = .returned (.tuple #[.slice none 0 0, .int .i64 8])) ∨
   (casesErr f [l1, l2] = 0 ∧ over l1 l2 l1.length 0 = false ∧ ∃ g : Nat, e = .returned (.tuple #[.slice (some ⟨g, 0, none⟩) l1.length l1.length, .int .i64 0]) ∧ Own w' g l1.length (plus l1 l2) l1.length))

end Go.Proofs.YtlkkociijfdcgaaGreatDoor

/-
  How often a need can be taken, and the sort that stops it.
-/
namespace Go.Proofs.YtlkkociijfdcgaaGreatDoor
open Go.RowKit Go.Maps

/-- Over the first k sorts: how often (below 0: nothing is needed), and which sort stops it. -/
def timesN (l1 l2 : List Int) : Nat → Int × Int
  | 0 => (-1, 0)
  | k + 1 => if l2.getD k 0 = 0 then timesN l1 l2 k else if (timesN l1 l2 k).1 < 0 ∨ l1.getD k 0 / l2.getD k 0 < (timesN l1 l2 k).1 then (l1.getD k 0 / l2.getD k 0, (k : Int)) else timesN l1 l2 k
def timesR (l1 l2 : List Int) (n : Nat) : Int × Int × Int := if (timesN l1 l2 n).1 < 0 then (0, 0, 11) else ((timesN l1 l2 n).1, (timesN l1 l2 n).2, 0)
def timesE (f : FT) (l1 l2 : List Int) : Int × Int × Int := if casesErr f [l1, l2] ≠ 0 then (0, 0, casesErr f [l1, l2]) else timesR l1 l2 l1.length
def TimesPost (w : World) (f : FT) (l1 l2 : List Int) (e : Ending) (w' : World) : Prop :=
  e = .returned (.tuple #[.int .i64 (timesE f l1 l2).1, .int .i64 (timesE f l1 l2).2.1, .int .i64 (timesE f l1 l2).2.2]) ∧ Below w.heap.size w w'
theorem timesN_skip {l1 l2 : List Int} {k : Nat} (h : l2.getD k 0 = 0) : timesN l1 l2 (k + 1) = timesN l1 l2 k := by
  show (if _ then _ else _) = _; rw [if_pos h]
theorem timesN_new {l1 l2 : List Int} {k : Nat} (h : l2.getD k 0 ≠ 0) (h2 : (timesN l1 l2 k).1 < 0 ∨ l1.getD k 0 / l2.getD k 0 < (timesN l1 l2 k).1) : timesN l1 l2 (k + 1) = (l1.getD k 0 / l2.getD k 0, (k : Int)) := by
  show (if _ then _ else _) = _; rw [if_neg h, if_pos h2]
theorem timesN_keep {l1 l2 : List Int} {k : Nat} (h : l2.getD k 0 ≠ 0) (h2 : ¬ ((timesN l1 l2 k).1 < 0 ∨ l1.getD k 0 / l2.getD k 0 < (timesN l1 l2 k).1)) : timesN l1 l2 (k + 1) = timesN l1 l2 k := by
  show (if _ then _ else _) = _; rw [if_neg h, if_neg h2]

end Go.Proofs.YtlkkociijfdcgaaGreatDoor
