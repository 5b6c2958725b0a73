/-
  The plain mathematics of cases: the first error of counts, sums, what is left, what is lacking, the metal. No program is named here.
-/
import Derived.Test.YtomblajlpanmjaaGreatDoorZA
import Derived.IntWalk
import Derived.Deep.OwnRows
import Derived.Laws.Rows
import Derived.RegionTactic
import Derived.BigRegion
namespace Go.Proofs.YtomblajlpanmjaaGreatDoor
open Go.RowKit

def outB (n : Int) : Bool := decide (n < 0 ∨ 1000000 < n)
/-- The error of counts for so many sorts. -/
def countErr (n : Nat) (l : List Int) : Int := if l.length ≠ n then 10 else if l.any outB = true then 2 else 0
theorem getI {l : List Int} {k : Nat} (h : k < l.length) : l.getD k 0 = l[k] := by
  rw [List.getD_eq_getElem?_getD, List.getElem?_eq_getElem h]; rfl
theorem countErr_rest {n : Nat} {l : List Int} (h : l.length = n) : countErr n l = if l.any outB = true then 2 else 0 := by unfold countErr; rw [if_neg (by simp [h])]
theorem countErr_zero {n : Nat} {l : List Int} (h : countErr n l = 0) : l.length = n ∧ ∀ k, k < l.length → 0 ≤ l.getD k 0 ∧ l.getD k 0 ≤ 1000000 := by
  unfold countErr at h
  split at h
  · cases h
  split at h
  · cases h
  rename_i h1 h2
  refine ⟨by simpa using h1, fun k hk => ?_⟩
  rw [getI hk]
  have : outB l[k] = false := by
    cases e : outB l[k]
    · rfl
    · exact absurd (List.any_eq_true.2 ⟨_, List.getElem_mem hk, e⟩) h2
  unfold outB at this
  have := of_decide_eq_false this
  omega

/-- A right fount: what its numbers are bounded by. -/
def RightF (f : FT) : Prop := 1 ≤ f.body ∧ f.body ≤ 144 ∧ 1 ≤ f.sorts.length ∧ f.sorts.length ≤ 120 ∧ ∀ k, k < f.sorts.length → 1 ≤ (f.sorts.getD k noTS).width ∧ (f.sorts.getD k noTS).width ≤ 100000 ∧ 1 ≤ (f.sorts.getD k noTS).kind ∧ (f.sorts.getD k noTS).kind ≤ 3
theorem firstErr_all {l : List TS} : ∀ (n k : Nat), k + n = l.length → (firstErr l n k).2 = 0 → ∀ j, k ≤ j → j < l.length → sortErr (l.take j) (l.getD j noTS) = 0 := by
  intro n
  induction n with
  | zero => intro k hk _ j h1 h2; omega
  | succ n ih =>
    intro k hk h j h1 h2
    unfold firstErr at h
    split at h
    · rename_i he; exact absurd h he
    · rename_i he
      by_cases hj : j = k
      · subst hj; exact Decidable.not_not.1 he
      · exact ih (k + 1) (by omega) h j (by omega) h2
theorem checkF_right {f : FT} (h : (checkF f).2 = 0) : isNameB f.name = true ∧ RightF f ∧ ∀ j, j < f.sorts.length → sortErr (f.sorts.take j) (f.sorts.getD j noTS) = 0 := by
  unfold checkF at h
  split at h
  · rename_i he; exact absurd h he
  rename_i he
  have hall := firstErr_all f.sorts.length 0 (by omega) h
  have he := Decidable.not_not.1 he
  unfold frameErr at he
  split at he
  · cases he
  rename_i e1
  split at he
  · cases he
  rename_i e2
  split at he
  · cases he
  rename_i e3
  split at he
  · cases he
  rename_i e4
  have e2' : inB f.body 1 144 = true := by simpa using e2
  unfold inB at e2'
  have e2'' := of_decide_eq_true e2'
  refine ⟨by simpa using e1, ⟨e2''.1, e2''.2, by omega, by omega, fun k hk => ?_⟩, fun j hj => hall j (by omega) hj⟩
  obtain ⟨_, _, h3, h4, _⟩ := sortErr_zero (hall k (by omega) hk)
  unfold inB at h3 h4
  have h3 := of_decide_eq_true h3
  have h4 := of_decide_eq_true h4
  omega

end Go.Proofs.YtomblajlpanmjaaGreatDoor
/-
  The errors of any number of cases.
-/
namespace Go.Proofs.YtomblajlpanmjaaGreatDoor
open Go.RowKit Go.Maps

def IntsAt (w : World) (a : Option Addr) (l : List Int) : Prop :=
  ∀ k, k < l.length → ∃ ad, a = some ad ∧ ad.block < w.heap.size ∧ w.cell? (ad.add k) = some (.int .i64 (l.getD k 0))
theorem IntsAt.below {w w' : World} {a : Option Addr} {l : List Int} (h : IntsAt w a l) (hb : Below w.heap.size w w') : IntsAt w' a l := fun k hk => by
  obtain ⟨ad, e, hlt, hs⟩ := h k hk
  exact ⟨ad, e, Nat.lt_of_lt_of_le hlt hb.size, (hb.cell (by rw [add_block]; exact hlt)).trans hs⟩
theorem IntsAt.alloc {w : World} {a : Option Addr} {l : List Int} (h : IntsAt w a l) (o : Obj) : IntsAt (w.alloc o) a l := h.below ((Below.refl _ _).alloc (Nat.le_refl _) o)
theorem IntsAt.at_ {w : World} {a : Option Addr} {l : List Int} {k : Nat} (h : IntsAt w a l) (hk : k < l.length) : ∃ ad, a = some ad ∧ ad.block < w.heap.size ∧ w.cell? (ad.add k) = some (.int .i64 (l.getD k 0)) := h k hk

/-- The world wr is w0 behind some draws. -/
def Drew (w0 wr : World) : Prop := ∃ n, wr = w0.drewN n
theorem Drew.refl (w : World) : Drew w w := ⟨0, rfl⟩
theorem Drew.drew {w0 wr : World} (h : Drew w0 wr) : Drew w0 wr.drew := by obtain ⟨n, rfl⟩ := h; exact ⟨n + 1, rfl⟩
theorem Drew.drewN {w0 wr : World} (h : Drew w0 wr) (m : Nat) : Drew w0 (wr.drewN m) := by obtain ⟨n, rfl⟩ := h; exact ⟨n + m, by rw [World.drewN_drewN]⟩
theorem Drew.ints {w0 wr : World} (h : Drew w0 wr) {a : Option Addr} {l : List Int} (hi : IntsAt w0 a l) : IntsAt wr a l := by obtain ⟨n, rfl⟩ := h; exact hi
theorem Drew.sorts {w0 wr : World} (h : Drew w0 wr) {a : Option Addr} {l : List TS} (hi : SortsAt w0 a l) : SortsAt wr a l := by obtain ⟨n, rfl⟩ := h; exact hi
theorem Drew.cell {w0 wr : World} (h : Drew w0 wr) {p : Addr} {v : Value} (hi : w0.cell? p = some v) : wr.cell? p = some v := by obtain ⟨n, rfl⟩ := h; exact hi
theorem Drew.size {w0 wr : World} (h : Drew w0 wr) : wr.heap.size = w0.heap.size := by obtain ⟨n, rfl⟩ := h; rfl
theorem below_drewN {B : Nat} {a w : World} (h : Below B a w) (n : Nat) : Below B a (w.drewN n) := ⟨h.os, h.tape, h.output, h.size, h.block⟩
theorem Drew.below {w0 wr : World} (h : Drew w0 wr) {B : Nat} {a : World} (hb : Below B a w0) : Below B a wr := by obtain ⟨n, rfl⟩ := h; exact below_drewN hb n

/-- A slice of numbers: where it lies, its capacity, what it reads. -/
structure IS where
  a : Option Addr
  c : Nat
  l : List Int
def noIS : IS := ⟨none, 0, []⟩
def IS.at_ (x : IS) (w : World) : Prop := IntsAt w x.a x.l ∧ x.l.length ≤ maxLen
def ListsAt (w : World) (a : Option Addr) (ls : List IS) : Prop :=
  ∀ k, k < ls.length → ∃ ad, a = some ad ∧ ad.block < w.heap.size ∧ w.cell? (ad.add k) = some (.slice (ls.getD k noIS).a (ls.getD k noIS).l.length (ls.getD k noIS).c) ∧ (ls.getD k noIS).at_ w
theorem ListsAt.below {w w' : World} {a : Option Addr} {ls : List IS} (h : ListsAt w a ls) (hb : Below w.heap.size w w') : ListsAt w' a ls := fun k hk => by
  obtain ⟨ad, e, hlt, hs, hi⟩ := h k hk
  exact ⟨ad, e, Nat.lt_of_lt_of_le hlt hb.size, (hb.cell (by rw [add_block]; exact hlt)).trans hs, hi.1.below hb, hi.2⟩
theorem ListsAt.alloc {w : World} {a : Option Addr} {l : List IS} (h : ListsAt w a l) (o : Obj) : ListsAt (w.alloc o) a l := h.below ((Below.refl _ _).alloc (Nat.le_refl _) o)
theorem ListsAt.at_ {w : World} {a : Option Addr} {ls : List IS} {k : Nat} (h : ListsAt w a ls) (hk : k < ls.length) : ∃ ad, a = some ad ∧ ad.block < w.heap.size ∧ w.cell? (ad.add k) = some (.slice (ls.getD k noIS).a (ls.getD k noIS).l.length (ls.getD k noIS).c) ∧ (ls.getD k noIS).at_ w := h k hk
end Go.Proofs.YtomblajlpanmjaaGreatDoor

/-
  The metal of a case.
-/
namespace Go.Proofs.YtomblajlpanmjaaGreatDoor
open Go.RowKit Go.Maps

/-- A fount in memory: its texts are texts, its sorts lie there, the table lies there. -/
structure FAt (w : World) (a : Option Addr) (f : FT) : Prop where
  ok : OkF f
  at_ : SortsAt w a f.sorts
  tab : TabOk w
theorem FAt.below {w w' : World} {a : Option Addr} {f : FT} (h : FAt w a f) (hb : Below w.heap.size w w') : FAt w' a f := ⟨h.ok, h.at_.below hb, h.tab.below hb h.tab.1⟩
theorem FAt.alloc {w : World} {a : Option Addr} {f : FT} (h : FAt w a f) (o : Obj) : FAt (w.alloc o) a f := h.below ((Below.refl _ _).alloc (Nat.le_refl _) o)

end Go.Proofs.YtomblajlpanmjaaGreatDoor

/-
  Casting of metal.
-/
namespace Go.Proofs.YtomblajlpanmjaaGreatDoor
open Go.RowKit Go.Maps

end Go.Proofs.YtomblajlpanmjaaGreatDoor

/-
  A slice of the call's own that is filled number by number; taking a need from a case.
-/
namespace Go.Proofs.YtomblajlpanmjaaGreatDoor
open Go.RowKit Go.Maps

theorem info3 : (Tryz.prog.info? 3).map (fun i => (i.zero, i.size, i.bytes)) = some (some (.int .i64 0), 1, 8) := by kernel_rfl
/-- Block g is a row of n cells; the first k of them hold the numbers of fn. -/
def Own (w : World) (g n : Nat) (fn : Nat → Int) (k : Nat) : Prop := ∃ cs : Array Value, w.heap[g]? = some (.cells cs 3 (0, 0)) ∧ cs.size = n ∧ ∀ j, j < k → cs[j]? = some (.int .i64 (fn j))
theorem Own.made (w : World) (n : Nat) (fn : Nat → Int) (k : Nat) (h : k ≤ n) (hz : ∀ j, j < k → fn j = 0) : Own (w.alloc (.cells (madeCells #[.int .i64 0] n) 3)) w.heap.size n fn k := by
  refine ⟨_, heap_alloc_new w _, size_madeCells _ _, fun j hj => ?_⟩
  rw [hz j hj]
  have : j < n := by omega
  simp [madeCells, this, Nat.mod_one]
theorem Own.lt {w : World} {g n : Nat} {fn : Nat → Int} {k : Nat} (h : Own w g n fn k) : g < w.heap.size := by
  obtain ⟨cs, h1, _⟩ := h
  rcases Nat.lt_or_ge g w.heap.size with hlt | hge
  · exact hlt
  · rw [Array.getElem?_eq_none hge] at h1; cases h1
theorem Own.some_ {w : World} {g n : Nat} {fn : Nat → Int} {k : Nat} (h : Own w g n fn k) {j : Nat} (hj : j < n) : ∃ v, w.cell? ⟨g, j, none⟩ = some v := by
  obtain ⟨cs, h1, h2, _⟩ := h
  exact ⟨cs[j]'(by omega), by rw [cell_of_row w g j cs _ (0, 0) h1]; exact Array.getElem?_eq_getElem (by omega)⟩
theorem Own.cell {w : World} {g n : Nat} {fn : Nat → Int} {k : Nat} (h : Own w g n fn k) {j : Nat} (hj : j < k) : w.cell? ⟨g, j, none⟩ = some (.int .i64 (fn j)) := by
  obtain ⟨cs, h1, h2, h3⟩ := h
  rw [cell_of_row w g j cs _ (0, 0) h1]; exact h3 j hj
theorem Own.frozen {w : World} {g n : Nat} {fn : Nat → Int} {k : Nat} (h : Own w g n fn k) (j : Nat) : w.frozen? ⟨g, j, none⟩ = false := by
  obtain ⟨cs, h1, _⟩ := h
  simp [World.frozen?, h1]
theorem Own.drewN {w : World} {g n : Nat} {fn : Nat → Int} {k : Nat} (h : Own w g n fn k) (m : Nat) : Own (w.drewN m) g n fn k := h
theorem Own.drew {w : World} {g n : Nat} {fn : Nat → Int} {k : Nat} (h : Own w g n fn k) : Own w.drew g n fn k := h
theorem Own.set_ {w : World} {g n : Nat} {fn : Nat → Int} {k : Nat} (h : Own w g n fn k) (hk : k < n) {v : Int} (hv : v = fn k) : Own (w.setCell ⟨g, k, none⟩ (.int .i64 v)) g n fn (k + 1) := by
  obtain ⟨cs, h1, h2, h3⟩ := h
  refine ⟨cs.setIfInBounds k (.int .i64 v), by simp [World.setCell, Array.getElem?_modify, h1], by simp [h2], fun j hj => ?_⟩
  by_cases e : j = k
  · subst e; rw [hv, Array.getElem?_setIfInBounds_self_of_lt (by omega)]
  · rw [Array.getElem?_setIfInBounds_ne (fun h => e h.symm)]
    exact h3 j (by omega)
def tab (n : Nat) (fn : Nat → Int) : List Int := (List.range n).map fn
theorem tab_len (n : Nat) (fn : Nat → Int) : (tab n fn).length = n := by simp [tab]
theorem tab_at {n : Nat} {fn : Nat → Int} {k : Nat} (h : k < n) : (tab n fn).getD k 0 = fn k := by
  rw [getI (by rw [tab_len]; exact h)]; simp [tab]
theorem Own.ints {w : World} {g n : Nat} {fn : Nat → Int} (h : Own w g n fn n) : IntsAt w (some ⟨g, 0, none⟩) (tab n fn) := by
  intro k hk
  rw [tab_len] at hk
  refine ⟨_, rfl, h.lt, ?_⟩
  rw [tab_at hk]
  have : (⟨g, 0, none⟩ : Addr).add k = ⟨g, k, none⟩ := by
    unfold Addr.add; split
    · rename_i h0; rw [h0]
    · simp
  rw [this]; exact h.cell hk

/-- The first sort of which there is not enough. -/
def short (l1 l2 : List Int) : Nat → Nat → Option Nat
  | 0, _ => none
  | n + 1, k => if l1.getD k 0 < l2.getD k 0 then some k else short l1 l2 n (k + 1)
end Go.Proofs.YtomblajlpanmjaaGreatDoor

/-
  What a case lacks; two cases joined.
-/
namespace Go.Proofs.YtomblajlpanmjaaGreatDoor
open Go.RowKit Go.Maps

def plus (l1 l2 : List Int) (k : Nat) : Int := l1.getD k 0 + l2.getD k 0
/-- Is a sum too great, from the k-th on? -/
def over (l1 l2 : List Int) : Nat → Nat → Bool
  | 0, _ => false
  | n + 1, k => if 1000000 < plus l1 l2 k then true else over l1 l2 n (k + 1)
end Go.Proofs.YtomblajlpanmjaaGreatDoor

/-
  How often a need can be taken, and the sort that stops it.
-/
namespace Go.Proofs.YtomblajlpanmjaaGreatDoor
open Go.RowKit Go.Maps

end Go.Proofs.YtomblajlpanmjaaGreatDoor
