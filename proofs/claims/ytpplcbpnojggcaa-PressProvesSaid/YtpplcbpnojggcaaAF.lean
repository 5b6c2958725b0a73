/-
  Package press: tables of numbers and colours as arguments of its laws, opened.
-/
import Derived.Test.YtpplcbpnojggcaaEL
import Derived.Test.YtpplcbpnojggcaaEZ
namespace Go.Proofs.Ytpplcbpnojggcaa
open Go.ChangeShapes Go.WideShapes Go.Deep Go.Joins Go.RowKit

theorem cellsInts9 : Try.prog.cellsOf 75 = 1 := by kernel_rfl
theorem cellsLists9 : Try.prog.cellsOf 76 = 1 := by kernel_rfl
theorem cellsColours9 : Try.prog.cellsOf 78 = 2 := by kernel_rfl
instance : Inhabited PR := ⟨⟨none, [], 0⟩⟩
set_option maxRecDepth 100000
section
variable {H : Type} {enc : TypeId × Value → H} {w : World}
/-- What the rows of a table keep. -/
def TabOk (T : List PR) : Prop := ∀ x ∈ T, (x.a = none → x.c = 0) ∧ x.l.length ≤ x.c ∧ x.c ≤ maxLen ∧ ∀ y ∈ x.l, OkI y
theorem open_lists {n : Nat} {v : Value} {x : DataW H × List MemPlace} (h : DataW.trod enc Try.prog w 0 (fun _ => true) true n 76 [v] = some x) :
    ∃ (a : Option Addr) (c : Nat) (T : List PR), v = .slice a T.length c ∧ T.length ≤ c ∧ c ≤ maxLen ∧ TabAt w a T ∧ (a = none → c = 0) ∧ TabOk T := by
  rcases open_slice1 Try.underlying76 cellsInts9 h with ⟨e, _⟩ | ⟨a, len, cap, m, k, V, D, Pl, e, _, hl, hm, hmm, _, hi⟩
  · simp only [List.cons.injEq, and_true] at e
    exact ⟨none, 0, [], e, Nat.le_refl _, Nat.zero_le _, ⟨fun k hk => absurd hk (Nat.not_lt_zero _), fun y hy => by cases hy⟩, fun _ => rfl, fun y hy => by cases hy⟩
  · simp only [List.cons.injEq, and_true] at e
    have hmc : m = cap := by simpa using hmm
    subst hmc
    have hex : ∀ i, i < m → ∃ y : PR, w.cell? (a.add i) = some (.slice y.a y.l.length y.c) ∧ RowsAt 1 intL w y.a y.l ∧ ((y.a = none → y.c = 0) ∧ y.l.length ≤ y.c ∧ y.c ≤ maxLen ∧ ∀ z ∈ y.l, OkI z) := fun i him => by
      obtain ⟨hc', ht'⟩ := hi i him
      obtain ⟨a2, c2, l2, e2, hl2, hm2, hi2, hn2, ho2⟩ := open_nums ht'
      exact ⟨⟨a2, l2, c2⟩, by rw [hc', e2], hi2, hn2, hl2, hm2, ho2⟩
    obtain ⟨X, hX⟩ := choose_lt hex
    refine ⟨some a, m, (List.range len).map X, by simpa using e, by simpa using hl, hm, ⟨fun k hk => ?_, fun y hy => ?_⟩, fun e => (by cases e), fun y hy => ?_⟩
    · have hk' : k < len := by simpa using hk
      rw [range_get len X hk]
      have h1 := (hX k (by omega)).1
      refine ⟨a, rfl, by have := cell_lt h1; rwa [add_block] at this, fun j hj => ?_⟩
      have hj0 : j = 0 := by omega
      subst hj0
      rw [Nat.mul_one]; exact h1
    · obtain ⟨i, hi', rfl⟩ := List.mem_map.1 hy
      exact (hX i (by have := List.mem_range.1 hi'; omega)).2.1
    · obtain ⟨i, hi', rfl⟩ := List.mem_map.1 hy
      exact (hX i (by have := List.mem_range.1 hi'; omega)).2.2
/-- What colours keep. -/
structure ColsIn (x : Cols) : Prop where
  mlen : x.m.length ≤ x.mc
  mcap : x.mc ≤ maxLen
  mnil : x.ma = none → x.mc = 0
  mok : ∀ y ∈ x.m, OkI y
  tlen : x.T.length ≤ x.dc
  tcap : x.dc ≤ maxLen
  tnil : x.da = none → x.dc = 0
  tok : TabOk x.T
theorem open_colours {r : Reach} {b0 : Nat} {v : Value} {d : DataW H} {p : List MemPlace} (hv : Value.okWide Try.prog w r b0 78 v) (h : DataW.Trod enc Try.prog w 0 (fun _ => true) true 78 v d p) :
    ∃ X : Cols, v = X.v ∧ ColsAt w X ∧ ColsIn X := by
  obtain ⟨cs, rfl, hsz⟩ := okWide_struct Try.underlying78 hv
  obtain ⟨k⟩ := cs
  match k, hsz.trans cellsColours9 with
  | [c0, c1], _ =>
    obtain ⟨fuel, hf⟩ := h
    obtain ⟨y0, y1, n, _, _, h0, h1⟩ := trod_struct2 Try.underlying78 (by simpa [Value.cells] using hf)
    obtain ⟨a0, n0, l0, rfl, p1, p2, p3, p4, p5⟩ := open_nums (n := n) (v := c0) (x := y0) (by simpa [cellsInts9] using h0)
    obtain ⟨a1, n1, T, rfl, q1, q2, q3, q4, q5⟩ := open_lists (n := n) (v := c1) (x := y1) (by simpa [cellsInts9, cellsLists9] using h1)
    exact ⟨⟨a0, l0, n0, a1, T, n1⟩, rfl, ⟨p3, q3⟩, ⟨p1, p2, p4, p5, q1, q2, q4, q5⟩⟩
end
end Go.Proofs.Ytpplcbpnojggcaa
