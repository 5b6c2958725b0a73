/-
  Package press: jobs and slices as arguments of its laws, opened.
-/
import Derived.Test.YtpplcbpnojggcaaEL
import Derived.Test.YtpplcbpnojggcaaEP
namespace Go.Proofs.Ytpplcbpnojggcaa
open Go.ChangeShapes Go.WideShapes Go.Deep Go.Joins Go.RowKit

theorem cellsJob : Try.prog.cellsOf 136 = 4 := by kernel_rfl
theorem cellsSl : Try.prog.cellsOf 113 = 3 := by kernel_rfl
theorem cellsStrJ : Try.prog.cellsOf 9 = 1 := by kernel_rfl
set_option maxRecDepth 100000
section
variable {H : Type} {enc : TypeId × Value → H} {w : World}
theorem open_job1 {n : Nat} {p : Addr} {cs : List Value} {x : DataW H × List MemPlace} (hc : w.cells? 0 p 4 = some cs) (h : DataW.trod enc Try.prog w 0 (fun _ => true) true n 136 cs = some x) :
    ∃ y : Job, (∀ j, j < 4 → w.cell? (fld p j) = some ((jobV y).getD j (.int .i64 0))) ∧ y.name.size ≤ maxLen := by
  obtain ⟨_, hl, hat⟩ := World.cells?_some hc
  obtain ⟨y0, y1, y2, y3, m, _, _, h0, h1, h2, h3⟩ := trod_struct4 Try.underlying136 h
  match cs, hl with
  | [c0, c1, c2, c3], _ =>
    have h0 : DataW.trod enc Try.prog w 0 (fun _ => true) true m 9 [c0] = some y0 := by simpa [cellsStrJ] using h0
    obtain ⟨s0, e0, _, z0⟩ := DataW.trod_string Try.underlying9 h0
    simp only [List.cons.injEq, and_true] at e0
    subst e0
    obtain ⟨x1, rfl, w1⟩ := int_read (n := m) (c := c1) (y := y1) (by simpa [cellsInt] using h1)
    obtain ⟨x2, rfl, w2⟩ := int_read (n := m) (c := c2) (y := y2) (by simpa [cellsInt] using h2)
    obtain ⟨x3, rfl, w3⟩ := int_read (n := m) (c := c3) (y := y3) (by simpa [cellsInt] using h3)
    refine ⟨⟨s0, x1, x2, x3⟩, fun j hj => ?_, z0⟩
    have := hat j hj
    rw [fld_add] at this
    rw [this]
    have hj4 : j = 0 ∨ j = 1 ∨ j = 2 ∨ j = 3 := by omega
    rcases hj4 with rfl | rfl | rfl | rfl <;> rfl
theorem open_jobs {n : Nat} {v : Value} {x : DataW H × List MemPlace} (h : DataW.trod enc Try.prog w 0 (fun _ => true) true n 103 [v] = some x) :
    ∃ (a : Option Addr) (c : Nat) (l : List Job), v = .slice a l.length c ∧ l.length ≤ c ∧ c ≤ maxLen ∧ RowsG 4 jobV w a l ∧ (a = none → c = 0) ∧ ∀ y ∈ l, y.name.size ≤ maxLen := by
  rcases open_slice Try.underlying103 h with ⟨e, _⟩ | ⟨a, len, cap, m, k, D, Pl, e, _, hl, hm, hmm, _, hi⟩
  · simp only [List.cons.injEq, and_true] at e
    exact ⟨none, 0, [], e, Nat.le_refl _, Nat.zero_le _, (fun k hk => absurd hk (Nat.not_lt_zero _)), fun _ => rfl, fun y hy => by cases hy⟩
  · simp only [List.cons.injEq, and_true] at e
    have hmc : m = cap := by simpa using hmm
    subst hmc
    have hex : ∀ i, i < m → ∃ y : Job, (∀ j, j < 4 → w.cell? (fld (a.add (i * 4)) j) = some ((jobV y).getD j (.int .i64 0))) ∧ y.name.size ≤ maxLen := fun i him => by
      obtain ⟨cs', hc', ht'⟩ := hi i him
      rw [cellsJob] at hc'
      exact open_job1 hc' ht'
    haveI : Inhabited Job := ⟨⟨⟨#[]⟩, 0, 0, 0⟩⟩
    obtain ⟨X, hX⟩ := choose_lt hex
    refine ⟨some a, m, (List.range len).map X, by simpa using e, by simpa using hl, hm, fun k hk => ?_, fun e => (by cases e), fun y hy => ?_⟩
    · have hk' : k < len := by simpa using hk
      rw [range_get len X hk]
      have h1 := (hX k (by omega)).1
      exact ⟨a, rfl, by have := cell_lt (h1 0 (by decide)); rwa [fld_block, add_block] at this, h1⟩
    · obtain ⟨i, hi', rfl⟩ := List.mem_map.1 hy
      exact (hX i (by have := List.mem_range.1 hi'; omega)).2
theorem open_sl1 {n : Nat} {p : Addr} {cs : List Value} {x : DataW H × List MemPlace} (hc : w.cells? 0 p 3 = some cs) (h : DataW.trod enc Try.prog w 0 (fun _ => true) true n 113 cs = some x) :
    ∃ y : Sl, ∀ j, j < 3 → w.cell? (fld p j) = some (.int .i64 (y.l.getD j 0)) := by
  obtain ⟨_, hl, hat⟩ := World.cells?_some hc
  obtain ⟨y0, y1, y2, m, _, _, h0, h1, h2⟩ := trod_struct3 Try.underlying113 h
  match cs, hl with
  | [c0, c1, c2], _ =>
    obtain ⟨x0, rfl, w0⟩ := int_read (n := m) (c := c0) (y := y0) (by simpa [cellsInt] using h0)
    obtain ⟨x1, rfl, w1⟩ := int_read (n := m) (c := c1) (y := y1) (by simpa [cellsInt] using h1)
    obtain ⟨x2, rfl, w2⟩ := int_read (n := m) (c := c2) (y := y2) (by simpa [cellsInt] using h2)
    refine ⟨⟨x0, x1, x2⟩, fun j hj => ?_⟩
    have := hat j hj
    rw [fld_add] at this
    rw [this]
    have hj4 : j = 0 ∨ j = 1 ∨ j = 2 := by omega
    rcases hj4 with rfl | rfl | rfl <;> rfl
theorem open_slices {n : Nat} {v : Value} {x : DataW H × List MemPlace} (h : DataW.trod enc Try.prog w 0 (fun _ => true) true n 105 [v] = some x) :
    ∃ (a : Option Addr) (c : Nat) (l : List Sl), v = .slice a l.length c ∧ l.length ≤ c ∧ c ≤ maxLen ∧ RowsAt 3 Sl.l w a l ∧ (a = none → c = 0) ∧ True := by
  rcases open_slice Try.underlying105 h with ⟨e, _⟩ | ⟨a, len, cap, m, k, D, Pl, e, _, hl, hm, hmm, _, hi⟩
  · simp only [List.cons.injEq, and_true] at e
    exact ⟨none, 0, [], e, Nat.le_refl _, Nat.zero_le _, RowsAt.nil _ _, fun _ => rfl, trivial⟩
  · simp only [List.cons.injEq, and_true] at e
    have hmc : m = cap := by simpa using hmm
    subst hmc
    have hex : ∀ i, i < m → ∃ y : Sl, ∀ j, j < 3 → w.cell? (fld (a.add (i * 3)) j) = some (.int .i64 (y.l.getD j 0)) := fun i him => by
      obtain ⟨cs', hc', ht'⟩ := hi i him
      rw [cellsSl] at hc'
      exact open_sl1 hc' ht'
    haveI : Inhabited Sl := ⟨noSl⟩
    obtain ⟨X, hX⟩ := choose_lt hex
    refine ⟨some a, m, (List.range len).map X, by simpa using e, by simpa using hl, hm, fun k hk => ?_, fun e => (by cases e), trivial⟩
    have hk' : k < len := by simpa using hk
    rw [range_get len X hk]
    have h1 := hX k (by omega)
    exact ⟨a, rfl, by have := cell_lt (h1 0 (by decide)); rwa [fld_block, add_block] at this, h1⟩
end
end Go.Proofs.Ytpplcbpnojggcaa
