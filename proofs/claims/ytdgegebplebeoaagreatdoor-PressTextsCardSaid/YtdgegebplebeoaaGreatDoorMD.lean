/-
  Package press: a run and its prices as arguments of its laws, opened.
-/
import Derived.Test.YtdgegebplebeoaaGreatDoorEL
import Derived.Test.YtdgegebplebeoaaGreatDoorEC
namespace Go.Proofs.YtdgegebplebeoaaGreatDoor
open Go.ChangeShapes Go.WideShapes Go.Deep Go.Joins Go.RowKit

theorem cellsStr9 : Tryz.prog.cellsOf 9 = 1 := by kernel_rfl
theorem cellsTxs9 : Tryz.prog.cellsOf 22 = 1 := by kernel_rfl
theorem cellsRun9 : Tryz.prog.cellsOf 24 = 7 := by kernel_rfl
theorem cellsPrices9 : Tryz.prog.cellsOf 41 = 3 := by kernel_rfl
set_option maxRecDepth 100000
section
variable {H : Type} {enc : TypeId × Value → H} {w : World}
theorem open_strs {n : Nat} {v : Value} {x : DataW H × List MemPlace} (h : DataW.trod enc Tryz.prog w 0 (fun _ => true) true n 22 [v] = some x) :
    ∃ (a : Option Addr) (c : Nat) (l : List ByteArray), v = .slice a l.length c ∧ l.length ≤ c ∧ c ≤ maxLen ∧ RowsG 1 tx w a l ∧ (a = none → c = 0) ∧ ∀ s ∈ l, s.size ≤ maxLen := by
  rcases open_slice1 Tryz.underlying22 cellsStr9 h with ⟨e, _⟩ | ⟨a, len, cap, m, k, V, D, Pl, e, _, hl, hm, hmm, _, hi⟩
  · simp only [List.cons.injEq, and_true] at e
    exact ⟨none, 0, [], e, Nat.le_refl _, Nat.zero_le _, (fun k hk => absurd hk (Nat.not_lt_zero _)), fun _ => rfl, fun y hy => by cases hy⟩
  · simp only [List.cons.injEq, and_true] at e
    have hmc : m = cap := by simpa using hmm
    subst hmc
    have hex : ∀ i, i < m → ∃ y : ByteArray, w.cell? (a.add i) = some (.string y) ∧ y.size ≤ maxLen := fun i him => by
      obtain ⟨hc', ht'⟩ := hi i him
      obtain ⟨y, ey, _, hz⟩ := DataW.trod_string Tryz.underlying9 ht'
      simp only [List.cons.injEq, and_true] at ey
      exact ⟨y, by rw [hc', ey], hz⟩
    obtain ⟨X, hX⟩ := choose_lt hex
    refine ⟨some a, m, (List.range len).map X, by simpa using e, by simpa using hl, hm, fun k hk => ?_, fun e => (by cases e), fun y hy => ?_⟩
    · have hk' : k < len := by simpa using hk
      rw [range_get len X hk]
      have h1 := (hX k (by omega)).1
      refine ⟨a, rfl, by have := cell_lt h1; rwa [add_block] at this, fun j hj => ?_⟩
      have hj0 : j = 0 := by omega
      subst hj0
      rw [Nat.mul_one]; exact h1
    · obtain ⟨i, hi', rfl⟩ := List.mem_map.1 hy
      exact (hX i (by have := List.mem_range.1 hi'; omega)).2
theorem str_read {n : Nat} {c : Value} {y : DataW H × List MemPlace} (h : DataW.trod enc Tryz.prog w 0 (fun _ => true) true n 9 [c] = some y) : ∃ s : ByteArray, c = .string s ∧ s.size ≤ maxLen := by
  obtain ⟨s, e, _, hz⟩ := DataW.trod_string Tryz.underlying9 h
  simp only [List.cons.injEq, and_true] at e
  exact ⟨s, e, hz⟩
theorem open_run {r : Reach} {b0 : Nat} {v : Value} {d : DataW H} {p : List MemPlace} (hv : Value.okWide Tryz.prog w r b0 24 v) (h : DataW.Trod enc Tryz.prog w 0 (fun _ => true) true 24 v d p) :
    ∃ (X : Run) (a : Option Addr) (c : Nat), v = .agg #[.string X.job, .int .i64 X.day, .int .i64 X.wanted, .int .i64 X.given, .slice a X.cols.length c, .int .i64 X.ready, .int .i64 X.hour] ∧
      X.job.size ≤ maxLen ∧ X.cols.length ≤ c ∧ c ≤ maxLen ∧ RowsG 1 tx w a X.cols ∧ (a = none → c = 0) ∧ (∀ s ∈ X.cols, s.size ≤ maxLen) ∧ OkI X.given := by
  obtain ⟨cs, rfl, hsz⟩ := okWide_struct Tryz.underlying24 hv
  obtain ⟨k⟩ := cs
  match k, hsz.trans cellsRun9 with
  | [c0, c1, c2, c3, c4, c5, c6], _ =>
    obtain ⟨fuel, hf⟩ := h
    obtain ⟨xs, n, _, _, _, hlen, hg⟩ := DataW.trod_struct Tryz.underlying24 hf
    match xs, hlen with
    | [y0, y1, y2, y3, y4, y5, y6], _ =>
      obtain ⟨s0, rfl, w0⟩ := str_read (n := n) (c := c0) (y := y0) (by simpa [Value.cells, cellsStr9] using hg 0 _ rfl)
      obtain ⟨x1, rfl, w1⟩ := int_read (n := n) (c := c1) (y := y1) (by simpa [Value.cells, cellsInt] using hg 1 _ rfl)
      obtain ⟨x2, rfl, w2⟩ := int_read (n := n) (c := c2) (y := y2) (by simpa [Value.cells, cellsInt] using hg 2 _ rfl)
      obtain ⟨x3, rfl, w3⟩ := int_read (n := n) (c := c3) (y := y3) (by simpa [Value.cells, cellsInt] using hg 3 _ rfl)
      obtain ⟨a, c, l, rfl, h1, h2, h3, h4, h5⟩ := open_strs (n := n) (v := c4) (x := y4) (by simpa [Value.cells, cellsTxs9] using hg 4 _ rfl)
      obtain ⟨x5, rfl, w5⟩ := int_read (n := n) (c := c5) (y := y5) (by simpa [Value.cells, cellsInt] using hg 5 _ rfl)
      obtain ⟨x6, rfl, w6⟩ := int_read (n := n) (c := c6) (y := y6) (by simpa [Value.cells, cellsInt] using hg 6 _ rfl)
      exact ⟨⟨s0, x1, x2, x3, l, x5, x6⟩, a, c, rfl, w0, h1, h2, h3, h4, h5, w3⟩
theorem open_prices {r : Reach} {b0 : Nat} {v : Value} {d : DataW H} {p : List MemPlace} (hv : Value.okWide Tryz.prog w r b0 41 v) (h : DataW.Trod enc Tryz.prog w 0 (fun _ => true) true 41 v d p) :
    ∃ (p q r : Int), v = .agg #[.int .i64 p, .int .i64 q, .int .i64 r] ∧ OkI p ∧ OkI q ∧ OkI r := by
  obtain ⟨cs, rfl, hsz⟩ := okWide_struct Tryz.underlying41 hv
  obtain ⟨k⟩ := cs
  match k, hsz.trans cellsPrices9 with
  | [c0, c1, c2], _ =>
    obtain ⟨fuel, hf⟩ := h
    obtain ⟨xs, n, _, _, _, hlen, hg⟩ := DataW.trod_struct Tryz.underlying41 hf
    match xs, hlen with
    | [y0, y1, y2], _ =>
      obtain ⟨x0, rfl, w0⟩ := int_read (n := n) (c := c0) (y := y0) (by simpa [Value.cells, cellsInt] using hg 0 _ rfl)
      obtain ⟨x1, rfl, w1⟩ := int_read (n := n) (c := c1) (y := y1) (by simpa [Value.cells, cellsInt] using hg 1 _ rfl)
      obtain ⟨x2, rfl, w2⟩ := int_read (n := n) (c := c2) (y := y2) (by simpa [Value.cells, cellsInt] using hg 2 _ rfl)
      exact ⟨x0, x1, x2, rfl, w0, w1, w2⟩
end
end Go.Proofs.YtdgegebplebeoaaGreatDoor
