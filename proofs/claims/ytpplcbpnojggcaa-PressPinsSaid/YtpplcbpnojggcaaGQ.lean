/-
  Package press: pins as arguments of its laws, opened.
-/
import Derived.Test.YtpplcbpnojggcaaEL
import Derived.Test.YtpplcbpnojggcaaGH
namespace Go.Proofs.Ytpplcbpnojggcaa
open Go.ChangeShapes Go.WideShapes Go.Deep Go.Joins Go.RowKit

theorem cellsRange : Try.prog.cellsOf 62 = 2 := by kernel_rfl
theorem cellsPin : Try.prog.cellsOf 70 = 6 := by kernel_rfl
set_option maxRecDepth 100000
section
variable {H : Type} {enc : TypeId × Value → H} {w : World}
theorem open_range1 {n : Nat} {cs : List Value} {x : DataW H × List MemPlace} (hl : cs.length = 2) (h : DataW.trod enc Try.prog w 0 (fun _ => true) true n 62 cs = some x) :
    ∃ a b : Int, cs = [.int .i64 a, .int .i64 b] ∧ OkI a ∧ OkI b := by
  obtain ⟨y0, y1, m, _, _, h0, h1⟩ := trod_struct2 Try.underlying62 h
  match cs, hl with
  | [c0, c1], _ =>
    obtain ⟨x0, rfl, w0⟩ := int_read (n := m) (c := c0) (y := y0) (by simpa [cellsInt] using h0)
    obtain ⟨x1, rfl, w1⟩ := int_read (n := m) (c := c1) (y := y1) (by simpa [cellsInt] using h1)
    exact ⟨x0, x1, rfl, w0, w1⟩
theorem open_pin1 {n : Nat} {p : Addr} {cs : List Value} {x : DataW H × List MemPlace} (hc : w.cells? 0 p 6 = some cs) (h : DataW.trod enc Try.prog w 0 (fun _ => true) true n 70 cs = some x) :
    ∃ y : Pin, ∀ j, j < 6 → w.cell? (fld p j) = some (.int .i64 (y.l.getD j 0)) := by
  obtain ⟨_, hl, hat⟩ := World.cells?_some hc
  obtain ⟨y0, y1, y2, m, _, _, h0, h1, h2⟩ := trod_struct3 Try.underlying70 h
  match cs, hl with
  | [c0, c1, c2, c3, c4, c5], _ =>
    obtain ⟨a0, a1, e0, -, -⟩ := open_range1 (n := m) (cs := [c0, c1]) (x := y0) rfl (by simpa [cellsRange] using h0)
    obtain ⟨b0, b1, e1, -, -⟩ := open_range1 (n := m) (cs := [c2, c3]) (x := y1) rfl (by simpa [cellsRange] using h1)
    obtain ⟨d0, d1, e2, -, -⟩ := open_range1 (n := m) (cs := [c4, c5]) (x := y2) rfl (by simpa [cellsRange] using h2)
    injection e0 with e0 f0; injection f0 with f0 _
    injection e1 with e1 f1; injection f1 with f1 _
    injection e2 with e2 f2; injection f2 with f2 _
    subst e0; subst f0; subst e1; subst f1; subst e2; subst f2
    refine ⟨⟨a0, a1, b0, b1, d0, d1⟩, fun j hj => ?_⟩
    have := hat j hj
    rw [fld_add] at this
    rw [this]
    have hj4 : j = 0 ∨ j = 1 ∨ j = 2 ∨ j = 3 ∨ j = 4 ∨ j = 5 := by omega
    rcases hj4 with rfl | rfl | rfl | rfl | rfl | rfl <;> rfl
theorem open_pins {n : Nat} {v : Value} {x : DataW H × List MemPlace} (h : DataW.trod enc Try.prog w 0 (fun _ => true) true n 60 [v] = some x) :
    ∃ (a : Option Addr) (c : Nat) (l : List Pin), v = .slice a l.length c ∧ l.length ≤ c ∧ c ≤ maxLen ∧ RowsAt 6 Pin.l w a l ∧ (a = none → c = 0) ∧ True := by
  rcases open_slice Try.underlying60 h with ⟨e, _⟩ | ⟨a, len, cap, m, k, D, Pl, e, _, hl, hm, hmm, _, hi⟩
  · simp only [List.cons.injEq, and_true] at e
    exact ⟨none, 0, [], e, Nat.le_refl _, Nat.zero_le _, RowsAt.nil _ _, fun _ => rfl, trivial⟩
  · simp only [List.cons.injEq, and_true] at e
    have hmc : m = cap := by simpa using hmm
    subst hmc
    have hex : ∀ i, i < m → ∃ y : Pin, ∀ j, j < 6 → w.cell? (fld (a.add (i * 6)) j) = some (.int .i64 (y.l.getD j 0)) := fun i him => by
      obtain ⟨cs', hc', ht'⟩ := hi i him
      rw [cellsPin] at hc'
      exact open_pin1 hc' ht'
    haveI : Inhabited Pin := ⟨noPin⟩
    obtain ⟨X, hX⟩ := choose_lt hex
    refine ⟨some a, m, (List.range len).map X, by simpa using e, by simpa using hl, hm, fun k hk => ?_, fun e => (by cases e), trivial⟩
    have hk' : k < len := by simpa using hk
    rw [range_get len X hk]
    have h1 := hX k (by omega)
    exact ⟨a, rfl, by have := cell_lt (h1 0 (by decide)); rwa [fld_block, add_block] at this, h1⟩
end
end Go.Proofs.Ytpplcbpnojggcaa
