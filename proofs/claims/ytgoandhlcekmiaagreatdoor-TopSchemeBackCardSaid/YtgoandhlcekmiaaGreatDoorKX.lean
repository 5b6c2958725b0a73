/-
  Package impose: the arguments of its laws, opened: folds, schemes, views, books, lists of numbers, sheets.
-/
import Derived.Test.YtgoandhlcekmiaaGreatDoorIA
import Derived.Test.YtgoandhlcekmiaaGreatDoorKA
import Derived.Deep.Slices
import Derived.Deep.Strs
import Derived.Lib.SmallJoins
import Derived.ProofKit
import Derived.OpenShut
import Derived.Test.YtgoandhlcekmiaaGreatDoorKS
import Derived.Test.YtgoandhlcekmiaaGreatDoorRows
import Derived.Lib.LaidTab
import Derived.Deep.DeepHandedRow
namespace Go.Proofs.YtgoandhlcekmiaaGreatDoor
open Go.ChangeShapes Go.WideShapes Go.Deep Go.Joins Go.RowKit

theorem cellsInt : Tryz.prog.cellsOf 3 = 1 := by kernel_rfl
theorem cell_lt {w : World} {p : Addr} {v : Value} (h : w.cell? p = some v) : p.block < w.heap.size := World.block_lt_of_cell? w p h
theorem add_one {a : Addr} {j : Nat} (h : j ≠ 0) : a.add j = ⟨a.block, a.off + j, none⟩ := by unfold Addr.add; rw [if_neg h]
theorem add_zero (a : Addr) : a.add 0 = a := by unfold Addr.add; rw [if_pos rfl]
theorem fld_add (p : Addr) (j : Nat) : p.add j = fld p j := by
  cases j with
  | zero => exact add_zero p
  | succ j => exact add_one (Nat.succ_ne_zero j)
theorem range_get {α : Type} (n : Nat) (fn : Nat → α) {k : Nat} (h : k < ((List.range n).map fn).length) : ((List.range n).map fn)[k] = fn k := by simp
set_option maxRecDepth 100000
section
variable {H : Type} {enc : TypeId × Value → H} {w : World}
theorem okWide_arr {t e : TypeId} {n : Nat} {r : Reach} {b0 : Nat} {v : Value} (ht : Tryz.prog.underlying t = some (.array n e)) (h : Value.okWide Tryz.prog w r b0 t v) : ∃ cs, v = .agg cs ∧ cs.size = Tryz.prog.cellsOf t := by
  simp only [Value.okWide, ht] at h
  obtain ⟨cs, h1, h2, _⟩ := h
  exact ⟨cs, h1, h2⟩
/-- A number that was read. -/
theorem int_read {n : Nat} {c : Value} {y : DataW H × List MemPlace} (h : DataW.trod enc Tryz.prog w 0 (fun _ => true) true n 3 [c] = some y) : ∃ x : Int, c = .int .i64 x ∧ OkI x := by
  obtain ⟨x, e, _, hw⟩ := DataW.trod_int Tryz.underlying3 h
  simp only [List.cons.injEq, and_true] at e
  exact ⟨x, e, hw⟩
theorem open_pair {r : Reach} {b0 : Nat} {v : Value} {d : DataW H} {p : List MemPlace} (hv : Value.okWide Tryz.prog w r b0 22 v) (h : DataW.Trod enc Tryz.prog w 0 (fun _ => true) true 22 v d p) :
    ∃ x y : Int, v = .agg #[.int .i64 x, .int .i64 y] ∧ OkI x ∧ OkI y := by
  obtain ⟨cs, rfl, hsz⟩ := okWide_arr Tryz.underlying22 hv
  have hc : Tryz.prog.cellsOf 22 = 2 := by kernel_rfl
  obtain ⟨l⟩ := cs
  match l, hsz.trans hc with
  | [c0, c1], _ =>
    obtain ⟨fuel, hf⟩ := h
    obtain ⟨xs, m, _, _, _, hlen, hg⟩ := DataW.trod_array Tryz.underlying22 hf
    match xs, hlen with
    | [y0, y1], _ =>
      have h0 := hg 0 (by decide)
      have h1 := hg 1 (by decide)
      rw [cellsInt] at h0 h1
      obtain ⟨x0, rfl, w0⟩ := int_read (n := m) (c := c0) (y := y0) (by simpa [Value.cells] using h0)
      obtain ⟨x1, rfl, w1⟩ := int_read (n := m) (c := c1) (y := y1) (by simpa [Value.cells] using h1)
      exact ⟨x0, x1, rfl, w0, w1⟩
theorem open_nums {n : Nat} {v : Value} {x : DataW H × List MemPlace} (h : DataW.trod enc Tryz.prog w 0 (fun _ => true) true n 130 [v] = some x) :
    ∃ (a : Option Addr) (c : Nat) (l : List Int), v = .slice a l.length c ∧ l.length ≤ c ∧ c ≤ maxLen ∧ RowsAt 1 intL w a l ∧ (a = none → c = 0) ∧ ∀ y ∈ l, OkI y := by
  rcases open_slice1 Tryz.underlying130 cellsInt h with ⟨e, _⟩ | ⟨a, len, cap, m, k, V, D, Pl, e, _, hl, hm, hmm, _, hi⟩
  · simp only [List.cons.injEq, and_true] at e
    exact ⟨none, 0, [], e, Nat.le_refl _, Nat.zero_le _, RowsAt.nil _ _, fun _ => rfl, fun y hy => by cases hy⟩
  · simp only [List.cons.injEq, and_true] at e
    have hmc : m = cap := by simpa using hmm
    subst hmc
    have hex : ∀ i, i < m → ∃ y : Int, w.cell? (a.add i) = some (.int .i64 y) ∧ OkI y := fun i him => by
      obtain ⟨hc', ht'⟩ := hi i him
      obtain ⟨y, ey, wy⟩ := int_read ht'
      exact ⟨y, by rw [hc', ey], wy⟩
    obtain ⟨X, hX⟩ := choose_lt hex
    refine ⟨some a, m, (List.range len).map X, by simpa using e, by simpa using hl, hm, fun k hk => ?_, fun e => (by cases e), fun y hy => ?_⟩
    · have hk' : k < len := by simpa using hk
      rw [range_get len X hk]
      have h1 := (hX k (by omega)).1
      refine ⟨a, rfl, by have := cell_lt h1; rwa [add_block] at this, fun j hj => ?_⟩
      have hj0 : j = 0 := by omega
      subst hj0
      rw [Nat.mul_one]; exact h1
    · obtain ⟨i, hi', rfl⟩ := List.mem_map.1 hy
      exact (hX i (by have := List.mem_range.1 hi'; omega)).2
theorem cellsFold : Tryz.prog.cellsOf 59 = 2 := by kernel_rfl
theorem open_fold1 {n : Nat} {p : Addr} {cs : List Value} {x : DataW H × List MemPlace} (hc : w.cells? 0 p 2 = some cs) (h : DataW.trod enc Tryz.prog w 0 (fun _ => true) true n 59 cs = some x) :
    ∃ y : Fold, (∀ j, j < 2 → w.cell? (fld p j) = some (.int .i64 (y.l.getD j 0))) ∧ ∀ z ∈ y.l, OkI z := by
  obtain ⟨_, hl, hat⟩ := World.cells?_some hc
  obtain ⟨y0, y1, m, _, _, h0, h1⟩ := trod_struct2 Tryz.underlying59 h
  match cs, hl with
  | [c0, c1], _ =>
    obtain ⟨x0, rfl, w0⟩ := int_read (n := m) (c := c0) (y := y0) (by simpa [cellsInt] using h0)
    obtain ⟨x1, rfl, w1⟩ := int_read (n := m) (c := c1) (y := y1) (by simpa [cellsInt] using h1)
    refine ⟨⟨x0, x1⟩, fun j hj => ?_, fun z hz => ?_⟩
    · have := hat j hj
      rw [fld_add] at this
      rw [this]
      have hj4 : j = 0 ∨ j = 1 := by omega
      rcases hj4 with rfl | rfl <;> rfl
    · have hz : z = x0 ∨ z = x1 := by simpa [Fold.l] using hz
      rcases hz with rfl | rfl
      · exact w0
      · exact w1
theorem open_folds {n : Nat} {v : Value} {x : DataW H × List MemPlace} (h : DataW.trod enc Tryz.prog w 0 (fun _ => true) true n 23 [v] = some x) :
    ∃ (a : Option Addr) (c : Nat) (l : List Fold), v = .slice a l.length c ∧ l.length ≤ c ∧ c ≤ maxLen ∧ RowsAt 2 Fold.l w a l ∧ (a = none → c = 0) ∧ ∀ y ∈ l, ∀ z ∈ y.l, OkI z := by
  rcases open_slice Tryz.underlying23 h with ⟨e, _⟩ | ⟨a, len, cap, m, k, D, Pl, e, _, hl, hm, hmm, _, hi⟩
  · simp only [List.cons.injEq, and_true] at e
    exact ⟨none, 0, [], e, Nat.le_refl _, Nat.zero_le _, RowsAt.nil _ _, fun _ => rfl, fun y hy => by cases hy⟩
  · simp only [List.cons.injEq, and_true] at e
    have hmc : m = cap := by simpa using hmm
    subst hmc
    have hex : ∀ i, i < m → ∃ y : Fold, (∀ j, j < 2 → w.cell? (fld (a.add (i * 2)) j) = some (.int .i64 (y.l.getD j 0))) ∧ ∀ z ∈ y.l, OkI z := fun i him => by
      obtain ⟨cs', hc', ht'⟩ := hi i him
      rw [cellsFold] at hc'
      exact open_fold1 hc' ht'
    obtain ⟨X, hX⟩ := choose_lt hex
    refine ⟨some a, m, (List.range len).map X, by simpa using e, by simpa using hl, hm, fun k hk => ?_, fun e => (by cases e), fun y hy => ?_⟩
    · have hk' : k < len := by simpa using hk
      rw [range_get len X hk]
      have h1 := (hX k (by omega)).1
      exact ⟨a, rfl, by have := cell_lt (h1 0 (by decide)); rwa [fld_block, add_block] at this, h1⟩
    · obtain ⟨i, hi', rfl⟩ := List.mem_map.1 hy
      exact (hX i (by have := List.mem_range.1 hi'; omega)).2
theorem cellsPage : Tryz.prog.cellsOf 79 = 2 := by kernel_rfl
theorem open_page1 {n : Nat} {p : Addr} {cs : List Value} {x : DataW H × List MemPlace} (hc : w.cells? 0 p 2 = some cs) (h : DataW.trod enc Tryz.prog w 0 (fun _ => true) true n 79 cs = some x) :
    ∃ y : Page, (∀ j, j < 2 → w.cell? (fld p j) = some (.int .i64 (y.l.getD j 0))) ∧ ∀ z ∈ y.l, OkI z := by
  obtain ⟨_, hl, hat⟩ := World.cells?_some hc
  obtain ⟨y0, y1, m, _, _, h0, h1⟩ := trod_struct2 Tryz.underlying79 h
  match cs, hl with
  | [c0, c1], _ =>
    obtain ⟨x0, rfl, w0⟩ := int_read (n := m) (c := c0) (y := y0) (by simpa [cellsInt] using h0)
    obtain ⟨x1, rfl, w1⟩ := int_read (n := m) (c := c1) (y := y1) (by simpa [cellsInt] using h1)
    refine ⟨⟨x0, x1⟩, fun j hj => ?_, fun z hz => ?_⟩
    · have := hat j hj
      rw [fld_add] at this
      rw [this]
      have hj4 : j = 0 ∨ j = 1 := by omega
      rcases hj4 with rfl | rfl <;> rfl
    · have hz : z = x0 ∨ z = x1 := by simpa [Page.l] using hz
      rcases hz with rfl | rfl
      · exact w0
      · exact w1
theorem open_pages {n : Nat} {v : Value} {x : DataW H × List MemPlace} (h : DataW.trod enc Tryz.prog w 0 (fun _ => true) true n 43 [v] = some x) :
    ∃ (a : Option Addr) (c : Nat) (l : List Page), v = .slice a l.length c ∧ l.length ≤ c ∧ c ≤ maxLen ∧ RowsAt 2 Page.l w a l ∧ (a = none → c = 0) ∧ ∀ y ∈ l, ∀ z ∈ y.l, OkI z := by
  rcases open_slice Tryz.underlying43 h with ⟨e, _⟩ | ⟨a, len, cap, m, k, D, Pl, e, _, hl, hm, hmm, _, hi⟩
  · simp only [List.cons.injEq, and_true] at e
    exact ⟨none, 0, [], e, Nat.le_refl _, Nat.zero_le _, RowsAt.nil _ _, fun _ => rfl, fun y hy => by cases hy⟩
  · simp only [List.cons.injEq, and_true] at e
    have hmc : m = cap := by simpa using hmm
    subst hmc
    have hex : ∀ i, i < m → ∃ y : Page, (∀ j, j < 2 → w.cell? (fld (a.add (i * 2)) j) = some (.int .i64 (y.l.getD j 0))) ∧ ∀ z ∈ y.l, OkI z := fun i him => by
      obtain ⟨cs', hc', ht'⟩ := hi i him
      rw [cellsPage] at hc'
      exact open_page1 hc' ht'
    obtain ⟨X, hX⟩ := choose_lt hex
    refine ⟨some a, m, (List.range len).map X, by simpa using e, by simpa using hl, hm, fun k hk => ?_, fun e => (by cases e), fun y hy => ?_⟩
    · have hk' : k < len := by simpa using hk
      rw [range_get len X hk]
      have h1 := (hX k (by omega)).1
      exact ⟨a, rfl, by have := cell_lt (h1 0 (by decide)); rwa [fld_block, add_block] at this, h1⟩
    · obtain ⟨i, hi', rfl⟩ := List.mem_map.1 hy
      exact (hX i (by have := List.mem_range.1 hi'; omega)).2
theorem cellsCell : Tryz.prog.cellsOf 57 = 4 := by kernel_rfl
theorem open_cell1 {n : Nat} {p : Addr} {cs : List Value} {x : DataW H × List MemPlace} (hc : w.cells? 0 p 4 = some cs) (h : DataW.trod enc Tryz.prog w 0 (fun _ => true) true n 57 cs = some x) :
    ∃ y : Cell, (∀ j, j < 4 → w.cell? (fld p j) = some (.int .i64 (y.l.getD j 0))) ∧ ∀ z ∈ y.l, OkI z := by
  obtain ⟨_, hl, hat⟩ := World.cells?_some hc
  obtain ⟨y0, y1, y2, y3, m, _, _, h0, h1, h2, h3⟩ := trod_struct4 Tryz.underlying57 h
  match cs, hl with
  | [c0, c1, c2, c3], _ =>
    obtain ⟨x0, rfl, w0⟩ := int_read (n := m) (c := c0) (y := y0) (by simpa [cellsInt] using h0)
    obtain ⟨x1, rfl, w1⟩ := int_read (n := m) (c := c1) (y := y1) (by simpa [cellsInt] using h1)
    obtain ⟨x2, rfl, w2⟩ := int_read (n := m) (c := c2) (y := y2) (by simpa [cellsInt] using h2)
    obtain ⟨x3, rfl, w3⟩ := int_read (n := m) (c := c3) (y := y3) (by simpa [cellsInt] using h3)
    refine ⟨⟨x0, x1, x2, x3⟩, fun j hj => ?_, fun z hz => ?_⟩
    · have := hat j hj
      rw [fld_add] at this
      rw [this]
      have hj4 : j = 0 ∨ j = 1 ∨ j = 2 ∨ j = 3 := by omega
      rcases hj4 with rfl | rfl | rfl | rfl <;> rfl
    · have hz : z = x0 ∨ z = x1 ∨ z = x2 ∨ z = x3 := by simpa [Cell.l] using hz
      rcases hz with rfl | rfl | rfl | rfl
      · exact w0
      · exact w1
      · exact w2
      · exact w3
theorem open_cells {n : Nat} {v : Value} {x : DataW H × List MemPlace} (h : DataW.trod enc Tryz.prog w 0 (fun _ => true) true n 27 [v] = some x) :
    ∃ (a : Option Addr) (c : Nat) (l : List Cell), v = .slice a l.length c ∧ l.length ≤ c ∧ c ≤ maxLen ∧ RowsAt 4 Cell.l w a l ∧ (a = none → c = 0) ∧ ∀ y ∈ l, ∀ z ∈ y.l, OkI z := by
  rcases open_slice Tryz.underlying27 h with ⟨e, _⟩ | ⟨a, len, cap, m, k, D, Pl, e, _, hl, hm, hmm, _, hi⟩
  · simp only [List.cons.injEq, and_true] at e
    exact ⟨none, 0, [], e, Nat.le_refl _, Nat.zero_le _, RowsAt.nil _ _, fun _ => rfl, fun y hy => by cases hy⟩
  · simp only [List.cons.injEq, and_true] at e
    have hmc : m = cap := by simpa using hmm
    subst hmc
    have hex : ∀ i, i < m → ∃ y : Cell, (∀ j, j < 4 → w.cell? (fld (a.add (i * 4)) j) = some (.int .i64 (y.l.getD j 0))) ∧ ∀ z ∈ y.l, OkI z := fun i him => by
      obtain ⟨cs', hc', ht'⟩ := hi i him
      rw [cellsCell] at hc'
      exact open_cell1 hc' ht'
    obtain ⟨X, hX⟩ := choose_lt hex
    refine ⟨some a, m, (List.range len).map X, by simpa using e, by simpa using hl, hm, fun k hk => ?_, fun e => (by cases e), fun y hy => ?_⟩
    · have hk' : k < len := by simpa using hk
      rw [range_get len X hk]
      have h1 := (hX k (by omega)).1
      exact ⟨a, rfl, by have := cell_lt (h1 0 (by decide)); rwa [fld_block, add_block] at this, h1⟩
    · obtain ⟨i, hi', rfl⟩ := List.mem_map.1 hy
      exact (hX i (by have := List.mem_range.1 hi'; omega)).2
theorem cellsScheme : Tryz.prog.cellsOf 29 = 3 := by kernel_rfl
theorem open_scheme {r : Reach} {b0 : Nat} {v : Value} {d : DataW H} {p : List MemPlace} (hv : Value.okWide Tryz.prog w r b0 29 v) (h : DataW.Trod enc Tryz.prog w 0 (fun _ => true) true 29 v d p) :
    ∃ (C R : Int) (a : Option Addr) (c : Nat) (l : List Cell), v = .agg #[.int .i64 C, .int .i64 R, .slice a l.length c] ∧ OkI C ∧ OkI R ∧ l.length ≤ c ∧ c ≤ maxLen ∧ RowsAt 4 Cell.l w a l ∧ (a = none → c = 0) ∧ ∀ y ∈ l, ∀ z ∈ y.l, OkI z := by
  obtain ⟨v0, v1, v2, y0, y1, y2, n, rfl, _, _, h0, h1, h2⟩ := open_agg3 Tryz.underlying29 (by kernel_rfl) cellsScheme hv h
  obtain ⟨x0, rfl, w0⟩ := int_read h0
  obtain ⟨x1, rfl, w1⟩ := int_read h1
  obtain ⟨a, c, l, rfl, hlc, hcm, hs, hn, ho⟩ := open_cells h2
  exact ⟨x0, x1, a, c, l, rfl, w0, w1, hlc, hcm, hs, hn, ho⟩
theorem cellsView : Tryz.prog.cellsOf 45 = 3 := by kernel_rfl
theorem open_view {r : Reach} {b0 : Nat} {v : Value} {d : DataW H} {p : List MemPlace} (hv : Value.okWide Tryz.prog w r b0 45 v) (h : DataW.Trod enc Tryz.prog w 0 (fun _ => true) true 45 v d p) :
    ∃ (C R : Int) (a : Option Addr) (c : Nat) (l : List Page), v = .agg #[.int .i64 C, .int .i64 R, .slice a l.length c] ∧ OkI C ∧ OkI R ∧ l.length ≤ c ∧ c ≤ maxLen ∧ RowsAt 2 Page.l w a l ∧ (a = none → c = 0) ∧ ∀ y ∈ l, ∀ z ∈ y.l, OkI z := by
  obtain ⟨v0, v1, v2, y0, y1, y2, n, rfl, _, _, h0, h1, h2⟩ := open_agg3 Tryz.underlying45 (by kernel_rfl) cellsView hv h
  obtain ⟨x0, rfl, w0⟩ := int_read h0
  obtain ⟨x1, rfl, w1⟩ := int_read h1
  obtain ⟨a, c, l, rfl, hlc, hcm, hs, hn, ho⟩ := open_pages h2
  exact ⟨x0, x1, a, c, l, rfl, w0, w1, hlc, hcm, hs, hn, ho⟩
/-- All arguments read behind the call as they read before it, where nothing that was there has turned. -/
theorem args_again {P : Program} (hl : laidOutB P = true) {W W' : World} (hb : Below W.heap.size W W') : ∀ {ts : List TypeId} {vs : List Value} {ds : List (DataW H)} {ps : List MemPlace},
    (∀ t ∈ ts, P.readableRec t = true ∧ t < P.types.size) → DataW.TrodAll enc P W 0 (fun _ => true) true ts vs ds ps → (∀ x ∈ ps, x.block < W.heap.size) →
    DataW.TrodAll enc P W' 0 (fun b => decide (b < W.heap.size)) true ts vs ds ps := by
  intro ts
  induction ts with
  | nil =>
    intro vs ds ps _ h _
    obtain ⟨rfl, rfl, rfl⟩ := trodAll_nil h
    exact trodAll_mk0
  | cons t ts ih =>
    intro vs ds ps hr h hp
    obtain ⟨v, vs', d, ds', p, q, rfl, rfl, rfl, h0, h1⟩ := trodAll_cons h
    exact trodAll_cons_mk (Below.trod hl (hr t (by simp)).1 (hr t (by simp)).2 h0 hb (fun x hx => hp x (by simp [hx]))) (ih (fun t' ht' => hr t' (by simp [ht'])) h1 (fun x hx => hp x (by simp [hx])))
end
end Go.Proofs.YtgoandhlcekmiaaGreatDoor

namespace Go.Proofs.YtgoandhlcekmiaaGreatDoor
open Go.ChangeShapes Go.WideShapes Go.ChangeAt Go.RowKit
theorem gPowType : (Tryz.prog.globals[1]?).map (·.type) = some 185 := by kernel_rfl
theorem cellsPow : Tryz.prog.cellsOf 185 = 20 := by kernel_rfl
theorem cellsU64 : Tryz.prog.cellsOf 173 = 1 := by kernel_rfl
def PowT (W : World) : Prop := 1 < W.heap.size ∧ Lib.TabIs Tryz.prog W "internal/strconv.uint64pow10" .u64 Lib.pow10Tab
set_option maxRecDepth 100000
theorem pow_of_read {H : Type} {enc : TypeId × Value → H} {W : World} {sp : Nat → Bool} {held : Bool} {base fuel : Nat} {cs : List Value} {p : List MemPlace}
    (hv : W.var? Tryz.prog "internal/strconv.uint64pow10" = some cs.toArray)
    (h : DataW.trod enc Tryz.prog W base sp held fuel 185 cs = some (Rows.laid_internal_strconv_uint64pow10, p)) : PowT W := by
  have h1 : cs = Lib.pow10Tab.map fun z => Value.int .u64 z := Lib.cells_of_tab Tryz.underlying185 Tryz.underlying173 cellsU64 cellsPow (by exact h)
  have hc := World.var?_cell gPow hv
  have c0 : W.cell? ⟨1, 0, none⟩ = some (.int .u64 1) := by rw [hc 0, h1]; try rfl
  exact ⟨cell_ltF c0, by unfold Lib.TabIs; rw [hv, h1]⟩
theorem pow_of_vars {W : World} : ∀ {laid : List (String × DataW Unit)} {ps : List MemPlace}, DataW.LaidVars Tryz.prog W laid ps → ("internal/strconv.uint64pow10", Rows.laid_internal_strconv_uint64pow10) ∈ laid → PowT W := by
  intro laid
  induction laid with
  | nil => intro ps _ h; cases h
  | cons x r ih =>
    intro ps h hm
    obtain ⟨g', t', cs, fuel, p, q, hg', ht', hvar, hd, hr, _⟩ := h
    rcases List.mem_cons.1 hm with e | e
    · subst e
      obtain rfl := Option.some.inj (gPow.symm.trans hg')
      obtain rfl := Option.some.inj (gPowType.symm.trans ht')
      exact pow_of_read hvar hd
    · exact ih hr e
/-- A variable of an interface type holds nil or something. -/
theorem iface_of_trod {H : Type} {enc : TypeId × Value → H} {P : Program} {t : TypeId} {ms : Array (String × TypeId)} (ht : P.underlying t = some (.interface ms)) {W : World} {base : Nat} {sp : Nat → Bool} {held : Bool} {fuel : Nat} {cs : List Value} {y : DataW H × List MemPlace} (h : DataW.trod enc P W base sp held fuel t cs = some y) : ∃ v, cs = [v] ∧ (v = .nilIface ∨ ∃ te pe, v = .iface te pe) := by
  cases fuel with
  | zero => simp [DataW.trod] at h
  | succ n =>
    match cs, h with
    | [], h => simp [DataW.trod, ht] at h
    | [v], h => cases v <;> simp [DataW.trod, ht] at h <;> simp
    | a :: b :: r, h => simp [DataW.trod, ht] at h
theorem gErr : Tryz.prog.globalNamed "strconv.ErrSyntax" = some 4 := by kernel_rfl
theorem gErrType : (Tryz.prog.globals[4]?).map (·.type) = some 87 := by kernel_rfl
def ErrT (W : World) : Prop := ∃ ev, W.cell? ⟨4, 0, none⟩ = some ev ∧ (ev = .nilIface ∨ ∃ te pe, ev = .iface te pe)
theorem err_of_vars {W : World} : ∀ {laid : List (String × DataW Unit)} {ps : List MemPlace}, DataW.LaidVars Tryz.prog W laid ps → ("strconv.ErrSyntax", Rows.laid_strconv_ErrSyntax) ∈ laid → ErrT W := by
  intro laid
  induction laid with
  | nil => intro ps _ h; cases h
  | cons x r ih =>
    intro ps h hm
    obtain ⟨g', t', cs, fuel, p, q, hg', ht', hvar, hd, hr, _⟩ := h
    rcases List.mem_cons.1 hm with e | e
    · subst e
      obtain rfl := Option.some.inj (gErr.symm.trans hg')
      obtain rfl := Option.some.inj (gErrType.symm.trans ht')
      obtain ⟨v, hcs, hv⟩ := iface_of_trod Tryz.underlying87 hd
      obtain rfl : cs = #[v] := by cases cs; simp_all
      exact ⟨v, by rw [World.var?_cell gErr hvar 0]; try rfl, hv⟩
    · exact ih hr e
theorem max_of_shape {W : World} (h : W.ShapedOpen Tryz.prog) : ∃ m, W.cell? ⟨0, 0, none⟩ = some (.int .i64 m) :=
  cell_of_shapedOpen_int (zero := #[.int .i64 0]) (t := 3) h (of_decide_eq_true (by kernel_rfl)) (by kernel_rfl) rfl (by kernel_rfl) (by kernel_rfl) Tryz.underlying3
theorem wf_of {W : World} {laid : List (String × DataW Unit)} (hs : W.ShapedOpen Tryz.prog) (hL : laidMet Tryz.prog laid W) (h1 : ("internal/strconv.uint64pow10", Rows.laid_internal_strconv_uint64pow10) ∈ laid) (h2 : ("strconv.ErrSyntax", Rows.laid_strconv_ErrSyntax) ∈ laid) : WF W := by
  obtain ⟨ps, hl, _⟩ := hL
  obtain ⟨p1, p2⟩ := pow_of_vars hl h1
  exact ⟨p1, p2, max_of_shape hs, err_of_vars hl h2⟩
theorem open_wordW {H : Type} {enc : TypeId × Value → H} {w : World} {r : Reach} {b0 : Nat} {v : Value} {d : DataW H} {p : List MemPlace} (hv : Value.okWide Tryz.prog w r b0 9 v) (h : DataW.Trod enc Tryz.prog w 0 (fun _ => true) true 9 v d p) : ∃ s : ByteArray, v = .string s ∧ s.size ≤ maxLen := by
  obtain ⟨s, rfl⟩ := okWide_string Tryz.underlying9 hv
  obtain ⟨n, hf⟩ := h
  obtain ⟨s', e, _, hs⟩ := DataW.trod_string Tryz.underlying9 hf
  simp [Value.cells] at e
  exact ⟨s, rfl, by rw [e]; exact hs⟩
end Go.Proofs.YtgoandhlcekmiaaGreatDoor
