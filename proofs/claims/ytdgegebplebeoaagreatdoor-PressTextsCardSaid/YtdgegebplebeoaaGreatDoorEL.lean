/-
  Package press: the arguments of its laws, opened.
-/
import Derived.Test.YtdgegebplebeoaaGreatDoorEA
import Derived.Deep.Slices
import Derived.Deep.Strs
import Derived.Lib.SmallJoins
import Derived.ProofKit
import Derived.OpenShut
namespace Go.Proofs.YtdgegebplebeoaaGreatDoor
open Go.ChangeShapes Go.WideShapes Go.Deep Go.Joins Go.RowKit

theorem cellsInt : Tryz.prog.cellsOf 3 = 1 := by kernel_rfl
theorem cell_lt {w : World} {p : Addr} {v : Value} (h : w.cell? p = some v) : p.block < w.heap.size := World.block_lt_of_cell? w p h
theorem add_one {a : Addr} {j : Nat} (h : j ≠ 0) : a.add j = ⟨a.block, a.off + j, none⟩ := by unfold Addr.add; rw [if_neg h]
theorem add_zero (a : Addr) : a.add 0 = a := by unfold Addr.add; rw [if_pos rfl]
theorem fld_add (p : Addr) (j : Nat) : p.add j = fld p j := by
  cases j with
  | zero => exact add_zero p
  | succ j => exact add_one (Nat.succ_ne_zero j)
theorem range_get {α : Type} (n : Nat) (fn : Nat → α) {k : Nat} (h : k < ((List.range n).map fn).length) : ((List.range n).map fn)[k] = fn k := by simp
set_option maxRecDepth 100000
section
variable {H : Type} {enc : TypeId × Value → H} {w : World}
theorem okWide_arr {t e : TypeId} {n : Nat} {r : Reach} {b0 : Nat} {v : Value} (ht : Tryz.prog.underlying t = some (.array n e)) (h : Value.okWide Tryz.prog w r b0 t v) : ∃ cs, v = .agg cs ∧ cs.size = Tryz.prog.cellsOf t := by
  simp only [Value.okWide, ht] at h
  obtain ⟨cs, h1, h2, _⟩ := h
  exact ⟨cs, h1, h2⟩
/-- A number that was read. -/
theorem int_read {n : Nat} {c : Value} {y : DataW H × List MemPlace} (h : DataW.trod enc Tryz.prog w 0 (fun _ => true) true n 3 [c] = some y) : ∃ x : Int, c = .int .i64 x ∧ OkI x := by
  obtain ⟨x, e, _, hw⟩ := DataW.trod_int Tryz.underlying3 h
  simp only [List.cons.injEq, and_true] at e
  exact ⟨x, e, hw⟩
theorem open_pair {r : Reach} {b0 : Nat} {v : Value} {d : DataW H} {p : List MemPlace} (hv : Value.okWide Tryz.prog w r b0 42 v) (h : DataW.Trod enc Tryz.prog w 0 (fun _ => true) true 42 v d p) :
    ∃ x y : Int, v = .agg #[.int .i64 x, .int .i64 y] ∧ OkI x ∧ OkI y := by
  obtain ⟨cs, rfl, hsz⟩ := okWide_arr Tryz.underlying42 hv
  have hc : Tryz.prog.cellsOf 42 = 2 := by kernel_rfl
  obtain ⟨l⟩ := cs
  match l, hsz.trans hc with
  | [c0, c1], _ =>
    obtain ⟨fuel, hf⟩ := h
    obtain ⟨xs, m, _, _, _, hlen, hg⟩ := DataW.trod_array Tryz.underlying42 hf
    match xs, hlen with
    | [y0, y1], _ =>
      have h0 := hg 0 (by decide)
      have h1 := hg 1 (by decide)
      rw [cellsInt] at h0 h1
      obtain ⟨x0, rfl, w0⟩ := int_read (n := m) (c := c0) (y := y0) (by simpa [Value.cells] using h0)
      obtain ⟨x1, rfl, w1⟩ := int_read (n := m) (c := c1) (y := y1) (by simpa [Value.cells] using h1)
      exact ⟨x0, x1, rfl, w0, w1⟩
theorem open_nums {n : Nat} {v : Value} {x : DataW H × List MemPlace} (h : DataW.trod enc Tryz.prog w 0 (fun _ => true) true n 49 [v] = some x) :
    ∃ (a : Option Addr) (c : Nat) (l : List Int), v = .slice a l.length c ∧ l.length ≤ c ∧ c ≤ maxLen ∧ RowsAt 1 intL w a l ∧ (a = none → c = 0) ∧ ∀ y ∈ l, OkI y := by
  rcases open_slice1 Tryz.underlying49 cellsInt h with ⟨e, _⟩ | ⟨a, len, cap, m, k, V, D, Pl, e, _, hl, hm, hmm, _, hi⟩
  · simp only [List.cons.injEq, and_true] at e
    exact ⟨none, 0, [], e, Nat.le_refl _, Nat.zero_le _, RowsAt.nil _ _, fun _ => rfl, fun y hy => by cases hy⟩
  · simp only [List.cons.injEq, and_true] at e
    have hmc : m = cap := by simpa using hmm
    subst hmc
    have hex : ∀ i, i < m → ∃ y : Int, w.cell? (a.add i) = some (.int .i64 y) ∧ OkI y := fun i him => by
      obtain ⟨hc', ht'⟩ := hi i him
      obtain ⟨y, ey, wy⟩ := int_read ht'
      exact ⟨y, by rw [hc', ey], wy⟩
    obtain ⟨X, hX⟩ := choose_lt hex
    refine ⟨some a, m, (List.range len).map X, by simpa using e, by simpa using hl, hm, fun k hk => ?_, fun e => (by cases e), fun y hy => ?_⟩
    · have hk' : k < len := by simpa using hk
      rw [range_get len X hk]
      have h1 := (hX k (by omega)).1
      refine ⟨a, rfl, by have := cell_lt h1; rwa [add_block] at this, fun j hj => ?_⟩
      have hj0 : j = 0 := by omega
      subst hj0
      rw [Nat.mul_one]; exact h1
    · obtain ⟨i, hi', rfl⟩ := List.mem_map.1 hy
      exact (hX i (by have := List.mem_range.1 hi'; omega)).2
theorem cellsFrac : Tryz.prog.cellsOf 46 = 2 := by kernel_rfl
theorem open_frac1 {n : Nat} {cs : List Value} {x : DataW H × List MemPlace} (hl : cs.length = 2) (h : DataW.trod enc Tryz.prog w 0 (fun _ => true) true n 46 cs = some x) :
    ∃ a b : Int, cs = [.int .i64 a, .int .i64 b] ∧ OkI a ∧ OkI b := by
  obtain ⟨y0, y1, m, _, _, h0, h1⟩ := trod_struct2 Tryz.underlying46 h
  match cs, hl with
  | [c0, c1], _ =>
    obtain ⟨x0, rfl, w0⟩ := int_read (n := m) (c := c0) (y := y0) (by simpa [cellsInt] using h0)
    obtain ⟨x1, rfl, w1⟩ := int_read (n := m) (c := c1) (y := y1) (by simpa [cellsInt] using h1)
    exact ⟨x0, x1, rfl, w0, w1⟩
theorem open_frac {r : Reach} {b0 : Nat} {v : Value} {d : DataW H} {p : List MemPlace} (hv : Value.okWide Tryz.prog w r b0 46 v) (h : DataW.Trod enc Tryz.prog w 0 (fun _ => true) true 46 v d p) :
    ∃ a b : Int, v = .agg #[.int .i64 a, .int .i64 b] ∧ OkI a ∧ OkI b := by
  obtain ⟨cs, rfl, hsz⟩ := okWide_struct Tryz.underlying46 hv
  obtain ⟨k⟩ := cs
  obtain ⟨fuel, hf⟩ := h
  obtain ⟨a, b, e, h1, h2⟩ := open_frac1 (n := fuel) (cs := k) (hsz.trans cellsFrac) (by simpa [Value.cells] using hf)
  exact ⟨a, b, by rw [e], h1, h2⟩
theorem cellsSheet : Tryz.prog.cellsOf 48 = 4 := by kernel_rfl
theorem open_sheet {r : Reach} {b0 : Nat} {v : Value} {d : DataW H} {p : List MemPlace} (hv : Value.okWide Tryz.prog w r b0 48 v) (h : DataW.Trod enc Tryz.prog w 0 (fun _ => true) true 48 v d p) :
    ∃ (n g N D : Int), v = .agg #[.int .i64 n, .int .i64 g, .int .i64 N, .int .i64 D] ∧ OkI n ∧ OkI g ∧ OkI N ∧ OkI D := by
  obtain ⟨cs, rfl, hsz⟩ := okWide_struct Tryz.underlying48 hv
  obtain ⟨k⟩ := cs
  match k, hsz.trans cellsSheet with
  | [c0, c1, c2, c3], _ =>
    obtain ⟨fuel, hf⟩ := h
    obtain ⟨xs, n, _, _, _, hlen, hg⟩ := DataW.trod_struct Tryz.underlying48 hf
    match xs, hlen with
    | [y0, y1, y2], _ =>
      obtain ⟨x0, rfl, w0⟩ := int_read (n := n) (c := c0) (y := y0) (by simpa [Value.cells, cellsInt] using hg 0 _ rfl)
      obtain ⟨x1, rfl, w1⟩ := int_read (n := n) (c := c1) (y := y1) (by simpa [Value.cells, cellsInt] using hg 1 _ rfl)
      obtain ⟨a, b, e, wa, wb⟩ := open_frac1 (n := n) (cs := [c2, c3]) (x := y2) rfl (by simpa [Value.cells, cellsFrac] using hg 2 _ rfl)
      injection e with e1 e; injection e with e2 _
      subst e1; subst e2
      exact ⟨x0, x1, a, b, rfl, w0, w1, wa, wb⟩
/-- All arguments read behind the call as they read before it, where nothing that was there has turned. -/
theorem args_again {P : Program} (hl : laidOutB P = true) {W W' : World} (hb : Below W.heap.size W W') : ∀ {ts : List TypeId} {vs : List Value} {ds : List (DataW H)} {ps : List MemPlace},
    (∀ t ∈ ts, P.readableRec t = true ∧ t < P.types.size) → DataW.TrodAll enc P W 0 (fun _ => true) true ts vs ds ps → (∀ x ∈ ps, x.block < W.heap.size) →
    DataW.TrodAll enc P W' 0 (fun b => decide (b < W.heap.size)) true ts vs ds ps := by
  intro ts
  induction ts with
  | nil =>
    intro vs ds ps _ h _
    obtain ⟨rfl, rfl, rfl⟩ := trodAll_nil h
    exact trodAll_mk0
  | cons t ts ih =>
    intro vs ds ps hr h hp
    obtain ⟨v, vs', d, ds', p, q, rfl, rfl, rfl, h0, h1⟩ := trodAll_cons h
    exact trodAll_cons_mk (Below.trod hl (hr t (by simp)).1 (hr t (by simp)).2 h0 hb (fun x hx => hp x (by simp [hx]))) (ih (fun t' ht' => hr t' (by simp [ht'])) h1 (fun x hx => hp x (by simp [hx])))
end
end Go.Proofs.YtdgegebplebeoaaGreatDoor
