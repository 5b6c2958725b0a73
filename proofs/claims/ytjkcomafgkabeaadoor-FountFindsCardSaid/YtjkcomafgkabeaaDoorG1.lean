/-
  Opening the arguments: a fount, a list of numbers, a list of such lists, as they lie in memory.
-/
import Derived.Test.YtjkcomafgkabeaaDoorF1
import Derived.Deep.Slices
import Derived.Lib.SmallJoins
import Derived.ProofKit
import Derived.OpenShut
namespace Go.Proofs.YtjkcomafgkabeaaDoor
open Go.ChangeShapes Go.WideShapes Go.Deep Go.Joins Go.RowKit

theorem cellsFount : Tryd.prog.cellsOf 24 = 3 := by kernel_rfl
theorem cellsSort : Tryd.prog.cellsOf 47 = 4 := by kernel_rfl
theorem cellsInt : Tryd.prog.cellsOf 3 = 1 := by kernel_rfl
theorem cellsStr : Tryd.prog.cellsOf 9 = 1 := by kernel_rfl
theorem cellsInts : Tryd.prog.cellsOf 31 = 1 := by kernel_rfl

instance : Inhabited TS := ⟨noTS⟩
instance : Inhabited IS := ⟨noIS⟩
theorem cell_lt {w : World} {p : Addr} {v : Value} (h : w.cell? p = some v) : p.block < w.heap.size := World.block_lt_of_cell? w p h
theorem add_one {a : Addr} {j : Nat} (h : j ≠ 0) : a.add j = ⟨a.block, a.off + j, none⟩ := by unfold Addr.add; rw [if_neg h]
theorem add_zero (a : Addr) : a.add 0 = a := by unfold Addr.add; rw [if_pos rfl]
theorem range_getD {α : Type} (n : Nat) (fn : Nat → α) (d : α) {k : Nat} (h : k < n) : ((List.range n).map fn).getD k d = fn k := by
  rw [List.getD_eq_getElem?_getD, List.getElem?_map, List.getElem?_range h]; rfl

theorem list4 {cs : List Value} (h : cs.length = 4) : ∃ c0 c1 c2 c3, cs = [c0, c1, c2, c3] := by
  match cs, h with
  | [c0, c1, c2, c3], _ => exact ⟨c0, c1, c2, c3, rfl⟩
set_option maxRecDepth 100000
section
variable {H : Type} {enc : TypeId × Value → H} {w : World}

/-- The cells of a sort, read as data, are those of a sort. -/
theorem open_sort {n : Nat} {p : Addr} {cs : List Value} {x : DataW H × List MemPlace} (hc : w.cells? 0 p 4 = some cs) (h : DataW.trod enc Tryd.prog w 0 (fun _ => true) true n 47 cs = some x) :
    ∃ y : TS, SortAt w p y ∧ y.name.size ≤ maxLen ∧ y.text.size ≤ maxLen := by
  obtain ⟨_, hl, hat⟩ := World.cells?_some hc
  obtain ⟨y0, y1, y2, y3, m, _, _, h0, h1, h2, h3⟩ := trod_struct4 Tryd.underlying47 h
  obtain ⟨c0, c1, c2, c3, rfl⟩ := list4 hl
  have h0 : DataW.trod enc Tryd.prog w 0 (fun _ => true) true m 9 [c0] = some y0 := by simpa [cellsStr] using h0
  have h1 : DataW.trod enc Tryd.prog w 0 (fun _ => true) true m 9 [c1] = some y1 := by simpa [cellsStr] using h1
  have h2 : DataW.trod enc Tryd.prog w 0 (fun _ => true) true m 3 [c2] = some y2 := by simpa [cellsInt] using h2
  have h3 : DataW.trod enc Tryd.prog w 0 (fun _ => true) true m 3 [c3] = some y3 := by simpa [cellsInt] using h3
  obtain ⟨s0, e0, _, z0⟩ := DataW.trod_string Tryd.underlying9 h0
  obtain ⟨s1, e1, _, z1⟩ := DataW.trod_string Tryd.underlying9 h1
  obtain ⟨n2, e2, _, _⟩ := DataW.trod_int Tryd.underlying3 h2
  obtain ⟨n3, e3, _, _⟩ := DataW.trod_int Tryd.underlying3 h3
  simp only [List.cons.injEq, and_true] at e0 e1 e2 e3
  subst e0 e1 e2 e3
  refine ⟨⟨s0, s1, n2, n3⟩, ⟨?_, ?_, ?_, ?_⟩, z0, z1⟩
  · have := hat 0 (by omega); rw [add_zero] at this; simpa using this
  · have := hat 1 (by omega); rw [add_one (by omega)] at this; simpa using this
  · have := hat 2 (by omega); rw [add_one (by omega)] at this; simpa using this
  · have := hat 3 (by omega); rw [add_one (by omega)] at this; simpa using this

theorem open_sorts {n : Nat} {v : Value} {x : DataW H × List MemPlace} (h : DataW.trod enc Tryd.prog w 0 (fun _ => true) true n 22 [v] = some x) :
    ∃ (a : Option Addr) (c : Nat) (l : List TS), v = .slice a l.length c ∧ l.length ≤ c ∧ c ≤ maxLen ∧ SortsAt w a l ∧ ∀ y ∈ l, y.name.size ≤ maxLen ∧ y.text.size ≤ maxLen := by
  rcases open_slice Tryd.underlying22 h with ⟨e, _⟩ | ⟨a, len, cap, m, k, D, Pl, e, _, hl, hm, hmm, _, hi⟩
  · simp only [List.cons.injEq, and_true] at e
    exact ⟨none, 0, [], e, Nat.le_refl _, Nat.zero_le _, fun k hk => absurd hk (Nat.not_lt_zero _), fun y hy => by cases hy⟩
  · simp only [List.cons.injEq, and_true] at e
    have hmc : m = cap := by simpa using hmm
    subst hmc
    have hex : ∀ i, i < m → ∃ y : TS, SortAt w (a.add (i * 4)) y ∧ y.name.size ≤ maxLen ∧ y.text.size ≤ maxLen := fun i him => by
      obtain ⟨cs', hc', ht'⟩ := hi i him
      rw [cellsSort] at hc'
      exact open_sort hc' ht'
    obtain ⟨X, hX⟩ := choose_lt hex
    refine ⟨some a, m, (List.range len).map X, by simpa using e, by simpa using hl, hm, fun k hk => ?_, fun y hy => ?_⟩
    · have hk' : k < len := by simpa using hk
      rw [range_getD len X noTS hk']
      have h1 := (hX k (by omega)).1
      exact ⟨a, rfl, by have := cell_lt h1.1; rwa [add_block] at this, h1⟩
    · obtain ⟨i, hi', rfl⟩ := List.mem_map.1 hy
      exact (hX i (by have := List.mem_range.1 hi'; omega)).2

theorem open_fount {r : Reach} {b0 : Nat} {v : Value} {d : DataW H} {p : List MemPlace} (hv : Value.okWide Tryd.prog w r b0 24 v) (h : DataW.Trod enc Tryd.prog w 0 (fun _ => true) true 24 v d p) :
    ∃ (f : FT) (a : Option Addr) (c : Nat), v = .agg #[.string f.name, .int .i64 f.body, .slice a f.sorts.length c] ∧ f.sorts.length ≤ c ∧ OkF f ∧ SortsAt w a f.sorts := by
  obtain ⟨v0, v1, v2, y0, y1, y2, n, rfl, _, _, h0, h1, h2⟩ := open_agg3 Tryd.underlying24 (by kernel_rfl) cellsFount hv h
  obtain ⟨s0, e0, _, z0⟩ := DataW.trod_string Tryd.underlying9 h0
  obtain ⟨n1, e1, _, _⟩ := DataW.trod_int Tryd.underlying3 h1
  obtain ⟨a, c, l, rfl, hlc, hcm, hs, ho⟩ := open_sorts h2
  simp only [List.cons.injEq, and_true] at e0 e1
  subst e0 e1
  exact ⟨⟨s0, n1, l⟩, a, c, rfl, hlc, ⟨z0, Nat.le_trans hlc hcm, ho⟩, hs⟩

theorem open_nums {n : Nat} {v : Value} {x : DataW H × List MemPlace} (h : DataW.trod enc Tryd.prog w 0 (fun _ => true) true n 31 [v] = some x) :
    ∃ (a : Option Addr) (c : Nat) (l : List Int), v = .slice a l.length c ∧ l.length ≤ c ∧ c ≤ maxLen ∧ IntsAt w a l ∧ (a = none → c = 0) := by
  rcases open_slice1 Tryd.underlying31 cellsInt h with ⟨e, _⟩ | ⟨a, len, cap, m, k, V, D, Pl, e, _, hl, hm, hmm, _, hi⟩
  · simp only [List.cons.injEq, and_true] at e
    exact ⟨none, 0, [], e, Nat.le_refl _, Nat.zero_le _, fun k hk => absurd hk (Nat.not_lt_zero _), fun _ => rfl⟩
  · simp only [List.cons.injEq, and_true] at e
    have hmc : m = cap := by simpa using hmm
    subst hmc
    have hex : ∀ i, i < m → ∃ y : Int, w.cell? (a.add i) = some (.int .i64 y) := fun i him => by
      obtain ⟨hc', ht'⟩ := hi i him
      obtain ⟨y, ey, _, _⟩ := DataW.trod_int Tryd.underlying3 ht'
      simp only [List.cons.injEq, and_true] at ey
      exact ⟨y, by rw [hc', ey]⟩
    obtain ⟨X, hX⟩ := choose_lt hex
    refine ⟨some a, m, (List.range len).map X, by simpa using e, by simpa using hl, hm, fun k hk => ?_, fun e => by cases e⟩
    have hk' : k < len := by simpa using hk
    rw [range_getD len X 0 hk']
    have h1 := hX k (by omega)
    exact ⟨a, rfl, by have := cell_lt h1; rwa [add_block] at this, h1⟩

theorem open_lists {n : Nat} {v : Value} {x : DataW H × List MemPlace} (h : DataW.trod enc Tryd.prog w 0 (fun _ => true) true n 73 [v] = some x) :
    ∃ (a : Option Addr) (c : Nat) (ls : List IS), v = .slice a ls.length c ∧ ls.length ≤ c ∧ c ≤ maxLen ∧ ListsAt w a ls ∧ ∀ y ∈ ls, y.a = none → y.c = 0 := by
  rcases open_slice1 Tryd.underlying73 cellsInts h with ⟨e, _⟩ | ⟨a, len, cap, m, k, V, D, Pl, e, _, hl, hm, hmm, _, hi⟩
  · simp only [List.cons.injEq, and_true] at e
    exact ⟨none, 0, [], e, Nat.le_refl _, Nat.zero_le _, fun k hk => absurd hk (Nat.not_lt_zero _), fun y hy => by cases hy⟩
  · simp only [List.cons.injEq, and_true] at e
    have hmc : m = cap := by simpa using hmm
    subst hmc
    have hex : ∀ i, i < m → ∃ y : IS, w.cell? (a.add i) = some (.slice y.a y.l.length y.c) ∧ y.at_ w ∧ (y.a = none → y.c = 0) := fun i him => by
      obtain ⟨hc', ht'⟩ := hi i him
      obtain ⟨a2, c2, l2, e2, hl2, hm2, hi2, hn2⟩ := open_nums ht'
      exact ⟨⟨a2, c2, l2⟩, by rw [hc', e2], ⟨hi2, Nat.le_trans hl2 hm2⟩, hn2⟩
    obtain ⟨X, hX⟩ := choose_lt hex
    refine ⟨some a, m, (List.range len).map X, by simpa using e, by simpa using hl, hm, fun k hk => ?_, fun y hy => ?_⟩
    · have hk' : k < len := by simpa using hk
      rw [range_getD len X noIS hk']
      obtain ⟨h1, h2, _⟩ := hX k (by omega)
      exact ⟨a, rfl, by have := cell_lt h1; rwa [add_block] at this, h1, h2⟩
    · obtain ⟨i, hi', rfl⟩ := List.mem_map.1 hy
      exact (hX i (by have := List.mem_range.1 hi'; omega)).2.2

/-- All arguments read behind the call as they read before it, where nothing that was there has turned. -/
theorem args_again {P : Program} (hl : laidOutB P = true) {W W' : World} (hb : Below W.heap.size W W') : ∀ {ts : List TypeId} {vs : List Value} {ds : List (DataW H)} {ps : List MemPlace},
    (∀ t ∈ ts, P.readableRec t = true ∧ t < P.types.size) → DataW.TrodAll enc P W 0 (fun _ => true) true ts vs ds ps → (∀ x ∈ ps, x.block < W.heap.size) →
    DataW.TrodAll enc P W' 0 (fun b => decide (b < W.heap.size)) true ts vs ds ps := by
  intro ts
  induction ts with
  | nil =>
    intro vs ds ps _ h _
    obtain ⟨rfl, rfl, rfl⟩ := trodAll_nil h
    exact trodAll_mk0
  | cons t ts ih =>
    intro vs ds ps hr h hp
    obtain ⟨v, vs', d, ds', p, q, rfl, rfl, rfl, h0, h1⟩ := trodAll_cons h
    exact trodAll_cons_mk (Below.trod hl (hr t (by simp)).1 (hr t (by simp)).2 h0 hb (fun x hx => hp x (by simp [hx]))) (ih (fun t' ht' => hr t' (by simp [ht'])) h1 (fun x hx => hp x (by simp [hx])))
end
end Go.Proofs.YtjkcomafgkabeaaDoor
