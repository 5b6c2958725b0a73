/-
  Opening the arguments: a fount, a list of numbers, a list of such lists, as they lie in memory.
-/
import Derived.Test.YtebndgepmjonoaaDoorZD
import Derived.Deep.Slices
import Derived.Lib.SmallJoins
import Derived.ProofKit
import Derived.OpenShut
import Derived.Lib.LaidTab
import Derived.Test.YtebndgepmjonoaaDoorRows
import Derived.Test.YtebndgepmjonoaaDoorZN
namespace Go.Proofs.YtebndgepmjonoaaDoor
open Go.ChangeShapes Go.WideShapes Go.Deep Go.Joins Go.RowKit

theorem cellsFount : Tryd.prog.cellsOf 24 = 3 := by kernel_rfl
theorem cellsSort : Tryd.prog.cellsOf 63 = 4 := by kernel_rfl
theorem cellsInt : Tryd.prog.cellsOf 3 = 1 := by kernel_rfl
theorem cellsStr : Tryd.prog.cellsOf 9 = 1 := by kernel_rfl
theorem cellsInts : Tryd.prog.cellsOf 31 = 1 := by kernel_rfl

instance : Inhabited TS := ⟨noTS⟩
instance : Inhabited IS := ⟨noIS⟩
theorem cell_lt {w : World} {p : Addr} {v : Value} (h : w.cell? p = some v) : p.block < w.heap.size := World.block_lt_of_cell? w p h
theorem add_one {a : Addr} {j : Nat} (h : j ≠ 0) : a.add j = ⟨a.block, a.off + j, none⟩ := by unfold Addr.add; rw [if_neg h]
theorem add_zero (a : Addr) : a.add 0 = a := by unfold Addr.add; rw [if_pos rfl]
theorem range_getD {α : Type} (n : Nat) (fn : Nat → α) (d : α) {k : Nat} (h : k < n) : ((List.range n).map fn).getD k d = fn k := by
  rw [List.getD_eq_getElem?_getD, List.getElem?_map, List.getElem?_range h]; rfl

theorem list4 {cs : List Value} (h : cs.length = 4) : ∃ c0 c1 c2 c3, cs = [c0, c1, c2, c3] := by
  match cs, h with
  | [c0, c1, c2, c3], _ => exact ⟨c0, c1, c2, c3, rfl⟩
set_option maxRecDepth 100000
section
variable {H : Type} {enc : TypeId × Value → H} {w : World}

/-- The cells of a sort, read as data, are those of a sort. -/
theorem open_sort {n : Nat} {p : Addr} {cs : List Value} {x : DataW H × List MemPlace} (hc : w.cells? 0 p 4 = some cs) (h : DataW.trod enc Tryd.prog w 0 (fun _ => true) true n 63 cs = some x) :
    ∃ y : TS, SortAt w p y ∧ y.name.size ≤ maxLen ∧ y.text.size ≤ maxLen := by
  obtain ⟨_, hl, hat⟩ := World.cells?_some hc
  obtain ⟨y0, y1, y2, y3, m, _, _, h0, h1, h2, h3⟩ := trod_struct4 Tryd.underlying63 h
  obtain ⟨c0, c1, c2, c3, rfl⟩ := list4 hl
  have h0 : DataW.trod enc Tryd.prog w 0 (fun _ => true) true m 9 [c0] = some y0 := by simpa [cellsStr] using h0
  have h1 : DataW.trod enc Tryd.prog w 0 (fun _ => true) true m 9 [c1] = some y1 := by simpa [cellsStr] using h1
  have h2 : DataW.trod enc Tryd.prog w 0 (fun _ => true) true m 3 [c2] = some y2 := by simpa [cellsInt] using h2
  have h3 : DataW.trod enc Tryd.prog w 0 (fun _ => true) true m 3 [c3] = some y3 := by simpa [cellsInt] using h3
  obtain ⟨s0, e0, _, z0⟩ := DataW.trod_string Tryd.underlying9 h0
  obtain ⟨s1, e1, _, z1⟩ := DataW.trod_string Tryd.underlying9 h1
  obtain ⟨n2, e2, _, _⟩ := DataW.trod_int Tryd.underlying3 h2
  obtain ⟨n3, e3, _, _⟩ := DataW.trod_int Tryd.underlying3 h3
  simp only [List.cons.injEq, and_true] at e0 e1 e2 e3
  subst e0 e1 e2 e3
  refine ⟨⟨s0, s1, n2, n3⟩, ⟨?_, ?_, ?_, ?_⟩, z0, z1⟩
  · have := hat 0 (by omega); rw [add_zero] at this; simpa using this
  · have := hat 1 (by omega); rw [add_one (by omega)] at this; simpa using this
  · have := hat 2 (by omega); rw [add_one (by omega)] at this; simpa using this
  · have := hat 3 (by omega); rw [add_one (by omega)] at this; simpa using this

theorem open_sorts {n : Nat} {v : Value} {x : DataW H × List MemPlace} (h : DataW.trod enc Tryd.prog w 0 (fun _ => true) true n 22 [v] = some x) :
    ∃ (a : Option Addr) (c : Nat) (l : List TS), v = .slice a l.length c ∧ l.length ≤ c ∧ c ≤ maxLen ∧ SortsAt w a l ∧ ∀ y ∈ l, y.name.size ≤ maxLen ∧ y.text.size ≤ maxLen := by
  rcases open_slice Tryd.underlying22 h with ⟨e, _⟩ | ⟨a, len, cap, m, k, D, Pl, e, _, hl, hm, hmm, _, hi⟩
  · simp only [List.cons.injEq, and_true] at e
    exact ⟨none, 0, [], e, Nat.le_refl _, Nat.zero_le _, fun k hk => absurd hk (Nat.not_lt_zero _), fun y hy => by cases hy⟩
  · simp only [List.cons.injEq, and_true] at e
    have hmc : m = cap := by simpa using hmm
    subst hmc
    have hex : ∀ i, i < m → ∃ y : TS, SortAt w (a.add (i * 4)) y ∧ y.name.size ≤ maxLen ∧ y.text.size ≤ maxLen := fun i him => by
      obtain ⟨cs', hc', ht'⟩ := hi i him
      rw [cellsSort] at hc'
      exact open_sort hc' ht'
    obtain ⟨X, hX⟩ := choose_lt hex
    refine ⟨some a, m, (List.range len).map X, by simpa using e, by simpa using hl, hm, fun k hk => ?_, fun y hy => ?_⟩
    · have hk' : k < len := by simpa using hk
      rw [range_getD len X noTS hk']
      have h1 := (hX k (by omega)).1
      exact ⟨a, rfl, by have := cell_lt h1.1; rwa [add_block] at this, h1⟩
    · obtain ⟨i, hi', rfl⟩ := List.mem_map.1 hy
      exact (hX i (by have := List.mem_range.1 hi'; omega)).2

theorem open_fount {r : Reach} {b0 : Nat} {v : Value} {d : DataW H} {p : List MemPlace} (hv : Value.okWide Tryd.prog w r b0 24 v) (h : DataW.Trod enc Tryd.prog w 0 (fun _ => true) true 24 v d p) :
    ∃ (f : FT) (a : Option Addr) (c : Nat), v = .agg #[.string f.name, .int .i64 f.body, .slice a f.sorts.length c] ∧ f.sorts.length ≤ c ∧ OkF f ∧ SortsAt w a f.sorts := by
  obtain ⟨v0, v1, v2, y0, y1, y2, n, rfl, _, _, h0, h1, h2⟩ := open_agg3 Tryd.underlying24 (by kernel_rfl) cellsFount hv h
  obtain ⟨s0, e0, _, z0⟩ := DataW.trod_string Tryd.underlying9 h0
  obtain ⟨n1, e1, _, _⟩ := DataW.trod_int Tryd.underlying3 h1
  obtain ⟨a, c, l, rfl, hlc, hcm, hs, ho⟩ := open_sorts h2
  simp only [List.cons.injEq, and_true] at e0 e1
  subst e0 e1
  exact ⟨⟨s0, n1, l⟩, a, c, rfl, hlc, ⟨z0, Nat.le_trans hlc hcm, ho⟩, hs⟩

theorem open_nums {n : Nat} {v : Value} {x : DataW H × List MemPlace} (h : DataW.trod enc Tryd.prog w 0 (fun _ => true) true n 31 [v] = some x) :
    ∃ (a : Option Addr) (c : Nat) (l : List Int), v = .slice a l.length c ∧ l.length ≤ c ∧ c ≤ maxLen ∧ IntsAt w a l ∧ (a = none → c = 0) := by
  rcases open_slice1 Tryd.underlying31 cellsInt h with ⟨e, _⟩ | ⟨a, len, cap, m, k, V, D, Pl, e, _, hl, hm, hmm, _, hi⟩
  · simp only [List.cons.injEq, and_true] at e
    exact ⟨none, 0, [], e, Nat.le_refl _, Nat.zero_le _, fun k hk => absurd hk (Nat.not_lt_zero _), fun _ => rfl⟩
  · simp only [List.cons.injEq, and_true] at e
    have hmc : m = cap := by simpa using hmm
    subst hmc
    have hex : ∀ i, i < m → ∃ y : Int, w.cell? (a.add i) = some (.int .i64 y) := fun i him => by
      obtain ⟨hc', ht'⟩ := hi i him
      obtain ⟨y, ey, _, _⟩ := DataW.trod_int Tryd.underlying3 ht'
      simp only [List.cons.injEq, and_true] at ey
      exact ⟨y, by rw [hc', ey]⟩
    obtain ⟨X, hX⟩ := choose_lt hex
    refine ⟨some a, m, (List.range len).map X, by simpa using e, by simpa using hl, hm, fun k hk => ?_, fun e => by cases e⟩
    have hk' : k < len := by simpa using hk
    rw [range_getD len X 0 hk']
    have h1 := hX k (by omega)
    exact ⟨a, rfl, by have := cell_lt h1; rwa [add_block] at this, h1⟩

theorem open_lists {n : Nat} {v : Value} {x : DataW H × List MemPlace} (h : DataW.trod enc Tryd.prog w 0 (fun _ => true) true n 39 [v] = some x) :
    ∃ (a : Option Addr) (c : Nat) (ls : List IS), v = .slice a ls.length c ∧ ls.length ≤ c ∧ c ≤ maxLen ∧ ListsAt w a ls ∧ ∀ y ∈ ls, y.a = none → y.c = 0 := by
  rcases open_slice1 Tryd.underlying39 cellsInts h with ⟨e, _⟩ | ⟨a, len, cap, m, k, V, D, Pl, e, _, hl, hm, hmm, _, hi⟩
  · simp only [List.cons.injEq, and_true] at e
    exact ⟨none, 0, [], e, Nat.le_refl _, Nat.zero_le _, fun k hk => absurd hk (Nat.not_lt_zero _), fun y hy => by cases hy⟩
  · simp only [List.cons.injEq, and_true] at e
    have hmc : m = cap := by simpa using hmm
    subst hmc
    have hex : ∀ i, i < m → ∃ y : IS, w.cell? (a.add i) = some (.slice y.a y.l.length y.c) ∧ y.at_ w ∧ (y.a = none → y.c = 0) := fun i him => by
      obtain ⟨hc', ht'⟩ := hi i him
      obtain ⟨a2, c2, l2, e2, hl2, hm2, hi2, hn2⟩ := open_nums ht'
      exact ⟨⟨a2, c2, l2⟩, by rw [hc', e2], ⟨hi2, Nat.le_trans hl2 hm2⟩, hn2⟩
    obtain ⟨X, hX⟩ := choose_lt hex
    refine ⟨some a, m, (List.range len).map X, by simpa using e, by simpa using hl, hm, fun k hk => ?_, fun y hy => ?_⟩
    · have hk' : k < len := by simpa using hk
      rw [range_getD len X noIS hk']
      obtain ⟨h1, h2, _⟩ := hX k (by omega)
      exact ⟨a, rfl, by have := cell_lt h1; rwa [add_block] at this, h1, h2⟩
    · obtain ⟨i, hi', rfl⟩ := List.mem_map.1 hy
      exact (hX i (by have := List.mem_range.1 hi'; omega)).2.2

/-- All arguments read behind the call as they read before it, where nothing that was there has turned. -/
theorem args_again {P : Program} (hl : laidOutB P = true) {W W' : World} (hb : Below W.heap.size W W') : ∀ {ts : List TypeId} {vs : List Value} {ds : List (DataW H)} {ps : List MemPlace},
    (∀ t ∈ ts, P.readableRec t = true ∧ t < P.types.size) → DataW.TrodAll enc P W 0 (fun _ => true) true ts vs ds ps → (∀ x ∈ ps, x.block < W.heap.size) →
    DataW.TrodAll enc P W' 0 (fun b => decide (b < W.heap.size)) true ts vs ds ps := by
  intro ts
  induction ts with
  | nil =>
    intro vs ds ps _ h _
    obtain ⟨rfl, rfl, rfl⟩ := trodAll_nil h
    exact trodAll_mk0
  | cons t ts ih =>
    intro vs ds ps hr h hp
    obtain ⟨v, vs', d, ds', p, q, rfl, rfl, rfl, h0, h1⟩ := trodAll_cons h
    exact trodAll_cons_mk (Below.trod hl (hr t (by simp)).1 (hr t (by simp)).2 h0 hb (fun x hx => hp x (by simp [hx]))) (ih (fun t' ht' => hr t' (by simp [ht'])) h1 (fun x hx => hp x (by simp [hx])))
end
end Go.Proofs.YtebndgepmjonoaaDoor
/-
  From a row's condition to what the walks ask of the table of the kinds' lengths.
-/
namespace Go.Proofs.YtebndgepmjonoaaDoor
open Go.ChangeShapes Go.WideShapes Go.Deep Go.Joins Go.RowKit

theorem gTab : Tryd.prog.globalNamed "tympan/fount.printedBytes" = some 1 := by kernel_rfl
theorem gTabType : (Tryd.prog.globals[1]?).map (·.type) = some 128 := by kernel_rfl
theorem cellsTab : Tryd.prog.cellsOf 128 = 8 := by kernel_rfl
theorem cellsPair : Tryd.prog.cellsOf 127 = 2 := by kernel_rfl
theorem list8 {cs : List Value} (h : cs.length = 8) : ∃ c0 c1 c2 c3 c4 c5 c6 c7, cs = [c0, c1, c2, c3, c4, c5, c6, c7] := by
  match cs, h with
  | [c0, c1, c2, c3, c4, c5, c6, c7], _ => exact ⟨c0, c1, c2, c3, c4, c5, c6, c7, rfl⟩
set_option maxRecDepth 100000
theorem tab_of_read {H : Type} {enc : TypeId × Value → H} {W : World} {sp : Nat → Bool} {held : Bool} {base fuel : Nat} {cs : List Value} {p : List MemPlace}
    (hv : Tryd.prog.globalNamed "tympan/fount.printedBytes" = some 1 → W.var? Tryd.prog "tympan/fount.printedBytes" = some cs.toArray)
    (h : DataW.trod enc Tryd.prog W base sp held fuel 128 cs = some (Rows.laid_tympan_fount_printedBytes, p)) : TabOk W := by
  obtain ⟨xs, m, _, hx, hl, hxl, hi⟩ := DataW.trod_array Tryd.underlying128 h
  rw [cellsTab] at hl
  obtain ⟨c0, c1, c2, c3, c4, c5, c6, c7, rfl⟩ := list8 hl
  have hmap : xs.map (·.1) = [Lib.tabData .i64 [0, 0], Lib.tabData .i64 [1, 1], Lib.tabData .i64 [2, 4], Lib.tabData .i64 [0, 0]] := by
    have := congrArg Prod.fst hx
    unfold Rows.laid_tympan_fount_printedBytes at this
    injection this with h1
    exact h1.symm
  have row : ∀ i (zs : List Int), i < 4 → [Lib.tabData .i64 [0, 0], Lib.tabData .i64 [1, 1], Lib.tabData .i64 [2, 4], Lib.tabData (H := H) .i64 [0, 0]][i]? = some (Lib.tabData .i64 zs) →
      (([c0, c1, c2, c3, c4, c5, c6, c7] : List Value).drop (i * 2)).take 2 = zs.map fun z => Value.int .i64 z := by
    intro i zs hi4 he
    have h1 := hi i hi4
    rw [cellsPair] at h1
    rw [← hmap, List.getElem?_map] at he
    obtain ⟨y, hy, he2⟩ := Option.map_eq_some_iff.1 he
    rw [hy] at h1
    obtain ⟨y1, y2⟩ := y
    simp only at he2
    subst he2
    exact Lib.cells_of_tab Tryd.underlying127 Tryd.underlying3 cellsInt cellsPair h1
  have r1 := row 1 [1, 1] (by omega) rfl
  have r2 := row 2 [2, 4] (by omega) rfl
  have r3 := row 3 [0, 0] (by omega) rfl
  simp at r1 r2 r3
  obtain ⟨e2, e3⟩ := r1
  obtain ⟨e4, e5⟩ := r2
  obtain ⟨e6, e7⟩ := r3
  subst e2 e3 e4 e5 e6 e7
  have hc := World.var?_cell gTab (hv gTab)
  have k2 := hc 2; have k3 := hc 3; have k4 := hc 4; have k5 := hc 5; have k6 := hc 6; have k7 := hc 7
  simp at k2 k3 k4 k5 k6 k7
  exact ⟨cell_lt k2, k2, k3, k4, k5, k6, k7⟩

/-- The table is on the list: what the list says of it. -/
theorem tab_of_vars {W : World} : ∀ {laid : List (String × DataW Unit)} {ps : List MemPlace}, DataW.LaidVars Tryd.prog W laid ps → ("tympan/fount.printedBytes", Rows.laid_tympan_fount_printedBytes) ∈ laid → TabOk W := by
  intro laid
  induction laid with
  | nil => intro ps _ h; cases h
  | cons x r ih =>
    intro ps h hm
    obtain ⟨g', t', cs, fuel, p, q, hg', ht', hvar, hd, hr, _⟩ := h
    rcases List.mem_cons.1 hm with e | e
    · subst e
      obtain rfl := Option.some.inj (gTab.symm.trans hg')
      obtain rfl := Option.some.inj (gTabType.symm.trans ht')
      exact tab_of_read (fun _ => hvar) hd
    · exact ih hr e
end Go.Proofs.YtebndgepmjonoaaDoor

/-
  Opening further kinds of arguments: pairs of numbers, numbers, texts.
-/
namespace Go.Proofs.YtebndgepmjonoaaDoor
open Go.ChangeShapes Go.WideShapes Go.ChangeAt Go.RowKit
section
variable {H : Type} {enc : TypeId × Value → H} {w : World}
theorem okWide_arr {P : Program} {r : Reach} {b0 : Nat} {t e : TypeId} {n : Nat} {v : Value} (ht : P.underlying t = some (.array n e)) (h : Value.okWide P w r b0 t v) : ∃ cs, v = .agg cs ∧ cs.size = P.cellsOf t := by
  simp only [Value.okWide, ht] at h
  obtain ⟨cs, h1, h2, _⟩ := h
  exact ⟨cs, h1, h2⟩
set_option maxRecDepth 100000 in
theorem open_pair {r : Reach} {b0 : Nat} {v : Value} {d : DataW H} {p : List MemPlace} (hv : Value.okWide Tryd.prog w r b0 127 v) (h : DataW.Trod enc Tryd.prog w 0 (fun _ => true) true 127 v d p) :
    ∃ (x y : Int), v = .agg #[.int .i64 x, .int .i64 y] := by
  obtain ⟨cs, rfl, hsz⟩ := okWide_arr Tryd.underlying127 hv
  rw [cellsPair] at hsz
  obtain ⟨n, hf⟩ := h
  obtain ⟨l⟩ := cs
  match l, hsz with
  | [c0, c1], _ =>
    obtain ⟨xs, m, _, _, _, hxl, hi⟩ := DataW.trod_array Tryd.underlying127 hf
    have h0 := hi 0 (by omega)
    have h1 := hi 1 (by omega)
    simp [Value.cells, cellsInt] at h0 h1
    obtain ⟨x, e0, _, _⟩ := DataW.trod_int Tryd.underlying3 (h0.trans (List.getElem?_eq_getElem (by omega)))
    obtain ⟨y, e1, _, _⟩ := DataW.trod_int Tryd.underlying3 (h1.trans (List.getElem?_eq_getElem (by omega)))
    simp only [List.cons.injEq, and_true] at e0 e1
    exact ⟨x, y, by rw [e0, e1]⟩
end
end Go.Proofs.YtebndgepmjonoaaDoor

/-
  The tables of powers and of words, off the lists of laid variables.
-/
namespace Go.Proofs.YtebndgepmjonoaaDoor
open Go.ChangeShapes Go.WideShapes Go.ChangeAt Go.RowKit
theorem gPowType : (Tryd.prog.globals[3]?).map (·.type) = some 140 := by kernel_rfl
theorem cellsPow : Tryd.prog.cellsOf 140 = 20 := by kernel_rfl
theorem cellsU64 : Tryd.prog.cellsOf 131 = 1 := by kernel_rfl
theorem gWords : Tryd.prog.globalNamed "tympan/fount.kindWords" = some 0 := by kernel_rfl
theorem gWordsType : (Tryd.prog.globals[0]?).map (·.type) = some 90 := by kernel_rfl
theorem cellsWords : Tryd.prog.cellsOf 90 = 4 := by kernel_rfl
set_option maxRecDepth 100000
theorem pow_of_read {H : Type} {enc : TypeId × Value → H} {W : World} {sp : Nat → Bool} {held : Bool} {base fuel : Nat} {cs : List Value} {p : List MemPlace}
    (hv : W.var? Tryd.prog "internal/strconv.uint64pow10" = some cs.toArray)
    (h : DataW.trod enc Tryd.prog W base sp held fuel 140 cs = some (Rows.laid_internal_strconv_uint64pow10, p)) : PowOk W := by
  have h1 : cs = Lib.pow10Tab.map fun z => Value.int .u64 z := Lib.cells_of_tab Tryd.underlying140 Tryd.underlying131 cellsU64 cellsPow (by exact h)
  have hc := World.var?_cell gPow hv
  have c0 : W.cell? ⟨3, 0, none⟩ = some (.int .u64 1) := by rw [hc 0, h1]; rfl
  exact ⟨cell_lt c0, by unfold Lib.TabIs; rw [hv, h1]⟩
theorem words_of_read {H : Type} {enc : TypeId × Value → H} {W : World} {sp : Nat → Bool} {held : Bool} {base fuel : Nat} {cs : List Value} {p : List MemPlace}
    (hv : W.var? Tryd.prog "tympan/fount.kindWords" = some cs.toArray)
    (h : DataW.trod enc Tryd.prog W base sp held fuel 90 cs = some (Rows.laid_tympan_fount_kindWords, p)) : WordsOk W := by
  obtain ⟨xs, m, _, hx, hl, hxl, hi⟩ := DataW.trod_array Tryd.underlying90 h
  rw [cellsWords] at hl
  obtain ⟨c0, c1, c2, c3, rfl⟩ := list4 hl
  have hmap : xs.map (·.1) = [.lit (.string []), .lit (.string [108, 101, 116, 116, 101, 114]), .lit (.string [108, 105, 103, 97, 116, 117, 114, 101]), .lit (.string [115, 112, 97, 99, 101])] := by
    have := congrArg Prod.fst hx
    unfold Rows.laid_tympan_fount_kindWords at this
    injection this with h1
    exact h1.symm
  have row : ∀ i (z : List UInt8) (c : Value), i < 4 → [c0, c1, c2, c3][i]? = some c → ([.lit (.string []), .lit (.string [108, 101, 116, 116, 101, 114]), .lit (.string [108, 105, 103, 97, 116, 117, 114, 101]), .lit (.string [115, 112, 97, 99, 101])] : List (DataW H))[i]? = some (.lit (.string z)) → c = .string ⟨z.toArray⟩ := by
    intro i z c hi4 hc he
    have h1 := hi i hi4
    rw [cellsStr, Nat.mul_one] at h1
    rw [← hmap, List.getElem?_map] at he
    obtain ⟨y, hy, he2⟩ := Option.map_eq_some_iff.1 he
    rw [hy] at h1
    have h2 : (([c0, c1, c2, c3] : List Value).drop i).take 1 = [c] := by
      have hil : i < ([c0, c1, c2, c3] : List Value).length := by simpa using hi4
      rw [List.drop_eq_getElem_cons hil]
      rw [List.getElem?_eq_getElem hil] at hc
      rw [Option.some.inj hc]; rfl
    rw [h2] at h1
    obtain ⟨s, e, hd, _⟩ := DataW.trod_string Tryd.underlying9 h1
    simp only [List.cons.injEq, and_true] at e
    rw [e]
    rw [hd] at he2
    simp only [DataW.lit.injEq, Lit.string.injEq] at he2
    congr 1
    apply bytes_inj
    simpa using he2
  have r1 := row 1 _ c1 (by omega) rfl rfl
  have r2 := row 2 _ c2 (by omega) rfl rfl
  have r3 := row 3 _ c3 (by omega) rfl rfl
  subst r1 r2 r3
  have hc := World.var?_cell gWords hv
  have k1 := hc 1; have k2 := hc 2; have k3 := hc 3
  exact ⟨cell_lt (k1.trans rfl), k1.trans rfl, k2.trans rfl, k3.trans rfl⟩
theorem pow_of_vars {W : World} : ∀ {laid : List (String × DataW Unit)} {ps : List MemPlace}, DataW.LaidVars Tryd.prog W laid ps → ("internal/strconv.uint64pow10", Rows.laid_internal_strconv_uint64pow10) ∈ laid → PowOk W := by
  intro laid
  induction laid with
  | nil => intro ps _ h; cases h
  | cons x r ih =>
    intro ps h hm
    obtain ⟨g', t', cs, fuel, p, q, hg', ht', hvar, hd, hr, _⟩ := h
    rcases List.mem_cons.1 hm with e | e
    · subst e
      obtain rfl := Option.some.inj (gPow.symm.trans hg')
      obtain rfl := Option.some.inj (gPowType.symm.trans ht')
      exact pow_of_read hvar hd
    · exact ih hr e
theorem words_of_vars {W : World} : ∀ {laid : List (String × DataW Unit)} {ps : List MemPlace}, DataW.LaidVars Tryd.prog W laid ps → ("tympan/fount.kindWords", Rows.laid_tympan_fount_kindWords) ∈ laid → WordsOk W := by
  intro laid
  induction laid with
  | nil => intro ps _ h; cases h
  | cons x r ih =>
    intro ps h hm
    obtain ⟨g', t', cs, fuel, p, q, hg', ht', hvar, hd, hr, _⟩ := h
    rcases List.mem_cons.1 hm with e | e
    · subst e
      obtain rfl := Option.some.inj (gWords.symm.trans hg')
      obtain rfl := Option.some.inj (gWordsType.symm.trans ht')
      exact words_of_read hvar hd
    · exact ih hr e
end Go.Proofs.YtebndgepmjonoaaDoor

/-
  A world in which the five listed tables lie as they are listed: for the laws' witnesses.
-/
namespace Go.Proofs.YtebndgepmjonoaaDoor
open Go.ChangeShapes Go.WideShapes Go.ChangeAt Go.RowKit
def litsOf : DataW Unit → Array Value
  | .agg l => (l.map fun x => match x with | .lit q => q.value | _ => .nilIface).toArray
  | _ => #[]
def put (h : Array Obj) (g : Nat) (cs : Array Value) : Array Obj := h.modify g fun
  | .cells _ t frozen => .cells cs t frozen
  | o => o
def pairs0 : Array Value := #[.int .i64 0, .int .i64 0, .int .i64 1, .int .i64 1, .int .i64 2, .int .i64 4, .int .i64 0, .int .i64 0]
def lay5 (h : Array Obj) : Array Obj :=
  put (put (put (put (put h 4 (litsOf Rows.laid_math_bits_deBruijn32tab)) 5 (litsOf Rows.laid_math_bits_deBruijn64tab)) 3 (litsOf Rows.laid_internal_strconv_uint64pow10)) 1 pairs0) 0 (litsOf Rows.laid_tympan_fount_kindWords)
noncomputable def laidWorld5 (os : Os) : World := { World.holding Tryd.prog os ⟨#[], #[], []⟩ with heap := lay5 (World.holding Tryd.prog os ⟨#[], #[], []⟩).heap }
set_option maxRecDepth 100000 in
theorem laid_met5 (os : Os) (args : Array Value) : laidMet Tryd.prog Rows.fountChecksRow.laid ((laidWorld5 os).forCall (fun _ _ => 0) ⟨#[], args, []⟩).memory :=
  laidMet_of_run' 8 (by kernel_rfl) (by kernel_rfl)
end Go.Proofs.YtebndgepmjonoaaDoor

/-
  Opening further kinds of arguments: a number, a text.
-/
namespace Go.Proofs.YtebndgepmjonoaaDoor
open Go.ChangeShapes Go.WideShapes Go.ChangeAt Go.RowKit
set_option maxRecDepth 100000
section
variable {H : Type} {enc : TypeId × Value → H} {w : World}
theorem open_int {r : Reach} {b0 : Nat} {v : Value} (hv : Value.okWide Tryd.prog w r b0 3 v) : ∃ x : Int, v = .int .i64 x := by
  obtain ⟨x, rfl⟩ := okWide_int Tryd.underlying3 hv
  exact ⟨x, rfl⟩

theorem open_text {r : Reach} {b0 : Nat} {v : Value} {d : DataW H} {p : List MemPlace} (hv : Value.okWide Tryd.prog w r b0 9 v) (h : DataW.Trod enc Tryd.prog w 0 (fun _ => true) true 9 v d p) : ∃ s : ByteArray, v = .string s ∧ s.size ≤ maxLen := by
  obtain ⟨s, rfl⟩ := okWide_string Tryd.underlying9 hv
  obtain ⟨n, hf⟩ := h
  obtain ⟨s', e, _, hs⟩ := DataW.trod_string Tryd.underlying9 hf
  simp [Value.cells] at e
  exact ⟨s, rfl, by rw [e]; exact hs⟩
end
end Go.Proofs.YtebndgepmjonoaaDoor

/-
  Opening a fount, once more: a nil list has no spare places.
-/
namespace Go.Proofs.YtebndgepmjonoaaDoor
open Go.ChangeShapes Go.WideShapes Go.Deep Go.Joins Go.RowKit
set_option maxRecDepth 100000
section
variable {H : Type} {enc : TypeId × Value → H} {w : World}
theorem sorts_nil {n : Nat} {v : Value} {x : DataW H × List MemPlace} (h : DataW.trod enc Tryd.prog w 0 (fun _ => true) true n 22 [v] = some x) : ∀ len cap, v = .slice none len cap → cap = 0 := by
  intro len cap hv
  rcases open_slice Tryd.underlying22 h with ⟨e, _⟩ | ⟨a, l', c', m, k, D, Pl, e, _⟩
  · simp only [List.cons.injEq, and_true] at e
    rw [hv] at e; cases e; rfl
  · simp only [List.cons.injEq, and_true] at e
    rw [hv] at e; cases e
theorem fount_nil {r : Reach} {b0 : Nat} {v : Value} {d : DataW H} {p : List MemPlace} (hv : Value.okWide Tryd.prog w r b0 24 v) (h : DataW.Trod enc Tryd.prog w 0 (fun _ => true) true 24 v d p)
    {f : FT} {a : Option Addr} {c : Nat} (e : v = .agg #[.string f.name, .int .i64 f.body, .slice a f.sorts.length c]) : a = none → c = 0 := by
  intro ha
  obtain ⟨v0, v1, v2, y0, y1, y2, n, rfl, _, _, h0, h1, h2⟩ := open_agg3 Tryd.underlying24 (by kernel_rfl) cellsFount hv h
  injection e with e
  have e2 : v2 = .slice a f.sorts.length c := by
    have := congrArg (fun x : Array Value => x[2]?) e
    simpa using this
  subst ha
  exact sorts_nil h2 _ _ e2
end
end Go.Proofs.YtebndgepmjonoaaDoor
