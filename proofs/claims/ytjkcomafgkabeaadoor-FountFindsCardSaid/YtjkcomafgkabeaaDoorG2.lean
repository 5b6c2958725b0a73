/-
  From a row's condition to what the walks ask of the table of the kinds' lengths.
-/
import Derived.Test.YtjkcomafgkabeaaDoorG1
import Derived.Lib.LaidTab
import Derived.Test.YtjkcomafgkabeaaDoorRows
namespace Go.Proofs.YtjkcomafgkabeaaDoor
open Go.ChangeShapes Go.WideShapes Go.Deep Go.Joins Go.RowKit

theorem gTab : Tryd.prog.globalNamed "tympan/fount.printedBytes" = some 1 := by kernel_rfl
theorem gTabType : (Tryd.prog.globals[1]?).map (·.type) = some 156 := by kernel_rfl
theorem cellsTab : Tryd.prog.cellsOf 156 = 8 := by kernel_rfl
theorem cellsPair : Tryd.prog.cellsOf 92 = 2 := by kernel_rfl
theorem list8 {cs : List Value} (h : cs.length = 8) : ∃ c0 c1 c2 c3 c4 c5 c6 c7, cs = [c0, c1, c2, c3, c4, c5, c6, c7] := by
  match cs, h with
  | [c0, c1, c2, c3, c4, c5, c6, c7], _ => exact ⟨c0, c1, c2, c3, c4, c5, c6, c7, rfl⟩
set_option maxRecDepth 100000
theorem tab_of_read {H : Type} {enc : TypeId × Value → H} {W : World} {sp : Nat → Bool} {held : Bool} {base fuel : Nat} {cs : List Value} {p : List MemPlace}
    (hv : Tryd.prog.globalNamed "tympan/fount.printedBytes" = some 1 → W.var? Tryd.prog "tympan/fount.printedBytes" = some cs.toArray)
    (h : DataW.trod enc Tryd.prog W base sp held fuel 156 cs = some (Rows.laid_tympan_fount_printedBytes, p)) : TabOk W := by
  obtain ⟨xs, m, _, hx, hl, hxl, hi⟩ := DataW.trod_array Tryd.underlying156 h
  rw [cellsTab] at hl
  obtain ⟨c0, c1, c2, c3, c4, c5, c6, c7, rfl⟩ := list8 hl
  have hmap : xs.map (·.1) = [Lib.tabData .i64 [0, 0], Lib.tabData .i64 [1, 1], Lib.tabData .i64 [2, 4], Lib.tabData .i64 [0, 0]] := by
    have := congrArg Prod.fst hx
    unfold Rows.laid_tympan_fount_printedBytes at this
    injection this with h1
    exact h1.symm
  have row : ∀ i (zs : List Int), i < 4 → [Lib.tabData .i64 [0, 0], Lib.tabData .i64 [1, 1], Lib.tabData .i64 [2, 4], Lib.tabData (H := H) .i64 [0, 0]][i]? = some (Lib.tabData .i64 zs) →
      (([c0, c1, c2, c3, c4, c5, c6, c7] : List Value).drop (i * 2)).take 2 = zs.map fun z => Value.int .i64 z := by
    intro i zs hi4 he
    have h1 := hi i hi4
    rw [cellsPair] at h1
    rw [← hmap, List.getElem?_map] at he
    obtain ⟨y, hy, he2⟩ := Option.map_eq_some_iff.1 he
    rw [hy] at h1
    obtain ⟨y1, y2⟩ := y
    simp only at he2
    subst he2
    exact Lib.cells_of_tab Tryd.underlying92 Tryd.underlying3 cellsInt cellsPair h1
  have r1 := row 1 [1, 1] (by omega) rfl
  have r2 := row 2 [2, 4] (by omega) rfl
  have r3 := row 3 [0, 0] (by omega) rfl
  simp at r1 r2 r3
  obtain ⟨e2, e3⟩ := r1
  obtain ⟨e4, e5⟩ := r2
  obtain ⟨e6, e7⟩ := r3
  subst e2 e3 e4 e5 e6 e7
  have hc := World.var?_cell gTab (hv gTab)
  have k2 := hc 2; have k3 := hc 3; have k4 := hc 4; have k5 := hc 5; have k6 := hc 6; have k7 := hc 7
  simp at k2 k3 k4 k5 k6 k7
  exact ⟨cell_lt k2, k2, k3, k4, k5, k6, k7⟩

/-- The table is on the list: what the list says of it. -/
theorem tab_of_vars {W : World} : ∀ {laid : List (String × DataW Unit)} {ps : List MemPlace}, DataW.LaidVars Tryd.prog W laid ps → ("tympan/fount.printedBytes", Rows.laid_tympan_fount_printedBytes) ∈ laid → TabOk W := by
  intro laid
  induction laid with
  | nil => intro ps _ h; cases h
  | cons x r ih =>
    intro ps h hm
    obtain ⟨g', t', cs, fuel, p, q, hg', ht', hvar, hd, hr, _⟩ := h
    rcases List.mem_cons.1 hm with e | e
    · subst e
      obtain rfl := Option.some.inj (gTab.symm.trans hg')
      obtain rfl := Option.some.inj (gTabType.symm.trans ht')
      exact tab_of_read (fun _ => hvar) hd
    · exact ih hr e
end Go.Proofs.YtjkcomafgkabeaaDoor
