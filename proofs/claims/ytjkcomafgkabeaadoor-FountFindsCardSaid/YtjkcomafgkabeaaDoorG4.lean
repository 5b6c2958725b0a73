/-
  The tables of powers and of words, off the lists of laid variables.
-/
import Derived.Test.YtjkcomafgkabeaaDoorG3
import Derived.Test.YtjkcomafgkabeaaDoorN6
namespace Go.Proofs.YtjkcomafgkabeaaDoor
open Go.ChangeShapes Go.WideShapes Go.ChangeAt Go.RowKit
theorem gPowType : (Tryd.prog.globals[3]?).map (·.type) = some 168 := by kernel_rfl
theorem cellsPow : Tryd.prog.cellsOf 168 = 20 := by kernel_rfl
theorem cellsU64 : Tryd.prog.cellsOf 159 = 1 := by kernel_rfl
theorem gWords : Tryd.prog.globalNamed "tympan/fount.kindWords" = some 0 := by kernel_rfl
theorem gWordsType : (Tryd.prog.globals[0]?).map (·.type) = some 122 := by kernel_rfl
theorem cellsWords : Tryd.prog.cellsOf 122 = 4 := by kernel_rfl
set_option maxRecDepth 100000
theorem pow_of_read {H : Type} {enc : TypeId × Value → H} {W : World} {sp : Nat → Bool} {held : Bool} {base fuel : Nat} {cs : List Value} {p : List MemPlace}
    (hv : W.var? Tryd.prog "internal/strconv.uint64pow10" = some cs.toArray)
    (h : DataW.trod enc Tryd.prog W base sp held fuel 168 cs = some (Rows.laid_internal_strconv_uint64pow10, p)) : PowOk W := by
  have h1 : cs = Lib.pow10Tab.map fun z => Value.int .u64 z := Lib.cells_of_tab Tryd.underlying168 Tryd.underlying159 cellsU64 cellsPow (by exact h)
  have hc := World.var?_cell gPow hv
  have c0 : W.cell? ⟨3, 0, none⟩ = some (.int .u64 1) := by rw [hc 0, h1]; rfl
  exact ⟨cell_lt c0, by unfold Lib.TabIs; rw [hv, h1]⟩
theorem words_of_read {H : Type} {enc : TypeId × Value → H} {W : World} {sp : Nat → Bool} {held : Bool} {base fuel : Nat} {cs : List Value} {p : List MemPlace}
    (hv : W.var? Tryd.prog "tympan/fount.kindWords" = some cs.toArray)
    (h : DataW.trod enc Tryd.prog W base sp held fuel 122 cs = some (Rows.laid_tympan_fount_kindWords, p)) : WordsOk W := by
  obtain ⟨xs, m, _, hx, hl, hxl, hi⟩ := DataW.trod_array Tryd.underlying122 h
  rw [cellsWords] at hl
  obtain ⟨c0, c1, c2, c3, rfl⟩ := list4 hl
  have hmap : xs.map (·.1) = [.lit (.string []), .lit (.string [108, 101, 116, 116, 101, 114]), .lit (.string [108, 105, 103, 97, 116, 117, 114, 101]), .lit (.string [115, 112, 97, 99, 101])] := by
    have := congrArg Prod.fst hx
    unfold Rows.laid_tympan_fount_kindWords at this
    injection this with h1
    exact h1.symm
  have row : ∀ i (z : List UInt8) (c : Value), i < 4 → [c0, c1, c2, c3][i]? = some c → ([.lit (.string []), .lit (.string [108, 101, 116, 116, 101, 114]), .lit (.string [108, 105, 103, 97, 116, 117, 114, 101]), .lit (.string [115, 112, 97, 99, 101])] : List (DataW H))[i]? = some (.lit (.string z)) → c = .string ⟨z.toArray⟩ := by
    intro i z c hi4 hc he
    have h1 := hi i hi4
    rw [cellsStr, Nat.mul_one] at h1
    rw [← hmap, List.getElem?_map] at he
    obtain ⟨y, hy, he2⟩ := Option.map_eq_some_iff.1 he
    rw [hy] at h1
    have h2 : (([c0, c1, c2, c3] : List Value).drop i).take 1 = [c] := by
      have hil : i < ([c0, c1, c2, c3] : List Value).length := by simpa using hi4
      rw [List.drop_eq_getElem_cons hil]
      rw [List.getElem?_eq_getElem hil] at hc
      rw [Option.some.inj hc]; rfl
    rw [h2] at h1
    obtain ⟨s, e, hd, _⟩ := DataW.trod_string Tryd.underlying9 h1
    simp only [List.cons.injEq, and_true] at e
    rw [e]
    rw [hd] at he2
    simp only [DataW.lit.injEq, Lit.string.injEq] at he2
    congr 1
    apply bytes_inj
    simpa using he2
  have r1 := row 1 _ c1 (by omega) rfl rfl
  have r2 := row 2 _ c2 (by omega) rfl rfl
  have r3 := row 3 _ c3 (by omega) rfl rfl
  subst r1 r2 r3
  have hc := World.var?_cell gWords hv
  have k1 := hc 1; have k2 := hc 2; have k3 := hc 3
  exact ⟨cell_lt (k1.trans rfl), k1.trans rfl, k2.trans rfl, k3.trans rfl⟩
theorem pow_of_vars {W : World} : ∀ {laid : List (String × DataW Unit)} {ps : List MemPlace}, DataW.LaidVars Tryd.prog W laid ps → ("internal/strconv.uint64pow10", Rows.laid_internal_strconv_uint64pow10) ∈ laid → PowOk W := by
  intro laid
  induction laid with
  | nil => intro ps _ h; cases h
  | cons x r ih =>
    intro ps h hm
    obtain ⟨g', t', cs, fuel, p, q, hg', ht', hvar, hd, hr, _⟩ := h
    rcases List.mem_cons.1 hm with e | e
    · subst e
      obtain rfl := Option.some.inj (gPow.symm.trans hg')
      obtain rfl := Option.some.inj (gPowType.symm.trans ht')
      exact pow_of_read hvar hd
    · exact ih hr e
theorem words_of_vars {W : World} : ∀ {laid : List (String × DataW Unit)} {ps : List MemPlace}, DataW.LaidVars Tryd.prog W laid ps → ("tympan/fount.kindWords", Rows.laid_tympan_fount_kindWords) ∈ laid → WordsOk W := by
  intro laid
  induction laid with
  | nil => intro ps _ h; cases h
  | cons x r ih =>
    intro ps h hm
    obtain ⟨g', t', cs, fuel, p, q, hg', ht', hvar, hd, hr, _⟩ := h
    rcases List.mem_cons.1 hm with e | e
    · subst e
      obtain rfl := Option.some.inj (gWords.symm.trans hg')
      obtain rfl := Option.some.inj (gWordsType.symm.trans ht')
      exact words_of_read hvar hd
    · exact ih hr e
end Go.Proofs.YtjkcomafgkabeaaDoor
