/-
  What the world holds for the laws on words: the table of powers, the longest word that is looked for, the error.
-/
import Derived.Test.YtnpehnfcccdcbaaGreatDoorCY
import Derived.Test.YtnpehnfcccdcbaaGreatDoorRows
import Derived.Test.YtnpehnfcccdcbaaGreatDoorI0
import Derived.Lib.LaidTab
import Derived.Deep.DeepHandedRow
namespace Go.Proofs.YtnpehnfcccdcbaaGreatDoor
open Go.ChangeShapes Go.WideShapes Go.ChangeAt Go.RowKit
theorem gPowType : (Tryz.prog.globals[3]?).map (·.type) = some 168 := by kernel_rfl
theorem cellsPow : Tryz.prog.cellsOf 168 = 20 := by kernel_rfl
theorem cellsU64 : Tryz.prog.cellsOf 149 = 1 := by kernel_rfl
def PowT (W : World) : Prop := 3 < W.heap.size ∧ Lib.TabIs Tryz.prog W "internal/strconv.uint64pow10" .u64 Lib.pow10Tab
set_option maxRecDepth 100000
theorem pow_of_read {H : Type} {enc : TypeId × Value → H} {W : World} {sp : Nat → Bool} {held : Bool} {base fuel : Nat} {cs : List Value} {p : List MemPlace}
    (hv : W.var? Tryz.prog "internal/strconv.uint64pow10" = some cs.toArray)
    (h : DataW.trod enc Tryz.prog W base sp held fuel 168 cs = some (Rows.laid_internal_strconv_uint64pow10, p)) : PowT W := by
  have h1 : cs = Lib.pow10Tab.map fun z => Value.int .u64 z := Lib.cells_of_tab Tryz.underlying168 Tryz.underlying149 cellsU64 cellsPow (by exact h)
  have hc := World.var?_cell gPow hv
  have c0 : W.cell? ⟨3, 0, none⟩ = some (.int .u64 1) := by rw [hc 0, h1]; rfl
  exact ⟨cell_ltF c0, by unfold Lib.TabIs; rw [hv, h1]⟩
theorem pow_of_vars {W : World} : ∀ {laid : List (String × DataW Unit)} {ps : List MemPlace}, DataW.LaidVars Tryz.prog W laid ps → ("internal/strconv.uint64pow10", Rows.laid_internal_strconv_uint64pow10) ∈ laid → PowT W := by
  intro laid
  induction laid with
  | nil => intro ps _ h; cases h
  | cons x r ih =>
    intro ps h hm
    obtain ⟨g', t', cs, fuel, p, q, hg', ht', hvar, hd, hr, _⟩ := h
    rcases List.mem_cons.1 hm with e | e
    · subst e
      obtain rfl := Option.some.inj (gPow.symm.trans hg')
      obtain rfl := Option.some.inj (gPowType.symm.trans ht')
      exact pow_of_read hvar hd
    · exact ih hr e
/-- A variable of an interface type holds nil or something. -/
theorem iface_of_trod {H : Type} {enc : TypeId × Value → H} {P : Program} {t : TypeId} {ms : Array (String × TypeId)} (ht : P.underlying t = some (.interface ms)) {W : World} {base : Nat} {sp : Nat → Bool} {held : Bool} {fuel : Nat} {cs : List Value} {y : DataW H × List MemPlace} (h : DataW.trod enc P W base sp held fuel t cs = some y) : ∃ v, cs = [v] ∧ (v = .nilIface ∨ ∃ te pe, v = .iface te pe) := by
  cases fuel with
  | zero => simp [DataW.trod] at h
  | succ n =>
    match cs, h with
    | [], h => simp [DataW.trod, ht] at h
    | [v], h => cases v <;> simp [DataW.trod, ht] at h <;> simp
    | a :: b :: r, h => simp [DataW.trod, ht] at h
theorem gErr : Tryz.prog.globalNamed "strconv.ErrSyntax" = some 4 := by kernel_rfl
theorem gErrType : (Tryz.prog.globals[4]?).map (·.type) = some 74 := by kernel_rfl
def ErrT (W : World) : Prop := ∃ ev, W.cell? ⟨4, 0, none⟩ = some ev ∧ (ev = .nilIface ∨ ∃ te pe, ev = .iface te pe)
theorem err_of_vars {W : World} : ∀ {laid : List (String × DataW Unit)} {ps : List MemPlace}, DataW.LaidVars Tryz.prog W laid ps → ("strconv.ErrSyntax", Rows.laid_strconv_ErrSyntax) ∈ laid → ErrT W := by
  intro laid
  induction laid with
  | nil => intro ps _ h; cases h
  | cons x r ih =>
    intro ps h hm
    obtain ⟨g', t', cs, fuel, p, q, hg', ht', hvar, hd, hr, _⟩ := h
    rcases List.mem_cons.1 hm with e | e
    · subst e
      obtain rfl := Option.some.inj (gErr.symm.trans hg')
      obtain rfl := Option.some.inj (gErrType.symm.trans ht')
      obtain ⟨v, hcs, hv⟩ := iface_of_trod Tryz.underlying74 hd
      obtain rfl : cs = #[v] := by cases cs; simp_all
      exact ⟨v, by rw [World.var?_cell gErr hvar 0]; rfl, hv⟩
    · exact ih hr e
theorem max_of_shape {W : World} (h : W.ShapedOpen Tryz.prog) : ∃ m, W.cell? ⟨0, 0, none⟩ = some (.int .i64 m) :=
  cell_of_shapedOpen_int (zero := #[.int .i64 0]) (t := 3) h (of_decide_eq_true (by kernel_rfl)) (by kernel_rfl) rfl (by kernel_rfl) (by kernel_rfl) Tryz.underlying3
theorem wf_of {W : World} {laid : List (String × DataW Unit)} (hs : W.ShapedOpen Tryz.prog) (hL : laidMet Tryz.prog laid W) (h1 : ("internal/strconv.uint64pow10", Rows.laid_internal_strconv_uint64pow10) ∈ laid) (h2 : ("strconv.ErrSyntax", Rows.laid_strconv_ErrSyntax) ∈ laid) : WF W := by
  obtain ⟨ps, hl, _⟩ := hL
  obtain ⟨p1, p2⟩ := pow_of_vars hl h1
  exact ⟨p1, p2, max_of_shape hs, err_of_vars hl h2⟩
theorem open_wordW {H : Type} {enc : TypeId × Value → H} {w : World} {r : Reach} {b0 : Nat} {v : Value} {d : DataW H} {p : List MemPlace} (hv : Value.okWide Tryz.prog w r b0 9 v) (h : DataW.Trod enc Tryz.prog w 0 (fun _ => true) true 9 v d p) : ∃ s : ByteArray, v = .string s ∧ s.size ≤ maxLen := by
  obtain ⟨s, rfl⟩ := okWide_string Tryz.underlying9 hv
  obtain ⟨n, hf⟩ := h
  obtain ⟨s', e, _, hs⟩ := DataW.trod_string Tryz.underlying9 hf
  simp [Value.cells] at e
  exact ⟨s, rfl, by rw [e]; exact hs⟩
end Go.Proofs.YtnpehnfcccdcbaaGreatDoor
