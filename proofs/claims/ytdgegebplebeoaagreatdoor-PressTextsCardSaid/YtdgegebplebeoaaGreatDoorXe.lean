/-
  What the world holds for the laws on words: the table of powers, the longest word that is looked for, the error.
-/
import Derived.Test.YtdgegebplebeoaaGreatDoorXb
import Derived.Test.YtdgegebplebeoaaGreatDoorRows
import Derived.Test.YtdgegebplebeoaaGreatDoorMD
import Derived.Lib.LaidTab
import Derived.Deep.DeepHandedRow
namespace Go.Proofs.YtdgegebplebeoaaGreatDoor
open Go.ChangeShapes Go.WideShapes Go.ChangeAt Go.RowKit
theorem gPowType : (Tryz.prog.globals[0]?).map (·.type) = some 187 := by kernel_rfl
theorem cellsPow : Tryz.prog.cellsOf 187 = 20 := by kernel_rfl
theorem cellsU64 : Tryz.prog.cellsOf 156 = 1 := by kernel_rfl
def PowT (W : World) : Prop := 0 < W.heap.size ∧ Lib.TabIs Tryz.prog W "internal/strconv.uint64pow10" .u64 Lib.pow10Tab
set_option maxRecDepth 100000
theorem pow_of_read {H : Type} {enc : TypeId × Value → H} {W : World} {sp : Nat → Bool} {held : Bool} {base fuel : Nat} {cs : List Value} {p : List MemPlace}
    (hv : W.var? Tryz.prog "internal/strconv.uint64pow10" = some cs.toArray)
    (h : DataW.trod enc Tryz.prog W base sp held fuel 187 cs = some (Rows.laid_internal_strconv_uint64pow10, p)) : PowT W := by
  have h1 : cs = Lib.pow10Tab.map fun z => Value.int .u64 z := Lib.cells_of_tab Tryz.underlying187 Tryz.underlying156 cellsU64 cellsPow (by exact h)
  have hc := World.var?_cell gPow hv
  have c0 : W.cell? ⟨0, 0, none⟩ = some (.int .u64 1) := by rw [hc 0, h1]; rfl
  exact ⟨cell_ltF c0, by unfold Lib.TabIs; rw [hv, h1]⟩
theorem pow_of_vars {W : World} : ∀ {laid : List (String × DataW Unit)} {ps : List MemPlace}, DataW.LaidVars Tryz.prog W laid ps → ("internal/strconv.uint64pow10", Rows.laid_internal_strconv_uint64pow10) ∈ laid → PowT W := by
  intro laid
  induction laid with
  | nil => intro ps _ h; cases h
  | cons x r ih =>
    intro ps h hm
    obtain ⟨g', t', cs, fuel, p, q, hg', ht', hvar, hd, hr, _⟩ := h
    rcases List.mem_cons.1 hm with e | e
    · subst e
      obtain rfl := Option.some.inj (gPow.symm.trans hg')
      obtain rfl := Option.some.inj (gPowType.symm.trans ht')
      exact pow_of_read hvar hd
    · exact ih hr e
/-- A variable of an interface type holds nil or something. -/
theorem iface_of_trod {H : Type} {enc : TypeId × Value → H} {P : Program} {t : TypeId} {ms : Array (String × TypeId)} (ht : P.underlying t = some (.interface ms)) {W : World} {base : Nat} {sp : Nat → Bool} {held : Bool} {fuel : Nat} {cs : List Value} {y : DataW H × List MemPlace} (h : DataW.trod enc P W base sp held fuel t cs = some y) : ∃ v, cs = [v] ∧ (v = .nilIface ∨ ∃ te pe, v = .iface te pe) := by
  cases fuel with
  | zero => simp [DataW.trod] at h
  | succ n =>
    match cs, h with
    | [], h => simp [DataW.trod, ht] at h
    | [v], h => cases v <;> simp [DataW.trod, ht] at h <;> simp
    | a :: b :: r, h => simp [DataW.trod, ht] at h
theorem gErr : Tryz.prog.globalNamed "strconv.ErrSyntax" = some 2 := by kernel_rfl
theorem gErrType : (Tryz.prog.globals[2]?).map (·.type) = some 106 := by kernel_rfl
def ErrT (W : World) : Prop := ∃ ev, W.cell? ⟨2, 0, none⟩ = some ev ∧ (ev = .nilIface ∨ ∃ te pe, ev = .iface te pe)
theorem err_of_vars {W : World} : ∀ {laid : List (String × DataW Unit)} {ps : List MemPlace}, DataW.LaidVars Tryz.prog W laid ps → ("strconv.ErrSyntax", Rows.laid_strconv_ErrSyntax) ∈ laid → ErrT W := by
  intro laid
  induction laid with
  | nil => intro ps _ h; cases h
  | cons x r ih =>
    intro ps h hm
    obtain ⟨g', t', cs, fuel, p, q, hg', ht', hvar, hd, hr, _⟩ := h
    rcases List.mem_cons.1 hm with e | e
    · subst e
      obtain rfl := Option.some.inj (gErr.symm.trans hg')
      obtain rfl := Option.some.inj (gErrType.symm.trans ht')
      obtain ⟨v, hcs, hv⟩ := iface_of_trod Tryz.underlying106 hd
      obtain rfl : cs = #[v] := by cases cs; simp_all
      exact ⟨v, by rw [World.var?_cell gErr hvar 0]; rfl, hv⟩
    · exact ih hr e
theorem max_of_shape {W : World} (h : W.ShapedOpen Tryz.prog) : ∃ m, W.cell? ⟨1, 0, none⟩ = some (.int .i64 m) :=
  cell_of_shapedOpen_int (zero := #[.int .i64 0]) (t := 3) h (of_decide_eq_true (by kernel_rfl)) (by kernel_rfl) rfl (by kernel_rfl) (by kernel_rfl) Tryz.underlying3
theorem wf_of {W : World} {laid : List (String × DataW Unit)} (hs : W.ShapedOpen Tryz.prog) (hL : laidMet Tryz.prog laid W) (h1 : ("internal/strconv.uint64pow10", Rows.laid_internal_strconv_uint64pow10) ∈ laid) (h2 : ("strconv.ErrSyntax", Rows.laid_strconv_ErrSyntax) ∈ laid) : WF W := by
  obtain ⟨ps, hl, _⟩ := hL
  obtain ⟨p1, p2⟩ := pow_of_vars hl h1
  exact ⟨p1, p2, max_of_shape hs, err_of_vars hl h2⟩
theorem open_wordW {H : Type} {enc : TypeId × Value → H} {w : World} {r : Reach} {b0 : Nat} {v : Value} {d : DataW H} {p : List MemPlace} (hv : Value.okWide Tryz.prog w r b0 9 v) (h : DataW.Trod enc Tryz.prog w 0 (fun _ => true) true 9 v d p) : ∃ s : ByteArray, v = .string s ∧ s.size ≤ maxLen := by
  obtain ⟨s, rfl⟩ := okWide_string Tryz.underlying9 hv
  obtain ⟨n, hf⟩ := h
  obtain ⟨s', e, _, hs⟩ := DataW.trod_string Tryz.underlying9 hf
  simp [Value.cells] at e
  exact ⟨s, rfl, by rw [e]; exact hs⟩
theorem open_run2 {H : Type} {enc : TypeId × Value → H} {w : World} {r : Reach} {b0 : Nat} {v : Value} {d : DataW H} {p : List MemPlace} (hv : Value.okWide Tryz.prog w r b0 24 v) (h : DataW.Trod enc Tryz.prog w 0 (fun _ => true) true 24 v d p) :
    ∃ (X : Run) (a : Option Addr) (c : Nat), v = .agg #[.string X.job, .int .i64 X.day, .int .i64 X.wanted, .int .i64 X.given, .slice a X.cols.length c, .int .i64 X.ready, .int .i64 X.hour] ∧
      X.job.size ≤ maxLen ∧ X.cols.length ≤ c ∧ c ≤ maxLen ∧ RowsG 1 tx w a X.cols ∧ (a = none → c = 0) ∧ (∀ s ∈ X.cols, s.size ≤ maxLen) ∧ (OkI X.day ∧ OkI X.wanted ∧ OkI X.given ∧ OkI X.ready ∧ OkI X.hour) := by
  obtain ⟨cs, rfl, hsz⟩ := okWide_struct Tryz.underlying24 hv
  obtain ⟨k⟩ := cs
  match k, hsz.trans cellsRun9 with
  | [c0, c1, c2, c3, c4, c5, c6], _ =>
    obtain ⟨fuel, hf⟩ := h
    obtain ⟨xs, n, _, _, _, hlen, hg⟩ := DataW.trod_struct Tryz.underlying24 hf
    match xs, hlen with
    | [y0, y1, y2, y3, y4, y5, y6], _ =>
      obtain ⟨s0, rfl, w0⟩ := str_read (n := n) (c := c0) (y := y0) (by simpa [Value.cells, cellsStr9] using hg 0 _ rfl)
      obtain ⟨x1, rfl, w1⟩ := int_read (n := n) (c := c1) (y := y1) (by simpa [Value.cells, cellsInt] using hg 1 _ rfl)
      obtain ⟨x2, rfl, w2⟩ := int_read (n := n) (c := c2) (y := y2) (by simpa [Value.cells, cellsInt] using hg 2 _ rfl)
      obtain ⟨x3, rfl, w3⟩ := int_read (n := n) (c := c3) (y := y3) (by simpa [Value.cells, cellsInt] using hg 3 _ rfl)
      obtain ⟨a, c, l, rfl, h1, h2, h3, h4, h5⟩ := open_strs (n := n) (v := c4) (x := y4) (by simpa [Value.cells, cellsTxs9] using hg 4 _ rfl)
      obtain ⟨x5, rfl, w5⟩ := int_read (n := n) (c := c5) (y := y5) (by simpa [Value.cells, cellsInt] using hg 5 _ rfl)
      obtain ⟨x6, rfl, w6⟩ := int_read (n := n) (c := c6) (y := y6) (by simpa [Value.cells, cellsInt] using hg 6 _ rfl)
      exact ⟨⟨s0, x1, x2, x3, l, x5, x6⟩, a, c, rfl, w0, h1, h2, h3, h4, h5, ⟨w1, w2, w3, w5, w6⟩⟩
end Go.Proofs.YtdgegebplebeoaaGreatDoor
