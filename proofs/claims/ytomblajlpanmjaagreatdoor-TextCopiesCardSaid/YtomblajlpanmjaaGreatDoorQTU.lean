/-
  Opening the arguments: a fount, a list of numbers, a list of such lists, as they lie in memory.
-/
import Derived.Test.YtomblajlpanmjaaGreatDoorZD
import Derived.Deep.Slices
import Derived.Lib.SmallJoins
import Derived.ProofKit
import Derived.OpenShut
import Derived.Lib.LaidTab
import Derived.Test.YtomblajlpanmjaaGreatDoorRows
import Derived.Deep.DeepHandedRow
import Derived.Lay
import Derived.JoinedCond
import Derived.Shelf.Vars

namespace Go.Proofs.YtomblajlpanmjaaGreatDoor
open Go.ChangeShapes Go.WideShapes Go.Deep Go.Joins Go.RowKit

theorem cellsInt : Tryz.prog.cellsOf 3 = 1 := by kernel_rfl
theorem cellsStr : Tryz.prog.cellsOf 9 = 1 := by kernel_rfl
theorem cell_lt {w : World} {p : Addr} {v : Value} (h : w.cell? p = some v) : p.block < w.heap.size := World.block_lt_of_cell? w p h
theorem add_one {a : Addr} {j : Nat} (h : j ≠ 0) : a.add j = ⟨a.block, a.off + j, none⟩ := by unfold Addr.add; rw [if_neg h]
theorem add_zero (a : Addr) : a.add 0 = a := by unfold Addr.add; rw [if_pos rfl]
theorem range_getD {α : Type} (n : Nat) (fn : Nat → α) (d : α) {k : Nat} (h : k < n) : ((List.range n).map fn).getD k d = fn k := by
  rw [List.getD_eq_getElem?_getD, List.getElem?_map, List.getElem?_range h]; try rfl

section
variable {H : Type} {enc : TypeId × Value → H} {w : World}

/-- All arguments read behind the call as they read before it, where nothing that was there has turned. -/
theorem args_again {P : Program} (hl : laidOutB P = true) {W W' : World} (hb : Below W.heap.size W W') : ∀ {ts : List TypeId} {vs : List Value} {ds : List (DataW H)} {ps : List MemPlace},
    (∀ t ∈ ts, P.readableRec t = true ∧ t < P.types.size) → DataW.TrodAll enc P W 0 (fun _ => true) true ts vs ds ps → (∀ x ∈ ps, x.block < W.heap.size) →
    DataW.TrodAll enc P W' 0 (fun b => decide (b < W.heap.size)) true ts vs ds ps := by
  intro ts
  induction ts with
  | nil =>
    intro vs ds ps _ h _
    obtain ⟨rfl, rfl, rfl⟩ := trodAll_nil h
    exact trodAll_mk0
  | cons t ts ih =>
    intro vs ds ps hr h hp
    obtain ⟨v, vs', d, ds', p, q, rfl, rfl, rfl, h0, h1⟩ := trodAll_cons h
    exact trodAll_cons_mk (Below.trod hl (hr t (by simp)).1 (hr t (by simp)).2 h0 hb (fun x hx => hp x (by simp [hx]))) (ih (fun t' ht' => hr t' (by simp [ht'])) h1 (fun x hx => hp x (by simp [hx])))
end
end Go.Proofs.YtomblajlpanmjaaGreatDoor

namespace Go.Proofs.YtomblajlpanmjaaGreatDoor
open Go.ChangeShapes Go.WideShapes Go.Deep Go.Joins Go.RowKit

theorem gTab : Tryz.prog.globalNamed "tympan/fount.printedBytes" = some 1 := by kernel_rfl
theorem gTabType : (Tryz.prog.globals[1]?).map (·.type) = some 264 := by kernel_rfl
theorem cellsTab : Tryz.prog.cellsOf 264 = 8 := by kernel_rfl
theorem cellsPair : Tryz.prog.cellsOf 263 = 2 := by kernel_rfl
theorem list8 {cs : List Value} (h : cs.length = 8) : ∃ c0 c1 c2 c3 c4 c5 c6 c7, cs = [c0, c1, c2, c3, c4, c5, c6, c7] := by
  match cs, h with
  | [c0, c1, c2, c3, c4, c5, c6, c7], _ => exact ⟨c0, c1, c2, c3, c4, c5, c6, c7, rfl⟩
set_option maxRecDepth 100000
theorem tab_of_read {H : Type} {enc : TypeId × Value → H} {W : World} {sp : Nat → Bool} {held : Bool} {base fuel : Nat} {cs : List Value} {p : List MemPlace}
    (hv : Tryz.prog.globalNamed "tympan/fount.printedBytes" = some 1 → W.var? Tryz.prog "tympan/fount.printedBytes" = some cs.toArray)
    (h : DataW.trod enc Tryz.prog W base sp held fuel 264 cs = some (Rows.laid_tympan_fount_printedBytes, p)) : TabOk W := by
  obtain ⟨xs, m, _, hx, hl, hxl, hi⟩ := DataW.trod_array Tryz.underlying264 h
  rw [cellsTab] at hl
  obtain ⟨c0, c1, c2, c3, c4, c5, c6, c7, rfl⟩ := list8 hl
  have hmap : xs.map (·.1) = [Lib.tabData .i64 [0, 0], Lib.tabData .i64 [1, 1], Lib.tabData .i64 [2, 4], Lib.tabData .i64 [0, 0]] := by
    have := congrArg Prod.fst hx
    unfold Rows.laid_tympan_fount_printedBytes at this
    injection this with h1
    exact h1.symm
  have row : ∀ i (zs : List Int), i < 4 → [Lib.tabData .i64 [0, 0], Lib.tabData .i64 [1, 1], Lib.tabData .i64 [2, 4], Lib.tabData (H := H) .i64 [0, 0]][i]? = some (Lib.tabData .i64 zs) →
      (([c0, c1, c2, c3, c4, c5, c6, c7] : List Value).drop (i * 2)).take 2 = zs.map fun z => Value.int .i64 z := by
    intro i zs hi4 he
    have h1 := hi i hi4
    rw [cellsPair] at h1
    rw [← hmap, List.getElem?_map] at he
    obtain ⟨y, hy, he2⟩ := Option.map_eq_some_iff.1 he
    rw [hy] at h1
    obtain ⟨y1, y2⟩ := y
    simp only at he2
    subst he2
    exact Lib.cells_of_tab Tryz.underlying263 Tryz.underlying3 cellsInt cellsPair h1
  have r1 := row 1 [1, 1] (by omega) rfl
  have r2 := row 2 [2, 4] (by omega) rfl
  have r3 := row 3 [0, 0] (by omega) rfl
  simp at r1 r2 r3
  obtain ⟨e2, e3⟩ := r1
  obtain ⟨e4, e5⟩ := r2
  obtain ⟨e6, e7⟩ := r3
  subst e2 e3 e4 e5 e6 e7
  have hc := World.var?_cell gTab (hv gTab)
  have k2 := hc 2; have k3 := hc 3; have k4 := hc 4; have k5 := hc 5; have k6 := hc 6; have k7 := hc 7
  simp at k2 k3 k4 k5 k6 k7
  exact ⟨cell_lt k2, k2, k3, k4, k5, k6, k7⟩

/-- The table is on the list: what the list says of it. -/
theorem tab_of_vars {W : World} : ∀ {laid : List (String × DataW Unit)} {ps : List MemPlace}, DataW.LaidVars Tryz.prog W laid ps → ("tympan/fount.printedBytes", Rows.laid_tympan_fount_printedBytes) ∈ laid → TabOk W := by
  intro laid
  induction laid with
  | nil => intro ps _ h; cases h
  | cons x r ih =>
    intro ps h hm
    obtain ⟨g', t', cs, fuel, p, q, hg', ht', hvar, hd, hr, _⟩ := h
    rcases List.mem_cons.1 hm with e | e
    · subst e
      obtain rfl := Option.some.inj (gTab.symm.trans hg')
      obtain rfl := Option.some.inj (gTabType.symm.trans ht')
      exact tab_of_read (fun _ => hvar) hd
    · exact ih hr e
end Go.Proofs.YtomblajlpanmjaaGreatDoor

namespace Go.Proofs.YtomblajlpanmjaaGreatDoor
open Go.ChangeShapes Go.WideShapes Go.ChangeAt Go.RowKit

section
variable {H : Type} {enc : TypeId × Value → H}
/-- There is an input that fits, at a world that is written out; its shape is looked at in one pass. -/
theorem witness_zip {C : Checked} {os : Os} {f : FuncId} {fn : Func} {s : OpenSpec} {conds : List PathCond} {apart : Bool} {laid : List (String × DataW Unit)} (modest : Bool) (w0 : World) (args : Array Value) (hos : w0.os = os)
    (hv : (w0.forCall (fun _ _ => 0) ⟨#[], args, []⟩).variablesZipB C.prog = true)
    (hr : ((w0.forCall (fun _ _ => 0) ⟨#[], args, []⟩).heap.toList.drop C.prog.globals.size).take ((begin C.prog (fun _ _ => 0) default).world.heap.size - C.prog.globals.size) =
      (begin C.prog (fun _ _ => 0) default).world.heap.toList.drop C.prog.globals.size)
    (hok : Input.okWideB C.prog (w0.forCall (fun _ _ => 0) ⟨#[], args, []⟩) f ⟨#[], args, []⟩ = true)
    (hrow : s.preRow enc C.prog fn conds apart laid (w0.forCall (fun _ _ => 0) ⟨#[], args, []⟩).memory args) :
    ∃ (w : World) (tape : Tape) (i : Input), w.os = os ∧ (w.forCall tape i).Shaped C.prog ∧ i.vars = [] ∧ Input.okWide C.prog (w.forCall tape i) .any w.heap.size f i ∧
      s.preRow enc C.prog fn conds apart laid (w.forCall tape i).memory i.args ∧ ({ modest := modest } : Assume).holds C.prog (lone (Frame.enter C.prog f i.args .normal) [] (w.forCall tape i)) :=
  ⟨w0, fun _ _ => 0, ⟨#[], args, []⟩, hos, World.shaped_of_ZipB hv hr, (Input.okWide_of_okWideB (base := 0) hok).1, (Input.okWide_of_okWideB hok).2, hrow, by
    simp only [Assume.holds]
    exact ⟨by simp, by simp, fun _ => Modest.zero, by simp, by simp⟩⟩
end
noncomputable def textWorld (os : Os) : World := World.laidAll Tryz.prog os Rows.textReadsRow.laid
theorem tw_fits (os : Os) : (World.holding Tryz.prog os ⟨#[], #[], []⟩).layFits Tryz.prog Rows.textReadsRow.laid [] = true := by kernel_rfl
theorem tw_faces (os : Os) : (World.holding Tryz.prog os ⟨#[], #[], []⟩).layIfaces Tryz.prog Rows.textReadsRow.laid (World.laidAll Tryz.prog os Rows.textReadsRow.laid) = true := by kernel_rfl
theorem tw_vars (os : Os) (args : Array Value) : ((textWorld os).forCall (fun _ _ => 0) ⟨#[], args, []⟩).variablesZipB Tryz.prog = true := by kernel_rfl
theorem tw_rest (os : Os) (args : Array Value) : (((textWorld os).forCall (fun _ _ => 0) ⟨#[], args, []⟩).heap.toList.drop Tryz.prog.globals.size).take ((begin Tryz.prog (fun _ _ => 0) default).world.heap.size - Tryz.prog.globals.size) =
      (begin Tryz.prog (fun _ _ => 0) default).world.heap.toList.drop Tryz.prog.globals.size := by kernel_rfl
set_option maxRecDepth 100000 in
theorem tw_met (os : Os) (args : Array Value) : laidMet Tryz.prog Rows.textReadsRow.laid ((textWorld os).forCall (fun _ _ => 0) ⟨#[], args, []⟩).memory := by
  unfold textWorld
  exact laidMet_laidAll (P := Tryz.prog) (os := os) (laid := Rows.textReadsRow.laid) args (tw_fits os) (tw_faces os)
end Go.Proofs.YtomblajlpanmjaaGreatDoor

namespace Go.Proofs.YtomblajlpanmjaaGreatDoor
open Go.ChangeShapes Go.WideShapes Go.ChangeAt Go.RowKit
theorem band {a b : Bool} (ha : a = true) (hb : b = true) : (a && b) = true := by rw [ha, hb]; try rfl
end Go.Proofs.YtomblajlpanmjaaGreatDoor

namespace Go.Proofs.YtomblajlpanmjaaGreatDoor
open Go.ChangeShapes Go.WideShapes Go.ChangeAt Go.RowKit
set_option maxRecDepth 100000
theorem cell_ltT {w : World} {p : Addr} {v : Value} (h : w.cell? p = some v) : p.block < w.heap.size := World.block_lt_of_cell? w p h
theorem max_of_shapeT {W : World} (h : W.ShapedOpen Tryz.prog) : ∃ m, W.cell? ⟨0, 0, none⟩ = some (.int .i64 m) :=
  cell_of_shapedOpen_int (zero := #[.int .i64 0]) (t := 3) h (of_decide_eq_true (by kernel_rfl)) (by kernel_rfl) rfl (by kernel_rfl) (by kernel_rfl) Tryz.underlying3
end Go.Proofs.YtomblajlpanmjaaGreatDoor

namespace Go.Proofs.YtomblajlpanmjaaGreatDoor
open Go.ChangeShapes Go.WideShapes Go.ChangeAt Go.RowKit
set_option maxHeartbeats 4000000 in
theorem tc_facts : joinedFacts Tryz.pinned.checked.prog 4 Tryz.f4 (OpenSpec.ofChange Rows.textCopiesSpec).bare Rows.textCopiesRow = true := by
  unfold joinedFacts
  repeat' (with_reducible refine band ?_ ?_)
  all_goals (as_aux_lemma => kernel_rfl)
end Go.Proofs.YtomblajlpanmjaaGreatDoor
