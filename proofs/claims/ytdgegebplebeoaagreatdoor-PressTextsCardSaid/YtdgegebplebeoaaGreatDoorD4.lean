/-
  A world in which the listed variables lie as they are listed: for the witness of PressTexts.
-/
import Derived.Test.YtdgegebplebeoaaGreatDoorRows
import Derived.Deep.DeepHandedRow
import Derived.Lay
import Derived.ProofKit
namespace Go.Proofs.YtdgegebplebeoaaGreatDoor
open Go.ChangeShapes Go.WideShapes Go.ChangeAt Go.RowKit

section
variable {H : Type} {enc : TypeId × Value → H}
/-- There is an input that fits, at a world that is written out; its shape is looked at in one pass. -/
theorem witness_zip {C : Checked} {os : Os} {f : FuncId} {fn : Func} {s : OpenSpec} {conds : List PathCond} {apart : Bool} {laid : List (String × DataW Unit)} (modest : Bool) (w0 : World) (args : Array Value) (hos : w0.os = os)
    (hv : (w0.forCall (fun _ _ => 0) ⟨#[], args, []⟩).variablesZipB C.prog = true)
    (hr : ((w0.forCall (fun _ _ => 0) ⟨#[], args, []⟩).heap.toList.drop C.prog.globals.size).take ((begin C.prog (fun _ _ => 0) default).world.heap.size - C.prog.globals.size) =
      (begin C.prog (fun _ _ => 0) default).world.heap.toList.drop C.prog.globals.size)
    (hok : Input.okWideB C.prog (w0.forCall (fun _ _ => 0) ⟨#[], args, []⟩) f ⟨#[], args, []⟩ = true)
    (hrow : s.preRow enc C.prog fn conds apart laid (w0.forCall (fun _ _ => 0) ⟨#[], args, []⟩).memory args) :
    ∃ (w : World) (tape : Tape) (i : Input), w.os = os ∧ (w.forCall tape i).Shaped C.prog ∧ i.vars = [] ∧ Input.okWide C.prog (w.forCall tape i) .any w.heap.size f i ∧
      s.preRow enc C.prog fn conds apart laid (w.forCall tape i).memory i.args ∧ ({ modest := modest } : Assume).holds C.prog (lone (Frame.enter C.prog f i.args .normal) [] (w.forCall tape i)) :=
  ⟨w0, fun _ _ => 0, ⟨#[], args, []⟩, hos, World.shaped_of_ZipB hv hr, (Input.okWide_of_okWideB (base := 0) hok).1, (Input.okWide_of_okWideB hok).2, hrow, by
    simp only [Assume.holds]
    exact ⟨by simp, by simp, fun _ => Modest.zero, by simp, by simp⟩⟩
end
noncomputable def textWorld (os : Os) : World := World.laidAll Tryz.prog os Rows.pressTextsRow.laid
theorem tw_fits (os : Os) : (World.holding Tryz.prog os ⟨#[], #[], []⟩).layFits Tryz.prog Rows.pressTextsRow.laid [] = true := by kernel_rfl
theorem tw_faces (os : Os) : (World.holding Tryz.prog os ⟨#[], #[], []⟩).layIfaces Tryz.prog Rows.pressTextsRow.laid (World.laidAll Tryz.prog os Rows.pressTextsRow.laid) = true := by kernel_rfl
theorem tw_vars (os : Os) (args : Array Value) : ((textWorld os).forCall (fun _ _ => 0) ⟨#[], args, []⟩).variablesZipB Tryz.prog = true := by kernel_rfl
theorem tw_rest (os : Os) (args : Array Value) : (((textWorld os).forCall (fun _ _ => 0) ⟨#[], args, []⟩).heap.toList.drop Tryz.prog.globals.size).take ((begin Tryz.prog (fun _ _ => 0) default).world.heap.size - Tryz.prog.globals.size) =
      (begin Tryz.prog (fun _ _ => 0) default).world.heap.toList.drop Tryz.prog.globals.size := by kernel_rfl
set_option maxRecDepth 100000 in
theorem tw_met (os : Os) (args : Array Value) : laidMet Tryz.prog Rows.pressTextsRow.laid ((textWorld os).forCall (fun _ _ => 0) ⟨#[], args, []⟩).memory := by
  unfold textWorld
  exact laidMet_laidAll (P := Tryz.prog) (os := os) (laid := Rows.pressTextsRow.laid) args (tw_fits os) (tw_faces os)
end Go.Proofs.YtdgegebplebeoaaGreatDoor
