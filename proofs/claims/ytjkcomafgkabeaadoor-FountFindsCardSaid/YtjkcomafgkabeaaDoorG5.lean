/-
  A world in which the five listed tables lie as they are listed: for the laws' witnesses.
-/
import Derived.Test.YtjkcomafgkabeaaDoorG4
namespace Go.Proofs.YtjkcomafgkabeaaDoor
open Go.ChangeShapes Go.WideShapes Go.ChangeAt Go.RowKit
def litsOf : DataW Unit → Array Value
  | .agg l => (l.map fun x => match x with | .lit q => q.value | _ => .nilIface).toArray
  | _ => #[]
def put (h : Array Obj) (g : Nat) (cs : Array Value) : Array Obj := h.modify g fun
  | .cells _ t frozen => .cells cs t frozen
  | o => o
def pairs0 : Array Value := #[.int .i64 0, .int .i64 0, .int .i64 1, .int .i64 1, .int .i64 2, .int .i64 4, .int .i64 0, .int .i64 0]
def lay5 (h : Array Obj) : Array Obj :=
  put (put (put (put (put h 4 (litsOf Rows.laid_math_bits_deBruijn32tab)) 5 (litsOf Rows.laid_math_bits_deBruijn64tab)) 3 (litsOf Rows.laid_internal_strconv_uint64pow10)) 1 pairs0) 0 (litsOf Rows.laid_tympan_fount_kindWords)
noncomputable def laidWorld5 (os : Os) : World := { World.holding Tryd.prog os ⟨#[], #[], []⟩ with heap := lay5 (World.holding Tryd.prog os ⟨#[], #[], []⟩).heap }
set_option maxRecDepth 100000 in
theorem laid_met5 (os : Os) (args : Array Value) : laidMet Tryd.prog Rows.fountKeptRow.laid ((laidWorld5 os).forCall (fun _ _ => 0) ⟨#[], args, []⟩).memory :=
  laidMet_of_run' 8 (by kernel_rfl) (by kernel_rfl)
end Go.Proofs.YtjkcomafgkabeaaDoor
