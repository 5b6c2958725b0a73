/-
  No cell of these rows narrows 'for every input' (looked for: loops, veiled, ifaces, maps, wideKeys, modest, calm, conditions, laid).
  DERIVED. THE GIVEN ROWS OF THIS SEAT. 2 by the template 'for every input the law returns true; each argument reads behind the call as it read before'; 0 by the template 'total and deterministic' (their statements: YtmolejpbpcodbaaTotals.lean).
  GIVEN WITH THE SEED: the statements are not yours to turn. If you find one false, say at which input.
  Laid BY PROGRAM, IN A SANDBOX (cutbox-rows.mjs): the forced cells as the released guide's own fill.sh prints them over the translation 0991ac9b9adfad0a… (all of the seat's roots in one cut). By AI agents, Wed Nov 11 2026. No macro, syntax, notation, axiom, sorry.
-/
import Derived.Test.YtmolejpbpcodbaaChecked
import GoSem.Claim
import GoSem.ClaimJoined
import GoSem.ClaimMapViews
import Derived.JoinedTies
import Derived.KernelRfl
namespace Go.Proofs.Ytmolejpbpcodbaa
/- THE CELL 'sum', in the pinned program and in every row, IS THE sha256 OF THE DUMP (.gsa) THAT YtmolejpbpcodbaaProg.lean LOADS. Nothing in Lean hashes anything: it is a label: what it is worth is what the hold of that sum in a sandbox is worth. -/
noncomputable def Try.pinned : Pinned := { name := "ytmolejpbpcodbaa", sum := "0991ac9b9adfad0ae3912ba81f3ae91dc7c59442357ecdc6499f8ffc81039c4c", checked := Try.checked }
namespace Rows
def none {H : Type} : Left H := { results := [], args := [] }

/-- 'tympanlaw06.ImposeFinds': WHATEVER THE INPUT: true; the input reads as it did. -/
def imposeFindsSpec : ChangeSpec := { name := "imposeFinds", fn := fun _ => fun
  | [d] => { results := [.lit (.bool true)], args := [d] }
  | _ => none }
def imposeFindsRow : OpenClaim := { program := "ytmolejpbpcodbaa", sum := "0991ac9b9adfad0ae3912ba81f3ae91dc7c59442357ecdc6499f8ffc81039c4c", func := "tympan/tympanlaw06.ImposeFinds", spec := "imposeFinds", recurses := true, apart := false }
def ImposeFindsSaid : Prop := imposeFindsRow.holds Try.pinned (OpenSpec.ofChange imposeFindsSpec)

/-- ITS FALSE NEIGHBOUR: 'it returns false'. Refute it at one input. -/
def imposeFindsWrong : ChangeSpec := { name := "imposeFinds", fn := fun _ => fun
  | [d] => { results := [.lit (.bool false)], args := [d] }
  | _ => none }
def ImposeFindsWrongFalsely : Prop := imposeFindsRow.holds Try.pinned (OpenSpec.ofChange imposeFindsWrong)

/-- 'tympanlaw06.ImposeFound': WHATEVER THE INPUT: true; the input reads as it did. -/
def imposeFoundSpec : ChangeSpec := { name := "imposeFound", fn := fun _ => fun
  | [d1, d2] => { results := [.lit (.bool true)], args := [d1, d2] }
  | _ => none }
def imposeFoundRow : OpenClaim := { program := "ytmolejpbpcodbaa", sum := "0991ac9b9adfad0ae3912ba81f3ae91dc7c59442357ecdc6499f8ffc81039c4c", func := "tympan/tympanlaw06.ImposeFound", spec := "imposeFound", apart := false }
def ImposeFoundSaid : Prop := imposeFoundRow.holds Try.pinned (OpenSpec.ofChange imposeFoundSpec)

/-- ITS FALSE NEIGHBOUR: 'it returns false'. Refute it at one input. -/
def imposeFoundWrong : ChangeSpec := { name := "imposeFound", fn := fun _ => fun
  | [d1, d2] => { results := [.lit (.bool false)], args := [d1, d2] }
  | _ => none }
def ImposeFoundWrongFalsely : Prop := imposeFoundRow.holds Try.pinned (OpenSpec.ofChange imposeFoundWrong)

/- THE SECOND FORM. 'bulk': how many values and letters a reading holds, each counted each time it is reached (what is shared counts as often as it is met; a slice's spare places count too). A statement '..UptoSaid' is the law's where the arguments, and the package variables that the reading takes, are together of bulk at most 1048576: NARROWER than '..Said'. Prove '..Said' where nothing that the law and all that it calls make is longer than what came in: it says more and counts as full. Else prove '..UptoSaid'. A law counts once. -/
mutual
def uptoBulk {H : Type} : DataW H → Nat
  | .lit (.string bytes) => bytes.length + 1
  | .lit _ => 1
  | .nil => 1
  | .ptr d => uptoBulk d + 1
  | .slice elems spare => uptoBulkAll elems + uptoBulkAll spare + 1
  | .agg parts => uptoBulkAll parts + 1
  | .iface _ d => uptoBulk d + 1
  | .map entries => uptoBulkEntries entries + 1
  | .held _ => 1
def uptoBulkAll {H : Type} : List (DataW H) → Nat
  | [] => 0
  | d :: r => uptoBulk d + uptoBulkAll r
def uptoBulkEntries {H : Type} : List (Lit × DataW H) → Nat
  | [] => 0
  | x :: r => uptoBulkEntry x + uptoBulkEntries r
def uptoBulkEntry {H : Type} : Lit × DataW H → Nat
  | (.string bytes, d) => bytes.length + uptoBulk d + 1
  | (_, d) => uptoBulk d + 1
 end
def uptoSmall : (H : Type) → List (DataW H) → Bool := fun _ ds => decide (uptoBulkAll ds ≤ 1048576)
def OpenSpec.upto (s : _root_.Go.ChangeSpec) : _root_.Go.OpenSpec := { _root_.Go.OpenSpec.ofChange s with cond := some uptoSmall }

/-- 'tympanlaw06.ImposeFinds', WHERE WHAT IT READS IS OF BULK AT MOST 1048576: true; the input reads as it did. -/
def imposeFindsUptoRow : OpenClaim := { program := "ytmolejpbpcodbaa", sum := "0991ac9b9adfad0ae3912ba81f3ae91dc7c59442357ecdc6499f8ffc81039c4c", func := "tympan/tympanlaw06.ImposeFinds", spec := "imposeFinds", recurses := true, apart := false, narrowed := true }
def ImposeFindsUptoSaid : Prop := imposeFindsUptoRow.holds Try.pinned (OpenSpec.upto imposeFindsSpec)

/-- 'tympanlaw06.ImposeFound', WHERE WHAT IT READS IS OF BULK AT MOST 1048576: true; the input reads as it did. -/
def imposeFoundUptoRow : OpenClaim := { program := "ytmolejpbpcodbaa", sum := "0991ac9b9adfad0ae3912ba81f3ae91dc7c59442357ecdc6499f8ffc81039c4c", func := "tympan/tympanlaw06.ImposeFound", spec := "imposeFound", apart := false, narrowed := true }
def ImposeFoundUptoSaid : Prop := imposeFoundUptoRow.holds Try.pinned (OpenSpec.upto imposeFoundSpec)

end Rows
end Go.Proofs.Ytmolejpbpcodbaa
