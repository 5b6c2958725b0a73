/-
  Six cells of a block stored anew. No program is walked here.
-/
import Derived.Test.YtpplcbpnojggcaaEA
import Derived.Laws.Rows
import Derived.Laws.ResultCell
namespace Go.Proofs.Ytpplcbpnojggcaa
open Go.RowKit

theorem box6 {Z : World} {d : Nat} {T : TypeId} {x0 x1 x2 x3 x4 x5 : Value} (h : BoxAt Z d #[x0, x1, x2, x3, x4, x5] T) (y0 y1 y2 y3 y4 y5 : Value) :
    BoxAt ((((((Z.setCell ⟨d, 0, none⟩ y0).setCell ⟨d, 1, none⟩ y1).setCell ⟨d, 2, none⟩ y2).setCell ⟨d, 3, none⟩ y3).setCell ⟨d, 4, none⟩ y4).setCell ⟨d, 5, none⟩ y5) d #[y0, y1, y2, y3, y4, y5] T := by
  have h1 := (((((h.set 0 y0).set 1 y1).set 2 y2).set 3 y3).set 4 y4).set 5 y5
  exact h1
theorem box6o {Z : World} {d b : Nat} {T : TypeId} {cs : Array Value} (h : BoxAt Z b cs T) (hne : b ≠ d) (y0 y1 y2 y3 y4 y5 : Value) :
    BoxAt ((((((Z.setCell ⟨d, 0, none⟩ y0).setCell ⟨d, 1, none⟩ y1).setCell ⟨d, 2, none⟩ y2).setCell ⟨d, 3, none⟩ y3).setCell ⟨d, 4, none⟩ y4).setCell ⟨d, 5, none⟩ y5) b cs T :=
  (((((h.set_other hne _).set_other hne _).set_other hne _).set_other hne _).set_other hne _).set_other hne _
theorem below6 {B : Nat} {w Z : World} {d : Nat} (h : Below B w Z) (hd : B ≤ d) (y0 y1 y2 y3 y4 y5 : Value) :
    Below B w ((((((Z.setCell ⟨d, 0, none⟩ y0).setCell ⟨d, 1, none⟩ y1).setCell ⟨d, 2, none⟩ y2).setCell ⟨d, 3, none⟩ y3).setCell ⟨d, 4, none⟩ y4).setCell ⟨d, 5, none⟩ y5) :=
  (((((h.setCell (p := ⟨d, 0, none⟩) hd _).setCell (p := ⟨d, 1, none⟩) hd _).setCell (p := ⟨d, 2, none⟩) hd _).setCell (p := ⟨d, 3, none⟩) hd _).setCell (p := ⟨d, 4, none⟩) hd _).setCell (p := ⟨d, 5, none⟩) hd _
theorem info_rg3 : (Try.prog.info? 63).map (·.size) = some 6 := by kernel_rfl
theorem load_rg3 {Y : World} {d : Nat} {T : TypeId} {x0 x1 x2 x3 x4 x5 : Value} (h : BoxAt Y d #[x0, x1, x2, x3, x4, x5] T) : (loadVar 63 ⟨d, 0, none⟩).run Try.prog Y = .ok (.agg #[x0, x1, x2, x3, x4, x5]) Y :=
  run_loadVar_row (P := Try.prog) Y d T 63 _ (0, 0) _ h Try.underlying63 rfl info_rg3
theorem res_rg3 {fn : Func} {p : Tmp} {tmps : Array Value} {Y : World} {d : Nat} {T : TypeId} {x0 x1 x2 x3 x4 x5 : Value} (hf : fn.results = #[.cell p 63]) (hp : tmps.getD p undef = .pointer (some ⟨d, 0, none⟩)) (h : BoxAt Y d #[x0, x1, x2, x3, x4, x5] T) :
    (results fn tmps).run Try.prog Y = .ok (.agg #[x0, x1, x2, x3, x4, x5]) Y := by
  have hp' : tmps[p]?.getD undef = .pointer (some ⟨d, 0, none⟩) := by simpa using hp
  simp only [results, hf]
  simp [hp', asAddr, load_rg3 h]
theorem res_rg3t {fn : Func} {p u : Tmp} {tmps : Array Value} {Y : World} {d : Nat} {T : TypeId} {x0 x1 x2 x3 x4 x5 v : Value} (hf : fn.results = #[.cell p 63, .tmp u]) (hp : tmps.getD p undef = .pointer (some ⟨d, 0, none⟩)) (hu : tmps.getD u undef = v) (h : BoxAt Y d #[x0, x1, x2, x3, x4, x5] T) :
    (results fn tmps).run Try.prog Y = .ok (.tuple #[.agg #[x0, x1, x2, x3, x4, x5], v]) Y := by
  rw [results_cell_tmp hf, hp, hu]
  simp [Result.andThen, asAddr, load_rg3 h]
end Go.Proofs.Ytpplcbpnojggcaa
