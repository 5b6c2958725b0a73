/-
  Opening further kinds of arguments: a number, a text.
-/
import Derived.Test.YtjkcomafgkabeaaDoorG5
namespace Go.Proofs.YtjkcomafgkabeaaDoor
open Go.ChangeShapes Go.WideShapes Go.ChangeAt Go.RowKit
set_option maxRecDepth 100000
section
variable {H : Type} {enc : TypeId × Value → H} {w : World}
theorem open_int {r : Reach} {b0 : Nat} {v : Value} (hv : Value.okWide Tryd.prog w r b0 3 v) : ∃ x : Int, v = .int .i64 x := by
  obtain ⟨x, rfl⟩ := okWide_int Tryd.underlying3 hv
  exact ⟨x, rfl⟩

theorem open_text {r : Reach} {b0 : Nat} {v : Value} {d : DataW H} {p : List MemPlace} (hv : Value.okWide Tryd.prog w r b0 9 v) (h : DataW.Trod enc Tryd.prog w 0 (fun _ => true) true 9 v d p) : ∃ s : ByteArray, v = .string s ∧ s.size ≤ maxLen := by
  obtain ⟨s, rfl⟩ := okWide_string Tryd.underlying9 hv
  obtain ⟨n, hf⟩ := h
  obtain ⟨s', e, _, hs⟩ := DataW.trod_string Tryd.underlying9 hf
  simp [Value.cells] at e
  exact ⟨s, rfl, by rw [e]; exact hs⟩
end
end Go.Proofs.YtjkcomafgkabeaaDoor
