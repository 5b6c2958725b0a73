/-
  Opening further kinds of arguments: pairs of numbers, numbers, texts.
-/
import Derived.Test.YtjkcomafgkabeaaDoorG1
import Derived.Test.YtjkcomafgkabeaaDoorG2
namespace Go.Proofs.YtjkcomafgkabeaaDoor
open Go.ChangeShapes Go.WideShapes Go.ChangeAt Go.RowKit
section
variable {H : Type} {enc : TypeId × Value → H} {w : World}
theorem okWide_arr {P : Program} {r : Reach} {b0 : Nat} {t e : TypeId} {n : Nat} {v : Value} (ht : P.underlying t = some (.array n e)) (h : Value.okWide P w r b0 t v) : ∃ cs, v = .agg cs ∧ cs.size = P.cellsOf t := by
  simp only [Value.okWide, ht] at h
  obtain ⟨cs, h1, h2, _⟩ := h
  exact ⟨cs, h1, h2⟩
set_option maxRecDepth 100000 in
theorem open_pair {r : Reach} {b0 : Nat} {v : Value} {d : DataW H} {p : List MemPlace} (hv : Value.okWide Tryd.prog w r b0 92 v) (h : DataW.Trod enc Tryd.prog w 0 (fun _ => true) true 92 v d p) :
    ∃ (x y : Int), v = .agg #[.int .i64 x, .int .i64 y] := by
  obtain ⟨cs, rfl, hsz⟩ := okWide_arr Tryd.underlying92 hv
  rw [cellsPair] at hsz
  obtain ⟨n, hf⟩ := h
  obtain ⟨l⟩ := cs
  match l, hsz with
  | [c0, c1], _ =>
    obtain ⟨xs, m, _, _, _, hxl, hi⟩ := DataW.trod_array Tryd.underlying92 hf
    have h0 := hi 0 (by omega)
    have h1 := hi 1 (by omega)
    simp [Value.cells, cellsInt] at h0 h1
    obtain ⟨x, e0, _, _⟩ := DataW.trod_int Tryd.underlying3 (h0.trans (List.getElem?_eq_getElem (by omega)))
    obtain ⟨y, e1, _, _⟩ := DataW.trod_int Tryd.underlying3 (h1.trans (List.getElem?_eq_getElem (by omega)))
    simp only [List.cons.injEq, and_true] at e0 e1
    exact ⟨x, y, by rw [e0, e1]⟩
end
end Go.Proofs.YtjkcomafgkabeaaDoor
