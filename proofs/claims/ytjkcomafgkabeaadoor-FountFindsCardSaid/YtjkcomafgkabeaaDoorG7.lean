/-
  Opening a fount, once more: a nil list has no spare places.
-/
import Derived.Test.YtjkcomafgkabeaaDoorG6
namespace Go.Proofs.YtjkcomafgkabeaaDoor
open Go.ChangeShapes Go.WideShapes Go.Deep Go.Joins Go.RowKit
set_option maxRecDepth 100000
section
variable {H : Type} {enc : TypeId × Value → H} {w : World}
theorem sorts_nil {n : Nat} {v : Value} {x : DataW H × List MemPlace} (h : DataW.trod enc Tryd.prog w 0 (fun _ => true) true n 22 [v] = some x) : ∀ len cap, v = .slice none len cap → cap = 0 := by
  intro len cap hv
  rcases open_slice Tryd.underlying22 h with ⟨e, _⟩ | ⟨a, l', c', m, k, D, Pl, e, _⟩
  · simp only [List.cons.injEq, and_true] at e
    rw [hv] at e; cases e; rfl
  · simp only [List.cons.injEq, and_true] at e
    rw [hv] at e; cases e
theorem fount_nil {r : Reach} {b0 : Nat} {v : Value} {d : DataW H} {p : List MemPlace} (hv : Value.okWide Tryd.prog w r b0 24 v) (h : DataW.Trod enc Tryd.prog w 0 (fun _ => true) true 24 v d p)
    {f : FT} {a : Option Addr} {c : Nat} (e : v = .agg #[.string f.name, .int .i64 f.body, .slice a f.sorts.length c]) : a = none → c = 0 := by
  intro ha
  obtain ⟨v0, v1, v2, y0, y1, y2, n, rfl, _, _, h0, h1, h2⟩ := open_agg3 Tryd.underlying24 (by kernel_rfl) cellsFount hv h
  injection e with e
  have e2 : v2 = .slice a f.sorts.length c := by
    have := congrArg (fun x : Array Value => x[2]?) e
    simpa using this
  subst ha
  exact sorts_nil h2 _ _ e2
end
end Go.Proofs.YtjkcomafgkabeaaDoor
