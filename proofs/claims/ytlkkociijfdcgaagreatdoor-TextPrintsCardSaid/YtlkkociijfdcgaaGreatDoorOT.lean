/-
  Opening the arguments of package text's laws: a word with sorts.
-/
import Derived.Test.YtlkkociijfdcgaaGreatDoorJ3
namespace Go.Proofs.YtlkkociijfdcgaaGreatDoor
open Go.ChangeShapes Go.WideShapes Go.Deep Go.Joins Go.RowKit
set_option maxRecDepth 100000
section
variable {H : Type} {enc : TypeId × Value → H} {w : World}
theorem cellsSet : Tryz.prog.cellsOf 74 = 2 := by kernel_rfl
theorem open_set {r : Reach} {b0 : Nat} {v : Value} {d : DataW H} {p : List MemPlace} (hv : Value.okWide Tryz.prog w r b0 74 v) (h : DataW.Trod enc Tryz.prog w 0 (fun _ => true) true 74 v d p) :
    ∃ (s : ByteArray) (b : Option Addr) (l : List Int) (c : Nat), v = .agg #[.string s, .slice b l.length c] ∧ s.size ≤ maxLen ∧ IntsAt w b l ∧ l.length ≤ maxLen ∧ (b = none → c = 0) := by
  obtain ⟨v0, v1, y0, y1, n, rfl, _, _, h0, h1⟩ := open_agg2 Tryz.underlying74 (by kernel_rfl) cellsSet hv h
  obtain ⟨s0, e0, _, z0⟩ := DataW.trod_string Tryz.underlying9 h0
  obtain ⟨a, c, l, rfl, hlc, hcm, hI, hn⟩ := open_nums h1
  simp only [List.cons.injEq, and_true] at e0
  subst e0
  exact ⟨s0, a, l, c, rfl, z0, hI, Nat.le_trans hlc hcm, hn⟩
end
end Go.Proofs.YtlkkociijfdcgaaGreatDoor
