/-
  Package impose: a sheet printed twice from one forme.
-/
import Derived.Test.YtmolejpbpcodbaaY4
import Derived.Deep.CutRange
namespace Go.Proofs.Ytmolejpbpcodbaa
open Go.RowKit

def roundB (b : Bool) : Int := if b = true then 1 else 0
theorem roundB_bit (b : Bool) : Bit (roundB b) := by unfold roundB Bit; split <;> omega
theorem cell_set2 {w : World} {al : Nat} {A B : Value} {p : Addr} {v : Value} (h : w.cell? p = some v) (hp : p.block ≠ al) : ((w.setCell ⟨al, 0, none⟩ A).setCell ⟨al, 1, none⟩ B).cell? p = some v := by
  rw [World.cell?_setCell_other _ _ _ _ (fun e => hp (congrArg Addr.block e).symm), World.cell?_setCell_other _ _ _ _ (fun e => hp (congrArg Addr.block e).symm), h]
def twErr (C R : Int) (L : List Page) : Int := if cellsErr C R L.length ≠ 0 then cellsErr C R L.length else if L.all (pageB 4000) = true then 0 else 2
def twCell (C R : Nat) (L : List Page) (b : Bool) (k : Nat) : Cell := ⟨(L.getD k default).p, (L.getD k default).t, (L.getD (oppN C R k b) default).p, xr (L.getD (oppN C R k b) default).t (roundB b)⟩
/-- The cells, the first k of them set. -/
def twTo (C R : Nat) (L : List Page) (b : Bool) (k : Nat) : List Cell := (List.range k).map (twCell C R L b) ++ List.replicate (L.length - k) ⟨0, 0, 0, 0⟩
theorem twTo_len {C R : Nat} {L : List Page} {b : Bool} {k : Nat} (hk : k ≤ L.length) : (twTo C R L b k).length = L.length := by simp [twTo]; omega
theorem twTo_set {C R : Nat} {L : List Page} {b : Bool} {k : Nat} (hk : k < L.length) : (twTo C R L b k).set k (twCell C R L b k) = twTo C R L b (k + 1) := by
  unfold twTo
  rw [List.set_append_right _ _ (by simp), List.length_map, List.length_range, Nat.sub_self]
  obtain ⟨m, hm⟩ : ∃ m, L.length - k = m + 1 := ⟨L.length - k - 1, by omega⟩
  rw [hm, List.replicate_succ, List.set_cons_zero, show L.length - (k + 1) = m by omega, List.range_succ, List.map_append, List.append_assoc]; rfl
theorem page_ok {m : Int} {L : List Page} (h : L.all (pageB m) = true) : ∀ x ∈ L, Bit x.t := by
  intro x hx
  have := List.all_eq_true.1 h x hx
  unfold pageB at this
  simp only [Bool.and_eq_true] at this
  have := inB_iff.1 this.2
  unfold Bit; omega
theorem cells_ok {C R n : Int} (h : cellsErr C R n = 0) : sideErr C R = 0 ∧ n = C * R := by
  unfold cellsErr at h
  by_cases h1 : sideErr C R = 0
  · rw [if_neg (by simp [h1])] at h
    refine ⟨h1, ?_⟩
    by_cases h2 : n = C * R
    · exact h2
    · rw [if_pos h2] at h; exact absurd h (by decide)
  · rw [if_pos h1] at h; exact absurd h h1
def twD (C R : Int) (L : List Page) : Int × Int := if twErr C R L = 0 then (C, R) else (0, 0)
def twL (C R : Int) (L : List Page) (b : Bool) : List Cell := if twErr C R L = 0 then twTo C.toNat R.toNat L b L.length else []
def TwPost (w : World) (C R : Int) (L : List Page) (b : Bool) (e : Ending) (w' : World) : Prop :=
  ∃ (a : Option Addr) (n c : Nat), e = .returned (.tuple #[.agg #[.int .i64 (twD C R L).1, .int .i64 (twD C R L).2, .slice a n c], .int .i64 (twErr C R L)]) ∧ n = (twL C R L b).length ∧ RowsAt 4 Cell.l w' a (twL C R L b) ∧ (a = none → c = 0) ∧ Below w.heap.size w w'
end Go.Proofs.Ytmolejpbpcodbaa
