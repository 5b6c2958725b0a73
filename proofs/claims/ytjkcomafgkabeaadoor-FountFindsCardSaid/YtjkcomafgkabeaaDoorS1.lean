/-
  Comparing numbers; sorting by insertion, as plain lists.
-/
import Derived.Test.YtjkcomafgkabeaaDoorC3
import Derived.Test.YtjkcomafgkabeaaDoorF1
namespace Go.Proofs.YtjkcomafgkabeaaDoor
open Go.RowKit Go.Maps

def cmpI (a b : Int) : Int := if a < b then -1 else if b < a then 1 else 0
set_option maxHeartbeats 400000 in
theorem isNaN_any (a : Int) (w : World) : Calls Tryd.prog 100 #[.int .i64 a] w fun e w' => e = .returned (.bool false) ∧ w = w' := by
  go_enter Tryd.func100, Tryd.ntmps100
  go_wp2
  go_ret
  exact ⟨ret_bool (by simp), rfl⟩
set_option maxHeartbeats 400000 in
theorem compare_any (a b : Int) (w : World) : Calls Tryd.prog 72 #[.int .i64 a, .int .i64 b] w fun e w' => e = .returned (.int .i64 (cmpI a b)) ∧ w' = w := by
  by_cases h1 : a < b
  · have HE := Lib.hid (show cmpI a b = -1 by unfold cmpI; rw [if_pos h1])
    go_enter Tryd.func72, Tryd.ntmps72
    go_wp2_with (go_at_call 100; refine (isNaN_any _ _).mono ?_; rintro e w' ⟨rfl, rfl⟩)
    go_ret
    exact ⟨ret_int HE.out.symm, rfl⟩
  by_cases h2 : b < a
  · have HE := Lib.hid (show cmpI a b = 1 by unfold cmpI; rw [if_neg h1, if_pos h2])
    go_enter Tryd.func72, Tryd.ntmps72
    go_wp2_with (go_at_call 100; refine (isNaN_any _ _).mono ?_; rintro e w' ⟨rfl, rfl⟩)
    go_ret
    exact ⟨ret_int HE.out.symm, rfl⟩
  · have HE := Lib.hid (show cmpI a b = 0 by unfold cmpI; rw [if_neg h1, if_neg h2])
    have h1' : b ≤ a := by omega
    have h2' : a ≤ b := by omega
    clear h1 h2
    go_enter Tryd.func72, Tryd.ntmps72
    go_wp2_with (go_at_call 100; refine (isNaN_any _ _).mono ?_; rintro e w' ⟨rfl, rfl⟩)
    go_ret
    exact ⟨ret_int HE.out.symm, rfl⟩

def swp (L : List Int) (j : Nat) : List Int := (L.set (j + 1) (L.getD j 0)).set j (L.getD (j + 1) 0)
/-- The element at place j goes down while it comes ahead of the one before. -/
def ins (lt : Int → Int → Bool) : Nat → List Int → List Int
  | 0, L => L
  | j + 1, L => if lt (L.getD (j + 1) 0) (L.getD j 0) = true then ins lt j (swp L j) else L
def insAll (lt : Int → Int → Bool) : Nat → Nat → List Int → List Int
  | 0, _, L => L
  | m + 1, i, L => insAll lt m (i + 1) (ins lt i L)
theorem swp_len (L : List Int) (j : Nat) : (swp L j).length = L.length := by simp [swp]
theorem ins_len (lt : Int → Int → Bool) : ∀ (j : Nat) (L : List Int), (ins lt j L).length = L.length := by
  intro j
  induction j with
  | zero => intro L; rfl
  | succ j ih =>
    intro L
    unfold ins
    split
    · rw [ih, swp_len]
    · rfl
/-- Block g is just the row of the numbers L. -/
def RowX (w : World) (g : Nat) (L : List Int) : Prop := w.heap[g]? = some (.cells (vals L).toArray 3 (0, 0))
theorem RowX.cell {w : World} {g : Nat} {L : List Int} (h : RowX w g L) {j : Nat} (hj : j < L.length) : w.cell? ⟨g, j, none⟩ = some (.int .i64 (L.getD j 0)) := by
  rw [cell_of_row w g j _ _ (0, 0) h]
  rw [List.getElem?_toArray]; exact vals_at hj
theorem RowX.frozen {w : World} {g : Nat} {L : List Int} (h : RowX w g L) (j : Nat) : w.frozen? ⟨g, j, none⟩ = false := by
  unfold RowX at h; simp [World.frozen?, h]
theorem RowX.drewN {w : World} {g : Nat} {L : List Int} (h : RowX w g L) (n : Nat) : RowX (w.drewN n) g L := h
theorem RowX.drew {w : World} {g : Nat} {L : List Int} (h : RowX w g L) : RowX w.drew g L := h
theorem RowX.set_ {w : World} {g : Nat} {L : List Int} (h : RowX w g L) (j : Nat) (v : Int) : RowX (w.setCell ⟨g, j, none⟩ (.int .i64 v)) g (L.set j v) := by
  unfold RowX at h ⊢
  have e : (vals (L.set j v)).toArray = (vals L).toArray.setIfInBounds j (.int .i64 v) := by
    unfold vals; rw [List.map_set]; simp
  rw [e]
  simp [World.setCell, Array.getElem?_modify, h]
end Go.Proofs.YtjkcomafgkabeaaDoor
