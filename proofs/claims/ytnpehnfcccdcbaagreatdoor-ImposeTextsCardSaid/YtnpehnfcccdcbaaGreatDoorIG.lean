/-
  Package impose: a row of leaves of the call's own is reversed.
-/
import Derived.Test.YtnpehnfcccdcbaaGreatDoorIF
namespace Go.Proofs.YtnpehnfcccdcbaaGreatDoor
open Go.RowKit

/-- The first i leaves have been exchanged with the last i. -/
def revAt (L : List Leaf) (i : Nat) : List Leaf := (List.range L.length).map fun m => if m < i ∨ L.length ≤ m + i then L.getD (L.length - 1 - m) default else L.getD m default
theorem revAt_len (L : List Leaf) (i : Nat) : (revAt L i).length = L.length := by simp [revAt]
theorem revAt_at {L : List Leaf} {i m : Nat} (h : m < (revAt L i).length) : (revAt L i)[m] = if m < i ∨ L.length ≤ m + i then L.getD (L.length - 1 - m) default else L.getD m default := by simp [revAt]
theorem getD_at {L : List Leaf} {m : Nat} (h : m < L.length) : L.getD m default = L[m] := by rw [List.getD_eq_getElem?_getD, List.getElem?_eq_getElem h]; rfl
theorem revAt_zero (L : List Leaf) : revAt L 0 = L := by
  apply List.ext_getElem (revAt_len L 0)
  intro m h1 h2
  rw [revAt_at, if_neg (by omega), getD_at h2]
theorem revAt_end {L : List Leaf} {i : Nat} (h : L.length ≤ 2 * i + 1) : revAt L i = L.reverse := by
  apply List.ext_getElem (by rw [revAt_len]; simp)
  intro m h1 h2
  have hm : m < L.length := by simpa using h2
  rw [revAt_at, List.getElem_reverse]
  by_cases hh : m < i ∨ L.length ≤ m + i
  · rw [if_pos hh, getD_at (by omega)]
  · rw [if_neg hh, getD_at hm]
    have : m = L.length - 1 - m := by omega
    congr 1
theorem revAt_step {L : List Leaf} {i : Nat} (h : i + i + 1 < L.length) (h1 : i < (revAt L i).length) (h2 : L.length - 1 - i < (revAt L i).length) :
    ((revAt L i).set i (revAt L i)[L.length - 1 - i]).set (L.length - 1 - i) (revAt L i)[i] = revAt L (i + 1) := by
  apply List.ext_getElem (by simp [revAt_len])
  intro m g1 g2
  have hm : m < L.length := by rw [revAt_len] at g2; exact g2
  simp only [List.getElem_set, revAt_at]
  by_cases c1 : L.length - 1 - i = m
  · rw [if_pos c1, if_neg (by omega), if_pos (by omega)]
    congr 1; omega
  · rw [if_neg c1]
    by_cases c2 : i = m
    · rw [if_pos c2, if_neg (by omega), if_pos (by omega), c2]
    · rw [if_neg c2]
      by_cases c3 : m < i ∨ L.length ≤ m + i
      · rw [if_pos c3, if_pos (by omega)]
      · rw [if_neg c3, if_neg (by omega)]
theorem revAt_step' {L : List Leaf} {i m : Nat} (hm : L.length - 1 - i = m) (h : i + i + 1 < L.length) (h1 : i < (revAt L i).length) (h2 : m < (revAt L i).length) {x y : Leaf} (hx : x = (revAt L i)[i]) (hy : y = (revAt L i)[m]) :
    ((revAt L i).set i y).set m x = revAt L (i + 1) := by
  subst hm hx hy
  exact revAt_step h h1 h2
def RevPost (B b c : Nat) (L : List Leaf) (w : World) (e : Ending) (w' : World) : Prop := e = .returned (.tuple #[]) ∧ OwnR 4 93 Leaf.l w' B (.slice (some ⟨b, 0, none⟩) L.length c) L.reverse ∧ w.grownBy w' (some b)
theorem grownBy_refl (w : World) (row : Option Nat) : w.grownBy w row := ⟨rfl, rfl, rfl, Nat.le_refl _, fun _ _ _ => rfl⟩
theorem grownBy_set {w w' : World} {b : Nat} (h : w.grownBy w' (some b)) (j : Nat) (u : Value) : w.grownBy (w'.setCell ⟨b, j, none⟩ u) (some b) :=
  ⟨h.os, h.tape, h.output, by rw [World.size_setCell]; exact h.size, fun k hk hne => (Below.heap_setCell _ _ _ _ (fun e => hne (by rw [e]))).trans (h.block k hk hne)⟩
theorem grownBy_drew {w w' : World} {row : Option Nat} (h : w.grownBy w' row) : w.grownBy w'.drew row := ⟨h.os, h.tape, h.output, h.size, h.block⟩
set_option maxRecDepth 100000 in
set_option maxHeartbeats 2000000 in
theorem revLeaf_any (B b c : Nat) (L : List Leaf) (w : World) (hO : OwnR 4 93 Leaf.l w B (.slice (some ⟨b, 0, none⟩) L.length c) L) (hl : L.length ≤ 1000000) (hp : 0 < L.length) :
    Calls Tryz.prog 85 #[.slice (some ⟨b, 0, none⟩) L.length c] w (RevPost B b c L w) := by
  have HW := Lib.hid (grownBy_refl w (some b))
  go_enter Tryz.func85, Tryz.ntmps85
  go_wp2
  go_loopw [2, 3] (fun i j wr => ∃ k : Nat, 2 * k ≤ L.length ∧ i = .int .i64 k ∧ j = .int .i64 ((L.length : Int) - 1 - k) ∧ OwnR 4 93 Leaf.l wr B (.slice (some ⟨b, 0, none⟩) L.length c) (revAt L k) ∧ Hid (w.grownBy wr (some b))) (fun i _ _ => L.length - (intOf i).toNat)
  case atStart => exact ⟨0, by omega, rfl, by go_num, by rw [revAt_zero]; exact hO, HW⟩
  case round =>
    obtain ⟨k, hk, rfl, rfl, hr, hg⟩ := hrel
    clear hO HW
    by_cases hlt : 2 * k + 1 < L.length
    · obtain ⟨m, hm⟩ : ∃ m : Nat, L.length - 1 - k = m := ⟨_, rfl⟩
      have hmI : (L.length : Int) - 1 - k = (m : Int) := by omega
      rw [hmI]
      have hml : m < L.length := by omega
      have hk1 : k < (revAt L k).length := by rw [revAt_len]; omega
      have hm1 : m < (revAt L k).length := by rw [revAt_len]; omega
      have hkm : k < m := by omega
      have HM := Lib.hid hm; clear hm hmI
      obtain ⟨a', c', e1, hrow, -, -, -, -⟩ := hr.rows leaf_l
      injection e1 with e1 e2 e3
      subst e1 e3
      have E2 := Lib.hid e2; clear e2
      obtain ⟨_, e1, hb1, x0, x1, x2, x3⟩ := hrow.leaf (k := k) hk1
      cases e1
      obtain ⟨_, e1, -, y0, y1, y2, y3⟩ := hrow.leaf (k := m) hm1
      cases e1
      rw [add0] at x0 x1 x2 x3 y0 y1 y2 y3
      obtain ⟨x, ex⟩ : ∃ x, x = (revAt L k)[k] := ⟨_, rfl⟩
      obtain ⟨y, ey⟩ : ∃ x, x = (revAt L k)[m] := ⟨_, rfl⟩
      rw [← ex] at x0 x1 x2 x3
      rw [← ey] at y0 y1 y2 y3
      have f0 := fun j => hr.free j
      have EX := Lib.hid ex; have EY := Lib.hid ey; clear ex ey
      have hkI : (k : Int) < (L.length : Int) := by omega
      have hmI2 : (m : Int) < (L.length : Int) := by omega
      go_wp2
      go_region
      all_goals
        go_wp2
        go_roundw
      all_goals first
        | (refine ⟨k + 1, by omega, by go_num, ?_, ?_, ?_⟩
           · have := HM.out; congr 1; omega
           · first
             | (have hz := ((hr.put4 E2.out hk1 y).put4 (by rw [List.length_set]; exact E2.out) (by rw [List.length_set]; exact hm1) x)
                rw [revAt_step' HM.out (by omega) hk1 hm1 EX.out EY.out] at hz
                exact hz.drew)
           · exact Lib.hid (grownBy_drew (by
               iterate 8 refine grownBy_set ?_ _ _
               exact hg.out)))
        | (simp [intOf]; omega)
    · have hge : ¬ ((k : Int) < (L.length : Int) - 1 - (k : Int)) := by omega
      have he := revAt_end (L := L) (i := k) (by omega)
      rw [he] at hr
      have HR := Lib.hid hr; clear hr he
      go_wp2
      go_end0
      exact ⟨rfl, HR.out, hg⟩
end Go.Proofs.YtnpehnfcccdcbaaGreatDoor
