/-
  Package impose: equal schemes.
-/
import Derived.Test.YtnpehnfcccdcbaaGreatDoorIW
namespace Go.Proofs.YtnpehnfcccdcbaaGreatDoor
open Go.RowKit

theorem cell_ne {x y : Cell} (h : x ≠ y) : (¬ x.f = y.f) ∨ (x.f = y.f ∧ ¬ x.ft = y.ft) ∨ (x.f = y.f ∧ x.ft = y.ft ∧ ¬ x.b = y.b) ∨ (x.f = y.f ∧ x.ft = y.ft ∧ x.b = y.b ∧ ¬ x.bt = y.bt) := by
  obtain ⟨a0, a1, a2, a3⟩ := x
  obtain ⟨b0, b1, b2, b3⟩ := y
  simp only
  by_cases e0 : a0 = b0
  · subst e0
    by_cases e1 : a1 = b1
    · subst e1
      by_cases e2 : a2 = b2
      · subst e2
        exact Or.inr (Or.inr (Or.inr ⟨rfl, rfl, rfl, fun e => h (by subst e; rfl)⟩))
      · exact Or.inr (Or.inr (Or.inl ⟨rfl, rfl, e2⟩))
    · exact Or.inr (Or.inl ⟨rfl, e1⟩)
  · exact Or.inl e0
structure Scheme where
  C : Int
  R : Int
  l : List Cell
def sameS (x y : Scheme) : Bool := decide (x.C = y.C ∧ x.R = y.R ∧ x.l = y.l)
set_option maxRecDepth 100000 in
set_option maxHeartbeats 4000000 in
theorem same_any (x : Scheme) (a1 : Option Addr) (c1 : Nat) (y : Scheme) (a2 : Option Addr) (c2 : Nat) (w : World) (h1 : RowsAt 4 Cell.l w a1 x.l) (h2 : RowsAt 4 Cell.l w a2 y.l) (l1 : x.l.length ≤ maxLen) (l2 : y.l.length ≤ maxLen) :
    Calls Tryz.prog 8 #[.agg #[.int .i64 x.C, .int .i64 x.R, .slice a1 x.l.length c1], .agg #[.int .i64 y.C, .int .i64 y.R, .slice a2 y.l.length c2]] w fun e w' => e = .returned (.bool (sameS x y)) ∧ Below w.heap.size w w' := by
  unfold maxLen at l1 l2
  obtain ⟨C1, R1, L1⟩ := x
  obtain ⟨C2, R2, L2⟩ := y
  have h1 : RowsAt 4 Cell.l w a1 L1 := h1
  have h2 : RowsAt 4 Cell.l w a2 L2 := h2
  have l1 : L1.length ≤ 2 ^ 63 - 1 := l1
  have l2 : L2.length ≤ 2 ^ 63 - 1 := l2
  have hB0 := ((Below.refl w.heap.size w).alloc (Nat.le_refl _) (.cells #[.int .i64 C1, .int .i64 R1, .slice a1 L1.length c1] 24)).alloc (by simp) (.cells #[.int .i64 C2, .int .i64 R2, .slice a2 L2.length c2] 24)
  by_cases hC : C1 = C2
  · subst hC
    by_cases hR : R1 = R2
    · subst hR
      by_cases hn : L1.length = L2.length
      · have hne : ((L1.length : Int) != (L2.length : Int)) = false := by simp [hn]
        have hle : L1.length ≤ L2.length := by omega
        have HN := Lib.hid hn; clear hn
        have g1 := (h1.alloc (.cells #[.int .i64 C1, .int .i64 R1, .slice a1 L1.length c1] 24)).alloc (.cells #[.int .i64 C1, .int .i64 R1, .slice a2 L2.length c2] 24)
        have g2 := (h2.alloc (.cells #[.int .i64 C1, .int .i64 R1, .slice a1 L1.length c1] 24)).alloc (.cells #[.int .i64 C1, .int .i64 R1, .slice a2 L2.length c2] 24)
        go_enter Tryz.func8, Tryz.ntmps8
        go_wp2
        go_loopw [5] (fun i wr => ∃ k : Nat, k ≤ L1.length ∧ i = .int .i64 k ∧ Hid (∀ j, j < k → L1[j]? = L2[j]?) ∧ Drew ((w.alloc (.cells #[.int .i64 C1, .int .i64 R1, .slice a1 L1.length c1] 24)).alloc (.cells #[.int .i64 C1, .int .i64 R1, .slice a2 L2.length c2] 24)) wr) (fun i _ => L1.length - (intOf i).toNat)
        case atStart => exact ⟨0, Nat.zero_le _, rfl, Lib.hid (fun j hj => absurd hj (Nat.not_lt_zero _)), Drew.refl _⟩
        case round =>
          obtain ⟨k, hk, rfl, HR, hD⟩ := hrel
          have q0 := hD.cell (p := ⟨w.heap.size, 2, none⟩) (v := .slice a1 L1.length c1) (by simp)
          have q1 := hD.cell (p := ⟨w.heap.size + 1, 2, none⟩) (v := .slice a2 L2.length c2) (by simp)
          by_cases hlt : k < L1.length
          · have hlt2 : k < L2.length := by omega
            obtain ⟨p1, rfl, hp1, x0, x1, x2, x3⟩ := (hD.rows g1).cell hlt
            obtain ⟨p2, rfl, hp2, y0, y1, y2, y3⟩ := (hD.rows g2).cell hlt2
            have hkl1 : (k : Int) < (L1.length : Int) := by omega
            have hkl2 : (k : Int) < (L2.length : Int) := by omega
            obtain ⟨x, ex⟩ : ∃ x, x = L1[k] := ⟨_, rfl⟩
            obtain ⟨y, ey⟩ : ∃ x, x = L2[k] := ⟨_, rfl⟩
            rw [← ex] at x0 x1 x2 x3
            rw [← ey] at y0 y1 y2 y3
            by_cases hxy : x = y
            · have HS : Hid (∀ j, j < k + 1 → L1[j]? = L2[j]?) := Lib.hid (fun j hj => by
                by_cases e : j = k
                · subst e; rw [List.getElem?_eq_getElem hlt, List.getElem?_eq_getElem hlt2, ← ex, ← ey, hxy]
                · exact HR.out j (by omega))
              subst hxy
              clear ex ey
              go_wp2_with fail
              go_quiet (fail)
              go_wp2
              go_roundw
              case rel => exact ⟨k + 1, by omega, by go_num, HS, hD.drewN _⟩
              case measure => simp [intOf]; omega
            · have HZ : Hid (sameS ⟨C1, R1, L1⟩ ⟨C1, R1, L2⟩ = false) := Lib.hid (decide_eq_false (fun e => list_ne hlt hlt2 (by rw [← ex, ← ey]; exact hxy) e.2.2))
              clear ex ey
              rcases cell_ne hxy with z0 | ⟨z0, z1⟩ | ⟨z0, z1, z2⟩ | ⟨z0, z1, z2, z3⟩
              all_goals
                clear hxy
                go_wp2_with fail
                go_quiet (fail)
                go_wp2
                go_ret
                exact ⟨ret_bool HZ.out.symm, below_drewN (hD.below hB0) _⟩
          · have HZ : Hid (sameS ⟨C1, R1, L1⟩ ⟨C1, R1, L2⟩ = true) := Lib.hid (decide_eq_true ⟨rfl, rfl, list_eq (L := L1) (M := L2) HN.out (fun j hj => HR.out j (by omega))⟩)
            have hkl : ¬ ((k : Int) < (L1.length : Int)) := by omega
            go_wp2
            go_ret
            exact ⟨ret_bool HZ.out.symm, hD.below hB0⟩
      · have hne : ((L1.length : Int) != (L2.length : Int)) = true := by simp; omega
        have HZ : Hid (sameS ⟨C1, R1, L1⟩ ⟨C1, R1, L2⟩ = false) := Lib.hid (decide_eq_false (fun e => hn (congrArg List.length e.2.2)))
        clear hn
        go_enter Tryz.func8, Tryz.ntmps8
        go_wp2
        go_ret
        exact ⟨ret_bool HZ.out.symm, hB0⟩
    · have hne : (R1 != R2) = true := by simpa using hR
      have HZ : Hid (sameS ⟨C1, R1, L1⟩ ⟨C1, R2, L2⟩ = false) := Lib.hid (decide_eq_false (fun e => hR e.2.1))
      clear hR
      go_enter Tryz.func8, Tryz.ntmps8
      go_wp2
      go_ret
      exact ⟨ret_bool HZ.out.symm, hB0⟩
  · have hne : (C1 != C2) = true := by simpa using hC
    have HZ : Hid (sameS ⟨C1, R1, L1⟩ ⟨C2, R2, L2⟩ = false) := Lib.hid (decide_eq_false (fun e => hC e.1))
    clear hC
    go_enter Tryz.func8, Tryz.ntmps8
    go_wp2
    go_ret
    exact ⟨ret_bool HZ.out.symm, hB0⟩
end Go.Proofs.YtnpehnfcccdcbaaGreatDoor
