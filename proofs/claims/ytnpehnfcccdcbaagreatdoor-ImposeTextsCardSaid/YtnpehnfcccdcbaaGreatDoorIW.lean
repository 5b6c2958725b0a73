/-
  Package impose: equal structs; equal schemes, ranges, pages, folds, leaves, numbers.
-/
import Derived.Test.YtnpehnfcccdcbaaGreatDoorIV
import Derived.Laws.StructEq
namespace Go.Proofs.YtnpehnfcccdcbaaGreatDoor
open Go.RowKit

theorem list_ne {α : Type} {L M : List α} {k : Nat} (h1 : k < L.length) (h2 : k < M.length) (h : L[k] ≠ M[k]) : L ≠ M := fun e => h (by subst e; rfl)
theorem list_eq {α : Type} {L M : List α} (hl : L.length = M.length) (h : ∀ j, j < L.length → L[j]? = M[j]?) : L = M := by
  apply List.ext_getElem? 
  intro j
  by_cases hj : j < L.length
  · exact h j hj
  · rw [List.getElem?_eq_none (by omega), List.getElem?_eq_none (by omega)]
theorem rng_ne {x y : Rng} (h : x ≠ y) : (¬ x.lo = y.lo) ∨ (x.lo = y.lo ∧ ¬ x.hi = y.hi) := by
  obtain ⟨a0, a1⟩ := x
  obtain ⟨b0, b1⟩ := y
  simp only [ne_eq, Rng.mk.injEq] at h
  simp only
  by_cases e0 : a0 = b0
  · subst e0
    all_goals exact Or.inr (⟨rfl, (fun e => h (by subst e; simp))⟩)
  · exact Or.inl (e0)
set_option maxRecDepth 100000 in
set_option maxHeartbeats 2000000 in
theorem ranges_any (a1 : Option Addr) (L1 : List Rng) (c1 : Nat) (a2 : Option Addr) (L2 : List Rng) (c2 : Nat) (w : World) (h1 : RowsAt 2 Rng.l w a1 L1) (h2 : RowsAt 2 Rng.l w a2 L2) (_ : L1.length ≤ maxLen) (l2 : L2.length ≤ maxLen) :
    Calls Tryz.prog 17 #[.slice a1 L1.length c1, .slice a2 L2.length c2] w fun e w' => e = .returned (.bool (decide (L1 = L2))) ∧ Drew w w' := by
  unfold maxLen at l2
  by_cases hn : L1.length = L2.length
  · have hne : ((L1.length : Int) != (L2.length : Int)) = false := by simp [hn]
    have hle : L1.length ≤ L2.length := by omega
    have HN := Lib.hid hn; clear hn
    go_enter Tryz.func17, Tryz.ntmps17
    go_wp2
    go_loopw [5] (fun i wr => ∃ k : Nat, k ≤ L1.length ∧ i = .int .i64 k ∧ Hid (∀ j, j < k → L1[j]? = L2[j]?) ∧ Drew w wr) (fun i _ => L1.length - (intOf i).toNat)
    case atStart => exact ⟨0, Nat.zero_le _, rfl, Lib.hid (fun j hj => absurd hj (Nat.not_lt_zero _)), Drew.refl _⟩
    case round =>
      obtain ⟨k, hk, rfl, HR, hD⟩ := hrel
      by_cases hlt : k < L1.length
      · have hlt2 : k < L2.length := by omega
        obtain ⟨p1, rfl, hp1, x0, x1⟩ := (hD.rows h1).rng hlt
        obtain ⟨p2, rfl, hp2, y0, y1⟩ := (hD.rows h2).rng hlt2
        have hkl1 : (k : Int) < (L1.length : Int) := by omega
        have hkl2 : (k : Int) < (L2.length : Int) := by omega
        obtain ⟨x, ex⟩ : ∃ x, x = L1[k] := ⟨_, rfl⟩
        obtain ⟨y, ey⟩ : ∃ x, x = L2[k] := ⟨_, rfl⟩
        rw [← ex] at x0 x1
        rw [← ey] at y0 y1
        by_cases hxy : x = y
        · have HS : Hid (∀ j, j < k + 1 → L1[j]? = L2[j]?) := Lib.hid (fun j hj => by
            by_cases e : j = k
            · subst e; rw [List.getElem?_eq_getElem hlt, List.getElem?_eq_getElem hlt2, ← ex, ← ey, hxy]
            · exact HR.out j (by omega))
          subst hxy
          clear ex ey
          go_wp2_with fail
          go_quiet (fail)
          go_wp2
          go_roundw
          case rel => exact ⟨k + 1, by omega, by go_num, HS, hD.drewN _⟩
          case measure => simp [intOf]; omega
        · have HZ : Hid (decide (L1 = L2) = false) := Lib.hid (decide_eq_false (list_ne hlt hlt2 (by rw [← ex, ← ey]; exact hxy)))
          clear ex ey
          rcases rng_ne hxy with z0 | ⟨z0, z1⟩
          all_goals
            clear hxy
            go_wp2_with fail
            go_quiet (fail)
            go_wp2
            go_ret
            exact ⟨ret_bool HZ.out.symm, hD.drewN _⟩
      · have HZ : Hid (decide (L1 = L2) = true) := Lib.hid (decide_eq_true (list_eq HN.out (fun j hj => HR.out j (by omega))))
        go_wp2
        go_ret
        exact ⟨ret_bool HZ.out.symm, hD⟩
  · have hne : ((L1.length : Int) != (L2.length : Int)) = true := by simp; omega
    have HZ : Hid (decide (L1 = L2) = false) := Lib.hid (decide_eq_false (fun e => hn (by rw [e])))
    clear hn
    go_enter Tryz.func17, Tryz.ntmps17
    go_wp2
    go_ret
    exact ⟨ret_bool HZ.out.symm, Drew.refl _⟩
theorem page_ne {x y : Page} (h : x ≠ y) : (¬ x.p = y.p) ∨ (x.p = y.p ∧ ¬ x.t = y.t) := by
  obtain ⟨a0, a1⟩ := x
  obtain ⟨b0, b1⟩ := y
  simp only [ne_eq, Page.mk.injEq] at h
  simp only
  by_cases e0 : a0 = b0
  · subst e0
    all_goals exact Or.inr (⟨rfl, (fun e => h (by subst e; simp))⟩)
  · exact Or.inl (e0)
theorem fold_ne {x y : Fold} (h : x ≠ y) : (¬ x.k = y.k) ∨ (x.k = y.k ∧ ¬ x.c = y.c) := by
  obtain ⟨a0, a1⟩ := x
  obtain ⟨b0, b1⟩ := y
  simp only [ne_eq, Fold.mk.injEq] at h
  simp only
  by_cases e0 : a0 = b0
  · subst e0
    all_goals exact Or.inr (⟨rfl, (fun e => h (by subst e; simp))⟩)
  · exact Or.inl (e0)
theorem leaf_ne {x y : Leaf} (h : x ≠ y) : (¬ x.c = y.c) ∨ (x.c = y.c ∧ ¬ x.r = y.r) ∨ (x.c = y.c ∧ x.r = y.r ∧ ¬ x.o = y.o) ∨ (x.c = y.c ∧ x.r = y.r ∧ x.o = y.o ∧ ¬ x.t = y.t) := by
  obtain ⟨a0, a1, a2, a3⟩ := x
  obtain ⟨b0, b1, b2, b3⟩ := y
  simp only [ne_eq, Leaf.mk.injEq] at h
  simp only
  by_cases e0 : a0 = b0
  · subst e0
    by_cases e1 : a1 = b1
    · subst e1
      by_cases e2 : a2 = b2
      · subst e2
        all_goals exact Or.inr (Or.inr (Or.inr (⟨rfl, rfl, rfl, (fun e => h (by subst e; simp))⟩)))
      · exact Or.inr (Or.inr (Or.inl (⟨rfl, rfl, e2⟩)))
    · exact Or.inr (Or.inl (⟨rfl, e1⟩))
  · exact Or.inl (e0)
end Go.Proofs.YtnpehnfcccdcbaaGreatDoor
