/-
  Package tympanref06: CheckFolds, Pile.
-/
import Derived.Test.YtccfcdhnplodgaaGreatDoorRH
namespace Go.Proofs.YtccfcdhnplodgaaGreatDoor
open Go.RowKit

set_option maxRecDepth 100000 in
set_option maxHeartbeats 4000000 in
theorem refCheckFolds_any (C R : Int) (a : Option Addr) (L : List Fold) (c : Nat) (w : World) (hL : RowsAt 2 Fold.l w a L) (hl : L.length ≤ maxLen) :
    Calls Tryz.prog 11 #[.agg #[.int .i64 C, .int .i64 R], .slice a L.length c] w fun e w' => e = .returned (.tuple #[.int .i64 (checkFo C R L).1, .int .i64 (checkFo C R L).2]) ∧ Below w.heap.size w w' := by
  unfold maxLen at hl
  have bx := BoxAt.new w #[.int .i64 C, .int .i64 R] 22
  have hB := (Below.refl w.heap.size w).alloc (Nat.le_refl _) (.cells #[.int .i64 C, .int .i64 R] 22)
  have hL1 := hL.alloc (.cells #[.int .i64 C, .int .i64 R] 22)
  obtain ⟨w1, hw1⟩ : ∃ w1, w1 = w.alloc (.cells #[.int .i64 C, .int .i64 R] 22) := ⟨_, rfl⟩
  rw [← hw1] at bx hB hL1
  have c0 := bx.cell 0; have c1 := bx.cell 1
  have hbl := bx.lt
  simp at c0 c1
  have W1 := Lib.hid hw1
  clear hw1
  by_cases h1 : sideErr C R = 0
  · obtain ⟨sC, sR, sm⟩ := side_ok h1
    have H1 := Lib.hid h1
    by_cases h2 : 12 < L.length
    · have HE : Hid (checkFo C R L = (0, 8)) := Lib.hid (by unfold checkFo; rw [if_neg (by simp [h1]), if_pos h2])
      have h2I : (L.length : Int) > 12 := by omega
      clear h1 sC sR sm
      go_enter Tryz.func11, Tryz.ntmps11
      go_wp2_with (go_at_call 27; refine (checkSheet_any _ _ _).mono ?_; rintro e w' ⟨rfl, rfl⟩; rw [H1.out])
      go_ret2
      rw [← W1.out]
      exact ⟨two_to HE.out, hB⟩
    · have HE : Hid (checkFo C R L = foldsErr C R L 0) := Lib.hid (by unfold checkFo; rw [if_neg (by simp [h1]), if_neg h2])
      have h2I : ¬ (L.length : Int) > 12 := by omega
      obtain ⟨cn, rfl⟩ : ∃ n : Nat, C = n := ⟨C.toNat, by omega⟩
      obtain ⟨rn, rfl⟩ : ∃ n : Nat, R = n := ⟨R.toNat, by omega⟩
      have HCR : Hid ((1 ≤ cn ∧ cn ≤ 8) ∧ (1 ≤ rn ∧ rn ≤ 8)) := Lib.hid (by omega)
      have HLL : Hid (L.length ≤ 100) := Lib.hid (by omega)
      clear h1 sC sR sm
      go_enter Tryz.func11, Tryz.ntmps11
      go_wp2_with (go_at_call 27; refine (checkSheet_any _ _ _).mono ?_; rintro e w' ⟨rfl, rfl⟩; rw [H1.out])
      rw [← W1.out]
      refine (refFolded_any cn rn a L c _ HCR.out.1 HCR.out.2 hL1 HLL.out).mono ?_
      rintro e w2 ⟨C', R', A, n, cp, Ps, i, s, rfl, hO, hb2, hPO, hC8, hR8, hs1, hs2⟩
      have hB2 := hB.trans (hb2.mono (B' := w.heap.size) hB.size)
      have HS1 := Lib.hid hs1; have HS2 := Lib.hid hs2
      have hn := hO.heap.1
      have hnC : n = C' * R' := by rw [hn, ← List.length_map (f := (·.l)), hPO.len]
      have hpos : 1 ≤ C' * R' := Nat.mul_pos (by omega) (by omega)
      have hBx := hB2.alloc hB2.size (.cells #[.int .i64 C', .int .i64 R', .slice A n cp] 71)
      by_cases he : s = 0
      · subst he
        have h3 := (HS2.out rfl).1
        by_cases hm : n = 1
        · have HZ : Hid (checkFo cn rn L = (0, 0)) := Lib.hid (by
            rw [HE.out, h3, if_neg]
            have : (C' : Int) * R' = ((C' * R' : Nat) : Int) := by rw [Int.natCast_mul]
            rw [this]; omega)
          subst hm
          clear hs1 hs2 hn hnC h3 hpos
          go_wp2_with fail
          go_ret2
          exact ⟨two_to HZ.out, hBx⟩
        · have HZ : Hid (checkFo cn rn L = ((L.length : Int), 25)) := Lib.hid (by
            rw [HE.out, h3, if_pos]
            have : (C' : Int) * R' = ((C' * R' : Nat) : Int) := by rw [Int.natCast_mul]
            rw [this]; omega)
          have hnb : ((n : Int) != 1) = true := by simp; omega
          clear hs1 hs2 hn hnC h3 hpos hm
          go_wp2_with fail
          go_ret2
          exact ⟨two_to HZ.out, hBx⟩
      · have HZ : Hid (checkFo cn rn L = (i, s)) := Lib.hid (by rw [HE.out]; exact HS1.out he)
        have heb : (s != 0) = true := by simpa using he
        clear hs1 hs2 hn hnC he hpos
        go_wp2_with fail
        go_ret2
        exact ⟨two_to HZ.out, hBx⟩
  · have HE : Hid (checkFo C R L = (0, sideErr C R)) := Lib.hid (by unfold checkFo; rw [if_pos h1])
    obtain ⟨s, hs⟩ : ∃ s, sideErr C R = s := ⟨_, rfl⟩
    rw [hs] at h1 HE
    have heb : (s != 0) = true := by simpa using h1
    have HS := Lib.hid hs
    clear h1 hs
    go_enter Tryz.func11, Tryz.ntmps11
    go_wp2_with (go_at_call 27; refine (checkSheet_any _ _ _).mono ?_; rintro e w' ⟨rfl, rfl⟩; rw [HS.out])
    go_ret2
    rw [← W1.out]
    exact ⟨two_to HE.out, hB⟩
/-- The leaves of a pile. -/
def PilePost2 (w : World) (M : List Leaf) (e : Ending) (w' : World) : Prop :=
  ∃ (a : Option Addr) (n c : Nat), e = .returned (.slice a n c) ∧ n = M.length ∧ RowsAt 4 Leaf.l w' a M ∧ (a = none → c = 0) ∧ Below w.heap.size w w'
end Go.Proofs.YtccfcdhnplodgaaGreatDoor
