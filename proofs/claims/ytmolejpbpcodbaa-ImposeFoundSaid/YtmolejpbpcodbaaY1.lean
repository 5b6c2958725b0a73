/-
  Package impose: tests of all pages of a view; the opposite cell; equal views; a view copied.
-/
import Derived.Test.YtmolejpbpcodbaaI9
namespace Go.Proofs.Ytmolejpbpcodbaa
open Go.RowKit

theorem all_step {α : Type} {p : α → Bool} {L : List α} {k : Nat} (hk : k < L.length) : (L.drop k).all p = (p L[k] && (L.drop (k + 1)).all p) := by
  rw [List.drop_eq_getElem_cons hk]; rfl
theorem all_stop {α : Type} {p : α → Bool} {L : List α} {k : Nat} (hk : ¬ k < L.length) : (L.drop k).all p = true := by
  rw [List.drop_of_length_le (by omega)]; rfl
set_option maxRecDepth 100000 in
set_option maxHeartbeats 2000000 in
theorem arePages_any (m : Int) (a : Option Addr) (L : List Page) (c : Nat) (w : World) (hL : RowsAt 2 Page.l w a L) (hl : L.length ≤ maxLen) :
    Calls Try.prog 43 #[.int .i64 m, .slice a L.length c] w fun e w' => e = .returned (.bool (L.all (pageB m))) ∧ Below w.heap.size w w' := by
  unfold maxLen at hl
  go_enter Try.func43, Try.ntmps43
  go_wp2
  go_loopw [9] (fun i wr => ∃ k : Nat, k ≤ L.length ∧ i = .int .i64 k ∧ Hid ((L.drop 0).all (pageB m) = (L.drop k).all (pageB m)) ∧ Below w.heap.size w wr) (fun i _ => L.length - (intOf i).toNat)
  case atStart => exact ⟨0, Nat.zero_le _, rfl, Lib.hid rfl, Below.refl _ _⟩
  case round =>
    obtain ⟨k, hk, rfl, HR, hB⟩ := hrel
    by_cases hlt : k < L.length
    · obtain ⟨ad, rfl, had, s0, s1⟩ := (hL.below hB).page hlt
      obtain ⟨x, ex⟩ : ∃ x, x = L[k] := ⟨_, rfl⟩
      have hst := all_step (p := pageB m) hlt
      rw [← ex] at s0 s1 hst
      have HST := Lib.hid hst
      clear ex hst
      have hBx := hB.alloc hB.size (.cells #[.int .i64 x.p, .int .i64 x.t] 92)
      have hkl : (k : Int) < (L.length : Int) := by omega
      cases h1 : inB x.p 1 m
      · have HO : Hid (L.all (pageB m) = false) := Lib.hid (by
          have := HR.out; rw [List.drop_zero] at this; rw [this, HST.out]; unfold pageB; rw [h1]; rfl)
        go_wp2_with (go_at_call 40; refine (isFrom_any _ _ _ _).mono ?_; rintro e w' ⟨rfl, rfl⟩)
        go_ret
        exact ⟨ret_bool HO.out.symm, hBx⟩
      · cases h2 : inB x.t 0 1
        · have HO : Hid (L.all (pageB m) = false) := Lib.hid (by
            have := HR.out; rw [List.drop_zero] at this; rw [this, HST.out]; unfold pageB; rw [h1, h2]; rfl)
          go_wp2_with (go_at_call 40; refine (isFrom_any _ _ _ _).mono ?_; rintro e w' ⟨rfl, rfl⟩)
          go_ret
          exact ⟨ret_bool HO.out.symm, hBx⟩
        · have HO : Hid ((L.drop 0).all (pageB m) = (L.drop (k + 1)).all (pageB m)) := Lib.hid (by
            rw [HR.out, HST.out]; unfold pageB; rw [h1, h2]; rfl)
          go_wp2_with (go_at_call 40; refine (isFrom_any _ _ _ _).mono ?_; rintro e w' ⟨rfl, rfl⟩)
          go_roundw
          case rel => exact ⟨k + 1, by omega, by go_num, HO, hBx⟩
          case measure => simp [intOf]; omega
    · have HO : Hid (L.all (pageB m) = true) := Lib.hid (by
        have := HR.out; rw [List.drop_zero] at this; rw [this, all_stop hlt])
      have hkl : ¬ (k : Int) < (L.length : Int) := by omega
      go_wp2
      go_ret
      exact ⟨ret_bool HO.out.symm, hB⟩
def oppN (C R k : Nat) (b : Bool) : Nat := if b = true then (R - 1 - k / C) * C + k % C else k / C * C + (C - 1 - k % C)
theorem oppN_lt {C R k : Nat} (b : Bool) (hC : 1 ≤ C) (hk : k < C * R) : oppN C R k b < C * R := by
  have h1 : k % C < C := Nat.mod_lt _ hC
  have h2 : k / C < R := Nat.div_lt_of_lt_mul hk
  unfold oppN
  obtain ⟨q, hq⟩ : ∃ q, k / C = q := ⟨_, rfl⟩
  obtain ⟨r, hr⟩ : ∃ r, k % C = r := ⟨_, rfl⟩
  rw [hq] at h2 ⊢
  rw [hr] at h1 ⊢
  split
  · exact mul_lt (by omega) h1
  · exact mul_lt h2 (by omega)
structure View where
  C : Int
  R : Int
  l : List Page
def sameV (x y : View) : Bool := decide (x.C = y.C ∧ x.R = y.R ∧ x.l = y.l)
end Go.Proofs.Ytmolejpbpcodbaa
