/-
  Package impose: the errors of a book; its signatures.
-/
import Derived.Test.YtnpehnfcccdcbaaGreatDoorKC
namespace Go.Proofs.YtnpehnfcccdcbaaGreatDoor
open Go.RowKit

def plAt (lo hi st : Int) (L : List Int) : Nat → Nat → Int × Int
  | 0, _ => (0, 0)
  | n + 1, k => if inB (L.getD k 0) lo hi = false then ((k : Int), 2) else if 0 < k ∧ L.getD k 0 < L.getD (k - 1) 0 + st then ((k : Int), 9) else plAt lo hi st L n (k + 1)
def placesE (lo hi st : Int) (L : List Int) : Int × Int := if 40 < L.length then (0, 8) else plAt lo hi st L (L.length - 0) 0
theorem plAt_range {lo hi st : Int} {L : List Int} {k : Nat} (hk : k < L.length) (h : inB (L.getD k 0) lo hi = false) : plAt lo hi st L (L.length - k) k = ((k : Int), 2) := by
  obtain ⟨m, hm⟩ : ∃ m, L.length - k = m + 1 := ⟨L.length - k - 1, by omega⟩
  rw [hm]; unfold plAt; rw [if_pos h]
theorem plAt_order {lo hi st : Int} {L : List Int} {k : Nat} (hk : k < L.length) (h : inB (L.getD k 0) lo hi = true) (h2 : 0 < k ∧ L.getD k 0 < L.getD (k - 1) 0 + st) : plAt lo hi st L (L.length - k) k = ((k : Int), 9) := by
  obtain ⟨m, hm⟩ : ∃ m, L.length - k = m + 1 := ⟨L.length - k - 1, by omega⟩
  rw [hm]; unfold plAt; rw [if_neg (by rw [h]; decide), if_pos h2]
theorem plAt_go {lo hi st : Int} {L : List Int} {k : Nat} (hk : k < L.length) (h : inB (L.getD k 0) lo hi = true) (h2 : ¬ (0 < k ∧ L.getD k 0 < L.getD (k - 1) 0 + st)) : plAt lo hi st L (L.length - k) k = plAt lo hi st L (L.length - (k + 1)) (k + 1) := by
  obtain ⟨m, hm⟩ : ∃ m, L.length - k = m + 1 := ⟨L.length - k - 1, by omega⟩
  rw [hm, show L.length - (k + 1) = m by omega]
  show (if _ then _ else _) = _
  rw [if_neg (by rw [h]; decide), if_neg h2]
theorem plAt_end {lo hi st : Int} {L : List Int} {k : Nat} (hk : ¬ k < L.length) : plAt lo hi st L (L.length - k) k = (0, 0) := by
  rw [show L.length - k = 0 by omega]; rfl
set_option maxRecDepth 100000 in
set_option maxHeartbeats 2000000 in
theorem errorOfPlaces_any (a : Option Addr) (L : List Int) (c : Nat) (lo hi st : Int) (w : World) (hL : RowsAt 1 intL w a L) (hl : L.length ≤ maxLen) (h0 : 0 ≤ lo) (h1 : hi ≤ 4000) (h2 : 0 ≤ st) (h3 : st ≤ 1) :
    Calls Tryz.prog 57 #[.slice a L.length c, .int .i64 lo, .int .i64 hi, .int .i64 st] w fun e w' => e = .returned (.tuple #[.int .i64 (placesE lo hi st L).1, .int .i64 (placesE lo hi st L).2]) ∧ w = w' := by
  unfold maxLen at hl
  by_cases h4 : 40 < L.length
  · have HE := Lib.hid (show placesE lo hi st L = (0, 8) by unfold placesE; rw [if_pos h4])
    go_enter Tryz.func57, Tryz.ntmps57
    go_wp2
    go_ret2
    exact ⟨two_to HE.out, rfl⟩
  have HE := Lib.hid (show placesE lo hi st L = plAt lo hi st L (L.length - 0) 0 by unfold placesE; rw [if_neg h4])
  go_enter Tryz.func57, Tryz.ntmps57
  go_wp2
  go_loop [17] (fun i => ∃ k : Nat, k ≤ L.length ∧ i = .int .i64 k ∧ Hid (plAt lo hi st L (L.length - 0) 0 = plAt lo hi st L (L.length - k) k) ∧ Hid (∀ j, j < k → inB (L.getD j 0) lo hi = true)) (fun i => L.length - (intOf i).toNat)
  case atStart => exact ⟨0, Nat.zero_le _, rfl, Lib.hid rfl, Lib.hid (fun j hj => absurd hj (Nat.not_lt_zero _))⟩
  case round =>
    obtain ⟨k, hk, rfl, HR, HA⟩ := hrel
    by_cases hlt : k < L.length
    · obtain ⟨ad, rfl, had, s0⟩ := hL.int hlt
      obtain ⟨x, ex⟩ : ∃ x, x = L.getD k 0 := ⟨_, rfl⟩
      have hxe : L[k] = x := by rw [ex, getD_in 0 hlt]
      rw [hxe] at s0
      clear hxe
      cases hx : inB x lo hi
      · have HG := Lib.hid (plAt_range (lo := lo) (hi := hi) (st := st) hlt (by rw [← ex]; exact hx))
        clear ex
        go_wp2_with (go_at_call 37; refine (isFrom_any _ _ _ _).mono ?_; rintro e w' ⟨rfl, rfl⟩)
        go_ret2
        exact ⟨two_to (by rw [HE.out, HR.out, HG.out]), rfl⟩
      · have hxb := inB_iff.1 hx
        have HA2 : Hid (∀ j, j < k + 1 → inB (L.getD j 0) lo hi = true) := Lib.hid (fun j hj => by
          by_cases e : j = k
          · rw [e, ← ex]; exact hx
          · exact HA.out j (by omega))
        obtain ⟨hxb1, hxb2⟩ := hxb
        by_cases hk0 : 0 < k
        · obtain ⟨m, hm⟩ : ∃ m, m + 1 = k := ⟨k - 1, by omega⟩
          obtain ⟨_, e1, -, s1⟩ := hL.int (k := m) (by omega)
          cases e1
          obtain ⟨y, ey⟩ : ∃ x, x = L.getD m 0 := ⟨_, rfl⟩
          have hye : L[m]'(by omega) = y := by rw [ey, getD_in 0 (by omega)]
          rw [hye] at s1
          have hyb := inB_iff.1 (HA.out m (by omega))
          rw [← ey] at hyb
          obtain ⟨hyb1, hyb2⟩ := hyb
          clear hye
          have hkm : k - 1 = m := by omega
          have hm1 : (k : Int) - 1 = (m : Int) := by omega
          have hmI : (m : Int) < (L.length : Int) := by omega
          have HKM := Lib.hid hkm; clear hkm hm
          by_cases ho : x < y + st
          · have HG := Lib.hid (plAt_order (lo := lo) (hi := hi) (st := st) hlt (by rw [← ex]; exact hx) ⟨hk0, by rw [← ex, HKM.out, ← ey]; exact ho⟩)
            clear ex ey
            go_wp2_with (go_at_call 37; refine (isFrom_any _ _ _ _).mono ?_; rintro e w' ⟨rfl, rfl⟩)
            go_ret2
            exact ⟨two_to (by rw [HE.out, HR.out, HG.out]), rfl⟩
          · have HG := Lib.hid (plAt_go (lo := lo) (hi := hi) (st := st) hlt (by rw [← ex]; exact hx) (fun h => ho (by have := h.2; rw [← ex, HKM.out, ← ey] at this; exact this)))
            clear ex ey
            have hob : decide (x < y + st) = false := by simpa using ho
            go_wp2_with (go_at_call 37; refine (isFrom_any _ _ _ _).mono ?_; rintro e w' ⟨rfl, rfl⟩)
            go_round
            case rel => exact ⟨k + 1, by omega, by go_num, Lib.hid (HR.out.trans HG.out), HA2⟩
            case measure => simp [intOf]; omega
        · have HG := Lib.hid (plAt_go (lo := lo) (hi := hi) (st := st) hlt (by rw [← ex]; exact hx) (fun h => hk0 h.1))
          clear ex
          go_wp2_with (go_at_call 37; refine (isFrom_any _ _ _ _).mono ?_; rintro e w' ⟨rfl, rfl⟩)
          go_round
          case rel => exact ⟨k + 1, by omega, by go_num, Lib.hid (HR.out.trans HG.out), HA2⟩
          case measure => simp [intOf]; omega
    · have HG := Lib.hid (plAt_end (lo := lo) (hi := hi) (st := st) hlt)
      go_wp2
      go_ret2
      exact ⟨two_to (by rw [HE.out, HR.out, HG.out]), rfl⟩
end Go.Proofs.YtnpehnfcccdcbaaGreatDoor
