/-
  Package impose: the reference's CheckBook.
-/
import Derived.Test.YtjkjfmahcjcniaaT8
namespace Go.Proofs.Ytjkjfmahcjcniaa
open Go.RowKit

theorem within_v {n lo hi : Int} {b : Bool} (h : inB n lo hi = b) (w : World) : Calls Try.prog 42 #[.int .i64 n, .int .i64 lo, .int .i64 hi] w fun e w' => e = .returned (.bool b) ∧ w' = w :=
  (within_any n lo hi w).mono fun _ _ ⟨h1, h2⟩ => ⟨by rw [h1, h], h2.symm⟩
set_option maxRecDepth 100000 in
set_option maxHeartbeats 16000000 in
theorem refCheckBook_any (P S : Int) (pa : Option Addr) (pl : List Int) (pc : Nat) (ca : Option Addr) (cl : List Int) (cc : Nat) (w : World) (hp : RowsAt 1 intL w pa pl) (hpl : pl.length ≤ 45) (hc : RowsAt 1 intL w ca cl) (hcl : cl.length ≤ 45) :
    Calls Try.prog 59 #[.agg #[.int .i64 P, .int .i64 S, .slice pa pl.length pc, .slice ca cl.length cc]] w fun e w' => e = .returned (.tuple #[.int .i64 (bookE P S pl cl).1, .int .i64 (bookE P S pl cl).2]) ∧ Below w.heap.size w w' := by
  obtain ⟨w1, hw1⟩ : ∃ w1, w1 = w.alloc (.cells #[.int .i64 P, .int .i64 S, .slice pa pl.length pc, .slice ca cl.length cc] 93) := ⟨_, rfl⟩
  have bx : BoxAt w1 w.heap.size #[.int .i64 P, .int .i64 S, .slice pa pl.length pc, .slice ca cl.length cc] 93 := by rw [hw1]; exact BoxAt.new w _ _
  have hB : Below w.heap.size w w1 := by rw [hw1]; exact (Below.refl _ _).alloc (Nat.le_refl _) _
  have W1 := Lib.hid hw1
  clear hw1
  have c0 := bx.cell 0; have c1 := bx.cell 1; have c2 := bx.cell 2; have c3 := bx.cell 3
  simp at c0 c1 c2 c3
  go_enter Try.func59, Try.ntmps59
  go_upto_region 1 with fail
  rw [← W1.out]
  clear W1
  cases h1 : inB P 1 4000
  · have HE : Hid (bookE P S pl cl = (0, 2)) := Lib.hid (by unfold bookE; rw [if_neg (by rw [h1]; simp)])
    go_wp2_with (go_at_call 42; refine (within_any _ _ _ _).mono ?_; rintro e w' ⟨rfl, rfl⟩)
    go_ret2
    exact ⟨two_to HE.out, hB⟩
  cases h2 : inB S 2 64
  · have HE : Hid (bookE P S pl cl = (0, 2)) := Lib.hid (by unfold bookE; rw [if_neg (by rw [h2]; simp)])
    go_wp2_with (go_at_call 42; refine (within_any _ _ _ _).mono ?_; rintro e w' ⟨rfl, rfl⟩)
    go_ret2
    exact ⟨two_to HE.out, hB⟩
  obtain ⟨g1, g2⟩ := inB_iff.1 h1
  obtain ⟨g3, g4⟩ := inB_iff.1 h2
  have hmod : S.tmod 2 = S % 2 := Int.tmod_eq_emod_of_nonneg (by omega)
  by_cases h3 : S % 2 = 0
  case neg =>
    have HE : Hid (bookE P S pl cl = (0, 3)) := Lib.hid (by unfold bookE; rw [if_pos ⟨h1, h2⟩, if_pos h3])
    have hS1 : S % 2 = 1 := by omega
    rw [hS1] at hmod
    go_wp2_with (go_at_call 42; refine (within_any _ _ _ _).mono ?_; rintro e w' ⟨rfl, rfl⟩)
    go_ret2
    exact ⟨two_to HE.out, hB⟩
  rw [h3] at hmod
  have HBE : Hid (bookE P S pl cl = if (placesE 0 P 0 pl).2 ≠ 0 then placesE 0 P 0 pl else placesE 1 P 1 cl) := Lib.hid (by unfold bookE; rw [if_pos ⟨h1, h2⟩, if_neg (by simp [h3])])
  by_cases h4 : 40 < pl.length
  · have HE : Hid (bookE P S pl cl = (0, 8)) := Lib.hid (by rw [HBE.out]; unfold placesE; rw [if_pos h4]; rfl)
    go_wp2_with (go_at_call 42; refine (within_any _ _ _ _).mono ?_; rintro e w' ⟨rfl, rfl⟩)
    go_ret2
    exact ⟨two_to HE.out, hB⟩
  have h4I : ¬ (40 : Int) < (pl.length : Int) := by omega
  have HPE : Hid (placesE 0 P 0 pl = plAt 0 P 0 pl (pl.length - 0) 0) := Lib.hid (by unfold placesE; rw [if_neg h4])
  go_wp2_with (go_at_call 42; refine (within_any _ _ _ _).mono ?_; rintro e w' ⟨rfl, rfl⟩)
  go_loopw [4] (fun i wr => ∃ k : Nat, k ≤ pl.length ∧ i = .int .i64 k ∧ Hid (plAt 0 P 0 pl (pl.length - 0) 0 = plAt 0 P 0 pl (pl.length - k) k) ∧ Hid (∀ j, j < k → inB (pl.getD j 0) 0 P = true) ∧ BoxAt wr w.heap.size #[.int .i64 P, .int .i64 S, .slice pa pl.length pc, .slice ca cl.length cc] 93 ∧ Below w.heap.size w wr) (fun i _ => pl.length - (intOf i).toNat)
  case atStart => exact ⟨0, Nat.zero_le _, rfl, Lib.hid rfl, Lib.hid (fun j hj => absurd hj (Nat.not_lt_zero _)), bx, hB⟩
  case round =>
    clear bx hB c0 c1 c2 c3
    obtain ⟨k, hk, rfl, HR, HA, bx, hB⟩ := hrel
    have c0 := bx.cell 0; have c1 := bx.cell 1; have c2 := bx.cell 2; have c3 := bx.cell 3
    simp at c0 c1 c2 c3
    by_cases hlt : k < pl.length
    · have hkI : (k : Int) < (pl.length : Int) := by omega
      obtain ⟨ad, rfl, had, s0⟩ := (hp.below hB).int hlt
      obtain ⟨x, ex⟩ : ∃ x, x = pl.getD k 0 := ⟨_, rfl⟩
      have hxe : pl[k] = x := by rw [ex, getD_in 0 hlt]
      rw [hxe] at s0
      clear hxe
      cases hx : inB x 0 P
      · have HG := Lib.hid (plAt_range (lo := 0) (hi := P) (st := 0) hlt (by rw [← ex]; exact hx))
        have HX := Lib.hid hx
        clear ex hx
        go_wp2_with fail
        go_quiet ((go_at_call 42; exact Calls.quiet_of_same (within_v HX.out _)))
        go_wp2_with fail
        go_ret2
        exact ⟨two_to (by rw [HBE.out, HPE.out, HR.out, HG.out]; rfl), below_drewN hB _⟩
      · have hxb := inB_iff.1 hx
        have HA2 : Hid (∀ j, j < k + 1 → inB (pl.getD j 0) 0 P = true) := Lib.hid (fun j hj => by
          by_cases e : j = k
          · rw [e, ← ex]; exact hx
          · exact HA.out j (by omega))
        obtain ⟨hxb1, hxb2⟩ := hxb
        have HX := Lib.hid hx
        clear hx
        by_cases hk0 : 0 < k
        · have hk0I : (0 : Int) < (k : Int) := by omega
          obtain ⟨m, hm⟩ : ∃ m, m + 1 = k := ⟨k - 1, by omega⟩
          obtain ⟨_, e1, -, s1⟩ := (hp.below hB).int (k := m) (by omega)
          cases e1
          obtain ⟨y, ey⟩ : ∃ x, x = pl.getD m 0 := ⟨_, rfl⟩
          have hye : pl[m]'(by omega) = y := by rw [ey, getD_in 0 (by omega)]
          rw [hye] at s1
          clear hye
          have hkm : k - 1 = m := by omega
          have hm1 : (k : Int) - 1 = (m : Int) := by omega
          have hmI : (m : Int) < (pl.length : Int) := by omega
          have HKM := Lib.hid hkm; clear hkm hm
          by_cases ho : x < y
          · have HG := Lib.hid (plAt_order (lo := 0) (hi := P) (st := 0) hlt (by rw [← ex]; exact HX.out) ⟨hk0, by rw [← ex, HKM.out, ← ey]; omega⟩)
            clear ex ey
            go_wp2_with fail
            go_quiet ((go_at_call 42; exact Calls.quiet_of_same (within_v HX.out _)))
            go_wp2_with fail
            go_quiet (fail)
            go_wp2_with fail
            go_ret2
            exact ⟨two_to (by rw [HBE.out, HPE.out, HR.out, HG.out]; rfl), below_drewN (below_drewN hB _) _⟩
          · have HG := Lib.hid (plAt_go (lo := 0) (hi := P) (st := 0) hlt (by rw [← ex]; exact HX.out) (fun h => ho (by have := h.2; rw [← ex, HKM.out, ← ey] at this; omega)))
            clear ex ey
            go_wp2_with fail
            go_quiet ((go_at_call 42; exact Calls.quiet_of_same (within_v HX.out _)))
            go_wp2_with fail
            go_quiet (fail)
            go_wp2_with fail
            go_roundw
            case rel => exact ⟨k + 1, by omega, by go_num, Lib.hid (HR.out.trans HG.out), HA2, bx.drewN _, below_drewN hB _⟩
            case measure => simp [intOf]; omega
        · have hk0I : ¬ (0 : Int) < (k : Int) := by omega
          have HG := Lib.hid (plAt_go (lo := 0) (hi := P) (st := 0) hlt (by rw [← ex]; exact HX.out) (fun h => hk0 h.1))
          clear ex
          go_wp2_with fail
          go_quiet ((go_at_call 42; exact Calls.quiet_of_same (within_v HX.out _)))
          go_wp2_with fail
          go_quiet (fail)
          go_wp2_with fail
          go_roundw
          case rel => exact ⟨k + 1, by omega, by go_num, Lib.hid (HR.out.trans HG.out), HA2, bx.drewN _, below_drewN hB _⟩
          case measure => simp [intOf]; omega
    · have hkI : ¬ (k : Int) < (pl.length : Int) := by omega
      have HG := Lib.hid (plAt_end (lo := 0) (hi := P) (st := 0) hlt)
      have HC1 : Hid (bookE P S pl cl = placesE 1 P 1 cl) := Lib.hid (by rw [HBE.out, HPE.out, HR.out, HG.out]; rfl)
      by_cases h5 : 40 < cl.length
      · have HE : Hid (bookE P S pl cl = (0, 8)) := Lib.hid (by rw [HC1.out]; unfold placesE; rw [if_pos h5])
        go_wp2_with fail
        go_ret2
        exact ⟨two_to HE.out, hB⟩
      have h5I : ¬ (40 : Int) < (cl.length : Int) := by omega
      have HCE : Hid (bookE P S pl cl = plAt 1 P 1 cl (cl.length - 0) 0) := Lib.hid (by rw [HC1.out]; unfold placesE; rw [if_neg h5])
      go_wp2_with fail
      clear hlt hkI HR HA HG
      go_loopw [5] (fun i wr => ∃ k : Nat, k ≤ cl.length ∧ i = .int .i64 k ∧ Hid (plAt 1 P 1 cl (cl.length - 0) 0 = plAt 1 P 1 cl (cl.length - k) k) ∧ Hid (∀ j, j < k → inB (cl.getD j 0) 1 P = true) ∧ BoxAt wr w.heap.size #[.int .i64 P, .int .i64 S, .slice pa pl.length pc, .slice ca cl.length cc] 93 ∧ Below w.heap.size w wr) (fun i _ => cl.length - (intOf i).toNat)
      case atStart => exact ⟨0, Nat.zero_le _, rfl, Lib.hid rfl, Lib.hid (fun j hj => absurd hj (Nat.not_lt_zero _)), bx, hB⟩
      case round =>
        clear bx hB c0 c1 c2 c3
        obtain ⟨k, hk, rfl, HR, HA, bx, hB⟩ := hrel
        have c0 := bx.cell 0; have c1 := bx.cell 1; have c2 := bx.cell 2; have c3 := bx.cell 3
        simp at c0 c1 c2 c3
        by_cases hlt : k < cl.length
        · have hkI : (k : Int) < (cl.length : Int) := by omega
          obtain ⟨ad, rfl, had, s0⟩ := (hc.below hB).int hlt
          obtain ⟨x, ex⟩ : ∃ x, x = cl.getD k 0 := ⟨_, rfl⟩
          have hxe : cl[k] = x := by rw [ex, getD_in 0 hlt]
          rw [hxe] at s0
          clear hxe
          cases hx : inB x 1 P
          · have HG := Lib.hid (plAt_range (lo := 1) (hi := P) (st := 1) hlt (by rw [← ex]; exact hx))
            have HX := Lib.hid hx
            clear ex hx
            go_wp2_with fail
            go_quiet ((go_at_call 42; exact Calls.quiet_of_same (within_v HX.out _)))
            go_wp2_with fail
            go_ret2
            exact ⟨two_to (by rw [HCE.out, HR.out, HG.out]), below_drewN hB _⟩
          · have hxb := inB_iff.1 hx
            have HA2 : Hid (∀ j, j < k + 1 → inB (cl.getD j 0) 1 P = true) := Lib.hid (fun j hj => by
              by_cases e : j = k
              · rw [e, ← ex]; exact hx
              · exact HA.out j (by omega))
            obtain ⟨hxb1, hxb2⟩ := hxb
            have HX := Lib.hid hx
            clear hx
            by_cases hk0 : 0 < k
            · have hk0I : (0 : Int) < (k : Int) := by omega
              obtain ⟨m, hm⟩ : ∃ m, m + 1 = k := ⟨k - 1, by omega⟩
              obtain ⟨_, e1, -, s1⟩ := (hc.below hB).int (k := m) (by omega)
              cases e1
              obtain ⟨y, ey⟩ : ∃ x, x = cl.getD m 0 := ⟨_, rfl⟩
              have hye : cl[m]'(by omega) = y := by rw [ey, getD_in 0 (by omega)]
              rw [hye] at s1
              clear hye
              have hkm : k - 1 = m := by omega
              have hm1 : (k : Int) - 1 = (m : Int) := by omega
              have hmI : (m : Int) < (cl.length : Int) := by omega
              have HKM := Lib.hid hkm; clear hkm hm
              by_cases ho : x ≤ y
              · have HG := Lib.hid (plAt_order (lo := 1) (hi := P) (st := 1) hlt (by rw [← ex]; exact HX.out) ⟨hk0, by rw [← ex, HKM.out, ← ey]; omega⟩)
                clear ex ey
                go_wp2_with fail
                go_quiet ((go_at_call 42; exact Calls.quiet_of_same (within_v HX.out _)))
                go_wp2_with fail
                go_quiet (fail)
                go_wp2_with fail
                go_ret2
                exact ⟨two_to (by rw [HCE.out, HR.out, HG.out]), below_drewN (below_drewN hB _) _⟩
              · have HG := Lib.hid (plAt_go (lo := 1) (hi := P) (st := 1) hlt (by rw [← ex]; exact HX.out) (fun h => ho (by have := h.2; rw [← ex, HKM.out, ← ey] at this; omega)))
                clear ex ey
                go_wp2_with fail
                go_quiet ((go_at_call 42; exact Calls.quiet_of_same (within_v HX.out _)))
                go_wp2_with fail
                go_quiet (fail)
                go_wp2_with fail
                go_roundw
                case rel => exact ⟨k + 1, by omega, by go_num, Lib.hid (HR.out.trans HG.out), HA2, bx.drewN _, below_drewN hB _⟩
                case measure => simp [intOf]; omega
            · have hk0I : ¬ (0 : Int) < (k : Int) := by omega
              have HG := Lib.hid (plAt_go (lo := 1) (hi := P) (st := 1) hlt (by rw [← ex]; exact HX.out) (fun h => hk0 h.1))
              clear ex
              go_wp2_with fail
              go_quiet ((go_at_call 42; exact Calls.quiet_of_same (within_v HX.out _)))
              go_wp2_with fail
              go_quiet (fail)
              go_wp2_with fail
              go_roundw
              case rel => exact ⟨k + 1, by omega, by go_num, Lib.hid (HR.out.trans HG.out), HA2, bx.drewN _, below_drewN hB _⟩
              case measure => simp [intOf]; omega
        · have hkI : ¬ (k : Int) < (cl.length : Int) := by omega
          have HG := Lib.hid (plAt_end (lo := 1) (hi := P) (st := 1) hlt)
          go_wp2_with fail
          go_ret2
          exact ⟨two_to (by rw [HCE.out, HR.out, HG.out]), hB⟩
end Go.Proofs.Ytjkjfmahcjcniaa
