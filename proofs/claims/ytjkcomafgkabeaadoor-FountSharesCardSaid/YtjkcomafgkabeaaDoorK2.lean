/-
  The law on shares: its walk.
-/
import Derived.Test.YtjkcomafgkabeaaDoorN6
import Derived.Test.YtjkcomafgkabeaaDoorT3
import Derived.Test.YtjkcomafgkabeaaDoorM4
namespace Go.Proofs.YtjkcomafgkabeaaDoor
open Go.RowKit Go.Maps

def sizeI (n : Int) : Int := max n (-n)
set_option maxRecDepth 100000 in
theorem size_any (n : Int) (h : -1000000000000000000 ≤ n ∧ n ≤ 1000000000000000000) (w : World) :
    Calls Tryd.prog 57 #[.int .i64 n] w fun e w' => e = .returned (.int .i64 (sizeI n)) ∧ w' = w := by
  go_enter Tryd.func57, Tryd.ntmps57
  go_wp2
  go_ret
  exact ⟨rfl, rfl⟩

set_option maxRecDepth 100000 in
set_option maxHeartbeats 8000000 in
theorem shares_walk (f : FT) (a : Option Addr) (c : Nat) (b : Option Addr) (l : List Int) (d : Nat) (size : Int) (w : World) (hF : FAt w a f) (hL : LawOk w) (hc : f.sorts.length ≤ c) (hX : IntsAt w b l) (hl : l.length ≤ maxLen) :
    Calls Tryd.prog 11 #[.agg #[.string f.name, .int .i64 f.body, .slice a f.sorts.length c], .slice b l.length d, .int .i64 size] w fun e w' => e = .returned (.bool true) ∧ Below w.heap.size w w' := by
  have hB0 : Below (w.heap.size + 1) (w.alloc (boxF f a c)) (w.alloc (boxF f a c)) := Below.refl _ _
  have E0 := Env.of hF hB0
  go_enter Tryd.func11, Tryd.ntmps11
  go_wp2_with fail
  refine (awake_any _ (hL.below E0.low)).mono ?_
  rintro e w2 ⟨rfl, hb2⟩
  have E2 := E0.step hF hb2
  have q0 := E2.c0; have q1 := E2.c1; have q2 := E2.c2
  clear hb2 E0
  go_wp2_with fail
  refine (few_any f a c _ E2.fa.ok E2.fa.at_).mono ?_
  rintro e w3 ⟨rfl, hb3⟩
  have E3 := E2.step hF hb3
  clear q0 q1 q2 hb3 E2
  have q0 := E3.c0; have q1 := E3.c1; have q2 := E3.c2
  cases hfew : fewB f
  · have hlow := E3.low
    go_wp2
    go_ret
    exact ⟨rfl, hlow⟩
  have hX3 := hX.below E3.low
  go_wp2_with fail
  refine (refCheckCase_any f a c b l d _ hc E3.fa.ok E3.fa.at_ hX3 hl).mono ?_
  rintro e w4 ⟨rfl, hb4⟩
  have E4 := E3.step hF hb4
  clear q0 q1 q2 hb4 E3 hX3
  have q0 := E4.c0; have q1 := E4.c1; have q2 := E4.c2
  by_cases hce : caseErr f l = 0
  · obtain ⟨h0, hok⟩ := case_ok hce
    obtain ⟨_, hR, _⟩ := checkF_right h0
    have hn1 := hR.2.2.1
    have hn10 := few_len hfew hR
    have hX4 := hX.below E4.low
    have hl20 : l.length < 20 := by have := hok.1; omega
    rw [hce]
    have hce2 := cases_ok h0 (ls := [l]) (by intro x hx; simp at hx; subst hx; exact hok)
    have H0 := Lib.hid h0; have HOK := Lib.hid hok; have HCE := Lib.hid hce2
    have HL := Lib.hid hok.1
    clear hR hok h0 hce hfew hce2
    go_wp2_with fail
    refine (BillFor_any f a c b l d size _ E4.fa hX4 hl hl20).mono ?_
    rintro e w5 ⟨hb5, hres⟩
    have E5 := E4.step hF hb5
    have hX5 := hX4.below hb5
    clear q0 q1 q2 hb5 E4 hX4
    rcases hres with ⟨hne, rfl⟩ | ⟨heq, g, rfl, hrow⟩
    · have h11 : billE f l size = 2 ∨ billE f l size = 11 := by
        unfold billE at hne ⊢
        rw [if_neg (by simp [HCE.out])] at hne ⊢
        split at hne
        · rename_i h; rw [if_pos h]; exact .inl rfl
        · rename_i h; rw [if_neg h]
          split at hne
          · rename_i h2; rw [if_pos h2]; exact .inr rfl
          · exact absurd rfl hne
      have hlow := E5.low
      rcases h11 with h | h
      all_goals
        rw [h]
        clear h hne
        go_wp2
        go_ret
        exact ⟨rfl, hlow⟩
    · have hts : 0 ≤ size ∧ size ≤ 1000000 := by
        unfold billE at heq
        rw [if_neg (by simp [HCE.out])] at heq
        split at heq
        · cases heq
        · omega
      have hs0 : sumOf l ≠ 0 := by
        intro h
        unfold billE at heq
        rw [if_neg (by simp [HCE.out]), if_neg (by omega), if_pos h] at heq
        cases heq
      have hsp := sumOf_pos HOK.out hs0
      have hpl : 0 < l.length := by have := HL.out; omega
      have BN := Lib.hid (bill_nonneg HOK.out hs0 hts)
      have BL := Lib.hid (bill_le HOK.out (by omega) hs0 hts)
      have BS := Lib.hid (bill_sum (total := size) HOK.out (by omega) hs0)
      have BM := Lib.hid (fun i k hi hk h => bill_mono (l := l) (s := sumOf l) (t := size) hpl hsp rfl hts.1 (i := i) (k := k) hi hk h)
      have BE := Lib.hid (fun j hj => bill_near (l := l) (s := sumOf l) (t := size) hpl hsp rfl (j := j) hj)
      have BLEN := Lib.hid (bill_len (l := l) (total := size))
      generalize billOf l (sumOf l) size = bl at hrow BN BL BS BM BE BLEN
      have hbl := hrow.ints
      clear heq hs0 hrow
      go_wp2_with fail
      go_loopw [9, 10, 11] (fun s t i wr => ∃ k : Nat, k ≤ l.length ∧ i = .int .i64 k ∧ s = .int .i64 (sumTo (fun j => l.getD j 0) k) ∧ t = .int .i64 (sumTo (fun j => bl.getD j 0) k) ∧ Drew w5 wr) (fun _ _ i _ => l.length - (intOf i).toNat)
      case atStart => exact ⟨0, Nat.zero_le _, rfl, rfl, rfl, Drew.refl _⟩
      case round =>
        obtain ⟨k, hk, rfl, rfl, rfl, hD⟩ := hrel
        have hsl := sumTo_bd (f := fun j => l.getD j 0) (lo := 0) (hi := 1000000) (k := k) (fun i hi => HOK.out.2 i (by have := HL.out; omega))
        have hsb := sumTo_bd (f := fun j => bl.getD j 0) (lo := 0) (hi := 1000000) (k := k) (fun i hi => ⟨BN.out i (by omega), by have := BL.out i (by omega); omega⟩)
        have hk20 : (k : Int) ≤ 20 := by omega
        by_cases hlt : k < l.length
        · obtain ⟨p1, hp1e, hp1, hc1⟩ := (hD.ints hX5).at_ (k := k) hlt
          subst hp1e
          obtain ⟨_, e2, hp2, hc2⟩ := (hD.ints hbl).at_ (k := k) (by rw [BLEN.out]; exact hlt)
          cases e2
          rw [add0] at hc2
          have v1 := HOK.out.2 k (by have := HL.out; omega)
          have v2 := BN.out k hlt
          have v3 := BL.out k hlt
          obtain ⟨_, e5, _, hq1⟩ := hX5.at_ (k := k) hlt
          cases e5
          obtain ⟨_, e6, _, hq2⟩ := hbl.at_ (k := k) (by rw [BLEN.out]; exact hlt)
          cases e6
          rw [add0] at hq2
          have hst1 := Lib.hid (show sumTo (fun j => l.getD j 0) (k + 1) = sumTo (fun j => l.getD j 0) k + l.getD k 0 from rfl)
          have hst2 := Lib.hid (show sumTo (fun j => bl.getD j 0) (k + 1) = sumTo (fun j => bl.getD j 0) k + bl.getD k 0 from rfl)
          have MN := Lib.hid (fun j (hj : j < l.length) => BM.out k j hlt hj)
          have MX := Lib.hid (fun j (hj : j < l.length) => BM.out j k hj hlt)
          generalize sumTo (fun j => l.getD j 0) k = sl at hsl hst1
          generalize sumTo (fun j => bl.getD j 0) k = sb at hsb hst2
          generalize l.getD k 0 = x at hc1 hq1 v1 hst1 MN MX
          generalize bl.getD k 0 = y at hc2 hq2 v2 v3 hst2 MN MX
          have i1 : inB y 0 size = true := decide_eq_true ⟨v2, v3⟩
          have hkl : (k : Int) < (l.length : Int) := by omega
          have hwx : IntKind.i64.wrap (sl + x) = sl + x := IntWalk.i64_in _ (by omega)
          have hwy : IntKind.i64.wrap (sb + y) = sb + y := IntWalk.i64_in _ (by omega)
          go_wp2_with (go_at_call 30; refine (within_any _ _ _ _).mono ?_; rintro e w' ⟨rfl, rfl⟩)
          go_quiet (fail)
          have hD' := hD.drewN nq
          go_wp2_with fail
          go_loopw [12] (fun i w2 => ∃ j : Nat, j ≤ k ∧ i = .int .i64 j ∧ Drew w5 w2) (fun i _ => k - (intOf i).toNat)
          case atStart => exact ⟨0, Nat.zero_le _, rfl, hD'⟩
          case round =>
            obtain ⟨j, hj, rfl, hD2⟩ := hrel
            clear hD' hD
            have hjk : (j : Int) ≤ (k : Int) := by omega
            by_cases hjl : j < k
            · have hjl' : (j : Int) < (k : Int) := by omega
              have hjn : j < l.length := by omega
              have hjn' : (j : Int) < (l.length : Int) := by omega
              obtain ⟨_, e3, hp3, hc3⟩ := (hD2.ints hX5).at_ (k := j) hjn
              cases e3
              obtain ⟨_, e4, hp4, hc4⟩ := (hD2.ints hbl).at_ (k := j) (by rw [BLEN.out]; exact hjn)
              cases e4
              rw [add0] at hc4
              have r1 := hD2.cell hq1
              have r2 := hD2.cell hq2
              have mn := MN.out j hjn
              have mx := MX.out j hjn
              generalize l.getD j 0 = u at hc3 mn mx
              generalize bl.getD j 0 = v at hc4 mn mx
              rcases Int.lt_trichotomy u x with h | h | h
              · have gd1 : decide (u < x) = true := decide_eq_true h
                have gd2 : decide (y < v) = false := decide_eq_false (by have := mn h; omega)
                have gd3 : decide (x < u) = false := decide_eq_false (by omega)
                clear mn mx h
                go_wp2
                go_quiet (fail)
                go_wp2
                go_roundw
                case rel => exact ⟨j + 1, by omega, by go_num, hD2.drewN _⟩
                case measure => simp [intOf]; omega
              · have gd1 : decide (u < x) = false := decide_eq_false (by omega)
                have gd3 : decide (x < u) = false := decide_eq_false (by omega)
                clear mn mx h
                go_wp2
                go_quiet (fail)
                go_wp2
                go_roundw
                case rel => exact ⟨j + 1, by omega, by go_num, hD2.drewN _⟩
                case measure => simp [intOf]; omega
              · have gd1 : decide (u < x) = false := decide_eq_false (by omega)
                have gd2 : decide (v < y) = false := decide_eq_false (by have := mx h; omega)
                have gd3 : decide (x < u) = true := decide_eq_true h
                clear mn mx h
                go_wp2
                go_quiet (fail)
                go_wp2
                go_roundw
                case rel => exact ⟨j + 1, by omega, by go_num, hD2.drewN _⟩
                case measure => simp [intOf]; omega
            · go_wp2
              go_roundw
              case rel => exact ⟨k + 1, by omega, by go_num, by rw [hst1.out], by rw [hst2.out], hD2⟩
              case measure => simp [intOf]; omega
        · have hk2 : k = l.length := by omega
          subst hk2
          have hS : sumTo (fun j => bl.getD j 0) l.length = size := by
            have := BS.out
            unfold sumOf at this
            rw [BLEN.out] at this
            exact this
          rw [hS]
          rw [show sumTo (fun j => l.getD j 0) l.length = sumOf l from rfl] at hsl ⊢
          have hsS : sumOf l ≤ 20000000 := by omega
          generalize sumOf l = S at hsp hsS BE
          clear hsl hsb hS hk BS BM
          go_wp2_with fail
          go_loopw [13] (fun i w2 => ∃ j : Nat, j ≤ l.length ∧ i = .int .i64 j ∧ Drew w5 w2) (fun i _ => l.length - (intOf i).toNat)
          case atStart => exact ⟨0, Nat.zero_le _, rfl, hD⟩
          case round =>
            obtain ⟨j, hj, rfl, hD2⟩ := hrel
            clear hD
            by_cases hjl : j < l.length
            · have hjl' : (j : Int) < (l.length : Int) := by omega
              obtain ⟨p3, e3, hp3, hc3⟩ := (hD2.ints hX5).at_ (k := j) hjl
              subst e3
              obtain ⟨_, e4, hp4, hc4⟩ := (hD2.ints hbl).at_ (k := j) (by rw [BLEN.out]; exact hjl)
              cases e4
              rw [add0] at hc4
              have v1 := HOK.out.2 j (by have := HL.out; omega)
              have v2 := BN.out j hjl
              have v3 := BL.out j hjl
              have be := BE.out j hjl
              generalize l.getD j 0 = u at hc3 v1 be
              generalize bl.getD j 0 = v at hc4 v2 v3 be
              have a1 : 0 ≤ v * S := Int.mul_nonneg v2 (by omega)
              have a2 : v * S ≤ 1000000 * 20000000 := Int.mul_le_mul (by omega) hsS (by omega) (by omega)
              have a3 : 0 ≤ size * u := Int.mul_nonneg hts.1 v1.1
              have a4 : size * u ≤ 1000000 * 1000000 := Int.mul_le_mul hts.2 v1.2 v1.1 (by omega)
              have gd : decide (S ≤ sizeI (v * S - size * u)) = false := decide_eq_false (by unfold sizeI; omega)
              go_wp2
              go_quiet ((go_at_call 57; exact Calls.quiet_of_same (size_any _ (by omega) _)))
              go_wp2
              go_roundw
              case rel => exact ⟨j + 1, by omega, by go_num, hD2.drewN _⟩
              case measure => simp [intOf]; omega
            · have hlow := hD2.below E5.low
              go_wp2
              go_ret
              exact ⟨rfl, hlow⟩
  · have hlow := E4.low
    have hcb : (caseErr f l != 0) = true := by simpa using hce
    go_wp2
    go_ret
    exact ⟨rfl, hlow⟩
end Go.Proofs.YtjkcomafgkabeaaDoor
