/-
  The law on metal: its walk.
-/
import Derived.Test.YtjkcomafgkabeaaDoorR1
namespace Go.Proofs.YtjkcomafgkabeaaDoor
open Go.RowKit Go.Maps

set_option maxRecDepth 100000 in
set_option maxHeartbeats 8000000 in
theorem metals_walk (f : FT) (a : Option Addr) (c : Nat) (b : Option Addr) (l : List Int) (d : Nat) (m : Int) (w : World) (hF : FAt w a f) (hL : LawOk w) (hc : f.sorts.length ≤ c) (ha : a = none → c = 0) (hX : IntsAt w b l) (hl : l.length ≤ maxLen) (hd : b = none → d = 0) :
    Calls Tryd.prog 12 #[.agg #[.string f.name, .int .i64 f.body, .slice a f.sorts.length c], .slice b l.length d, .int .i64 m] w fun e w' => e = .returned (.bool true) ∧ Below w.heap.size w w' := by
  have hB0 : Below (w.heap.size + 1) (w.alloc (boxF f a c)) (w.alloc (boxF f a c)) := Below.refl _ _
  have E0 := Env.of hF hB0
  go_enter Tryd.func12, Tryd.ntmps12
  go_wp2_with fail
  refine (awake_any _ (hL.below E0.low)).mono ?_
  rintro e w2 ⟨rfl, hb2⟩
  have E2 := E0.step hF hb2
  have q0 := E2.c0; have q1 := E2.c1; have q2 := E2.c2
  clear hb2 E0
  go_wp2_with fail
  refine (few_any f a c _ E2.fa.ok E2.fa.at_).mono ?_
  rintro e w3 ⟨rfl, hb3⟩
  have E3 := E2.step hF hb3
  clear q0 q1 q2 hb3 E2
  have q0 := E3.c0; have q1 := E3.c1; have q2 := E3.c2
  cases hfew : fewB f
  · have hlow := E3.low
    go_wp2
    go_ret
    exact ⟨rfl, hlow⟩
  have hf123 := few_le hfew
  unfold maxLen at hl
  by_cases h123 : 123 < l.length
  · have hlow := E3.low
    have h123' : (123 : Int) < (l.length : Int) := by omega
    go_wp2
    go_ret
    exact ⟨rfl, hlow⟩
  have h123' : (l.length : Int) ≤ 123 := by omega
  have hX3 := hX.below E3.low
  clear hfew
  go_wp2_with fail
  refine (copyFount_any f a c _ E3.fa (by omega) ha).mono ?_
  rintro e w4 ⟨g4, c4, rfl, hc4, hF4, hb4⟩
  have E4 := E3.step hF hb4
  have hX4 := hX3.below hb4
  clear q0 q1 q2 hb4 E3 hX3
  go_wp2_with fail
  refine (copyInts_any b l d _ hX4 (by omega) hd).mono ?_
  rintro e w5 ⟨g5, d5, rfl, hr5, hb5⟩
  have E5 := E4.step hF hb5
  have hX5 := hX4.below hb5
  have hF5 := hF4.below hb5
  have hY5 := (Row3.of_own hr5).ints
  clear hb5 E4 hX4 hF4 hr5
  have hm := MetalOf_any f (some ⟨g4, 0, none⟩) c4 (some ⟨g5, 0, none⟩) l d5 _ hF5 hY5 (by unfold maxLen; omega)
  have HM := Lib.hid hm
  clear hm
  go_wp2_with fail
  refine HM.out.mono ?_
  rintro e w6 ⟨rfl, hb6⟩
  have E6 := E5.step hF hb6
  have hX6 := hX5.below hb6
  have q0 := E6.c0; have q1 := E6.c1; have q2 := E6.c2
  clear hb6 E5 hX5 hF5 hY5 HM
  go_wp2_with fail
  refine (copyFount_any f a c _ E6.fa (by omega) ha).mono ?_
  rintro e w7 ⟨g7, c7, rfl, hc7, hF7, hb7⟩
  have E7 := E6.step hF hb7
  have hX7 := hX6.below hb7
  clear q0 q1 q2 hb7 E6 hX6
  go_wp2_with fail
  refine (copyInts_any b l d _ hX7 (by omega) hd).mono ?_
  rintro e w8 ⟨g8, d8, rfl, hr8, hb8⟩
  have E8 := E7.step hF hb8
  have hX8 := hX7.below hb8
  have hF8 := hF7.below hb8
  have hY8 := (Row3.of_own hr8).ints
  clear hb8 E7 hX7 hF7 hr8
  have HM := Lib.hid (Cast_any f (some ⟨g7, 0, none⟩) c7 m (some ⟨g8, 0, none⟩) l d8 _ hF8 hY8 (by unfold maxLen; omega))
  go_wp2_with fail
  refine HM.out.mono ?_
  rintro e w9 ⟨rfl, hb9⟩
  have E9 := E8.step hF hb9
  have hX9 := hX8.below hb9
  have q0 := E9.c0; have q1 := E9.c1; have q2 := E9.c2
  clear hb9 E8 hX8 hF8 hY8 HM
  go_wp2_with fail
  refine (refCheckCase_any f a c b l d _ hc E9.fa.ok E9.fa.at_ hX9 (by unfold maxLen; omega)).mono ?_
  rintro e w10 ⟨rfl, hb10⟩
  have E10 := E9.step hF hb10
  have hX10 := hX9.below hb10
  clear q0 q1 q2 hb10 E9 hX9
  have q0 := E10.c0; have q1 := E10.c1; have q2 := E10.c2
  by_cases hce : caseErr f l = 0
  · obtain ⟨h0, hok⟩ := case_ok hce
    obtain ⟨_, hR, _⟩ := checkF_right h0
    have hmr := metalR_ok h0 hok
    have hcr := castR_eq (m := m) (l := l) h0
    rw [hce, hmr, hcr]
    have HOK := Lib.hid hok; have HR := Lib.hid hR; have H0 := Lib.hid h0; have HCE := Lib.hid hce
    have hmb := metal_bd hR hok
    clear hce hmr hcr hok hR h0
    go_wp2_with fail
    refine (refMetal_any f a c b l d _ E10.fa.at_ hX10 HR.out HOK.out).mono ?_
    rintro e w11 ⟨rfl, hb11⟩
    have E11 := E10.step hF hb11
    have hX11 := hX10.below hb11
    clear q0 q1 q2 hb11 E10 hX10
    have q0 := E11.c0; have q1 := E11.c1; have q2 := E11.c2
    go_wp2_with fail
    refine (refErr_any f a c _ hc E11.fa.ok E11.fa.at_).mono ?_
    rintro e w12 ⟨rfl, hb12⟩
    have E12 := E11.step hF hb12
    have hX12 := hX11.below hb12
    clear q0 q1 q2 hb12 E11 hX11
    have q0 := E12.c0; have q1 := E12.c1; have q2 := E12.c2
    rw [H0.out]
    go_wp2_with fail
    refine (refCast_any f a c m b l d _ hc E12.fa hX12 (by unfold maxLen; omega)).mono ?_
    rintro e w13 ⟨rfl, hb13⟩
    have hlow := (E12.step hF hb13).low
    clear q0 q1 q2 hb13 E12 hX12
    by_cases hmm : m < 0 ∨ 1000000000000000000 < m
    · have hr : rcastR f m l = (0, 0, 2) := by unfold rcastR; rw [if_pos hmm]
      rw [hr]
      clear hr hmm
      go_wp2
      go_ret
      exact ⟨rfl, hlow⟩
    · have hr : rcastR f m l = if metal f l = 0 then (0, 0, 11) else (m / metal f l, m % metal f l, 0) := by unfold rcastR; rw [if_neg hmm, if_neg (by simp [HCE.out])]
      rw [hr]
      generalize metal f l = p at hmb
      by_cases hz : p = 0
      · subst hz
        rw [if_pos rfl]
        clear hr hmm
        go_wp2
        go_ret
        exact ⟨rfl, hlow⟩
      · rw [if_neg hz]
        have hp1 : 1 ≤ p := by omega
        have h2 : m % p < p := Int.emod_lt_of_pos m (by omega)
        clear hr hmm hz
        go_wp2
        go_ret
        exact ⟨rfl, hlow⟩
  · have hmr : metalR f l = (0, caseErr f l) := by unfold metalR; rw [case_cases, if_pos hce]
    have hcb : (caseErr f l != 0) = true := by simpa using hce
    have hcb2 : (caseErr f l == 0) = false := by simpa using hce
    rw [hmr]
    have HCE := Lib.hid hce
    clear hmr hce
    go_wp2_with fail
    refine (refErr_any f a c _ hc E10.fa.ok E10.fa.at_).mono ?_
    rintro e w12 ⟨rfl, hb12⟩
    have E12 := E10.step hF hb12
    have hX12 := hX10.below hb12
    clear q0 q1 q2 hb12 E10 hX10
    have q0 := E12.c0; have q1 := E12.c1; have q2 := E12.c2
    by_cases h0 : (checkF f).2 = 0
    · rw [h0, castR_eq (m := m) (l := l) h0]
      clear h0
      go_wp2_with fail
      refine (refCast_any f a c m b l d _ hc E12.fa hX12 (by unfold maxLen; omega)).mono ?_
      rintro e w13 ⟨rfl, hb13⟩
      have hlow := (E12.step hF hb13).low
      clear q0 q1 q2 hb13 E12 hX12
      by_cases hmm : m < 0 ∨ 1000000000000000000 < m
      · have hr : rcastR f m l = (0, 0, 2) := by unfold rcastR; rw [if_pos hmm]
        rw [hr]
        clear hr hmm
        go_wp2
        go_ret
        exact ⟨rfl, hlow⟩
      · have hr : rcastR f m l = (0, 0, caseErr f l) := by unfold rcastR; rw [if_neg hmm, if_pos HCE.out]
        rw [hr]
        clear hr hmm
        go_wp2
        go_ret
        exact ⟨rfl, hlow⟩
    · have hcr : castR f m l = (0, 0, (checkF f).2) := by unfold castR; rw [if_pos h0]
      have hlow := E12.low
      have heb : ((checkF f).2 == 0) = false := by simpa using h0
      have heb2 : ((checkF f).2 != 0) = true := by simpa using h0
      rw [hcr]
      clear hcr h0
      go_wp2
      go_ret
      exact ⟨rfl, hlow⟩
end Go.Proofs.YtjkcomafgkabeaaDoor
