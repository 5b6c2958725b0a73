/-
  The law on checks: its walk.
-/
import Derived.Test.YtebndgepmjonoaaDoorXB
import Derived.Test.YtebndgepmjonoaaDoorZR
namespace Go.Proofs.YtebndgepmjonoaaDoor
open Go.RowKit Go.Maps

set_option maxRecDepth 100000 in
set_option maxHeartbeats 8000000 in
theorem checks_walk (f : FT) (a : Option Addr) (c : Nat) (w : World) (hF : FAt w a f) (hL : LawOk w) (hc : f.sorts.length ≤ c) (ha : a = none → c = 0) :
    Calls Tryd.prog 3 #[.agg #[.string f.name, .int .i64 f.body, .slice a f.sorts.length c]] w fun e w' => e = .returned (.bool true) ∧ Below w.heap.size w w' := by
  have hB0 : Below (w.heap.size + 1) (w.alloc (boxF f a c)) (w.alloc (boxF f a c)) := Below.refl _ _
  have E0 := Env.of hF hB0
  go_enter Tryd.func3, Tryd.ntmps3
  go_wp2_with fail
  refine (awake_any _ (hL.below E0.low)).mono ?_
  rintro e w2 ⟨rfl, hb2⟩
  have E2 := E0.step hF hb2
  have q0 := E2.c0; have q1 := E2.c1; have q2 := E2.c2
  clear hb2 E0
  go_wp2_with fail
  refine (few_any f a c _ E2.fa.ok E2.fa.at_).mono ?_
  rintro e w3 ⟨rfl, hb3⟩
  have E3 := E2.step hF hb3
  clear q0 q1 q2 hb3 E2
  have q0 := E3.c0; have q1 := E3.c1; have q2 := E3.c2
  cases hfew : fewB f
  · have hlow := E3.low
    go_wp2
    go_ret
    exact ⟨rfl, hlow⟩
  have hf123 := few_le hfew
  go_wp2_with fail
  refine (copyFount_any f a c _ E3.fa (by omega) ha).mono ?_
  rintro e w4 ⟨gf4, cf4, rfl, hcf4, fc4, hb4⟩
  have E4 := E3.step hF hb4
  clear hb4 E3 q0 q1 q2
  have q0 := E4.c0; have q1 := E4.c1; have q2 := E4.c2
  go_wp2_with fail
  refine (checkFount_any f _ cf4 _ fc4.ok fc4.at_ fc4.tab).mono ?_
  rintro e w5 ⟨rfl, hb5⟩
  have E5 := E4.step hF hb5
  clear hb5 E4 q0 q1 q2 fc4
  have q0 := E5.c0; have q1 := E5.c1; have q2 := E5.c2
  go_wp2_with fail
  refine (copyFount_any f a c _ E5.fa (by omega) ha).mono ?_
  rintro e w6 ⟨gf6, cf6, rfl, hcf6, fc6, hb6⟩
  have E6 := E5.step hF hb6
  clear hb6 E5 q0 q1 q2
  have q0 := E6.c0; have q1 := E6.c1; have q2 := E6.c2
  go_wp2_with fail
  refine (EmOf_any f _ cf6 _ fc6).mono ?_
  rintro e w7 ⟨rfl, hb7⟩
  have E7 := E6.step hF hb7
  clear hb7 E6 q0 q1 q2 fc6
  have q0 := E7.c0; have q1 := E7.c1; have q2 := E7.c2
  go_wp2_with fail
  refine (copyFount_any f a c _ E7.fa (by omega) ha).mono ?_
  rintro e w8 ⟨gf8, cf8, rfl, hcf8, fc8, hb8⟩
  have E8 := E7.step hF hb8
  clear hb8 E7 q0 q1 q2
  have q0 := E8.c0; have q1 := E8.c1; have q2 := E8.c2
  by_cases hck : (checkF f).2 = 0
  · obtain ⟨_, hR, _⟩ := checkF_right hck
    have hn10 := few_len hfew hR
    have hbd : 1 ≤ f.body ∧ f.body ≤ 144 := ⟨hR.1, hR.2.1⟩
    have hem : emR f = 60 * f.body := by unfold emR; rw [if_pos hck]; omega
    have hsl : (spacesOf f.sorts).length ≤ maxLen := by have := (rspTo_ok f.sorts f.sorts.length).1; unfold maxLen; unfold spacesOf; omega
    clear hR hfew
    go_wp2_with fail
    refine (Spaces_good f _ cf8 _ fc8 hck (by omega)).mono ?_
    rintro e w9 ⟨hb9, A9, cap9, rfl, hs9⟩
    have E9 := E8.step hF hb9
    clear hb9 E8 q0 q1 q2 fc8
    have q0 := E9.c0; have q1 := E9.c1; have q2 := E9.c2
    go_wp2_with fail
    refine (refCheckFount_any f a c _ hc E9.fa.ok E9.fa.at_).mono ?_
    rintro e w10 ⟨rfl, hb10⟩
    have E10 := E9.step hF hb10
    have hs10 := hs9.below hb10
    clear hb10 E9 q0 q1 q2 hs9
    have q0 := E10.c0; have q1 := E10.c1; have q2 := E10.c2
    rw [hck]
    clear hck hem
    go_wp2_with fail
    refine (refEm_any f a c _ hbd).mono ?_
    rintro e w11 ⟨rfl, hb11⟩
    have E11 := E10.step hF hb11
    have hs11 := hs10.below hb11
    clear hb11 E10 q0 q1 q2 hs10
    have q0 := E11.c0; have q1 := E11.c1; have q2 := E11.c2
    go_wp2_with fail
    refine (refSpaces_any f a c _ E11.fa (by omega)).mono ?_
    rintro e w12 ⟨hb12, A12, cap12, rfl, hr12⟩
    have E12 := E11.step hF hb12
    have hs12 := hs11.below hb12
    have hlow12 := E12.low
    clear hb12 E11 q0 q1 q2 hs11
    go_wp2_with fail
    refine (ints_good rfl rfl hs12 hr12 hsl hsl rfl).mono ?_
    rintro e w13 ⟨rfl, hD13⟩
    have hlow13 := hD13.below hlow12
    go_wp2
    go_ret
    exact ⟨rfl, hlow13⟩
  · have hem : emR f = 0 := by unfold emR; rw [if_neg hck]
    have heb : ((checkF f).2 != 0) = true := by simpa using hck
    try rw [hem]
    go_wp2_with fail
    refine (Spaces_bad f _ cf8 _ fc8 hck).mono ?_
    rintro e w9 ⟨rfl, hb9⟩
    have E9 := E8.step hF hb9
    clear hb9 E8 q0 q1 q2 fc8
    have q0 := E9.c0; have q1 := E9.c1; have q2 := E9.c2
    go_wp2_with fail
    refine (refCheckFount_any f a c _ hc E9.fa.ok E9.fa.at_).mono ?_
    rintro e w10 ⟨rfl, hb10⟩
    have E10 := E9.step hF hb10
    have hlow10 := E10.low
    clear hb10 E9 q0 q1 q2 hck hem
    go_wp2
    go_ret
    exact ⟨rfl, hlow10⟩
end Go.Proofs.YtebndgepmjonoaaDoor
