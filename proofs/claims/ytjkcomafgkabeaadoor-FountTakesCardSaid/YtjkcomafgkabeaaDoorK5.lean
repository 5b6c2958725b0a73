/-
  The law on taking: its walk.
-/
import Derived.Test.YtjkcomafgkabeaaDoorK4
namespace Go.Proofs.YtjkcomafgkabeaaDoor
open Go.RowKit Go.Maps

theorem Drew.row3 {w w' : World} (h : Drew w w') {g : Nat} {L : List Int} (r : Row3 w g L) : Row3 w' g L := by obtain ⟨m, rfl⟩ := h; exact r
theorem Drew.fat {w w' : World} (h : Drew w w') {a : Option Addr} {f : FT} (r : FAt w a f) : FAt w' a f := by obtain ⟨m, rfl⟩ := h; exact ⟨r.ok, r.at_, r.tab⟩
set_option maxRecDepth 100000 in
set_option maxHeartbeats 8000000 in
theorem takes_walk (f : FT) (a : Option Addr) (c : Nat) (b1 : Option Addr) (l1 : List Int) (d1 : Nat) (b2 : Option Addr) (l2 : List Int) (d2 : Nat) (w : World) (hF : FAt w a f) (hL : LawOk w) (hc : f.sorts.length ≤ c) (ha : a = none → c = 0) (hX1 : IntsAt w b1 l1) (hl1 : l1.length ≤ maxLen) (hd1 : b1 = none → d1 = 0) (hX2 : IntsAt w b2 l2) (hl2 : l2.length ≤ maxLen) (hd2 : b2 = none → d2 = 0) :
    Calls Tryd.prog 8 #[.agg #[.string f.name, .int .i64 f.body, .slice a f.sorts.length c], .slice b1 l1.length d1, .slice b2 l2.length d2] w fun e w' => e = .returned (.bool true) ∧ Below w.heap.size w w' := by
  have hB0 : Below (w.heap.size + 1) (w.alloc (boxF f a c)) (w.alloc (boxF f a c)) := Below.refl _ _
  have E0 := Env.of hF hB0
  go_enter Tryd.func8, Tryd.ntmps8
  go_wp2_with fail
  refine (awake_any _ (hL.below E0.low)).mono ?_
  rintro e w2 ⟨rfl, hb2⟩
  have E2 := E0.step hF hb2
  have q0 := E2.c0; have q1 := E2.c1; have q2 := E2.c2
  clear hb2 E0
  go_wp2_with fail
  refine (few_any f a c _ E2.fa.ok E2.fa.at_).mono ?_
  rintro e w3 ⟨rfl, hb3⟩
  have E3 := E2.step hF hb3
  clear q0 q1 q2 hb3 E2
  have q0 := E3.c0; have q1 := E3.c1; have q2 := E3.c2
  cases hfew : fewB f
  · have hlow := E3.low
    go_wp2
    go_ret
    exact ⟨rfl, hlow⟩
  have hf123 := few_le hfew
  unfold maxLen at hl1 hl2
  by_cases h123 : 123 < l1.length
  · have hlow := E3.low
    have h123' : (123 : Int) < (l1.length : Int) := by omega
    go_wp2
    go_ret
    exact ⟨rfl, hlow⟩
  have h123' : (l1.length : Int) ≤ 123 := by omega
  by_cases h124 : 123 < l2.length
  · have hlow := E3.low
    have h124' : (123 : Int) < (l2.length : Int) := by omega
    go_wp2
    go_ret
    exact ⟨rfl, hlow⟩
  have h124' : (l2.length : Int) ≤ 123 := by omega
  have xa3 := hX1.below E3.low
  have xb3 := hX2.below E3.low
  have ml1 : l1.length ≤ maxLen := by unfold maxLen; omega
  have ml2 : l2.length ≤ maxLen := by unfold maxLen; omega
  clear hfew
  by_cases hc1 : caseErr f l1 = 0
  · by_cases hc2 : caseErr f l2 = 0
    · obtain ⟨h0, hk1⟩ := case_ok hc1
      obtain ⟨_, hk2⟩ := case_ok hc2
      obtain ⟨_, hR, _⟩ := checkF_right h0
      have hn120 := hR.2.2.2.1
      have H0 := Lib.hid h0; have HK1 := Lib.hid hk1; have HK2 := Lib.hid hk2; have HC1 := Lib.hid hc1; have HC2 := Lib.hid hc2
      have HL1 := Lib.hid hk1.1
      clear hR h0 hk1 hk2 hc1 hc2
      cases hsh : short l1 l2 f.sorts.length 0 with
      | some si =>
        have HSH := Lib.hid hsh
        clear hsh
        go_wp2_with fail
        refine (copyFount_any f a c _ E3.fa (by omega) ha).mono ?_
        rintro e w4 ⟨gf4, cf4, rfl, hcf4, fc4, hb4⟩
        have E4 := E3.step hF hb4
        have xa4 := xa3.below hb4
        have xb4 := xb3.below hb4
        clear hb4 E3 xa3 xb3 q0 q1 q2
        have q0 := E4.c0; have q1 := E4.c1; have q2 := E4.c2
        go_wp2_with fail
        refine (copyInts_any b1 l1 d1 _ xa4 (by omega) hd1).mono ?_
        rintro e w5 ⟨gya5, dya5, rfl, hr5, hb5⟩
        have E5 := E4.step hF hb5
        have xa5 := xa4.below hb5
        have xb5 := xb4.below hb5
        have fc5 := fc4.below hb5
        clear hb5 E4 xa4 xb4 fc4 q0 q1 q2
        have q0 := E5.c0; have q1 := E5.c1; have q2 := E5.c2
        have ya5 := (Row3.of_own hr5).ints
        clear hr5
        go_wp2_with fail
        refine (copyInts_any b2 l2 d2 _ xb5 (by omega) hd2).mono ?_
        rintro e w6 ⟨gyb6, dyb6, rfl, hr6, hb6⟩
        have E6 := E5.step hF hb6
        have xa6 := xa5.below hb6
        have xb6 := xb5.below hb6
        have fc6 := fc5.below hb6
        have ya6 := ya5.below hb6
        clear hb6 E5 xa5 xb5 fc5 ya5 q0 q1 q2
        have q0 := E6.c0; have q1 := E6.c1; have q2 := E6.c2
        have yb6 := (Row3.of_own hr6).ints
        clear hr6
        go_wp2_with fail
        refine (Taken_short rfl rfl fc6 ya6 yb6 H0.out HK1.out HK2.out hn120 HSH.out).mono ?_
        rintro e w7 ⟨rfl, hb7⟩
        have E7 := E6.step hF hb7
        have xa7 := xa6.below hb7
        have xb7 := xb6.below hb7
        have fc7 := fc6.below hb7
        have ya7 := ya6.below hb7
        have yb7 := yb6.below hb7
        clear hb7 E6 xa6 xb6 fc6 ya6 yb6 q0 q1 q2
        have q0 := E7.c0; have q1 := E7.c1; have q2 := E7.c2
        clear fc7 ya7 yb7
        go_wp2_with fail
        refine (copyFount_any f a c _ E7.fa (by omega) ha).mono ?_
        rintro e w8 ⟨gf8, cf8, rfl, hcf8, fc8, hb8⟩
        have E8 := E7.step hF hb8
        have xa8 := xa7.below hb8
        have xb8 := xb7.below hb8
        clear hb8 E7 xa7 xb7 q0 q1 q2
        have q0 := E8.c0; have q1 := E8.c1; have q2 := E8.c2
        go_wp2_with fail
        refine (copyInts_any b1 l1 d1 _ xa8 (by omega) hd1).mono ?_
        rintro e w9 ⟨gya9, dya9, rfl, hr9, hb9⟩
        have E9 := E8.step hF hb9
        have xa9 := xa8.below hb9
        have xb9 := xb8.below hb9
        have fc9 := fc8.below hb9
        clear hb9 E8 xa8 xb8 fc8 q0 q1 q2
        have q0 := E9.c0; have q1 := E9.c1; have q2 := E9.c2
        have ya9 := (Row3.of_own hr9).ints
        clear hr9
        go_wp2_with fail
        refine (copyInts_any b2 l2 d2 _ xb9 (by omega) hd2).mono ?_
        rintro e w10 ⟨gyb10, dyb10, rfl, hr10, hb10⟩
        have E10 := E9.step hF hb10
        have xa10 := xa9.below hb10
        have xb10 := xb9.below hb10
        have fc10 := fc9.below hb10
        have ya10 := ya9.below hb10
        clear hb10 E9 xa9 xb9 fc9 ya9 q0 q1 q2
        have q0 := E10.c0; have q1 := E10.c1; have q2 := E10.c2
        have yb10 := (Row3.of_own hr10).ints
        clear hr10
        go_wp2_with fail
        refine (Lacking_good rfl rfl fc10 ya10 yb10 H0.out HK1.out HK2.out hn120).mono ?_
        rintro e w11 ⟨gl11, rfl, rl11, hb11⟩
        have E11 := E10.step hF hb11
        have xa11 := xa10.below hb11
        have xb11 := xb10.below hb11
        have fc11 := fc10.below hb11
        have ya11 := ya10.below hb11
        have yb11 := yb10.below hb11
        clear hb11 E10 xa10 xb10 fc10 ya10 yb10 q0 q1 q2
        have q0 := E11.c0; have q1 := E11.c1; have q2 := E11.c2
        clear fc11 ya11 yb11
        go_wp2_with fail
        refine (copyFount_any f a c _ E11.fa (by omega) ha).mono ?_
        rintro e w12 ⟨gf12, cf12, rfl, hcf12, fc12, hb12⟩
        have E12 := E11.step hF hb12
        have xa12 := xa11.below hb12
        have xb12 := xb11.below hb12
        have rl12 := rl11.below hb12
        clear hb12 E11 xa11 xb11 rl11 q0 q1 q2
        have q0 := E12.c0; have q1 := E12.c1; have q2 := E12.c2
        go_wp2_with fail
        refine (copyInts_any b1 l1 d1 _ xa12 (by omega) hd1).mono ?_
        rintro e w13 ⟨gya13, dya13, rfl, hr13, hb13⟩
        have E13 := E12.step hF hb13
        have xa13 := xa12.below hb13
        have xb13 := xb12.below hb13
        have rl13 := rl12.below hb13
        have fc13 := fc12.below hb13
        clear hb13 E12 xa12 xb12 rl12 fc12 q0 q1 q2
        have q0 := E13.c0; have q1 := E13.c1; have q2 := E13.c2
        have ya13 := (Row3.of_own hr13).ints
        clear hr13
        go_wp2_with fail
        refine (copyInts_any b2 l2 d2 _ xb13 (by omega) hd2).mono ?_
        rintro e w14 ⟨gyb14, dyb14, rfl, hr14, hb14⟩
        have E14 := E13.step hF hb14
        have xa14 := xa13.below hb14
        have xb14 := xb13.below hb14
        have rl14 := rl13.below hb14
        have fc14 := fc13.below hb14
        have ya14 := ya13.below hb14
        clear hb14 E13 xa13 xb13 rl13 fc13 ya13 q0 q1 q2
        have q0 := E14.c0; have q1 := E14.c1; have q2 := E14.c2
        have yb14 := (Row3.of_own hr14).ints
        clear hr14
        have HJ := Lib.hid (Times_any f (some ⟨gf12, 0, none⟩) cf12 (some ⟨gya13, 0, none⟩) l1 dya13 (some ⟨gyb14, 0, none⟩) l2 dyb14 _ fc14 ya14 ml1 yb14 ml2)
        go_wp2_with fail
        refine (HJ.out).mono ?_
        rintro e w15 ⟨rfl, hb15⟩
        have E15 := E14.step hF hb15
        have xa15 := xa14.below hb15
        have xb15 := xb14.below hb15
        have rl15 := rl14.below hb15
        have fc15 := fc14.below hb15
        have ya15 := ya14.below hb15
        have yb15 := yb14.below hb15
        clear hb15 E14 xa14 xb14 rl14 fc14 ya14 yb14 q0 q1 q2
        have q0 := E15.c0; have q1 := E15.c1; have q2 := E15.c2
        have HTE := Lib.hid (show timesE f l1 l2 = timesR l1 l2 f.sorts.length by unfold timesE; rw [if_neg (by simp [two_ok H0.out HK1.out HK2.out]), HL1.out])
        rw [HTE.out]
        clear HJ HTE
        clear fc15 ya15 yb15
        go_wp2_with fail
        refine (refCheckCase_any f a c b1 l1 d1 _ hc E15.fa.ok E15.fa.at_ xa15 ml1).mono ?_
        rintro e w16 ⟨rfl, hb16⟩
        have E16 := E15.step hF hb16
        have xa16 := xa15.below hb16
        have xb16 := xb15.below hb16
        have rl16 := rl15.below hb16
        clear hb16 E15 xa15 xb15 rl15 q0 q1 q2
        have q0 := E16.c0; have q1 := E16.c1; have q2 := E16.c2
        rw [HC1.out]
        go_wp2_with fail
        refine (refCheckCase_any f a c b2 l2 d2 _ hc E16.fa.ok E16.fa.at_ xb16 ml2).mono ?_
        rintro e w17 ⟨rfl, hb17⟩
        have E17 := E16.step hF hb17
        have xa17 := xa16.below hb17
        have xb17 := xb16.below hb17
        have rl17 := rl16.below hb17
        clear hb17 E16 xa16 xb16 rl16 q0 q1 q2
        have q0 := E17.c0; have q1 := E17.c1; have q2 := E17.c2
        rw [HC2.out]
        have HJ := Lib.hid (refTaken_any b1 l1 d1 b2 l2 d2 f.sorts.length _ hn120 xa17 xb17 HK1.out HK2.out)
        go_wp2_with fail
        refine (HJ.out).mono ?_
        rintro e w18 ⟨hb18, hj⟩
        have E18 := E17.step hF hb18
        have xa18 := xa17.below hb18
        have xb18 := xb17.below hb18
        have rl18 := rl17.below hb18
        clear hb18 E17 xa17 xb17 rl17 q0 q1 q2
        have q0 := E18.c0; have q1 := E18.c1; have q2 := E18.c2
        obtain ⟨i2, hi2, rfl⟩ := hj.resolve_right (fun h => by have := h.1; rw [HSH.out] at this; cases this)
        have ei : i2 = si := by rw [HSH.out] at hi2; exact (Option.some.inj hi2).symm
        subst ei
        clear hj HJ hi2
        have HJ := Lib.hid (refTimes_any b1 l1 d1 b2 l2 d2 f.sorts.length _ hn120 xa18 xb18 HK1.out HK2.out)
        go_wp2_with fail
        refine (HJ.out).mono ?_
        rintro e w19 ⟨rfl, hb19⟩
        have E19 : Env w f a c w19 := by obtain ⟨m, rfl⟩ := hb19; exact E18.drewN hF m
        have xa19 := by first | exact Drew.ints hb19 xa18 | exact Drew.row3 hb19 xa18 | exact Drew.fat hb19 xa18
        have xb19 := by first | exact Drew.ints hb19 xb18 | exact Drew.row3 hb19 xb18 | exact Drew.fat hb19 xb18
        have rl19 := by first | exact Drew.ints hb19 rl18 | exact Drew.row3 hb19 rl18 | exact Drew.fat hb19 rl18
        clear hb19 E18 xa18 xb18 rl18 q0 q1 q2
        have q0 := E19.c0; have q1 := E19.c1; have q2 := E19.c2
        clear HJ
        generalize timesR l1 l2 f.sorts.length = tr
        obtain ⟨tr1, tr2, tr3⟩ := tr
        have HJ := Lib.hid (ints_same (N1 := 0) (N2 := 0) (l := []) (d1 := 0) (d2 := 0) (w := w19) rfl rfl ints_nil ints_nil (by unfold maxLen; simp))
        go_wp2_with fail
        refine (HJ.out).mono ?_
        rintro e w20 ⟨rfl, hb20⟩
        have E20 : Env w f a c w20 := by obtain ⟨m, rfl⟩ := hb20; exact E19.drewN hF m
        have xa20 := by first | exact Drew.ints hb20 xa19 | exact Drew.row3 hb20 xa19 | exact Drew.fat hb20 xa19
        have xb20 := by first | exact Drew.ints hb20 xb19 | exact Drew.row3 hb20 xb19 | exact Drew.fat hb20 xb19
        have rl20 := by first | exact Drew.ints hb20 rl19 | exact Drew.row3 hb20 rl19 | exact Drew.fat hb20 rl19
        clear hb20 E19 xa19 xb19 rl19 q0 q1 q2
        have q0 := E20.c0; have q1 := E20.c1; have q2 := E20.c2
        clear HJ
        have HJ := Lib.hid (refLacking_any b1 l1 d1 b2 l2 d2 f.sorts.length _ hn120 xa20 xb20 HK1.out HK2.out)
        go_wp2_with fail
        refine (HJ.out).mono ?_
        rintro e w21 ⟨hb21, vl, rfl, hown⟩
        have E21 := E20.step hF hb21
        have xa21 := xa20.below hb21
        have xb21 := xb20.below hb21
        have rl21 := rl20.below hb21
        clear hb21 E20 xa20 xb20 rl20 q0 q1 q2
        have q0 := E21.c0; have q1 := E21.c1; have q2 := E21.c2
        obtain ⟨al, cl, rfl, xl21⟩ := own_ints hown (tab_len _ _)
        clear HJ hown
        have HJ := Lib.hid (ints_same (N1 := f.sorts.length) (N2 := f.sorts.length) (d1 := f.sorts.length) (d2 := cl) (tab_len _ _).symm (tab_len _ _).symm rl21.ints xl21 (by rw [tab_len]; unfold maxLen; omega))
        go_wp2_with fail
        refine (HJ.out).mono ?_
        rintro e w22 ⟨rfl, hb22⟩
        have E22 : Env w f a c w22 := by obtain ⟨m, rfl⟩ := hb22; exact E21.drewN hF m
        have xa22 := by first | exact Drew.ints hb22 xa21 | exact Drew.row3 hb22 xa21 | exact Drew.fat hb22 xa21
        have xb22 := by first | exact Drew.ints hb22 xb21 | exact Drew.row3 hb22 xb21 | exact Drew.fat hb22 xb21
        have rl22 := by first | exact Drew.ints hb22 rl21 | exact Drew.row3 hb22 rl21 | exact Drew.fat hb22 rl21
        have xl22 := by first | exact Drew.ints hb22 xl21 | exact Drew.row3 hb22 xl21 | exact Drew.fat hb22 xl21
        clear hb22 E21 xa21 xb21 rl21 xl21 q0 q1 q2
        have q0 := E22.c0; have q1 := E22.c1; have q2 := E22.c2
        have hlow := E22.low
        go_wp2
        go_ret
        exact ⟨rfl, hlow⟩
      | none =>
        have HSH := Lib.hid hsh
        clear hsh
        go_wp2_with fail
        refine (copyFount_any f a c _ E3.fa (by omega) ha).mono ?_
        rintro e w4 ⟨gf4, cf4, rfl, hcf4, fc4, hb4⟩
        have E4 := E3.step hF hb4
        have xa4 := xa3.below hb4
        have xb4 := xb3.below hb4
        clear hb4 E3 xa3 xb3 q0 q1 q2
        have q0 := E4.c0; have q1 := E4.c1; have q2 := E4.c2
        go_wp2_with fail
        refine (copyInts_any b1 l1 d1 _ xa4 (by omega) hd1).mono ?_
        rintro e w5 ⟨gya5, dya5, rfl, hr5, hb5⟩
        have E5 := E4.step hF hb5
        have xa5 := xa4.below hb5
        have xb5 := xb4.below hb5
        have fc5 := fc4.below hb5
        clear hb5 E4 xa4 xb4 fc4 q0 q1 q2
        have q0 := E5.c0; have q1 := E5.c1; have q2 := E5.c2
        have ya5 := (Row3.of_own hr5).ints
        clear hr5
        go_wp2_with fail
        refine (copyInts_any b2 l2 d2 _ xb5 (by omega) hd2).mono ?_
        rintro e w6 ⟨gyb6, dyb6, rfl, hr6, hb6⟩
        have E6 := E5.step hF hb6
        have xa6 := xa5.below hb6
        have xb6 := xb5.below hb6
        have fc6 := fc5.below hb6
        have ya6 := ya5.below hb6
        clear hb6 E5 xa5 xb5 fc5 ya5 q0 q1 q2
        have q0 := E6.c0; have q1 := E6.c1; have q2 := E6.c2
        have yb6 := (Row3.of_own hr6).ints
        clear hr6
        go_wp2_with fail
        refine (Taken_good rfl rfl fc6 ya6 yb6 H0.out HK1.out HK2.out hn120 HSH.out).mono ?_
        rintro e w7 ⟨gt7, rfl, rt7, hb7⟩
        have E7 := E6.step hF hb7
        have xa7 := xa6.below hb7
        have xb7 := xb6.below hb7
        have fc7 := fc6.below hb7
        have ya7 := ya6.below hb7
        have yb7 := yb6.below hb7
        clear hb7 E6 xa6 xb6 fc6 ya6 yb6 q0 q1 q2
        have q0 := E7.c0; have q1 := E7.c1; have q2 := E7.c2
        clear fc7 ya7 yb7
        go_wp2_with fail
        refine (copyFount_any f a c _ E7.fa (by omega) ha).mono ?_
        rintro e w8 ⟨gf8, cf8, rfl, hcf8, fc8, hb8⟩
        have E8 := E7.step hF hb8
        have xa8 := xa7.below hb8
        have xb8 := xb7.below hb8
        have rt8 := rt7.below hb8
        clear hb8 E7 xa7 xb7 rt7 q0 q1 q2
        have q0 := E8.c0; have q1 := E8.c1; have q2 := E8.c2
        go_wp2_with fail
        refine (copyInts_any b1 l1 d1 _ xa8 (by omega) hd1).mono ?_
        rintro e w9 ⟨gya9, dya9, rfl, hr9, hb9⟩
        have E9 := E8.step hF hb9
        have xa9 := xa8.below hb9
        have xb9 := xb8.below hb9
        have rt9 := rt8.below hb9
        have fc9 := fc8.below hb9
        clear hb9 E8 xa8 xb8 rt8 fc8 q0 q1 q2
        have q0 := E9.c0; have q1 := E9.c1; have q2 := E9.c2
        have ya9 := (Row3.of_own hr9).ints
        clear hr9
        go_wp2_with fail
        refine (copyInts_any b2 l2 d2 _ xb9 (by omega) hd2).mono ?_
        rintro e w10 ⟨gyb10, dyb10, rfl, hr10, hb10⟩
        have E10 := E9.step hF hb10
        have xa10 := xa9.below hb10
        have xb10 := xb9.below hb10
        have rt10 := rt9.below hb10
        have fc10 := fc9.below hb10
        have ya10 := ya9.below hb10
        clear hb10 E9 xa9 xb9 rt9 fc9 ya9 q0 q1 q2
        have q0 := E10.c0; have q1 := E10.c1; have q2 := E10.c2
        have yb10 := (Row3.of_own hr10).ints
        clear hr10
        go_wp2_with fail
        refine (Lacking_good rfl rfl fc10 ya10 yb10 H0.out HK1.out HK2.out hn120).mono ?_
        rintro e w11 ⟨gl11, rfl, rl11, hb11⟩
        have E11 := E10.step hF hb11
        have xa11 := xa10.below hb11
        have xb11 := xb10.below hb11
        have rt11 := rt10.below hb11
        have fc11 := fc10.below hb11
        have ya11 := ya10.below hb11
        have yb11 := yb10.below hb11
        clear hb11 E10 xa10 xb10 rt10 fc10 ya10 yb10 q0 q1 q2
        have q0 := E11.c0; have q1 := E11.c1; have q2 := E11.c2
        clear fc11 ya11 yb11
        go_wp2_with fail
        refine (copyFount_any f a c _ E11.fa (by omega) ha).mono ?_
        rintro e w12 ⟨gf12, cf12, rfl, hcf12, fc12, hb12⟩
        have E12 := E11.step hF hb12
        have xa12 := xa11.below hb12
        have xb12 := xb11.below hb12
        have rt12 := rt11.below hb12
        have rl12 := rl11.below hb12
        clear hb12 E11 xa11 xb11 rt11 rl11 q0 q1 q2
        have q0 := E12.c0; have q1 := E12.c1; have q2 := E12.c2
        go_wp2_with fail
        refine (copyInts_any b1 l1 d1 _ xa12 (by omega) hd1).mono ?_
        rintro e w13 ⟨gya13, dya13, rfl, hr13, hb13⟩
        have E13 := E12.step hF hb13
        have xa13 := xa12.below hb13
        have xb13 := xb12.below hb13
        have rt13 := rt12.below hb13
        have rl13 := rl12.below hb13
        have fc13 := fc12.below hb13
        clear hb13 E12 xa12 xb12 rt12 rl12 fc12 q0 q1 q2
        have q0 := E13.c0; have q1 := E13.c1; have q2 := E13.c2
        have ya13 := (Row3.of_own hr13).ints
        clear hr13
        go_wp2_with fail
        refine (copyInts_any b2 l2 d2 _ xb13 (by omega) hd2).mono ?_
        rintro e w14 ⟨gyb14, dyb14, rfl, hr14, hb14⟩
        have E14 := E13.step hF hb14
        have xa14 := xa13.below hb14
        have xb14 := xb13.below hb14
        have rt14 := rt13.below hb14
        have rl14 := rl13.below hb14
        have fc14 := fc13.below hb14
        have ya14 := ya13.below hb14
        clear hb14 E13 xa13 xb13 rt13 rl13 fc13 ya13 q0 q1 q2
        have q0 := E14.c0; have q1 := E14.c1; have q2 := E14.c2
        have yb14 := (Row3.of_own hr14).ints
        clear hr14
        have HJ := Lib.hid (Times_any f (some ⟨gf12, 0, none⟩) cf12 (some ⟨gya13, 0, none⟩) l1 dya13 (some ⟨gyb14, 0, none⟩) l2 dyb14 _ fc14 ya14 ml1 yb14 ml2)
        go_wp2_with fail
        refine (HJ.out).mono ?_
        rintro e w15 ⟨rfl, hb15⟩
        have E15 := E14.step hF hb15
        have xa15 := xa14.below hb15
        have xb15 := xb14.below hb15
        have rt15 := rt14.below hb15
        have rl15 := rl14.below hb15
        have fc15 := fc14.below hb15
        have ya15 := ya14.below hb15
        have yb15 := yb14.below hb15
        clear hb15 E14 xa14 xb14 rt14 rl14 fc14 ya14 yb14 q0 q1 q2
        have q0 := E15.c0; have q1 := E15.c1; have q2 := E15.c2
        have HTE := Lib.hid (show timesE f l1 l2 = timesR l1 l2 f.sorts.length by unfold timesE; rw [if_neg (by simp [two_ok H0.out HK1.out HK2.out]), HL1.out])
        rw [HTE.out]
        clear HJ HTE
        clear fc15 ya15 yb15
        go_wp2_with fail
        refine (refCheckCase_any f a c b1 l1 d1 _ hc E15.fa.ok E15.fa.at_ xa15 ml1).mono ?_
        rintro e w16 ⟨rfl, hb16⟩
        have E16 := E15.step hF hb16
        have xa16 := xa15.below hb16
        have xb16 := xb15.below hb16
        have rt16 := rt15.below hb16
        have rl16 := rl15.below hb16
        clear hb16 E15 xa15 xb15 rt15 rl15 q0 q1 q2
        have q0 := E16.c0; have q1 := E16.c1; have q2 := E16.c2
        rw [HC1.out]
        go_wp2_with fail
        refine (refCheckCase_any f a c b2 l2 d2 _ hc E16.fa.ok E16.fa.at_ xb16 ml2).mono ?_
        rintro e w17 ⟨rfl, hb17⟩
        have E17 := E16.step hF hb17
        have xa17 := xa16.below hb17
        have xb17 := xb16.below hb17
        have rt17 := rt16.below hb17
        have rl17 := rl16.below hb17
        clear hb17 E16 xa16 xb16 rt16 rl16 q0 q1 q2
        have q0 := E17.c0; have q1 := E17.c1; have q2 := E17.c2
        rw [HC2.out]
        have HJ := Lib.hid (refTaken_any b1 l1 d1 b2 l2 d2 f.sorts.length _ hn120 xa17 xb17 HK1.out HK2.out)
        go_wp2_with fail
        refine (HJ.out).mono ?_
        rintro e w18 ⟨hb18, hj⟩
        have E18 := E17.step hF hb18
        have xa18 := xa17.below hb18
        have xb18 := xb17.below hb18
        have rt18 := rt17.below hb18
        have rl18 := rl17.below hb18
        clear hb18 E17 xa17 xb17 rt17 rl17 q0 q1 q2
        have q0 := E18.c0; have q1 := E18.c1; have q2 := E18.c2
        obtain ⟨_, vt, rfl, hown⟩ := hj.resolve_left (fun ⟨i2, hi2, _⟩ => by rw [HSH.out] at hi2; cases hi2)
        obtain ⟨at', ct, rfl, xt18⟩ := own_ints hown (tab_len _ _)
        clear hj HJ hown
        have HJ := Lib.hid (refTimes_any b1 l1 d1 b2 l2 d2 f.sorts.length _ hn120 xa18 xb18 HK1.out HK2.out)
        go_wp2_with fail
        refine (HJ.out).mono ?_
        rintro e w19 ⟨rfl, hb19⟩
        have E19 : Env w f a c w19 := by obtain ⟨m, rfl⟩ := hb19; exact E18.drewN hF m
        have xa19 := by first | exact Drew.ints hb19 xa18 | exact Drew.row3 hb19 xa18 | exact Drew.fat hb19 xa18
        have xb19 := by first | exact Drew.ints hb19 xb18 | exact Drew.row3 hb19 xb18 | exact Drew.fat hb19 xb18
        have rt19 := by first | exact Drew.ints hb19 rt18 | exact Drew.row3 hb19 rt18 | exact Drew.fat hb19 rt18
        have rl19 := by first | exact Drew.ints hb19 rl18 | exact Drew.row3 hb19 rl18 | exact Drew.fat hb19 rl18
        have xt19 := by first | exact Drew.ints hb19 xt18 | exact Drew.row3 hb19 xt18 | exact Drew.fat hb19 xt18
        clear hb19 E18 xa18 xb18 rt18 rl18 xt18 q0 q1 q2
        have q0 := E19.c0; have q1 := E19.c1; have q2 := E19.c2
        clear HJ
        generalize timesR l1 l2 f.sorts.length = tr
        obtain ⟨tr1, tr2, tr3⟩ := tr
        have HJ := Lib.hid (ints_same (N1 := f.sorts.length) (N2 := f.sorts.length) (d1 := f.sorts.length) (d2 := ct) (tab_len _ _).symm (tab_len _ _).symm rt19.ints xt19 (by rw [tab_len]; unfold maxLen; omega))
        go_wp2_with fail
        refine (HJ.out).mono ?_
        rintro e w20 ⟨rfl, hb20⟩
        have E20 : Env w f a c w20 := by obtain ⟨m, rfl⟩ := hb20; exact E19.drewN hF m
        have xa20 := by first | exact Drew.ints hb20 xa19 | exact Drew.row3 hb20 xa19 | exact Drew.fat hb20 xa19
        have xb20 := by first | exact Drew.ints hb20 xb19 | exact Drew.row3 hb20 xb19 | exact Drew.fat hb20 xb19
        have rt20 := by first | exact Drew.ints hb20 rt19 | exact Drew.row3 hb20 rt19 | exact Drew.fat hb20 rt19
        have rl20 := by first | exact Drew.ints hb20 rl19 | exact Drew.row3 hb20 rl19 | exact Drew.fat hb20 rl19
        have xt20 := by first | exact Drew.ints hb20 xt19 | exact Drew.row3 hb20 xt19 | exact Drew.fat hb20 xt19
        clear hb20 E19 xa19 xb19 rt19 rl19 xt19 q0 q1 q2
        have q0 := E20.c0; have q1 := E20.c1; have q2 := E20.c2
        clear HJ
        have HJ := Lib.hid (refLacking_any b1 l1 d1 b2 l2 d2 f.sorts.length _ hn120 xa20 xb20 HK1.out HK2.out)
        go_wp2_with fail
        refine (HJ.out).mono ?_
        rintro e w21 ⟨hb21, vl, rfl, hown⟩
        have E21 := E20.step hF hb21
        have xa21 := xa20.below hb21
        have xb21 := xb20.below hb21
        have rt21 := rt20.below hb21
        have rl21 := rl20.below hb21
        have xt21 := xt20.below hb21
        clear hb21 E20 xa20 xb20 rt20 rl20 xt20 q0 q1 q2
        have q0 := E21.c0; have q1 := E21.c1; have q2 := E21.c2
        obtain ⟨al, cl, rfl, xl21⟩ := own_ints hown (tab_len _ _)
        clear HJ hown
        have HJ := Lib.hid (ints_same (N1 := f.sorts.length) (N2 := f.sorts.length) (d1 := f.sorts.length) (d2 := cl) (tab_len _ _).symm (tab_len _ _).symm rl21.ints xl21 (by rw [tab_len]; unfold maxLen; omega))
        go_wp2_with fail
        refine (HJ.out).mono ?_
        rintro e w22 ⟨rfl, hb22⟩
        have E22 : Env w f a c w22 := by obtain ⟨m, rfl⟩ := hb22; exact E21.drewN hF m
        have xa22 := by first | exact Drew.ints hb22 xa21 | exact Drew.row3 hb22 xa21 | exact Drew.fat hb22 xa21
        have xb22 := by first | exact Drew.ints hb22 xb21 | exact Drew.row3 hb22 xb21 | exact Drew.fat hb22 xb21
        have rt22 := by first | exact Drew.ints hb22 rt21 | exact Drew.row3 hb22 rt21 | exact Drew.fat hb22 rt21
        have rl22 := by first | exact Drew.ints hb22 rl21 | exact Drew.row3 hb22 rl21 | exact Drew.fat hb22 rl21
        have xt22 := by first | exact Drew.ints hb22 xt21 | exact Drew.row3 hb22 xt21 | exact Drew.fat hb22 xt21
        have xl22 := by first | exact Drew.ints hb22 xl21 | exact Drew.row3 hb22 xl21 | exact Drew.fat hb22 xl21
        clear hb22 E21 xa21 xb21 rt21 rl21 xt21 xl21 q0 q1 q2
        have q0 := E22.c0; have q1 := E22.c1; have q2 := E22.c2
        have hlow := E22.low
        go_wp2
        go_ret
        exact ⟨rfl, hlow⟩
    · have HX := Lib.hid (show casesErr f [l1, l2] = caseErr f l2 by rw [two_cases, if_neg (by simp [hc1])])
      have HXN := Lib.hid (show casesErr f [l1, l2] ≠ 0 by rw [HX.out]; exact hc2)
      have hcb : (caseErr f l2 == 0) = false := by simpa using hc2
      have hcb2 : (caseErr f l2 != 0) = true := by simpa using hc2
      clear hc2
      go_wp2_with fail
      refine (copyFount_any f a c _ E3.fa (by omega) ha).mono ?_
      rintro e w4 ⟨gf4, cf4, rfl, hcf4, fc4, hb4⟩
      have E4 := E3.step hF hb4
      have xa4 := xa3.below hb4
      have xb4 := xb3.below hb4
      clear hb4 E3 xa3 xb3 q0 q1 q2
      have q0 := E4.c0; have q1 := E4.c1; have q2 := E4.c2
      go_wp2_with fail
      refine (copyInts_any b1 l1 d1 _ xa4 (by omega) hd1).mono ?_
      rintro e w5 ⟨gya5, dya5, rfl, hr5, hb5⟩
      have E5 := E4.step hF hb5
      have xa5 := xa4.below hb5
      have xb5 := xb4.below hb5
      have fc5 := fc4.below hb5
      clear hb5 E4 xa4 xb4 fc4 q0 q1 q2
      have q0 := E5.c0; have q1 := E5.c1; have q2 := E5.c2
      have ya5 := (Row3.of_own hr5).ints
      clear hr5
      go_wp2_with fail
      refine (copyInts_any b2 l2 d2 _ xb5 (by omega) hd2).mono ?_
      rintro e w6 ⟨gyb6, dyb6, rfl, hr6, hb6⟩
      have E6 := E5.step hF hb6
      have xa6 := xa5.below hb6
      have xb6 := xb5.below hb6
      have fc6 := fc5.below hb6
      have ya6 := ya5.below hb6
      clear hb6 E5 xa5 xb5 fc5 ya5 q0 q1 q2
      have q0 := E6.c0; have q1 := E6.c1; have q2 := E6.c2
      have yb6 := (Row3.of_own hr6).ints
      clear hr6
      have HJ := Lib.hid (Taken_any f (some ⟨gf4, 0, none⟩) cf4 (some ⟨gya5, 0, none⟩) l1 dya5 (some ⟨gyb6, 0, none⟩) l2 dyb6 _ fc6 ya6 ml1 yb6 ml2)
      go_wp2_with fail
      refine (HJ.out).mono ?_
      rintro e w7 ⟨hb7, hj⟩
      have E7 := E6.step hF hb7
      have xa7 := xa6.below hb7
      have xb7 := xb6.below hb7
      have fc7 := fc6.below hb7
      have ya7 := ya6.below hb7
      have yb7 := yb6.below hb7
      clear hb7 E6 xa6 xb6 fc6 ya6 yb6 q0 q1 q2
      have q0 := E7.c0; have q1 := E7.c1; have q2 := E7.c2
      obtain ⟨_, rfl⟩ := hj.resolve_right (fun h => by rcases h with ⟨h, _⟩ | ⟨h, _⟩ <;> exact HXN.out h)
      clear hj HJ
      rw [HX.out]
      clear fc7 ya7 yb7
      go_wp2_with fail
      refine (copyFount_any f a c _ E7.fa (by omega) ha).mono ?_
      rintro e w8 ⟨gf8, cf8, rfl, hcf8, fc8, hb8⟩
      have E8 := E7.step hF hb8
      have xa8 := xa7.below hb8
      have xb8 := xb7.below hb8
      clear hb8 E7 xa7 xb7 q0 q1 q2
      have q0 := E8.c0; have q1 := E8.c1; have q2 := E8.c2
      go_wp2_with fail
      refine (copyInts_any b1 l1 d1 _ xa8 (by omega) hd1).mono ?_
      rintro e w9 ⟨gya9, dya9, rfl, hr9, hb9⟩
      have E9 := E8.step hF hb9
      have xa9 := xa8.below hb9
      have xb9 := xb8.below hb9
      have fc9 := fc8.below hb9
      clear hb9 E8 xa8 xb8 fc8 q0 q1 q2
      have q0 := E9.c0; have q1 := E9.c1; have q2 := E9.c2
      have ya9 := (Row3.of_own hr9).ints
      clear hr9
      go_wp2_with fail
      refine (copyInts_any b2 l2 d2 _ xb9 (by omega) hd2).mono ?_
      rintro e w10 ⟨gyb10, dyb10, rfl, hr10, hb10⟩
      have E10 := E9.step hF hb10
      have xa10 := xa9.below hb10
      have xb10 := xb9.below hb10
      have fc10 := fc9.below hb10
      have ya10 := ya9.below hb10
      clear hb10 E9 xa9 xb9 fc9 ya9 q0 q1 q2
      have q0 := E10.c0; have q1 := E10.c1; have q2 := E10.c2
      have yb10 := (Row3.of_own hr10).ints
      clear hr10
      have HJ := Lib.hid (Lacking_any f (some ⟨gf8, 0, none⟩) cf8 (some ⟨gya9, 0, none⟩) l1 dya9 (some ⟨gyb10, 0, none⟩) l2 dyb10 _ fc10 ya10 ml1 yb10 ml2)
      go_wp2_with fail
      refine (HJ.out).mono ?_
      rintro e w11 ⟨hb11, hj⟩
      have E11 := E10.step hF hb11
      have xa11 := xa10.below hb11
      have xb11 := xb10.below hb11
      have fc11 := fc10.below hb11
      have ya11 := ya10.below hb11
      have yb11 := yb10.below hb11
      clear hb11 E10 xa10 xb10 fc10 ya10 yb10 q0 q1 q2
      have q0 := E11.c0; have q1 := E11.c1; have q2 := E11.c2
      obtain ⟨_, rfl⟩ := hj.resolve_right (fun h => HXN.out h.1)
      clear hj HJ
      rw [HX.out]
      clear fc11 ya11 yb11
      go_wp2_with fail
      refine (copyFount_any f a c _ E11.fa (by omega) ha).mono ?_
      rintro e w12 ⟨gf12, cf12, rfl, hcf12, fc12, hb12⟩
      have E12 := E11.step hF hb12
      have xa12 := xa11.below hb12
      have xb12 := xb11.below hb12
      clear hb12 E11 xa11 xb11 q0 q1 q2
      have q0 := E12.c0; have q1 := E12.c1; have q2 := E12.c2
      go_wp2_with fail
      refine (copyInts_any b1 l1 d1 _ xa12 (by omega) hd1).mono ?_
      rintro e w13 ⟨gya13, dya13, rfl, hr13, hb13⟩
      have E13 := E12.step hF hb13
      have xa13 := xa12.below hb13
      have xb13 := xb12.below hb13
      have fc13 := fc12.below hb13
      clear hb13 E12 xa12 xb12 fc12 q0 q1 q2
      have q0 := E13.c0; have q1 := E13.c1; have q2 := E13.c2
      have ya13 := (Row3.of_own hr13).ints
      clear hr13
      go_wp2_with fail
      refine (copyInts_any b2 l2 d2 _ xb13 (by omega) hd2).mono ?_
      rintro e w14 ⟨gyb14, dyb14, rfl, hr14, hb14⟩
      have E14 := E13.step hF hb14
      have xa14 := xa13.below hb14
      have xb14 := xb13.below hb14
      have fc14 := fc13.below hb14
      have ya14 := ya13.below hb14
      clear hb14 E13 xa13 xb13 fc13 ya13 q0 q1 q2
      have q0 := E14.c0; have q1 := E14.c1; have q2 := E14.c2
      have yb14 := (Row3.of_own hr14).ints
      clear hr14
      have HJ := Lib.hid (Times_any f (some ⟨gf12, 0, none⟩) cf12 (some ⟨gya13, 0, none⟩) l1 dya13 (some ⟨gyb14, 0, none⟩) l2 dyb14 _ fc14 ya14 ml1 yb14 ml2)
      go_wp2_with fail
      refine (HJ.out).mono ?_
      rintro e w15 ⟨rfl, hb15⟩
      have E15 := E14.step hF hb15
      have xa15 := xa14.below hb15
      have xb15 := xb14.below hb15
      have fc15 := fc14.below hb15
      have ya15 := ya14.below hb15
      have yb15 := yb14.below hb15
      clear hb15 E14 xa14 xb14 fc14 ya14 yb14 q0 q1 q2
      have q0 := E15.c0; have q1 := E15.c1; have q2 := E15.c2
      have HTE := Lib.hid (show timesE f l1 l2 = (0, 0, caseErr f l2) by unfold timesE; rw [if_pos HXN.out, HX.out])
      rw [HTE.out]
      clear HJ
      clear fc15 ya15 yb15
      go_wp2_with fail
      refine (refCheckCase_any f a c b1 l1 d1 _ hc E15.fa.ok E15.fa.at_ xa15 ml1).mono ?_
      rintro e w16 ⟨rfl, hb16⟩
      have E16 := E15.step hF hb16
      have xa16 := xa15.below hb16
      have xb16 := xb15.below hb16
      clear hb16 E15 xa15 xb15 q0 q1 q2
      have q0 := E16.c0; have q1 := E16.c1; have q2 := E16.c2
      rw [hc1]
      go_wp2_with fail
      refine (refCheckCase_any f a c b2 l2 d2 _ hc E16.fa.ok E16.fa.at_ xb16 ml2).mono ?_
      rintro e w17 ⟨rfl, hb17⟩
      have E17 := E16.step hF hb17
      have xa17 := xa16.below hb17
      have xb17 := xb16.below hb17
      clear hb17 E16 xa16 xb16 q0 q1 q2
      have q0 := E17.c0; have q1 := E17.c1; have q2 := E17.c2
      have hlow := E17.low
      go_wp2
      go_ret
      exact ⟨rfl, hlow⟩
  · have HX := Lib.hid (show casesErr f [l1, l2] = caseErr f l1 by rw [two_cases, if_pos hc1])
    have HXN := Lib.hid (show casesErr f [l1, l2] ≠ 0 by rw [HX.out]; exact hc1)
    have hcb : (caseErr f l1 == 0) = false := by simpa using hc1
    have hcb2 : (caseErr f l1 != 0) = true := by simpa using hc1
    clear hc1
    go_wp2_with fail
    refine (copyFount_any f a c _ E3.fa (by omega) ha).mono ?_
    rintro e w4 ⟨gf4, cf4, rfl, hcf4, fc4, hb4⟩
    have E4 := E3.step hF hb4
    have xa4 := xa3.below hb4
    have xb4 := xb3.below hb4
    clear hb4 E3 xa3 xb3 q0 q1 q2
    have q0 := E4.c0; have q1 := E4.c1; have q2 := E4.c2
    go_wp2_with fail
    refine (copyInts_any b1 l1 d1 _ xa4 (by omega) hd1).mono ?_
    rintro e w5 ⟨gya5, dya5, rfl, hr5, hb5⟩
    have E5 := E4.step hF hb5
    have xa5 := xa4.below hb5
    have xb5 := xb4.below hb5
    have fc5 := fc4.below hb5
    clear hb5 E4 xa4 xb4 fc4 q0 q1 q2
    have q0 := E5.c0; have q1 := E5.c1; have q2 := E5.c2
    have ya5 := (Row3.of_own hr5).ints
    clear hr5
    go_wp2_with fail
    refine (copyInts_any b2 l2 d2 _ xb5 (by omega) hd2).mono ?_
    rintro e w6 ⟨gyb6, dyb6, rfl, hr6, hb6⟩
    have E6 := E5.step hF hb6
    have xa6 := xa5.below hb6
    have xb6 := xb5.below hb6
    have fc6 := fc5.below hb6
    have ya6 := ya5.below hb6
    clear hb6 E5 xa5 xb5 fc5 ya5 q0 q1 q2
    have q0 := E6.c0; have q1 := E6.c1; have q2 := E6.c2
    have yb6 := (Row3.of_own hr6).ints
    clear hr6
    have HJ := Lib.hid (Taken_any f (some ⟨gf4, 0, none⟩) cf4 (some ⟨gya5, 0, none⟩) l1 dya5 (some ⟨gyb6, 0, none⟩) l2 dyb6 _ fc6 ya6 ml1 yb6 ml2)
    go_wp2_with fail
    refine (HJ.out).mono ?_
    rintro e w7 ⟨hb7, hj⟩
    have E7 := E6.step hF hb7
    have xa7 := xa6.below hb7
    have xb7 := xb6.below hb7
    have fc7 := fc6.below hb7
    have ya7 := ya6.below hb7
    have yb7 := yb6.below hb7
    clear hb7 E6 xa6 xb6 fc6 ya6 yb6 q0 q1 q2
    have q0 := E7.c0; have q1 := E7.c1; have q2 := E7.c2
    obtain ⟨_, rfl⟩ := hj.resolve_right (fun h => by rcases h with ⟨h, _⟩ | ⟨h, _⟩ <;> exact HXN.out h)
    clear hj HJ
    rw [HX.out]
    clear fc7 ya7 yb7
    go_wp2_with fail
    refine (copyFount_any f a c _ E7.fa (by omega) ha).mono ?_
    rintro e w8 ⟨gf8, cf8, rfl, hcf8, fc8, hb8⟩
    have E8 := E7.step hF hb8
    have xa8 := xa7.below hb8
    have xb8 := xb7.below hb8
    clear hb8 E7 xa7 xb7 q0 q1 q2
    have q0 := E8.c0; have q1 := E8.c1; have q2 := E8.c2
    go_wp2_with fail
    refine (copyInts_any b1 l1 d1 _ xa8 (by omega) hd1).mono ?_
    rintro e w9 ⟨gya9, dya9, rfl, hr9, hb9⟩
    have E9 := E8.step hF hb9
    have xa9 := xa8.below hb9
    have xb9 := xb8.below hb9
    have fc9 := fc8.below hb9
    clear hb9 E8 xa8 xb8 fc8 q0 q1 q2
    have q0 := E9.c0; have q1 := E9.c1; have q2 := E9.c2
    have ya9 := (Row3.of_own hr9).ints
    clear hr9
    go_wp2_with fail
    refine (copyInts_any b2 l2 d2 _ xb9 (by omega) hd2).mono ?_
    rintro e w10 ⟨gyb10, dyb10, rfl, hr10, hb10⟩
    have E10 := E9.step hF hb10
    have xa10 := xa9.below hb10
    have xb10 := xb9.below hb10
    have fc10 := fc9.below hb10
    have ya10 := ya9.below hb10
    clear hb10 E9 xa9 xb9 fc9 ya9 q0 q1 q2
    have q0 := E10.c0; have q1 := E10.c1; have q2 := E10.c2
    have yb10 := (Row3.of_own hr10).ints
    clear hr10
    have HJ := Lib.hid (Lacking_any f (some ⟨gf8, 0, none⟩) cf8 (some ⟨gya9, 0, none⟩) l1 dya9 (some ⟨gyb10, 0, none⟩) l2 dyb10 _ fc10 ya10 ml1 yb10 ml2)
    go_wp2_with fail
    refine (HJ.out).mono ?_
    rintro e w11 ⟨hb11, hj⟩
    have E11 := E10.step hF hb11
    have xa11 := xa10.below hb11
    have xb11 := xb10.below hb11
    have fc11 := fc10.below hb11
    have ya11 := ya10.below hb11
    have yb11 := yb10.below hb11
    clear hb11 E10 xa10 xb10 fc10 ya10 yb10 q0 q1 q2
    have q0 := E11.c0; have q1 := E11.c1; have q2 := E11.c2
    obtain ⟨_, rfl⟩ := hj.resolve_right (fun h => HXN.out h.1)
    clear hj HJ
    rw [HX.out]
    clear fc11 ya11 yb11
    go_wp2_with fail
    refine (copyFount_any f a c _ E11.fa (by omega) ha).mono ?_
    rintro e w12 ⟨gf12, cf12, rfl, hcf12, fc12, hb12⟩
    have E12 := E11.step hF hb12
    have xa12 := xa11.below hb12
    have xb12 := xb11.below hb12
    clear hb12 E11 xa11 xb11 q0 q1 q2
    have q0 := E12.c0; have q1 := E12.c1; have q2 := E12.c2
    go_wp2_with fail
    refine (copyInts_any b1 l1 d1 _ xa12 (by omega) hd1).mono ?_
    rintro e w13 ⟨gya13, dya13, rfl, hr13, hb13⟩
    have E13 := E12.step hF hb13
    have xa13 := xa12.below hb13
    have xb13 := xb12.below hb13
    have fc13 := fc12.below hb13
    clear hb13 E12 xa12 xb12 fc12 q0 q1 q2
    have q0 := E13.c0; have q1 := E13.c1; have q2 := E13.c2
    have ya13 := (Row3.of_own hr13).ints
    clear hr13
    go_wp2_with fail
    refine (copyInts_any b2 l2 d2 _ xb13 (by omega) hd2).mono ?_
    rintro e w14 ⟨gyb14, dyb14, rfl, hr14, hb14⟩
    have E14 := E13.step hF hb14
    have xa14 := xa13.below hb14
    have xb14 := xb13.below hb14
    have fc14 := fc13.below hb14
    have ya14 := ya13.below hb14
    clear hb14 E13 xa13 xb13 fc13 ya13 q0 q1 q2
    have q0 := E14.c0; have q1 := E14.c1; have q2 := E14.c2
    have yb14 := (Row3.of_own hr14).ints
    clear hr14
    have HJ := Lib.hid (Times_any f (some ⟨gf12, 0, none⟩) cf12 (some ⟨gya13, 0, none⟩) l1 dya13 (some ⟨gyb14, 0, none⟩) l2 dyb14 _ fc14 ya14 ml1 yb14 ml2)
    go_wp2_with fail
    refine (HJ.out).mono ?_
    rintro e w15 ⟨rfl, hb15⟩
    have E15 := E14.step hF hb15
    have xa15 := xa14.below hb15
    have xb15 := xb14.below hb15
    have fc15 := fc14.below hb15
    have ya15 := ya14.below hb15
    have yb15 := yb14.below hb15
    clear hb15 E14 xa14 xb14 fc14 ya14 yb14 q0 q1 q2
    have q0 := E15.c0; have q1 := E15.c1; have q2 := E15.c2
    have HTE := Lib.hid (show timesE f l1 l2 = (0, 0, caseErr f l1) by unfold timesE; rw [if_pos HXN.out, HX.out])
    rw [HTE.out]
    clear HJ
    clear fc15 ya15 yb15
    go_wp2_with fail
    refine (refCheckCase_any f a c b1 l1 d1 _ hc E15.fa.ok E15.fa.at_ xa15 ml1).mono ?_
    rintro e w16 ⟨rfl, hb16⟩
    have E16 := E15.step hF hb16
    have xa16 := xa15.below hb16
    have xb16 := xb15.below hb16
    clear hb16 E15 xa15 xb15 q0 q1 q2
    have q0 := E16.c0; have q1 := E16.c1; have q2 := E16.c2
    have hlow := E16.low
    go_wp2
    go_ret
    exact ⟨rfl, hlow⟩
end Go.Proofs.YtjkcomafgkabeaaDoor
