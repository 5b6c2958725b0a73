/-
  The law on lists: its walk.
-/
import Derived.Test.YtjkcomafgkabeaaDoorN9
import Derived.Test.YtjkcomafgkabeaaDoorNA
import Derived.Test.YtjkcomafgkabeaaDoorK6
import Derived.Test.YtjkcomafgkabeaaDoorR1
namespace Go.Proofs.YtjkcomafgkabeaaDoor
open Go.RowKit Go.Maps

set_option maxRecDepth 100000 in
set_option maxHeartbeats 8000000 in
theorem lists_walk (f : FT) (a : Option Addr) (c : Nat) (b1 : Option Addr) (l1 : List Int) (d1 : Nat) (w : World) (hF : FAt w a f) (hL : LawOk w) (hc : f.sorts.length ≤ c) (ha : a = none → c = 0) (hX1 : IntsAt w b1 l1) (hl1 : l1.length ≤ maxLen) (hd1 : b1 = none → d1 = 0) :
    Calls Tryd.prog 5 #[.agg #[.string f.name, .int .i64 f.body, .slice a f.sorts.length c], .slice b1 l1.length d1] w fun e w' => e = .returned (.bool true) ∧ Below w.heap.size w w' := by
  have hB0 : Below (w.heap.size + 1) (w.alloc (boxF f a c)) (w.alloc (boxF f a c)) := Below.refl _ _
  have E0 := Env.of hF hB0
  go_enter Tryd.func5, Tryd.ntmps5
  go_wp2_with fail
  refine (awake_any _ (hL.below E0.low)).mono ?_
  rintro e w2 ⟨rfl, hb2⟩
  have E2 := E0.step hF hb2
  have q0 := E2.c0; have q1 := E2.c1; have q2 := E2.c2
  clear hb2 E0
  go_wp2_with fail
  refine (few_any f a c _ E2.fa.ok E2.fa.at_).mono ?_
  rintro e w3 ⟨rfl, hb3⟩
  have E3 := E2.step hF hb3
  clear q0 q1 q2 hb3 E2
  have q0 := E3.c0; have q1 := E3.c1; have q2 := E3.c2
  cases hfew : fewB f
  · have hlow := E3.low
    go_wp2
    go_ret
    exact ⟨rfl, hlow⟩
  have hf123 := few_le hfew
  by_cases h40 : 40 < l1.length
  · have h40' : (40 : Int) < (l1.length : Int) := by omega
    by_cases h41 : l1.length ≤ 10000
    · have hlow := E3.low
      have h41' : (l1.length : Int) ≤ 10000 := by omega
      go_wp2
      go_ret
      exact ⟨rfl, hlow⟩
    have h41' : (10000 : Int) < (l1.length : Int) := by omega
    have h41b : ¬ (l1.length : Int) ≤ 10000 := by omega
    by_cases h42 : 10003 < l1.length
    · have hlow := E3.low
      have h42' : (10003 : Int) < (l1.length : Int) := by omega
      go_wp2
      go_ret
      exact ⟨rfl, hlow⟩
    have h42' : (l1.length : Int) ≤ 10003 := by omega
    clear hfew
    have hml : l1.length ≤ 1000000 := by omega
    have xa3 := hX1.below E3.low
    by_cases h0 : listErr f l1 = 0
    case neg =>
      obtain ⟨X, eX⟩ : ∃ X, X = listErr f l1 := ⟨_, rfl⟩
      have hwr : widthR f l1 = (0, X) := by unfold widthR; rw [if_pos h0, eX]
      have htr : textR f l1 = (⟨#[]⟩, X) := by unfold textR; rw [if_pos h0, eX]
      have HWR := Lib.hid hwr; have HTR := Lib.hid htr
      have HXN := Lib.hid h0
      have HX := Lib.hid eX
      have hxn : X ≠ 0 := by rw [eX]; exact h0
      clear h0 eX hwr htr
      go_wp2_with fail
      refine (copyFount_any f a c _ E3.fa (by omega) ha).mono ?_
      rintro e w4 ⟨gf4, cf4, rfl, hcf4, fc4, hb4⟩
      have E4 := E3.step hF hb4
      have xa4 := xa3.below hb4
      clear hb4 E3 xa3 q0 q1 q2
      have q0 := E4.c0; have q1 := E4.c1; have q2 := E4.c2
      go_wp2_with fail
      refine (copyInts_any b1 l1 d1 _ xa4 (by omega) hd1).mono ?_
      rintro e w5 ⟨gya5, dya5, rfl, hr5, hb5⟩
      have E5 := E4.step hF hb5
      have xa5 := xa4.below hb5
      have fc5 := fc4.below hb5
      clear hb5 E4 xa4 fc4 q0 q1 q2
      have q0 := E5.c0; have q1 := E5.c1; have q2 := E5.c2
      have ya5 := (Row3.of_own hr5).ints
      clear hr5
      go_wp2_with fail
      refine (WidthOf_any f (some ⟨gf4, 0, none⟩) cf4 (some ⟨gya5, 0, none⟩) l1 dya5 _ fc5 ya5 hl1).mono ?_
      rintro e w6 ⟨rfl, hb6⟩
      have E6 := E5.step hF hb6
      have xa6 := xa5.below hb6
      have fc6 := fc5.below hb6
      have ya6 := ya5.below hb6
      clear hb6 E5 xa5 fc5 ya5 q0 q1 q2
      have q0 := E6.c0; have q1 := E6.c1; have q2 := E6.c2
      rw [HWR.out]
      clear fc6 ya6
      go_wp2_with fail
      refine (copyFount_any f a c _ E6.fa (by omega) ha).mono ?_
      rintro e w7 ⟨gf7, cf7, rfl, hcf7, fc7, hb7⟩
      have E7 := E6.step hF hb7
      have xa7 := xa6.below hb7
      clear hb7 E6 xa6 q0 q1 q2
      have q0 := E7.c0; have q1 := E7.c1; have q2 := E7.c2
      go_wp2_with fail
      refine (copyInts_any b1 l1 d1 _ xa7 (by omega) hd1).mono ?_
      rintro e w8 ⟨gya8, dya8, rfl, hr8, hb8⟩
      have E8 := E7.step hF hb8
      have xa8 := xa7.below hb8
      have fc8 := fc7.below hb8
      clear hb8 E7 xa7 fc7 q0 q1 q2
      have q0 := E8.c0; have q1 := E8.c1; have q2 := E8.c2
      have ya8 := (Row3.of_own hr8).ints
      clear hr8
      go_wp2_with fail
      refine (TextOf_any f (some ⟨gf7, 0, none⟩) cf7 (some ⟨gya8, 0, none⟩) l1 dya8 _ fc8 ya8 hl1).mono ?_
      rintro e w9 ⟨rfl, hb9⟩
      have E9 := E8.step hF hb9
      have xa9 := xa8.below hb9
      have fc9 := fc8.below hb9
      have ya9 := ya8.below hb9
      clear hb9 E8 xa8 fc8 ya8 q0 q1 q2
      have q0 := E9.c0; have q1 := E9.c1; have q2 := E9.c2
      rw [HTR.out]
      clear fc9 ya9
      go_wp2_with fail
      refine (copyFount_any f a c _ E9.fa (by omega) ha).mono ?_
      rintro e w10 ⟨gf10, cf10, rfl, hcf10, fc10, hb10⟩
      have E10 := E9.step hF hb10
      have xa10 := xa9.below hb10
      clear hb10 E9 xa9 q0 q1 q2
      have q0 := E10.c0; have q1 := E10.c1; have q2 := E10.c2
      go_wp2_with fail
      refine (copyInts_any b1 l1 d1 _ xa10 (by omega) hd1).mono ?_
      rintro e w11 ⟨gya11, dya11, rfl, hr11, hb11⟩
      have E11 := E10.step hF hb11
      have xa11 := xa10.below hb11
      have fc11 := fc10.below hb11
      clear hb11 E10 xa10 fc10 q0 q1 q2
      have q0 := E11.c0; have q1 := E11.c1; have q2 := E11.c2
      have ya11 := (Row3.of_own hr11).ints
      clear hr11
      go_wp2_with fail
      refine (NeedOf_any f (some ⟨gf10, 0, none⟩) cf10 (some ⟨gya11, 0, none⟩) l1 dya11 _ fc11 ya11 hl1).mono ?_
      rintro e w12 ⟨hb12, hj⟩
      have E12 := E11.step hF hb12
      have xa12 := xa11.below hb12
      have fc12 := fc11.below hb12
      have ya12 := ya11.below hb12
      clear hb12 E11 xa11 fc11 ya11 q0 q1 q2
      have q0 := E12.c0; have q1 := E12.c1; have q2 := E12.c2
      obtain ⟨_, rfl⟩ := hj.resolve_right (fun h => HXN.out h.1)
      clear hj
      rw [← HX.out]
      clear fc12 ya12
      go_wp2_with fail
      refine (refErr_any f a c _ hc E12.fa.ok E12.fa.at_).mono ?_
      rintro e w13 ⟨rfl, hb13⟩
      have E13 := E12.step hF hb13
      have xa13 := xa12.below hb13
      clear hb13 E12 xa12 q0 q1 q2
      have q0 := E13.c0; have q1 := E13.c1; have q2 := E13.c2
      have hxb : (X != 0) = true := by simpa using hxn
      by_cases hk0 : (checkF f).2 = 0
      case neg =>
        have hlow := E13.low
        have hkx : (checkF f).2 = X := by rw [HX.out]; unfold listErr; rw [if_pos hk0]
        rw [hkx]
        clear hkx hk0
        go_wp2
        go_ret
        exact ⟨rfl, hlow⟩
      have hrx : rlistErr f.sorts.length l1 = X := by rw [HX.out, listErr_eq, if_neg (by simp [hk0])]
      have HRX := Lib.hid hrx
      obtain ⟨_, hR, _⟩ := checkF_right hk0
      have hn120 := hR.2.2.2.1
      rw [hk0]
      clear hrx hk0 hR
      go_wp2_with fail
      refine (refListErr_any f a c b1 l1 d1 _ hn120 xa13 hl1).mono ?_
      rintro e w14 ⟨rfl, hb14⟩
      have E14 := E13.step hF hb14
      have xa14 := xa13.below hb14
      clear hb14 E13 xa13 q0 q1 q2
      have q0 := E14.c0; have q1 := E14.c1; have q2 := E14.c2
      rw [HRX.out]
      have hlow := E14.low
      go_wp2
      go_ret
      exact ⟨rfl, hlow⟩
    exfalso
    have := (listErr_zero h0).2.1
    omega
  have h40' : (l1.length : Int) ≤ 40 := by omega
  have h42' : (l1.length : Int) ≤ 10003 := by omega
  clear hfew
  have hml : l1.length ≤ 1000000 := by omega
  have xa3 := hX1.below E3.low
  by_cases h0 : listErr f l1 = 0
  case neg =>
    obtain ⟨X, eX⟩ : ∃ X, X = listErr f l1 := ⟨_, rfl⟩
    have hwr : widthR f l1 = (0, X) := by unfold widthR; rw [if_pos h0, eX]
    have htr : textR f l1 = (⟨#[]⟩, X) := by unfold textR; rw [if_pos h0, eX]
    have HWR := Lib.hid hwr; have HTR := Lib.hid htr
    have HXN := Lib.hid h0
    have HX := Lib.hid eX
    have hxn : X ≠ 0 := by rw [eX]; exact h0
    clear h0 eX hwr htr
    go_wp2_with fail
    refine (copyFount_any f a c _ E3.fa (by omega) ha).mono ?_
    rintro e w4 ⟨gf4, cf4, rfl, hcf4, fc4, hb4⟩
    have E4 := E3.step hF hb4
    have xa4 := xa3.below hb4
    clear hb4 E3 xa3 q0 q1 q2
    have q0 := E4.c0; have q1 := E4.c1; have q2 := E4.c2
    go_wp2_with fail
    refine (copyInts_any b1 l1 d1 _ xa4 (by omega) hd1).mono ?_
    rintro e w5 ⟨gya5, dya5, rfl, hr5, hb5⟩
    have E5 := E4.step hF hb5
    have xa5 := xa4.below hb5
    have fc5 := fc4.below hb5
    clear hb5 E4 xa4 fc4 q0 q1 q2
    have q0 := E5.c0; have q1 := E5.c1; have q2 := E5.c2
    have ya5 := (Row3.of_own hr5).ints
    clear hr5
    go_wp2_with fail
    refine (WidthOf_any f (some ⟨gf4, 0, none⟩) cf4 (some ⟨gya5, 0, none⟩) l1 dya5 _ fc5 ya5 hl1).mono ?_
    rintro e w6 ⟨rfl, hb6⟩
    have E6 := E5.step hF hb6
    have xa6 := xa5.below hb6
    have fc6 := fc5.below hb6
    have ya6 := ya5.below hb6
    clear hb6 E5 xa5 fc5 ya5 q0 q1 q2
    have q0 := E6.c0; have q1 := E6.c1; have q2 := E6.c2
    rw [HWR.out]
    clear fc6 ya6
    go_wp2_with fail
    refine (copyFount_any f a c _ E6.fa (by omega) ha).mono ?_
    rintro e w7 ⟨gf7, cf7, rfl, hcf7, fc7, hb7⟩
    have E7 := E6.step hF hb7
    have xa7 := xa6.below hb7
    clear hb7 E6 xa6 q0 q1 q2
    have q0 := E7.c0; have q1 := E7.c1; have q2 := E7.c2
    go_wp2_with fail
    refine (copyInts_any b1 l1 d1 _ xa7 (by omega) hd1).mono ?_
    rintro e w8 ⟨gya8, dya8, rfl, hr8, hb8⟩
    have E8 := E7.step hF hb8
    have xa8 := xa7.below hb8
    have fc8 := fc7.below hb8
    clear hb8 E7 xa7 fc7 q0 q1 q2
    have q0 := E8.c0; have q1 := E8.c1; have q2 := E8.c2
    have ya8 := (Row3.of_own hr8).ints
    clear hr8
    go_wp2_with fail
    refine (TextOf_any f (some ⟨gf7, 0, none⟩) cf7 (some ⟨gya8, 0, none⟩) l1 dya8 _ fc8 ya8 hl1).mono ?_
    rintro e w9 ⟨rfl, hb9⟩
    have E9 := E8.step hF hb9
    have xa9 := xa8.below hb9
    have fc9 := fc8.below hb9
    have ya9 := ya8.below hb9
    clear hb9 E8 xa8 fc8 ya8 q0 q1 q2
    have q0 := E9.c0; have q1 := E9.c1; have q2 := E9.c2
    rw [HTR.out]
    clear fc9 ya9
    go_wp2_with fail
    refine (copyFount_any f a c _ E9.fa (by omega) ha).mono ?_
    rintro e w10 ⟨gf10, cf10, rfl, hcf10, fc10, hb10⟩
    have E10 := E9.step hF hb10
    have xa10 := xa9.below hb10
    clear hb10 E9 xa9 q0 q1 q2
    have q0 := E10.c0; have q1 := E10.c1; have q2 := E10.c2
    go_wp2_with fail
    refine (copyInts_any b1 l1 d1 _ xa10 (by omega) hd1).mono ?_
    rintro e w11 ⟨gya11, dya11, rfl, hr11, hb11⟩
    have E11 := E10.step hF hb11
    have xa11 := xa10.below hb11
    have fc11 := fc10.below hb11
    clear hb11 E10 xa10 fc10 q0 q1 q2
    have q0 := E11.c0; have q1 := E11.c1; have q2 := E11.c2
    have ya11 := (Row3.of_own hr11).ints
    clear hr11
    go_wp2_with fail
    refine (NeedOf_any f (some ⟨gf10, 0, none⟩) cf10 (some ⟨gya11, 0, none⟩) l1 dya11 _ fc11 ya11 hl1).mono ?_
    rintro e w12 ⟨hb12, hj⟩
    have E12 := E11.step hF hb12
    have xa12 := xa11.below hb12
    have fc12 := fc11.below hb12
    have ya12 := ya11.below hb12
    clear hb12 E11 xa11 fc11 ya11 q0 q1 q2
    have q0 := E12.c0; have q1 := E12.c1; have q2 := E12.c2
    obtain ⟨_, rfl⟩ := hj.resolve_right (fun h => HXN.out h.1)
    clear hj
    rw [← HX.out]
    clear fc12 ya12
    go_wp2_with fail
    refine (refErr_any f a c _ hc E12.fa.ok E12.fa.at_).mono ?_
    rintro e w13 ⟨rfl, hb13⟩
    have E13 := E12.step hF hb13
    have xa13 := xa12.below hb13
    clear hb13 E12 xa12 q0 q1 q2
    have q0 := E13.c0; have q1 := E13.c1; have q2 := E13.c2
    have hxb : (X != 0) = true := by simpa using hxn
    by_cases hk0 : (checkF f).2 = 0
    case neg =>
      have hlow := E13.low
      have hkx : (checkF f).2 = X := by rw [HX.out]; unfold listErr; rw [if_pos hk0]
      rw [hkx]
      clear hkx hk0
      go_wp2
      go_ret
      exact ⟨rfl, hlow⟩
    have hrx : rlistErr f.sorts.length l1 = X := by rw [HX.out, listErr_eq, if_neg (by simp [hk0])]
    have HRX := Lib.hid hrx
    obtain ⟨_, hR, _⟩ := checkF_right hk0
    have hn120 := hR.2.2.2.1
    rw [hk0]
    clear hrx hk0 hR
    go_wp2_with fail
    refine (refListErr_any f a c b1 l1 d1 _ hn120 xa13 hl1).mono ?_
    rintro e w14 ⟨rfl, hb14⟩
    have E14 := E13.step hF hb14
    have xa14 := xa13.below hb14
    clear hb14 E13 xa13 q0 q1 q2
    have q0 := E14.c0; have q1 := E14.c1; have q2 := E14.c2
    rw [HRX.out]
    have hlow := E14.low
    go_wp2
    go_ret
    exact ⟨rfl, hlow⟩
  obtain ⟨h1, hln, hok⟩ := listErr_zero h0
  obtain ⟨_, hR, _⟩ := checkF_right h1
  have hn120 := hR.2.2.2.1
  have hwr : widthR f l1 = (widthOf f l1, 0) := by unfold widthR; rw [if_neg (by simp [h0])]
  have htr : textR f l1 = (textOf f l1, 0) := by unfold textR; rw [if_neg (by simp [h0])]
  have HWR := Lib.hid hwr; have HTR := Lib.hid htr
  have hrx : rlistErr f.sorts.length l1 = 0 := by rw [← h0, listErr_eq, if_neg (by simp [h1])]
  have HRX := Lib.hid hrx
  have HX := Lib.hid h0; have HC := Lib.hid h1
  clear h0 h1 hwr htr hok hR hrx
  go_wp2_with fail
  refine (copyFount_any f a c _ E3.fa (by omega) ha).mono ?_
  rintro e w4 ⟨gf4, cf4, rfl, hcf4, fc4, hb4⟩
  have E4 := E3.step hF hb4
  have xa4 := xa3.below hb4
  clear hb4 E3 xa3 q0 q1 q2
  have q0 := E4.c0; have q1 := E4.c1; have q2 := E4.c2
  go_wp2_with fail
  refine (copyInts_any b1 l1 d1 _ xa4 (by omega) hd1).mono ?_
  rintro e w5 ⟨gya5, dya5, rfl, hr5, hb5⟩
  have E5 := E4.step hF hb5
  have xa5 := xa4.below hb5
  have fc5 := fc4.below hb5
  clear hb5 E4 xa4 fc4 q0 q1 q2
  have q0 := E5.c0; have q1 := E5.c1; have q2 := E5.c2
  have ya5 := (Row3.of_own hr5).ints
  clear hr5
  go_wp2_with fail
  refine (WidthOf_any f (some ⟨gf4, 0, none⟩) cf4 (some ⟨gya5, 0, none⟩) l1 dya5 _ fc5 ya5 hl1).mono ?_
  rintro e w6 ⟨rfl, hb6⟩
  have E6 := E5.step hF hb6
  have xa6 := xa5.below hb6
  have fc6 := fc5.below hb6
  have ya6 := ya5.below hb6
  clear hb6 E5 xa5 fc5 ya5 q0 q1 q2
  have q0 := E6.c0; have q1 := E6.c1; have q2 := E6.c2
  rw [HWR.out]
  clear fc6 ya6
  go_wp2_with fail
  refine (copyFount_any f a c _ E6.fa (by omega) ha).mono ?_
  rintro e w7 ⟨gf7, cf7, rfl, hcf7, fc7, hb7⟩
  have E7 := E6.step hF hb7
  have xa7 := xa6.below hb7
  clear hb7 E6 xa6 q0 q1 q2
  have q0 := E7.c0; have q1 := E7.c1; have q2 := E7.c2
  go_wp2_with fail
  refine (copyInts_any b1 l1 d1 _ xa7 (by omega) hd1).mono ?_
  rintro e w8 ⟨gya8, dya8, rfl, hr8, hb8⟩
  have E8 := E7.step hF hb8
  have xa8 := xa7.below hb8
  have fc8 := fc7.below hb8
  clear hb8 E7 xa7 fc7 q0 q1 q2
  have q0 := E8.c0; have q1 := E8.c1; have q2 := E8.c2
  have ya8 := (Row3.of_own hr8).ints
  clear hr8
  go_wp2_with fail
  refine (TextOf_any f (some ⟨gf7, 0, none⟩) cf7 (some ⟨gya8, 0, none⟩) l1 dya8 _ fc8 ya8 hl1).mono ?_
  rintro e w9 ⟨rfl, hb9⟩
  have E9 := E8.step hF hb9
  have xa9 := xa8.below hb9
  have fc9 := fc8.below hb9
  have ya9 := ya8.below hb9
  clear hb9 E8 xa8 fc8 ya8 q0 q1 q2
  have q0 := E9.c0; have q1 := E9.c1; have q2 := E9.c2
  rw [HTR.out]
  clear fc9 ya9
  go_wp2_with fail
  refine (copyFount_any f a c _ E9.fa (by omega) ha).mono ?_
  rintro e w10 ⟨gf10, cf10, rfl, hcf10, fc10, hb10⟩
  have E10 := E9.step hF hb10
  have xa10 := xa9.below hb10
  clear hb10 E9 xa9 q0 q1 q2
  have q0 := E10.c0; have q1 := E10.c1; have q2 := E10.c2
  go_wp2_with fail
  refine (copyInts_any b1 l1 d1 _ xa10 (by omega) hd1).mono ?_
  rintro e w11 ⟨gya11, dya11, rfl, hr11, hb11⟩
  have E11 := E10.step hF hb11
  have xa11 := xa10.below hb11
  have fc11 := fc10.below hb11
  clear hb11 E10 xa10 fc10 q0 q1 q2
  have q0 := E11.c0; have q1 := E11.c1; have q2 := E11.c2
  have ya11 := (Row3.of_own hr11).ints
  clear hr11
  go_wp2_with fail
  refine (NeedOf_any f (some ⟨gf10, 0, none⟩) cf10 (some ⟨gya11, 0, none⟩) l1 dya11 _ fc11 ya11 hl1).mono ?_
  rintro e w12 ⟨hb12, hj⟩
  have E12 := E11.step hF hb12
  have xa12 := xa11.below hb12
  have fc12 := fc11.below hb12
  have ya12 := ya11.below hb12
  clear hb12 E11 xa11 fc11 ya11 q0 q1 q2
  have q0 := E12.c0; have q1 := E12.c1; have q2 := E12.c2
  obtain ⟨_, gp, rfl, np12⟩ := hj.resolve_left (fun h => h.1 HX.out)
  clear hj
  clear fc12 ya12
  go_wp2_with fail
  refine (refErr_any f a c _ hc E12.fa.ok E12.fa.at_).mono ?_
  rintro e w13 ⟨rfl, hb13⟩
  have E13 := E12.step hF hb13
  have xa13 := xa12.below hb13
  have np13 := np12.below hb13
  clear hb13 E12 xa12 np12 q0 q1 q2
  have q0 := E13.c0; have q1 := E13.c1; have q2 := E13.c2
  rw [HC.out]
  go_wp2_with fail
  refine (refListErr_any f a c b1 l1 d1 _ hn120 xa13 hl1).mono ?_
  rintro e w14 ⟨rfl, hb14⟩
  have E14 := E13.step hF hb14
  have xa14 := xa13.below hb14
  have np14 := np13.below hb14
  clear hb14 E13 xa13 np13 q0 q1 q2
  have q0 := E14.c0; have q1 := E14.c1; have q2 := E14.c2
  rw [HRX.out]
  go_wp2_with fail
  refine (refWidth_any f a c b1 l1 d1 _ E14.fa xa14 HX.out).mono ?_
  rintro e w15 ⟨rfl, hb15⟩
  have E15 := E14.step hF hb15
  have xa15 := xa14.below hb15
  have np15 := np14.below hb15
  clear hb15 E14 xa14 np14 q0 q1 q2
  have q0 := E15.c0; have q1 := E15.c1; have q2 := E15.c2
  generalize widthOf f l1 = x
  go_wp2_with fail
  refine (refText_any f a c b1 l1 d1 _ E15.fa xa15 HX.out).mono ?_
  rintro e w16 ⟨rfl, hb16⟩
  have E16 := E15.step hF hb16
  have xa16 := xa15.below hb16
  have np16 := np15.below hb16
  clear hb16 E15 xa15 np15 q0 q1 q2
  have q0 := E16.c0; have q1 := E16.c1; have q2 := E16.c2
  generalize textOf f l1 = tx
  go_wp2_with fail
  refine (refNeed_any f a c b1 l1 d1 _ E16.fa xa16 HX.out).mono ?_
  rintro e w17 ⟨hb17, gq, rfl, nq17⟩
  have E17 := E16.step hF hb17
  have xa17 := xa16.below hb17
  have np17 := np16.below hb17
  clear hb17 E16 xa16 np16 q0 q1 q2
  have q0 := E17.c0; have q1 := E17.c1; have q2 := E17.c2
  have HI := Lib.hid (ints_good (N1 := f.sorts.length) (N2 := f.sorts.length) (d1 := f.sorts.length) (d2 := f.sorts.length) (needOf_len _ _).symm (needOf_len _ _).symm np17.ints nq17.ints (by rw [needOf_len]; unfold maxLen; omega) (by rw [needOf_len]; unfold maxLen; omega) rfl)
  go_wp2_with fail
  refine HI.out.mono ?_
  rintro e w30 ⟨rfl, hD⟩
  have hlow := hD.below E17.low
  clear HI
  go_wp2
  go_ret
  exact ⟨rfl, hlow⟩
end Go.Proofs.YtjkcomafgkabeaaDoor
