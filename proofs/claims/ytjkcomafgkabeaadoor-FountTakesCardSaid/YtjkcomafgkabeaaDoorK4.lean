/-
  The laws on cases and on taking: their walks.
-/
import Derived.Test.YtjkcomafgkabeaaDoorR3
namespace Go.Proofs.YtjkcomafgkabeaaDoor
open Go.RowKit Go.Maps

theorem own_ints {w : World} {base n : Nat} {v : Value} {l : List Int} (h : w.ownsRow base 3 1 v n (vals l)) (hl : l.length = n) : ∃ (a : Option Addr) (cap : Nat), v = .slice a n cap ∧ IntsAt w a l := by
  have h' := h
  rcases h.2 with ⟨e1, e2⟩ | ⟨g, cap, cur, e1, _⟩
  · exact ⟨none, 0, by rw [e1, e2], fun k hk => by omega⟩
  · subst e1
    exact ⟨_, cap, rfl, ints_of_row h'⟩
theorem two_cases {f : FT} {l1 l2 : List Int} : casesErr f [l1, l2] = if caseErr f l1 ≠ 0 then caseErr f l1 else caseErr f l2 := by
  unfold casesErr caseErr
  by_cases h : (checkF f).2 ≠ 0
  · rw [if_pos h, if_pos h, if_pos h]
  · rw [if_neg h, if_neg h, if_neg h]
    show (if _ then _ else (if _ then _ else _)) = _
    split
    · rfl
    · split
      · rfl
      · rename_i h; simp only [Decidable.not_not] at h; rw [h]; rfl
theorem ints_same {N1 N2 : Nat} {b1 b2 : Option Addr} {l : List Int} {d1 d2 : Nat} {w : World} (hN1 : N1 = l.length) (hN2 : N2 = l.length) (hX1 : IntsAt w b1 l) (hX2 : IntsAt w b2 l) (hl : l.length ≤ maxLen) :
    Calls Tryd.prog 24 #[.slice b1 N1 d1, .slice b2 N2 d2] w fun e w' => e = .returned (.bool true) ∧ Drew w w' := ints_good hN1 hN2 hX1 hX2 hl hl rfl
theorem ints_nil {w : World} : IntsAt w none [] := fun k hk => by simp at hk
theorem checkCase_any (f : FT) (a : Option Addr) (c : Nat) (b : Option Addr) (l : List Int) (d : Nat) (w : World) (hF : FAt w a f) (hX : IntsAt w b l) (hl : l.length ≤ maxLen) :
    Calls Tryd.prog 44 #[.agg #[.string f.name, .int .i64 f.body, .slice a f.sorts.length c], .slice b l.length d] w fun e w' => e = .returned (.int .i64 (caseErr f l)) ∧ Below w.heap.size w w' := by
  have hbox := lists_one (d := d) (hX.alloc (boxF f a c)) hl
  have hF2 := (hF.alloc (boxF f a c)).alloc (.cells #[.slice b l.length d] 31)
  have hB0 := ((Below.refl w.heap.size w).alloc (Nat.le_refl _) (boxF f a c)).alloc (by simp) (.cells #[.slice b l.length d] 31)
  go_enter Tryd.func44, Tryd.ntmps44
  go_wp2_with fail
  refine (errorOfCounts_any f a c _ [⟨b, d, l⟩] _ _ hF2.ok (by exact hF2.at_) (by exact hF2.tab) (by simpa [boxF] using hbox) (by unfold maxLen; simp)).mono ?_
  rintro e w1 ⟨rfl, hb⟩
  rw [show ([(⟨b, d, l⟩ : IS)].map (·.l)) = [l] from rfl, case_cases]
  have hB1 := hB0.trans (hb.mono (B' := w.heap.size) (by simp <;> omega))
  clear hF2 hbox hB0 hb
  go_wp2
  go_ret
  exact ⟨rfl, hB1⟩

set_option maxRecDepth 100000 in
set_option maxHeartbeats 8000000 in
theorem cases_walk (f : FT) (a : Option Addr) (c : Nat) (b1 : Option Addr) (l1 : List Int) (d1 : Nat) (b2 : Option Addr) (l2 : List Int) (d2 : Nat) (w : World) (hF : FAt w a f) (hL : LawOk w) (hc : f.sorts.length ≤ c) (ha : a = none → c = 0) (hX1 : IntsAt w b1 l1) (hl1 : l1.length ≤ maxLen) (hd1 : b1 = none → d1 = 0) (hX2 : IntsAt w b2 l2) (hl2 : l2.length ≤ maxLen) (hd2 : b2 = none → d2 = 0) :
    Calls Tryd.prog 7 #[.agg #[.string f.name, .int .i64 f.body, .slice a f.sorts.length c], .slice b1 l1.length d1, .slice b2 l2.length d2] w fun e w' => e = .returned (.bool true) ∧ Below w.heap.size w w' := by
  have hB0 : Below (w.heap.size + 1) (w.alloc (boxF f a c)) (w.alloc (boxF f a c)) := Below.refl _ _
  have E0 := Env.of hF hB0
  go_enter Tryd.func7, Tryd.ntmps7
  go_wp2_with fail
  refine (awake_any _ (hL.below E0.low)).mono ?_
  rintro e w2 ⟨rfl, hb2⟩
  have E2 := E0.step hF hb2
  have q0 := E2.c0; have q1 := E2.c1; have q2 := E2.c2
  clear hb2 E0
  go_wp2_with fail
  refine (few_any f a c _ E2.fa.ok E2.fa.at_).mono ?_
  rintro e w3 ⟨rfl, hb3⟩
  have E3 := E2.step hF hb3
  clear q0 q1 q2 hb3 E2
  have q0 := E3.c0; have q1 := E3.c1; have q2 := E3.c2
  cases hfew : fewB f
  · have hlow := E3.low
    go_wp2
    go_ret
    exact ⟨rfl, hlow⟩
  have hf123 := few_le hfew
  unfold maxLen at hl1 hl2
  by_cases h123 : 123 < l1.length
  · have hlow := E3.low
    have h123' : (123 : Int) < (l1.length : Int) := by omega
    go_wp2
    go_ret
    exact ⟨rfl, hlow⟩
  have h123' : (l1.length : Int) ≤ 123 := by omega
  by_cases h124 : 123 < l2.length
  · have hlow := E3.low
    have h124' : (123 : Int) < (l2.length : Int) := by omega
    go_wp2
    go_ret
    exact ⟨rfl, hlow⟩
  have h124' : (l2.length : Int) ≤ 123 := by omega
  have xa3 := hX1.below E3.low
  have xb3 := hX2.below E3.low
  have ml1 : l1.length ≤ maxLen := by unfold maxLen; omega
  have ml2 : l2.length ≤ maxLen := by unfold maxLen; omega
  clear hfew
  go_wp2_with fail
  refine (copyFount_any f a c _ E3.fa (by omega) ha).mono ?_
  rintro e w4 ⟨gf4, cf4, rfl, hcf4, fc4, hb4⟩
  have E4 := E3.step hF hb4
  have xa4 := xa3.below hb4
  have xb4 := xb3.below hb4
  clear hb4 E3 xa3 xb3 q0 q1 q2
  have q0 := E4.c0; have q1 := E4.c1; have q2 := E4.c2
  go_wp2_with fail
  refine (copyInts_any b1 l1 d1 _ xa4 (by omega) hd1).mono ?_
  rintro e w5 ⟨gya5, dya5, rfl, hr5, hb5⟩
  have E5 := E4.step hF hb5
  have xa5 := xa4.below hb5
  have xb5 := xb4.below hb5
  have fc5 := fc4.below hb5
  clear hb5 E4 xa4 xb4 fc4 q0 q1 q2
  have q0 := E5.c0; have q1 := E5.c1; have q2 := E5.c2
  have ya5 := (Row3.of_own hr5).ints
  clear hr5
  go_wp2_with fail
  refine (copyInts_any b2 l2 d2 _ xb5 (by omega) hd2).mono ?_
  rintro e w6 ⟨gyb6, dyb6, rfl, hr6, hb6⟩
  have E6 := E5.step hF hb6
  have xa6 := xa5.below hb6
  have xb6 := xb5.below hb6
  have fc6 := fc5.below hb6
  have ya6 := ya5.below hb6
  clear hb6 E5 xa5 xb5 fc5 ya5 q0 q1 q2
  have q0 := E6.c0; have q1 := E6.c1; have q2 := E6.c2
  have yb6 := (Row3.of_own hr6).ints
  clear hr6
  have HJ := Lib.hid (Joined_any f (some ⟨gf4, 0, none⟩) cf4 (some ⟨gya5, 0, none⟩) l1 dya5 (some ⟨gyb6, 0, none⟩) l2 dyb6 _ fc6 ya6 ml1 yb6 ml2)
  go_wp2_with fail
  refine (HJ.out).mono ?_
  rintro e w7 ⟨hb7, hj⟩
  have E7 := E6.step hF hb7
  have xa7 := xa6.below hb7
  have xb7 := xb6.below hb7
  have fc7 := fc6.below hb7
  have ya7 := ya6.below hb7
  have yb7 := yb6.below hb7
  clear hb7 E6 xa6 xb6 fc6 ya6 yb6 q0 q1 q2
  have q0 := E7.c0; have q1 := E7.c1; have q2 := E7.c2
  clear fc7 ya7 yb7
  clear HJ
  rw [two_cases] at hj
  by_cases hc1 : caseErr f l1 = 0
  · rw [if_neg (by simp [hc1])] at hj
    rcases hj with ⟨hj0, rfl⟩ | ⟨hj0, hov, rfl⟩ | ⟨hj0, hov, gj, rfl, hrow⟩
    · have hcb : (caseErr f l2 == 0) = false := by simpa using hj0
      have hcb2 : (caseErr f l2 != 0) = true := by simpa using hj0
      go_wp2_with fail
      refine (refCheckCase_any f a c b1 l1 d1 _ hc E7.fa.ok E7.fa.at_ xa7 ml1).mono ?_
      rintro e w8 ⟨rfl, hb8⟩
      have E8 := E7.step hF hb8
      have xa8 := xa7.below hb8
      have xb8 := xb7.below hb8
      clear hb8 E7 xa7 xb7 q0 q1 q2
      have q0 := E8.c0; have q1 := E8.c1; have q2 := E8.c2
      go_wp2_with fail
      refine (copyFount_any f a c _ E8.fa (by omega) ha).mono ?_
      rintro e w9 ⟨gf9, cf9, rfl, hcf9, fc9, hb9⟩
      have E9 := E8.step hF hb9
      have xa9 := xa8.below hb9
      have xb9 := xb8.below hb9
      clear hb9 E8 xa8 xb8 q0 q1 q2
      have q0 := E9.c0; have q1 := E9.c1; have q2 := E9.c2
      go_wp2_with fail
      refine (copyInts_any b1 l1 d1 _ xa9 (by omega) hd1).mono ?_
      rintro e w10 ⟨gya10, dya10, rfl, hr10, hb10⟩
      have E10 := E9.step hF hb10
      have xa10 := xa9.below hb10
      have xb10 := xb9.below hb10
      have fc10 := fc9.below hb10
      clear hb10 E9 xa9 xb9 fc9 q0 q1 q2
      have q0 := E10.c0; have q1 := E10.c1; have q2 := E10.c2
      have ya10 := (Row3.of_own hr10).ints
      clear hr10
      go_wp2_with fail
      refine (checkCase_any f (some ⟨gf9, 0, none⟩) cf9 (some ⟨gya10, 0, none⟩) l1 dya10 _ fc10 ya10 ml1).mono ?_
      rintro e w11 ⟨rfl, hb11⟩
      have E11 := E10.step hF hb11
      have xa11 := xa10.below hb11
      have xb11 := xb10.below hb11
      have fc11 := fc10.below hb11
      have ya11 := ya10.below hb11
      clear hb11 E10 xa10 xb10 fc10 ya10 q0 q1 q2
      have q0 := E11.c0; have q1 := E11.c1; have q2 := E11.c2
      clear fc11 ya11
      rw [hc1]
      go_wp2_with fail
      refine (refCheckCase_any f a c b2 l2 d2 _ hc E11.fa.ok E11.fa.at_ xb11 ml2).mono ?_
      rintro e w12 ⟨rfl, hb12⟩
      have E12 := E11.step hF hb12
      have xa12 := xa11.below hb12
      have xb12 := xb11.below hb12
      clear hb12 E11 xa11 xb11 q0 q1 q2
      have q0 := E12.c0; have q1 := E12.c1; have q2 := E12.c2
      have hix := Lib.hid (ints_same (N1 := 0) (N2 := 0) (l := []) (d1 := 0) (d2 := 0) (w := w12) rfl rfl ints_nil ints_nil (by unfold maxLen; simp))
      go_wp2_with fail
      refine hix.out.mono ?_
      rintro e w30 ⟨rfl, hD⟩
      have hlow := hD.below E12.low
      clear hix
      go_wp2
      go_ret
      exact ⟨rfl, hlow⟩
    · skip
      have hz1 := hc1
      have hz2 := hj0
      clear hj0
      go_wp2_with fail
      refine (refCheckCase_any f a c b1 l1 d1 _ hc E7.fa.ok E7.fa.at_ xa7 ml1).mono ?_
      rintro e w8 ⟨rfl, hb8⟩
      have E8 := E7.step hF hb8
      have xa8 := xa7.below hb8
      have xb8 := xb7.below hb8
      clear hb8 E7 xa7 xb7 q0 q1 q2
      have q0 := E8.c0; have q1 := E8.c1; have q2 := E8.c2
      go_wp2_with fail
      refine (copyFount_any f a c _ E8.fa (by omega) ha).mono ?_
      rintro e w9 ⟨gf9, cf9, rfl, hcf9, fc9, hb9⟩
      have E9 := E8.step hF hb9
      have xa9 := xa8.below hb9
      have xb9 := xb8.below hb9
      clear hb9 E8 xa8 xb8 q0 q1 q2
      have q0 := E9.c0; have q1 := E9.c1; have q2 := E9.c2
      go_wp2_with fail
      refine (copyInts_any b1 l1 d1 _ xa9 (by omega) hd1).mono ?_
      rintro e w10 ⟨gya10, dya10, rfl, hr10, hb10⟩
      have E10 := E9.step hF hb10
      have xa10 := xa9.below hb10
      have xb10 := xb9.below hb10
      have fc10 := fc9.below hb10
      clear hb10 E9 xa9 xb9 fc9 q0 q1 q2
      have q0 := E10.c0; have q1 := E10.c1; have q2 := E10.c2
      have ya10 := (Row3.of_own hr10).ints
      clear hr10
      go_wp2_with fail
      refine (checkCase_any f (some ⟨gf9, 0, none⟩) cf9 (some ⟨gya10, 0, none⟩) l1 dya10 _ fc10 ya10 ml1).mono ?_
      rintro e w11 ⟨rfl, hb11⟩
      have E11 := E10.step hF hb11
      have xa11 := xa10.below hb11
      have xb11 := xb10.below hb11
      have fc11 := fc10.below hb11
      have ya11 := ya10.below hb11
      clear hb11 E10 xa10 xb10 fc10 ya10 q0 q1 q2
      have q0 := E11.c0; have q1 := E11.c1; have q2 := E11.c2
      clear fc11 ya11
      obtain ⟨h0, hk1⟩ := case_ok hz1
      obtain ⟨_, hk2⟩ := case_ok hz2
      obtain ⟨_, hR, _⟩ := checkF_right h0
      have hn120 := hR.2.2.2.1
      rw [hz1]
      clear hR h0
      go_wp2_with fail
      refine (refCheckCase_any f a c b2 l2 d2 _ hc E11.fa.ok E11.fa.at_ xb11 ml2).mono ?_
      rintro e w12 ⟨rfl, hb12⟩
      have E12 := E11.step hF hb12
      have xa12 := xa11.below hb12
      have xb12 := xb11.below hb12
      clear hb12 E11 xa11 xb11 q0 q1 q2
      have q0 := E12.c0; have q1 := E12.c1; have q2 := E12.c2
      rw [hz2]
      have HL1 := Lib.hid hk1.1; have HOV := Lib.hid hov; clear hov
      have HJ := Lib.hid (refJoined_any b1 l1 d1 b2 l2 d2 f.sorts.length _ hn120 xa12 xb12 hk1 hk2)
      clear hk1 hk2
      go_wp2_with fail
      refine (HJ.out).mono ?_
      rintro e w13 ⟨hb13, hj13⟩
      have E13 := E12.step hF hb13
      have xa13 := xa12.below hb13
      have xb13 := xb12.below hb13
      clear hb13 E12 xa12 xb12 q0 q1 q2
      have q0 := E13.c0; have q1 := E13.c1; have q2 := E13.c2
      obtain ⟨_, rfl⟩ := hj13.resolve_right (fun h => by have := h.1; rw [← HL1.out, HOV.out] at this; cases this)
      clear hj13 HJ
      have hix := Lib.hid (ints_same (N1 := 0) (N2 := 0) (l := []) (d1 := 0) (d2 := 0) (w := w13) rfl rfl ints_nil ints_nil (by unfold maxLen; simp))
      go_wp2_with fail
      refine hix.out.mono ?_
      rintro e w30 ⟨rfl, hD⟩
      have hlow := hD.below E13.low
      clear hix
      go_wp2
      go_ret
      exact ⟨rfl, hlow⟩
    · have rj7 := Row3.of_tab hrow
      clear hrow
      have hz1 := hc1
      have hz2 := hj0
      clear hj0
      go_wp2_with fail
      refine (refCheckCase_any f a c b1 l1 d1 _ hc E7.fa.ok E7.fa.at_ xa7 ml1).mono ?_
      rintro e w8 ⟨rfl, hb8⟩
      have E8 := E7.step hF hb8
      have xa8 := xa7.below hb8
      have xb8 := xb7.below hb8
      have rj8 := rj7.below hb8
      clear hb8 E7 xa7 xb7 rj7 q0 q1 q2
      have q0 := E8.c0; have q1 := E8.c1; have q2 := E8.c2
      go_wp2_with fail
      refine (copyFount_any f a c _ E8.fa (by omega) ha).mono ?_
      rintro e w9 ⟨gf9, cf9, rfl, hcf9, fc9, hb9⟩
      have E9 := E8.step hF hb9
      have xa9 := xa8.below hb9
      have xb9 := xb8.below hb9
      have rj9 := rj8.below hb9
      clear hb9 E8 xa8 xb8 rj8 q0 q1 q2
      have q0 := E9.c0; have q1 := E9.c1; have q2 := E9.c2
      go_wp2_with fail
      refine (copyInts_any b1 l1 d1 _ xa9 (by omega) hd1).mono ?_
      rintro e w10 ⟨gya10, dya10, rfl, hr10, hb10⟩
      have E10 := E9.step hF hb10
      have xa10 := xa9.below hb10
      have xb10 := xb9.below hb10
      have rj10 := rj9.below hb10
      have fc10 := fc9.below hb10
      clear hb10 E9 xa9 xb9 rj9 fc9 q0 q1 q2
      have q0 := E10.c0; have q1 := E10.c1; have q2 := E10.c2
      have ya10 := (Row3.of_own hr10).ints
      clear hr10
      go_wp2_with fail
      refine (checkCase_any f (some ⟨gf9, 0, none⟩) cf9 (some ⟨gya10, 0, none⟩) l1 dya10 _ fc10 ya10 ml1).mono ?_
      rintro e w11 ⟨rfl, hb11⟩
      have E11 := E10.step hF hb11
      have xa11 := xa10.below hb11
      have xb11 := xb10.below hb11
      have rj11 := rj10.below hb11
      have fc11 := fc10.below hb11
      have ya11 := ya10.below hb11
      clear hb11 E10 xa10 xb10 rj10 fc10 ya10 q0 q1 q2
      have q0 := E11.c0; have q1 := E11.c1; have q2 := E11.c2
      clear fc11 ya11
      obtain ⟨h0, hk1⟩ := case_ok hz1
      obtain ⟨_, hk2⟩ := case_ok hz2
      obtain ⟨_, hR, _⟩ := checkF_right h0
      have hn120 := hR.2.2.2.1
      rw [hz1]
      clear hR h0
      go_wp2_with fail
      refine (refCheckCase_any f a c b2 l2 d2 _ hc E11.fa.ok E11.fa.at_ xb11 ml2).mono ?_
      rintro e w12 ⟨rfl, hb12⟩
      have E12 := E11.step hF hb12
      have xa12 := xa11.below hb12
      have xb12 := xb11.below hb12
      have rj12 := rj11.below hb12
      clear hb12 E11 xa11 xb11 rj11 q0 q1 q2
      have q0 := E12.c0; have q1 := E12.c1; have q2 := E12.c2
      rw [hz2]
      have HL1 := Lib.hid hk1.1; have HOV := Lib.hid hov; clear hov
      have HJ := Lib.hid (refJoined_any b1 l1 d1 b2 l2 d2 f.sorts.length _ hn120 xa12 xb12 hk1 hk2)
      clear hk1 hk2
      go_wp2_with fail
      refine (HJ.out).mono ?_
      rintro e w13 ⟨hb13, hj13⟩
      have E13 := E12.step hF hb13
      have xa13 := xa12.below hb13
      have xb13 := xb12.below hb13
      have rj13 := rj12.below hb13
      clear hb13 E12 xa12 xb12 rj12 q0 q1 q2
      have q0 := E13.c0; have q1 := E13.c1; have q2 := E13.c2
      obtain ⟨_, vj, rfl, hown⟩ := hj13.resolve_left (fun h => by have := h.1; rw [← HL1.out, HOV.out] at this; cases this)
      obtain ⟨aj, cj, rfl, hij⟩ := own_ints hown (tab_len _ _)
      clear hj13 HJ hown
      have hix := Lib.hid (ints_same (d1 := l1.length) (d2 := cj) (N1 := l1.length) (N2 := f.sorts.length) (HL1.out.trans (tab_len _ _).symm) (tab_len _ _).symm (by have := rj13.ints; rw [HL1.out] at this; exact this) hij (by rw [tab_len]; unfold maxLen; omega))
      go_wp2_with fail
      refine hix.out.mono ?_
      rintro e w30 ⟨rfl, hD⟩
      have hlow := hD.below E13.low
      clear hix
      go_wp2
      go_ret
      exact ⟨rfl, hlow⟩
  · rw [if_pos hc1] at hj
    obtain ⟨_, rfl⟩ := hj.resolve_right (fun h => by rcases h with ⟨h, _⟩ | ⟨h, _⟩ <;> exact hc1 h)
    have hcb : (caseErr f l1 == 0) = false := by simpa using hc1
    have hcb2 : (caseErr f l1 != 0) = true := by simpa using hc1
    clear hj
    go_wp2_with fail
    refine (refCheckCase_any f a c b1 l1 d1 _ hc E7.fa.ok E7.fa.at_ xa7 ml1).mono ?_
    rintro e w8 ⟨rfl, hb8⟩
    have E8 := E7.step hF hb8
    have xa8 := xa7.below hb8
    have xb8 := xb7.below hb8
    clear hb8 E7 xa7 xb7 q0 q1 q2
    have q0 := E8.c0; have q1 := E8.c1; have q2 := E8.c2
    go_wp2_with fail
    refine (copyFount_any f a c _ E8.fa (by omega) ha).mono ?_
    rintro e w9 ⟨gf9, cf9, rfl, hcf9, fc9, hb9⟩
    have E9 := E8.step hF hb9
    have xa9 := xa8.below hb9
    have xb9 := xb8.below hb9
    clear hb9 E8 xa8 xb8 q0 q1 q2
    have q0 := E9.c0; have q1 := E9.c1; have q2 := E9.c2
    go_wp2_with fail
    refine (copyInts_any b1 l1 d1 _ xa9 (by omega) hd1).mono ?_
    rintro e w10 ⟨gya10, dya10, rfl, hr10, hb10⟩
    have E10 := E9.step hF hb10
    have xa10 := xa9.below hb10
    have xb10 := xb9.below hb10
    have fc10 := fc9.below hb10
    clear hb10 E9 xa9 xb9 fc9 q0 q1 q2
    have q0 := E10.c0; have q1 := E10.c1; have q2 := E10.c2
    have ya10 := (Row3.of_own hr10).ints
    clear hr10
    go_wp2_with fail
    refine (checkCase_any f (some ⟨gf9, 0, none⟩) cf9 (some ⟨gya10, 0, none⟩) l1 dya10 _ fc10 ya10 ml1).mono ?_
    rintro e w11 ⟨rfl, hb11⟩
    have E11 := E10.step hF hb11
    have xa11 := xa10.below hb11
    have xb11 := xb10.below hb11
    have fc11 := fc10.below hb11
    have ya11 := ya10.below hb11
    clear hb11 E10 xa10 xb10 fc10 ya10 q0 q1 q2
    have q0 := E11.c0; have q1 := E11.c1; have q2 := E11.c2
    clear fc11 ya11
    have hix := Lib.hid (ints_same (N1 := 0) (N2 := 0) (l := []) (d1 := 0) (d2 := 0) (w := w11) rfl rfl ints_nil ints_nil (by unfold maxLen; simp))
    go_wp2_with fail
    refine hix.out.mono ?_
    rintro e w30 ⟨rfl, hD⟩
    have hlow := hD.below E11.low
    clear hix
    go_wp2
    go_ret
    exact ⟨rfl, hlow⟩
end Go.Proofs.YtjkcomafgkabeaaDoor
