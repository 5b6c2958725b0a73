/-
  The law on bills: its walk.
-/
import Derived.Test.YtebndgepmjonoaaDoorX9
namespace Go.Proofs.YtebndgepmjonoaaDoor
open Go.RowKit Go.Maps

theorem enL_len {f : FT} {LL : List (List Int)} (h : f.sorts.length ≤ 123) : (enL f LL).length ≤ maxLen := by
  unfold enL maxLen
  split
  · rw [enough_len]; omega
  · simp
theorem bilL_len {f : FT} {l : List Int} {t : Int} (h : l.length ≤ 123) : (bilL f l t).length ≤ maxLen := by
  unfold bilL maxLen
  split
  · rw [bill_len]; omega
  · simp
theorem enL_bad {f : FT} {LL : List (List Int)} (h : (checkF f).2 ≠ 0) : enE f LL = (checkF f).2 ∧ enL f LL = [] := by
  have e : enE f LL = (checkF f).2 := by unfold enE; rw [if_pos h]
  exact ⟨e, by unfold enL; rw [e, if_neg h]⟩
theorem bil_bad {f : FT} {l : List Int} {t : Int} (h : caseErr f l ≠ 0) : billE f l t = caseErr f l ∧ bilL f l t = [] := by
  have e : billE f l t = caseErr f l := by unfold billE; rw [case_cases, if_pos h]
  exact ⟨e, by unfold bilL; rw [e, if_neg h]⟩
theorem caseErr_bad {f : FT} {l : List Int} (h : (checkF f).2 ≠ 0) : caseErr f l = (checkF f).2 := by unfold caseErr; rw [if_pos h]

set_option maxRecDepth 100000 in
set_option maxHeartbeats 16000000 in
theorem fbills_walk (f : FT) (a : Option Addr) (c : Nat) (A : Option Addr) (ls : List IS) (C : Nat) (size : Int) (w : World) (hF : FAt w a f) (hL : LawOk w) (hc : f.sorts.length ≤ c) (ha : a = none → c = 0) (hLs : ListsAt w A ls) (hls : ls.length ≤ maxLen) (hd : ∀ y ∈ ls, y.a = none → y.c = 0) :
    Calls Tryd.prog 4 #[.agg #[.string f.name, .int .i64 f.body, .slice a f.sorts.length c], .slice A ls.length C, .int .i64 size] w fun e w' => e = .returned (.bool true) ∧ Below w.heap.size w w' := by
  have hB0 : Below (w.heap.size + 1) (w.alloc (boxF f a c)) (w.alloc (boxF f a c)) := Below.refl _ _
  have E0 := Env.of hF hB0
  go_enter Tryd.func4, Tryd.ntmps4
  go_wp2_with fail
  refine (awake_any _ (hL.below E0.low)).mono ?_
  rintro e w2 ⟨rfl, hb2⟩
  have E2 := E0.step hF hb2
  have q0 := E2.c0; have q1 := E2.c1; have q2 := E2.c2
  clear hb2 E0
  go_wp2_with fail
  refine (few_any f a c _ E2.fa.ok E2.fa.at_).mono ?_
  rintro e w3 ⟨rfl, hb3⟩
  have E3 := E2.step hF hb3
  clear q0 q1 q2 hb3 E2
  have q0 := E3.c0; have q1 := E3.c1; have q2 := E3.c2
  unfold maxLen at hls
  cases hfew : fewB f
  · have hlow := E3.low
    go_wp2
    go_ret
    exact ⟨rfl, hlow⟩
  have hf123 := few_le hfew
  have HFEW := Lib.hid (show ∀ (l : List Int), caseErr f l = 0 → l.length < 20 by
    intro l h
    obtain ⟨h0, hok⟩ := case_ok h
    obtain ⟨_, hR, _⟩ := checkF_right h0
    have := few_len hfew hR
    have := hok.1
    omega)
  clear hfew
  have hD := Lib.hid hd
  clear hd
  have h3 : (6 < ls.length ∧ ls.length ≤ 100) ∨ 102 < ls.length ∨ ls.length = 0 ∨ (0 < ls.length ∧ ls.length ≤ 6) ∨ (100 < ls.length ∧ ls.length ≤ 102) := by omega
  rcases h3 with ⟨h6, h100⟩ | h102 | h0 | ⟨h0, h6⟩ | ⟨h100, h102⟩
  · have hlow := E3.low
    have h6' : (6 : Int) < (ls.length : Int) := by omega
    have h100' : (ls.length : Int) ≤ 100 := by omega
    go_wp2
    go_ret
    exact ⟨rfl, hlow⟩
  · have hlow := E3.low
    have h6' : (6 : Int) < (ls.length : Int) := by omega
    have h100' : (100 : Int) < (ls.length : Int) := by omega
    have h102' : (102 : Int) < (ls.length : Int) := by omega
    go_wp2
    go_ret
    exact ⟨rfl, hlow⟩
  · have h0' : (ls.length : Int) = 0 := by omega
    have h6 : ls.length ≤ 6 := by omega
    have h6' : (ls.length : Int) ≤ 6 := by omega
    have h1000 : ls.length ≤ 1000 := by omega
    have hL3 := hLs.below E3.low
    go_wp2_with fail
    go_loop [7] (fun i => ∃ k : Nat, k ≤ ls.length ∧ i = .int .i64 k ∧ Hid (∀ j, j < k → (ls.getD j noIS).l.length ≤ 123)) (fun i => ls.length - (intOf i).toNat)
    case atStart => exact ⟨0, Nat.zero_le _, rfl, Lib.hid (fun j hj => by omega)⟩
    case round =>
      obtain ⟨k, hk, rfl, HK⟩ := hrel
      by_cases hlt : k < ls.length
      · omega
      · have hk2 : k = ls.length := by omega
        have HLEN := Lib.hid (fun (j : Nat) (hj : j < ls.length) => HK.out j (by omega))
        have HSZ := Lib.hid (show ∀ x ∈ ls, x.l.length ≤ 1000000 from fun x hx => by
          obtain ⟨j, hj, rfl⟩ := List.getElem_of_mem hx
          have := HK.out j (by omega)
          rw [isget hj] at this
          omega)
        clear HK
        obtain rfl : ls = [] := List.length_eq_zero_iff.1 h0
        obtain ⟨o, eo⟩ : ∃ o : IS, o = ⟨none, 0, []⟩ := ⟨_, rfl⟩
        have hi3 : IntsAt w3 o.a o.l := by rw [eo]; exact nilInts _ _
        have hol : o.l.length ≤ 123 := by rw [eo]; decide
        have hod : o.a = none → o.c = 0 := by rw [eo]; exact fun _ => rfl
        have K4 := Lib.hid (show Value.slice none 0 0 = .slice o.a o.l.length o.c by rw [eo]; rfl)
        clear eo
        go_wp2_with fail
        refine (copyFount_any f a c _ E3.fa (by omega) ha).mono ?_
        rintro e w4 ⟨gf4, cf4, rfl, hcf4, fc4, hb4⟩
        have E4 := E3.step hF hb4
        have hi4 := hi3.below hb4
        have hL4 := hL3.below hb4
        clear hb4 E3 q0 q1 q2 hi3 hL3
        have q0 := E4.c0; have q1 := E4.c1; have q2 := E4.c2
        go_wp2_with fail
        refine (copyLists_any _ _ C _ hL4 h1000 HSZ.out hD.out).mono ?_
        rintro e w5 ⟨hb5, A5, cap5, T5, rfl, hTm, hTL⟩
        have E5 := E4.step hF hb5
        have hi5 := hi4.below hb5
        have fc5 := fc4.below hb5
        clear hb5 E4 q0 q1 q2 hi4 hL4 fc4
        have q0 := E5.c0; have q1 := E5.c1; have q2 := E5.c2
        have HTM := Lib.hid hTm
        clear hTm
        go_wp2_with fail
        refine (Enough_u HTM.out fc5 hTL h1000).mono ?_
        rintro e w6 ⟨hb6, A6, cap6, rfl, hen6⟩
        have E6 := E5.step hF hb6
        have hi6 := hi5.below hb6
        clear hb6 E5 q0 q1 q2 hi5 fc5 hTL
        have q0 := E6.c0; have q1 := E6.c1; have q2 := E6.c2
        go_wp2_with fail
        refine (copyFount_any f a c _ E6.fa (by omega) ha).mono ?_
        rintro e w7 ⟨gf7, cf7, rfl, hcf7, fc7, hb7⟩
        have E7 := E6.step hF hb7
        have hi7 := hi6.below hb7
        have hen7 := hen6.below hb7
        clear hb7 E6 q0 q1 q2 hi6 hen6
        have q0 := E7.c0; have q1 := E7.c1; have q2 := E7.c2
        go_wp2_with fail
        rw [K4.out]
        refine (copyInts_any o.a o.l o.c _ hi7 (by omega) hod).mono ?_
        rintro e w8 ⟨g8, d8, rfl, hr8, hb8⟩
        have E8 := E7.step hF hb8
        have hi8 := hi7.below hb8
        have hen8 := hen7.below hb8
        have fc8 := fc7.below hb8
        clear hb8 E7 q0 q1 q2 hi7 hen7 fc7
        have q0 := E8.c0; have q1 := E8.c1; have q2 := E8.c2
        have ho8 := (Row3.of_own hr8).ints
        clear hr8
        go_wp2_with fail
        refine (BillFor_u rfl fc8 ho8 (by unfold maxLen; omega) (HFEW.out _)).mono ?_
        rintro e w9 ⟨hb9, A9, cap9, rfl, hbl9⟩
        have E9 := E8.step hF hb9
        have hi9 := hi8.below hb9
        have hen9 := hen8.below hb9
        clear hb9 E8 q0 q1 q2 hi8 hen8 fc8 ho8
        have q0 := E9.c0; have q1 := E9.c1; have q2 := E9.c2
        have hml : o.l.length ≤ maxLen := by unfold maxLen; omega
        have hml1 : (enL f (([] : List (List Int)))).length ≤ maxLen := enL_len hf123
        have hml2 : (bilL f o.l size).length ≤ maxLen := bilL_len hol
        have hml0 : ([] : List Int).length ≤ maxLen := by unfold maxLen; decide
        go_wp2_with fail
        go_region_held3 (fun w' => w'.cell? ⟨w.heap.size, 0, none⟩ = some (.string f.name) ∧ w'.cell? ⟨w.heap.size, 1, none⟩ = some (.int .i64 f.body) ∧ w'.cell? ⟨w.heap.size, 2, none⟩ = some (.slice a f.sorts.length c)) (go_keep)
          (first | (go_at_call 20; refine (refErr_any f a c _ hc E9.fa.ok (by exact E9.fa.at_)).mono ?_; rintro e w10 ⟨rfl, hb10⟩; have E10 := (E9.drew hF).step hF hb10; have k0 := E10.c0; have k1 := E10.c1; have k2 := E10.c2) | (go_at_call 21; refine (refCheckCase_any f a c o.a o.l o.c _ hc E10.fa.ok (by exact E10.fa.at_) (by exact (hi9.below ((Below.refl _ _).drew.trans hb10))) hml).mono ?_; rintro e w11 ⟨rfl, hb11⟩; have E11 := E10.step hF hb11; have k0 := E11.c0; have k1 := E11.c1; have k2 := E11.c2))
        have hbb : Below w9.heap.size w9 w11 := ((Below.refl _ _).drew.trans hb10).trans (hb11.mono (B' := w9.heap.size) (by have := hb10.size; simpa using this))
        have hi11 := hi9.below hbb
        have hen11 := hen9.below hbb
        have hbl11 := hbl9.below hbb
        clear k0 k1 k2 q0 q1 q2 hb10 hb11 E9 E10 hi9 hen9 hbl9 hbb
        rename_i hHeld
        clear hHeld
        have q0 := E11.c0; have q1 := E11.c1; have q2 := E11.c2
        have hL11 := hLs.below E11.low
        have hlow11 := E11.low
        by_cases hck : (checkF f).2 = 0
        · have hn0 : 0 < f.sorts.length := by obtain ⟨_, hR, _⟩ := checkF_right hck; have := hR.2.2.1; omega
          have hn120 : f.sorts.length ≤ 120 := by obtain ⟨_, hR, _⟩ := checkF_right hck; exact hR.2.2.2.1
          have HCK := Lib.hid hck
          rw [hck]
          clear hck
          go_wp2_with fail
          refine (refEnough_u hc E11.fa hL11 h1000 HCK.out).mono ?_
          rintro e w12 ⟨hb12, A12, cap12, rfl, hen12⟩
          have E12 := E11.step hF hb12
          have hi12 := hi11.below hb12
          have hep12 := hen11.below hb12
          have hbl12 := hbl11.below hb12
          clear hb12 E11 q0 q1 q2 hi11 hen11 hbl11 hL11 hlow11
          have q0 := E12.c0; have q1 := E12.c1; have q2 := E12.c2
          have hlow12 := E12.low
          by_cases hd0 : caseErr f o.l = 0
          · rw [hd0]
            have HD0 := Lib.hid hd0
            clear hd0
            go_wp2_with fail
            rw [K4.out]
            refine (refBill_u hi12 HD0.out hn120 hn0).mono ?_
            rintro e w13 ⟨hb13, A13, cap13, rfl, hbl13⟩
            have hlow13 := hlow12.trans (hb13.mono (B' := w.heap.size) hlow12.size)
            have hep13 := hep12.below hb13
            have hen13 := hen12.below hb13
            have hbp13 := hbl12.below hb13
            clear hb13 E12 q0 q1 q2 hi12 hen12 hbl12 hep12 hlow12
            go_wp2_with fail
            refine (ints_good rfl rfl hep13 hen13 hml1 hml1 rfl).mono ?_
            rintro e w14 ⟨rfl, hD14⟩
            have hbp14 := hD14.ints hbp13
            have hbl14 := hD14.ints hbl13
            have hlow14 := hD14.below hlow13
            clear hep13 hen13 hbp13 hbl13 hD14
            go_wp2_with fail
            refine (ints_good rfl rfl hbp14 hbl14 hml2 hml2 rfl).mono ?_
            rintro e w15 ⟨rfl, hD15⟩
            have hlow15 := hD15.below hlow14
            go_wp2
            go_ret
            exact ⟨rfl, hlow15⟩
          · obtain ⟨be, bl⟩ := bil_bad (t := size) hd0
            have hdb : (caseErr f o.l == 0) = false := by simpa using hd0
            rw [be]
            have HBL := Lib.hid bl
            clear hd0 be bl
            go_wp2_with fail
            refine (ints_good rfl rfl hep12 hen12 hml1 hml1 rfl).mono ?_
            rintro e w14 ⟨rfl, hD14⟩
            have hbp14 := hD14.ints hbl12
            have hlow14 := hD14.below hlow12
            clear hep12 hen12 hbl12 hD14
            go_wp2_with fail
            refine (ints_good (b2 := none) (d2 := 0) rfl rfl hbp14 (nilInts _ _) hml2 hml0 HBL.out).mono ?_
            rintro e w15 ⟨rfl, hD15⟩
            have hlow15 := hD15.below hlow14
            go_wp2
            go_ret
            exact ⟨rfl, hlow15⟩
        · obtain ⟨ee, el⟩ := enL_bad (LL := ([] : List (List Int))) hck
          have hce := caseErr_bad (l := o.l) hck
          obtain ⟨be, bl⟩ := bil_bad (f := f) (l := o.l) (t := size) (by rw [hce]; exact hck)
          have hcb : ((checkF f).2 == 0) = false := by simpa using hck
          rw [hce] at be
          rw [hce, be, ee]
          have HBL := Lib.hid bl; have HEL := Lib.hid el
          clear hck hce be bl ee el
          go_wp2_with fail
          refine (ints_good (b2 := none) (d2 := 0) rfl rfl hen11 (nilInts _ _) hml1 hml0 HEL.out).mono ?_
          rintro e w14 ⟨rfl, hD14⟩
          have hbp14 := hD14.ints hbl11
          have hlow14 := hD14.below hlow11
          clear hen11 hbl11 hD14
          go_wp2_with fail
          refine (ints_good (b2 := none) (d2 := 0) rfl rfl hbp14 (nilInts _ _) hml2 hml0 HBL.out).mono ?_
          rintro e w15 ⟨rfl, hD15⟩
          have hlow15 := hD15.below hlow14
          go_wp2
          go_ret
          exact ⟨rfl, hlow15⟩
  · have h6' : (ls.length : Int) ≤ 6 := by omega
    have h1000 : ls.length ≤ 1000 := by omega
    have hL3 := hLs.below E3.low
    go_wp2_with fail
    go_loop [7] (fun i => ∃ k : Nat, k ≤ ls.length ∧ i = .int .i64 k ∧ Hid (∀ j, j < k → (ls.getD j noIS).l.length ≤ 123)) (fun i => ls.length - (intOf i).toNat)
    case atStart => exact ⟨0, Nat.zero_le _, rfl, Lib.hid (fun j hj => by omega)⟩
    case round =>
      obtain ⟨k, hk, rfl, HK⟩ := hrel
      by_cases hlt : k < ls.length
      · obtain ⟨ad, rfl, had, hcell, hi, hil⟩ := hL3.at_ hlt
        have hkl : (k : Int) < (ls.length : Int) := by omega
        have HK2 := Lib.hid (fun (h : (ls.getD k noIS).l.length ≤ 123) => show ∀ j, j < k + 1 → (ls.getD j noIS).l.length ≤ 123 from fun j hj => by
          by_cases e : j = k
          · subst e; exact h
          · exact HK.out j (by omega))
        generalize ls.getD k noIS = x at hcell HK2
        by_cases hx : 123 < x.l.length
        · have hlow := E3.low
          have hx' : (123 : Int) < (x.l.length : Int) := by omega
          go_wp2
          go_ret
          exact ⟨rfl, hlow⟩
        · have hx' : (x.l.length : Int) ≤ 123 := by omega
          have HK3 := Lib.hid (HK2.out (by omega))
          go_wp2
          go_round
          case rel => exact ⟨k + 1, by omega, by go_num, HK3⟩
          case measure => simp [intOf]; omega
      · have hk2 : k = ls.length := by omega
        have HLEN := Lib.hid (fun (j : Nat) (hj : j < ls.length) => HK.out j (by omega))
        have HSZ := Lib.hid (show ∀ x ∈ ls, x.l.length ≤ 1000000 from fun x hx => by
          obtain ⟨j, hj, rfl⟩ := List.getElem_of_mem hx
          have := HK.out j (by omega)
          rw [isget hj] at this
          omega)
        clear HK
        obtain ⟨ad, rfl, had, hcell, hi3, hil⟩ := hL3.at_ h0
        have hol := HLEN.out 0 h0
        have hod : (ls.getD 0 noIS).a = none → (ls.getD 0 noIS).c = 0 := by rw [isget h0]; exact hD.out _ (List.getElem_mem h0)
        generalize ls.getD 0 noIS = o at hcell hi3 hol hod
        have hpl : (0 : Int) < (ls.length : Int) := by omega
        have ha0 : ad.add 0 = ad := by simp [Addr.add]
        rw [ha0] at hcell
        go_wp2_with fail
        refine (copyFount_any f a c _ E3.fa (by omega) ha).mono ?_
        rintro e w4 ⟨gf4, cf4, rfl, hcf4, fc4, hb4⟩
        have E4 := E3.step hF hb4
        have hi4 := hi3.below hb4
        have hL4 := hL3.below hb4
        clear hb4 E3 q0 q1 q2 hi3 hL3
        have q0 := E4.c0; have q1 := E4.c1; have q2 := E4.c2
        go_wp2_with fail
        refine (copyLists_any _ _ C _ hL4 h1000 HSZ.out hD.out).mono ?_
        rintro e w5 ⟨hb5, A5, cap5, T5, rfl, hTm, hTL⟩
        have E5 := E4.step hF hb5
        have hi5 := hi4.below hb5
        have fc5 := fc4.below hb5
        clear hb5 E4 q0 q1 q2 hi4 hL4 fc4
        have q0 := E5.c0; have q1 := E5.c1; have q2 := E5.c2
        have HTM := Lib.hid hTm
        clear hTm
        go_wp2_with fail
        refine (Enough_u HTM.out fc5 hTL h1000).mono ?_
        rintro e w6 ⟨hb6, A6, cap6, rfl, hen6⟩
        have E6 := E5.step hF hb6
        have hi6 := hi5.below hb6
        clear hb6 E5 q0 q1 q2 hi5 fc5 hTL
        have q0 := E6.c0; have q1 := E6.c1; have q2 := E6.c2
        go_wp2_with fail
        refine (copyFount_any f a c _ E6.fa (by omega) ha).mono ?_
        rintro e w7 ⟨gf7, cf7, rfl, hcf7, fc7, hb7⟩
        have E7 := E6.step hF hb7
        have hi7 := hi6.below hb7
        have hen7 := hen6.below hb7
        clear hb7 E6 q0 q1 q2 hi6 hen6
        have q0 := E7.c0; have q1 := E7.c1; have q2 := E7.c2
        go_wp2_with fail
        refine (copyInts_any o.a o.l o.c _ hi7 (by omega) hod).mono ?_
        rintro e w8 ⟨g8, d8, rfl, hr8, hb8⟩
        have E8 := E7.step hF hb8
        have hi8 := hi7.below hb8
        have hen8 := hen7.below hb8
        have fc8 := fc7.below hb8
        clear hb8 E7 q0 q1 q2 hi7 hen7 fc7
        have q0 := E8.c0; have q1 := E8.c1; have q2 := E8.c2
        have ho8 := (Row3.of_own hr8).ints
        clear hr8
        go_wp2_with fail
        refine (BillFor_u rfl fc8 ho8 (by unfold maxLen; omega) (HFEW.out _)).mono ?_
        rintro e w9 ⟨hb9, A9, cap9, rfl, hbl9⟩
        have E9 := E8.step hF hb9
        have hi9 := hi8.below hb9
        have hen9 := hen8.below hb9
        clear hb9 E8 q0 q1 q2 hi8 hen8 fc8 ho8
        have q0 := E9.c0; have q1 := E9.c1; have q2 := E9.c2
        have hml : o.l.length ≤ maxLen := by unfold maxLen; omega
        have hml1 : (enL f (ls.map (·.l))).length ≤ maxLen := enL_len hf123
        have hml2 : (bilL f o.l size).length ≤ maxLen := bilL_len hol
        have hml0 : ([] : List Int).length ≤ maxLen := by unfold maxLen; decide
        go_wp2_with fail
        go_region_held3 (fun w' => w'.cell? ⟨w.heap.size, 0, none⟩ = some (.string f.name) ∧ w'.cell? ⟨w.heap.size, 1, none⟩ = some (.int .i64 f.body) ∧ w'.cell? ⟨w.heap.size, 2, none⟩ = some (.slice a f.sorts.length c)) (go_keep)
          (first | (go_at_call 20; refine (refErr_any f a c _ hc E9.fa.ok (by exact E9.fa.at_)).mono ?_; rintro e w10 ⟨rfl, hb10⟩; have E10 := (E9.drew hF).step hF hb10; have k0 := E10.c0; have k1 := E10.c1; have k2 := E10.c2) | (go_at_call 21; refine (refCheckCase_any f a c o.a o.l o.c _ hc E10.fa.ok (by exact E10.fa.at_) (by exact (hi9.below ((Below.refl _ _).drew.trans hb10))) hml).mono ?_; rintro e w11 ⟨rfl, hb11⟩; have E11 := E10.step hF hb11; have k0 := E11.c0; have k1 := E11.c1; have k2 := E11.c2))
        have hbb : Below w9.heap.size w9 w11 := ((Below.refl _ _).drew.trans hb10).trans (hb11.mono (B' := w9.heap.size) (by have := hb10.size; simpa using this))
        have hi11 := hi9.below hbb
        have hen11 := hen9.below hbb
        have hbl11 := hbl9.below hbb
        clear k0 k1 k2 q0 q1 q2 hb10 hb11 E9 E10 hi9 hen9 hbl9 hbb
        rename_i hHeld
        clear hHeld
        have q0 := E11.c0; have q1 := E11.c1; have q2 := E11.c2
        have hL11 := hLs.below E11.low
        have hlow11 := E11.low
        by_cases hck : (checkF f).2 = 0
        · have hn0 : 0 < f.sorts.length := by obtain ⟨_, hR, _⟩ := checkF_right hck; have := hR.2.2.1; omega
          have hn120 : f.sorts.length ≤ 120 := by obtain ⟨_, hR, _⟩ := checkF_right hck; exact hR.2.2.2.1
          have HCK := Lib.hid hck
          rw [hck]
          clear hck
          go_wp2_with fail
          refine (refEnough_u hc E11.fa hL11 h1000 HCK.out).mono ?_
          rintro e w12 ⟨hb12, A12, cap12, rfl, hen12⟩
          have E12 := E11.step hF hb12
          have hi12 := hi11.below hb12
          have hep12 := hen11.below hb12
          have hbl12 := hbl11.below hb12
          clear hb12 E11 q0 q1 q2 hi11 hen11 hbl11 hL11 hlow11
          have q0 := E12.c0; have q1 := E12.c1; have q2 := E12.c2
          have hlow12 := E12.low
          by_cases hd0 : caseErr f o.l = 0
          · rw [hd0]
            have HD0 := Lib.hid hd0
            clear hd0
            go_wp2_with fail
            refine (refBill_u hi12 HD0.out hn120 hn0).mono ?_
            rintro e w13 ⟨hb13, A13, cap13, rfl, hbl13⟩
            have hlow13 := hlow12.trans (hb13.mono (B' := w.heap.size) hlow12.size)
            have hep13 := hep12.below hb13
            have hen13 := hen12.below hb13
            have hbp13 := hbl12.below hb13
            clear hb13 E12 q0 q1 q2 hi12 hen12 hbl12 hep12 hlow12
            go_wp2_with fail
            refine (ints_good rfl rfl hep13 hen13 hml1 hml1 rfl).mono ?_
            rintro e w14 ⟨rfl, hD14⟩
            have hbp14 := hD14.ints hbp13
            have hbl14 := hD14.ints hbl13
            have hlow14 := hD14.below hlow13
            clear hep13 hen13 hbp13 hbl13 hD14
            go_wp2_with fail
            refine (ints_good rfl rfl hbp14 hbl14 hml2 hml2 rfl).mono ?_
            rintro e w15 ⟨rfl, hD15⟩
            have hlow15 := hD15.below hlow14
            go_wp2
            go_ret
            exact ⟨rfl, hlow15⟩
          · obtain ⟨be, bl⟩ := bil_bad (t := size) hd0
            have hdb : (caseErr f o.l == 0) = false := by simpa using hd0
            rw [be]
            have HBL := Lib.hid bl
            clear hd0 be bl
            go_wp2_with fail
            refine (ints_good rfl rfl hep12 hen12 hml1 hml1 rfl).mono ?_
            rintro e w14 ⟨rfl, hD14⟩
            have hbp14 := hD14.ints hbl12
            have hlow14 := hD14.below hlow12
            clear hep12 hen12 hbl12 hD14
            go_wp2_with fail
            refine (ints_good (b2 := none) (d2 := 0) rfl rfl hbp14 (nilInts _ _) hml2 hml0 HBL.out).mono ?_
            rintro e w15 ⟨rfl, hD15⟩
            have hlow15 := hD15.below hlow14
            go_wp2
            go_ret
            exact ⟨rfl, hlow15⟩
        · obtain ⟨ee, el⟩ := enL_bad (LL := ls.map (·.l)) hck
          have hce := caseErr_bad (l := o.l) hck
          obtain ⟨be, bl⟩ := bil_bad (f := f) (l := o.l) (t := size) (by rw [hce]; exact hck)
          have hcb : ((checkF f).2 == 0) = false := by simpa using hck
          rw [hce] at be
          rw [hce, be, ee]
          have HBL := Lib.hid bl; have HEL := Lib.hid el
          clear hck hce be bl ee el
          go_wp2_with fail
          refine (ints_good (b2 := none) (d2 := 0) rfl rfl hen11 (nilInts _ _) hml1 hml0 HEL.out).mono ?_
          rintro e w14 ⟨rfl, hD14⟩
          have hbp14 := hD14.ints hbl11
          have hlow14 := hD14.below hlow11
          clear hen11 hbl11 hD14
          go_wp2_with fail
          refine (ints_good (b2 := none) (d2 := 0) rfl rfl hbp14 (nilInts _ _) hml2 hml0 HBL.out).mono ?_
          rintro e w15 ⟨rfl, hD15⟩
          have hlow15 := hD15.below hlow14
          go_wp2
          go_ret
          exact ⟨rfl, hlow15⟩
  · have h0 : 0 < ls.length := by omega
    have h6' : (6 : Int) < (ls.length : Int) := by omega
    have h100' : (100 : Int) < (ls.length : Int) := by omega
    have h102' : (ls.length : Int) ≤ 102 := by omega
    have h1000 : ls.length ≤ 1000 := by omega
    have hL3 := hLs.below E3.low
    go_wp2_with fail
    go_loop [7] (fun i => ∃ k : Nat, k ≤ ls.length ∧ i = .int .i64 k ∧ Hid (∀ j, j < k → (ls.getD j noIS).l.length ≤ 123)) (fun i => ls.length - (intOf i).toNat)
    case atStart => exact ⟨0, Nat.zero_le _, rfl, Lib.hid (fun j hj => by omega)⟩
    case round =>
      obtain ⟨k, hk, rfl, HK⟩ := hrel
      by_cases hlt : k < ls.length
      · obtain ⟨ad, rfl, had, hcell, hi, hil⟩ := hL3.at_ hlt
        have hkl : (k : Int) < (ls.length : Int) := by omega
        have HK2 := Lib.hid (fun (h : (ls.getD k noIS).l.length ≤ 123) => show ∀ j, j < k + 1 → (ls.getD j noIS).l.length ≤ 123 from fun j hj => by
          by_cases e : j = k
          · subst e; exact h
          · exact HK.out j (by omega))
        generalize ls.getD k noIS = x at hcell HK2
        by_cases hx : 123 < x.l.length
        · have hlow := E3.low
          have hx' : (123 : Int) < (x.l.length : Int) := by omega
          go_wp2
          go_ret
          exact ⟨rfl, hlow⟩
        · have hx' : (x.l.length : Int) ≤ 123 := by omega
          have HK3 := Lib.hid (HK2.out (by omega))
          go_wp2
          go_round
          case rel => exact ⟨k + 1, by omega, by go_num, HK3⟩
          case measure => simp [intOf]; omega
      · have hk2 : k = ls.length := by omega
        have HLEN := Lib.hid (fun (j : Nat) (hj : j < ls.length) => HK.out j (by omega))
        have HSZ := Lib.hid (show ∀ x ∈ ls, x.l.length ≤ 1000000 from fun x hx => by
          obtain ⟨j, hj, rfl⟩ := List.getElem_of_mem hx
          have := HK.out j (by omega)
          rw [isget hj] at this
          omega)
        clear HK
        obtain ⟨ad, rfl, had, hcell, hi3, hil⟩ := hL3.at_ h0
        have hol := HLEN.out 0 h0
        have hod : (ls.getD 0 noIS).a = none → (ls.getD 0 noIS).c = 0 := by rw [isget h0]; exact hD.out _ (List.getElem_mem h0)
        generalize ls.getD 0 noIS = o at hcell hi3 hol hod
        have hpl : (0 : Int) < (ls.length : Int) := by omega
        have ha0 : ad.add 0 = ad := by simp [Addr.add]
        rw [ha0] at hcell
        go_wp2_with fail
        refine (copyFount_any f a c _ E3.fa (by omega) ha).mono ?_
        rintro e w4 ⟨gf4, cf4, rfl, hcf4, fc4, hb4⟩
        have E4 := E3.step hF hb4
        have hi4 := hi3.below hb4
        have hL4 := hL3.below hb4
        clear hb4 E3 q0 q1 q2 hi3 hL3
        have q0 := E4.c0; have q1 := E4.c1; have q2 := E4.c2
        go_wp2_with fail
        refine (copyLists_any _ _ C _ hL4 h1000 HSZ.out hD.out).mono ?_
        rintro e w5 ⟨hb5, A5, cap5, T5, rfl, hTm, hTL⟩
        have E5 := E4.step hF hb5
        have hi5 := hi4.below hb5
        have fc5 := fc4.below hb5
        clear hb5 E4 q0 q1 q2 hi4 hL4 fc4
        have q0 := E5.c0; have q1 := E5.c1; have q2 := E5.c2
        have HTM := Lib.hid hTm
        clear hTm
        go_wp2_with fail
        refine (Enough_u HTM.out fc5 hTL h1000).mono ?_
        rintro e w6 ⟨hb6, A6, cap6, rfl, hen6⟩
        have E6 := E5.step hF hb6
        have hi6 := hi5.below hb6
        clear hb6 E5 q0 q1 q2 hi5 fc5 hTL
        have q0 := E6.c0; have q1 := E6.c1; have q2 := E6.c2
        go_wp2_with fail
        refine (copyFount_any f a c _ E6.fa (by omega) ha).mono ?_
        rintro e w7 ⟨gf7, cf7, rfl, hcf7, fc7, hb7⟩
        have E7 := E6.step hF hb7
        have hi7 := hi6.below hb7
        have hen7 := hen6.below hb7
        clear hb7 E6 q0 q1 q2 hi6 hen6
        have q0 := E7.c0; have q1 := E7.c1; have q2 := E7.c2
        go_wp2_with fail
        refine (copyInts_any o.a o.l o.c _ hi7 (by omega) hod).mono ?_
        rintro e w8 ⟨g8, d8, rfl, hr8, hb8⟩
        have E8 := E7.step hF hb8
        have hi8 := hi7.below hb8
        have hen8 := hen7.below hb8
        have fc8 := fc7.below hb8
        clear hb8 E7 q0 q1 q2 hi7 hen7 fc7
        have q0 := E8.c0; have q1 := E8.c1; have q2 := E8.c2
        have ho8 := (Row3.of_own hr8).ints
        clear hr8
        go_wp2_with fail
        refine (BillFor_u rfl fc8 ho8 (by unfold maxLen; omega) (HFEW.out _)).mono ?_
        rintro e w9 ⟨hb9, A9, cap9, rfl, hbl9⟩
        have E9 := E8.step hF hb9
        have hi9 := hi8.below hb9
        have hen9 := hen8.below hb9
        clear hb9 E8 q0 q1 q2 hi8 hen8 fc8 ho8
        have q0 := E9.c0; have q1 := E9.c1; have q2 := E9.c2
        have hml : o.l.length ≤ maxLen := by unfold maxLen; omega
        have hml1 : (enL f (ls.map (·.l))).length ≤ maxLen := enL_len hf123
        have hml2 : (bilL f o.l size).length ≤ maxLen := bilL_len hol
        have hml0 : ([] : List Int).length ≤ maxLen := by unfold maxLen; decide
        go_wp2_with fail
        go_region_held3 (fun w' => w'.cell? ⟨w.heap.size, 0, none⟩ = some (.string f.name) ∧ w'.cell? ⟨w.heap.size, 1, none⟩ = some (.int .i64 f.body) ∧ w'.cell? ⟨w.heap.size, 2, none⟩ = some (.slice a f.sorts.length c)) (go_keep)
          (first | (go_at_call 20; refine (refErr_any f a c _ hc E9.fa.ok (by exact E9.fa.at_)).mono ?_; rintro e w10 ⟨rfl, hb10⟩; have E10 := (E9.drew hF).step hF hb10; have k0 := E10.c0; have k1 := E10.c1; have k2 := E10.c2) | (go_at_call 21; refine (refCheckCase_any f a c o.a o.l o.c _ hc E10.fa.ok (by exact E10.fa.at_) (by exact (hi9.below ((Below.refl _ _).drew.trans hb10))) hml).mono ?_; rintro e w11 ⟨rfl, hb11⟩; have E11 := E10.step hF hb11; have k0 := E11.c0; have k1 := E11.c1; have k2 := E11.c2))
        have hbb : Below w9.heap.size w9 w11 := ((Below.refl _ _).drew.trans hb10).trans (hb11.mono (B' := w9.heap.size) (by have := hb10.size; simpa using this))
        have hi11 := hi9.below hbb
        have hen11 := hen9.below hbb
        have hbl11 := hbl9.below hbb
        clear k0 k1 k2 q0 q1 q2 hb10 hb11 E9 E10 hi9 hen9 hbl9 hbb
        rename_i hHeld
        clear hHeld
        have q0 := E11.c0; have q1 := E11.c1; have q2 := E11.c2
        have hL11 := hLs.below E11.low
        have hlow11 := E11.low
        by_cases hck : (checkF f).2 = 0
        · have hn0 : 0 < f.sorts.length := by obtain ⟨_, hR, _⟩ := checkF_right hck; have := hR.2.2.1; omega
          have hn120 : f.sorts.length ≤ 120 := by obtain ⟨_, hR, _⟩ := checkF_right hck; exact hR.2.2.2.1
          have HCK := Lib.hid hck
          rw [hck]
          clear hck
          go_wp2_with fail
          refine (refEnough_u hc E11.fa hL11 h1000 HCK.out).mono ?_
          rintro e w12 ⟨hb12, A12, cap12, rfl, hen12⟩
          have E12 := E11.step hF hb12
          have hi12 := hi11.below hb12
          have hep12 := hen11.below hb12
          have hbl12 := hbl11.below hb12
          clear hb12 E11 q0 q1 q2 hi11 hen11 hbl11 hL11 hlow11
          have q0 := E12.c0; have q1 := E12.c1; have q2 := E12.c2
          have hlow12 := E12.low
          by_cases hd0 : caseErr f o.l = 0
          · rw [hd0]
            have HD0 := Lib.hid hd0
            clear hd0
            go_wp2_with fail
            refine (refBill_u hi12 HD0.out hn120 hn0).mono ?_
            rintro e w13 ⟨hb13, A13, cap13, rfl, hbl13⟩
            have hlow13 := hlow12.trans (hb13.mono (B' := w.heap.size) hlow12.size)
            have hep13 := hep12.below hb13
            have hen13 := hen12.below hb13
            have hbp13 := hbl12.below hb13
            clear hb13 E12 q0 q1 q2 hi12 hen12 hbl12 hep12 hlow12
            go_wp2_with fail
            refine (ints_good rfl rfl hep13 hen13 hml1 hml1 rfl).mono ?_
            rintro e w14 ⟨rfl, hD14⟩
            have hbp14 := hD14.ints hbp13
            have hbl14 := hD14.ints hbl13
            have hlow14 := hD14.below hlow13
            clear hep13 hen13 hbp13 hbl13 hD14
            go_wp2_with fail
            refine (ints_good rfl rfl hbp14 hbl14 hml2 hml2 rfl).mono ?_
            rintro e w15 ⟨rfl, hD15⟩
            have hlow15 := hD15.below hlow14
            go_wp2
            go_ret
            exact ⟨rfl, hlow15⟩
          · obtain ⟨be, bl⟩ := bil_bad (t := size) hd0
            have hdb : (caseErr f o.l == 0) = false := by simpa using hd0
            rw [be]
            have HBL := Lib.hid bl
            clear hd0 be bl
            go_wp2_with fail
            refine (ints_good rfl rfl hep12 hen12 hml1 hml1 rfl).mono ?_
            rintro e w14 ⟨rfl, hD14⟩
            have hbp14 := hD14.ints hbl12
            have hlow14 := hD14.below hlow12
            clear hep12 hen12 hbl12 hD14
            go_wp2_with fail
            refine (ints_good (b2 := none) (d2 := 0) rfl rfl hbp14 (nilInts _ _) hml2 hml0 HBL.out).mono ?_
            rintro e w15 ⟨rfl, hD15⟩
            have hlow15 := hD15.below hlow14
            go_wp2
            go_ret
            exact ⟨rfl, hlow15⟩
        · obtain ⟨ee, el⟩ := enL_bad (LL := ls.map (·.l)) hck
          have hce := caseErr_bad (l := o.l) hck
          obtain ⟨be, bl⟩ := bil_bad (f := f) (l := o.l) (t := size) (by rw [hce]; exact hck)
          have hcb : ((checkF f).2 == 0) = false := by simpa using hck
          rw [hce] at be
          rw [hce, be, ee]
          have HBL := Lib.hid bl; have HEL := Lib.hid el
          clear hck hce be bl ee el
          go_wp2_with fail
          refine (ints_good (b2 := none) (d2 := 0) rfl rfl hen11 (nilInts _ _) hml1 hml0 HEL.out).mono ?_
          rintro e w14 ⟨rfl, hD14⟩
          have hbp14 := hD14.ints hbl11
          have hlow14 := hD14.below hlow11
          clear hen11 hbl11 hD14
          go_wp2_with fail
          refine (ints_good (b2 := none) (d2 := 0) rfl rfl hbp14 (nilInts _ _) hml2 hml0 HBL.out).mono ?_
          rintro e w15 ⟨rfl, hD15⟩
          have hlow15 := hD15.below hlow14
          go_wp2
          go_ret
          exact ⟨rfl, hlow15⟩
end Go.Proofs.YtebndgepmjonoaaDoor
