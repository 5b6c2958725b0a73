/-
  The law on sums of lists: its walk.
-/
import Derived.Test.YtjkcomafgkabeaaDoorN8
import Derived.Test.YtjkcomafgkabeaaDoorM3
namespace Go.Proofs.YtjkcomafgkabeaaDoor
open Go.RowKit Go.Maps

theorem sumTo_append (F : Int → Int) (l1 l2 : List Int) : ∀ k, k ≤ l2.length → sumTo (fun i => F ((l1 ++ l2).getD i 0)) (l1.length + k) = sumTo (fun i => F (l1.getD i 0)) l1.length + sumTo (fun i => F (l2.getD i 0)) k := by
  intro k
  induction k with
  | zero =>
    intro _
    show _ = _ + (0 : Int)
    rw [Int.add_zero]
    refine sumTo_congr (fun i hi => ?_)
    show F ((l1 ++ l2).getD i 0) = _
    rw [List.getD_eq_getElem?_getD, List.getElem?_append_left (by omega), ← List.getD_eq_getElem?_getD]
  | succ k ih =>
    intro hk
    show sumTo _ (l1.length + k) + F ((l1 ++ l2).getD (l1.length + k) 0) = _ + (sumTo _ k + F (l2.getD k 0))
    rw [ih (by omega), List.getD_eq_getElem?_getD, List.getElem?_append_right (by omega), Nat.add_sub_cancel_left, ← List.getD_eq_getElem?_getD]
    omega
theorem width_append {f : FT} (l1 l2 : List Int) : widthOf f (l1 ++ l2) = widthOf f l1 + widthOf f l2 := by
  unfold widthOf
  rw [List.length_append]
  exact sumTo_append (fun x => (f.sorts.getD x.toNat noTS).width) l1 l2 l2.length (Nat.le_refl _)
theorem width_bd {f : FT} {l : List Int} (hR : RightF f) (h : OkIdx l f.sorts.length) (hl : l.length ≤ 10000) : 0 ≤ widthOf f l ∧ widthOf f l ≤ 1000000000 := by
  have := sumTo_bd (f := fun k => (f.sorts.getD (l.getD k 0).toNat noTS).width) (lo := 0) (hi := 100000) (k := l.length) (fun i hi => by
    obtain ⟨y, hy, hye⟩ := h i hi
    have := hR.2.2.2.2 y hy
    show 0 ≤ (f.sorts.getD (l.getD i 0).toNat noTS).width ∧ _
    rw [hye, Int.toNat_natCast]; omega)
  unfold widthOf
  omega
theorem listErr_app {f : FT} {l1 l2 : List Int} (h1 : listErr f l1 = 0) (h2 : listErr f l2 = 0) (hl : l1.length + l2.length ≤ 10000) : listErr f (l1 ++ l2) = 0 := by
  obtain ⟨h0, _, _⟩ := listErr_zero h1
  have e1 : l1.any (idxBad f.sorts.length) = false := by
    cases e : l1.any (idxBad f.sorts.length)
    · rfl
    · exfalso; unfold listErr at h1; rw [if_neg (by simp [h0]), if_neg (by omega), if_pos e] at h1; cases h1
  have e2 : l2.any (idxBad f.sorts.length) = false := by
    cases e : l2.any (idxBad f.sorts.length)
    · rfl
    · exfalso; unfold listErr at h2; rw [if_neg (by simp [h0]), if_neg (by omega), if_pos e] at h2; cases h2
  unfold listErr
  rw [if_neg (by simp [h0]), if_neg (by rw [List.length_append]; omega), if_neg (by rw [List.any_append, e1, e2]; simp)]
theorem need_count {n : Nat} {l : List Int} (h : OkIdx l n) {j : Nat} (hj : j < n) : (needOf n l).getD j 0 = ((l.count (j : Int) : Nat) : Int) := by
  unfold needOf
  rw [bumps_at l _ (by rw [tab_len]; exact h) j (by rw [tab_len]; exact hj), tab_at hj]; omega
theorem OkIdx.app {n : Nat} {l1 l2 : List Int} (h1 : OkIdx l1 n) (h2 : OkIdx l2 n) : OkIdx (l1 ++ l2) n := fun j hj => by
  rw [List.length_append] at hj
  by_cases h : j < l1.length
  · obtain ⟨x, hx, e⟩ := h1 j h
    exact ⟨x, hx, by rw [List.getD_eq_getElem?_getD, List.getElem?_append_left h, ← List.getD_eq_getElem?_getD]; exact e⟩
  · obtain ⟨x, hx, e⟩ := h2 (j - l1.length) (by omega)
    exact ⟨x, hx, by rw [List.getD_eq_getElem?_getD, List.getElem?_append_right (by omega), ← List.getD_eq_getElem?_getD]; exact e⟩
theorem need_ok {n : Nat} {l : List Int} (hl : l.length ≤ 10000) : OkC n (needOf n l) := by
  refine ⟨needOf_len _ _, fun k hk => ?_⟩
  have := needN_bd n l l.length k hk
  rw [List.take_length] at this
  unfold needOf
  omega
theorem need_plus {n : Nat} {l1 l2 : List Int} (h1 : OkIdx l1 n) (h2 : OkIdx l2 n) : tab n (plus (needOf n l1) (needOf n l2)) = needOf n (l1 ++ l2) :=
  list_eq (by rw [tab_len, needOf_len]) (fun j hj => by
    rw [tab_len] at hj
    rw [tab_at hj, need_count (h1.app h2) hj]
    unfold plus
    rw [need_count h1 hj, need_count h2 hj, List.count_append]; omega)
theorem need_over {n : Nat} {l1 l2 : List Int} (hl1 : l1.length ≤ 10000) (hl2 : l2.length ≤ 10000) : over (needOf n l1) (needOf n l2) n 0 = false :=
  over_ok (n := n) (fun j hj => by
    have a := needN_bd n l1 l1.length j hj
    have b := needN_bd n l2 l2.length j hj
    rw [List.take_length] at a b
    unfold plus needOf
    omega) _ _ (by omega)
theorem vals_append (l1 l2 : List Int) : vals (l1 ++ l2) = vals l1 ++ vals l2 := by simp [vals]

set_option maxRecDepth 100000 in
set_option maxHeartbeats 8000000 in
theorem adds_walk (f : FT) (a : Option Addr) (c : Nat) (b1 : Option Addr) (l1 : List Int) (d1 : Nat) (b2 : Option Addr) (l2 : List Int) (d2 : Nat) (w : World) (hF : FAt w a f) (hL : LawOk w) (hc : f.sorts.length ≤ c) (hX1 : IntsAt w b1 l1) (hl1 : l1.length ≤ maxLen) (hd1 : b1 = none → d1 = 0) (hX2 : IntsAt w b2 l2) (hl2 : l2.length ≤ maxLen) (hd2 : b2 = none → d2 = 0) :
    Calls Tryd.prog 6 #[.agg #[.string f.name, .int .i64 f.body, .slice a f.sorts.length c], .slice b1 l1.length d1, .slice b2 l2.length d2] w fun e w' => e = .returned (.bool true) ∧ Below w.heap.size w w' := by
  have hB0 : Below (w.heap.size + 1) (w.alloc (boxF f a c)) (w.alloc (boxF f a c)) := Below.refl _ _
  have E0 := Env.of hF hB0
  go_enter Tryd.func6, Tryd.ntmps6
  go_wp2_with fail
  refine (awake_any _ (hL.below E0.low)).mono ?_
  rintro e w2 ⟨rfl, hb2⟩
  have E2 := E0.step hF hb2
  have q0 := E2.c0; have q1 := E2.c1; have q2 := E2.c2
  clear hb2 E0
  go_wp2_with fail
  refine (few_any f a c _ E2.fa.ok E2.fa.at_).mono ?_
  rintro e w3 ⟨rfl, hb3⟩
  have E3 := E2.step hF hb3
  clear q0 q1 q2 hb3 E2
  have q0 := E3.c0; have q1 := E3.c1; have q2 := E3.c2
  cases hfew : fewB f
  · have hlow := E3.low
    go_wp2
    go_ret
    exact ⟨rfl, hlow⟩
  unfold maxLen at hl1 hl2
  by_cases h40 : 40 < l1.length
  · have hlow := E3.low
    have h40' : (40 : Int) < (l1.length : Int) := by omega
    go_wp2
    go_ret
    exact ⟨rfl, hlow⟩
  have h40' : (l1.length : Int) ≤ 40 := by omega
  by_cases h41 : 40 < l2.length
  · have hlow := E3.low
    have h41' : (40 : Int) < (l2.length : Int) := by omega
    go_wp2
    go_ret
    exact ⟨rfl, hlow⟩
  have h41' : (l2.length : Int) ≤ 40 := by omega
  have xa3 := hX1.below E3.low
  have xb3 := hX2.below E3.low
  have ml1 : l1.length ≤ maxLen := by unfold maxLen; omega
  have ml2 : l2.length ≤ maxLen := by unfold maxLen; omega
  clear hfew
  go_wp2_with fail
  refine (refErr_any f a c _ hc E3.fa.ok E3.fa.at_).mono ?_
  rintro e w4 ⟨rfl, hb4⟩
  have E4 := E3.step hF hb4
  have xa4 := xa3.below hb4
  have xb4 := xb3.below hb4
  clear hb4 E3 xa3 xb3 q0 q1 q2
  have q0 := E4.c0; have q1 := E4.c1; have q2 := E4.c2
  by_cases h0 : (checkF f).2 = 0
  case neg =>
    have hlow := E4.low
    have heb : ((checkF f).2 != 0) = true := by simpa using h0
    clear h0
    go_wp2
    go_ret
    exact ⟨rfl, hlow⟩
  obtain ⟨_, hR, _⟩ := checkF_right h0
  have hn120 := hR.2.2.2.1
  rw [h0]
  have HR := Lib.hid hR; have H0 := Lib.hid h0
  clear hR h0
  go_wp2_with fail
  refine (refListErr_any f a c b1 l1 d1 _ hn120 xa4 ml1).mono ?_
  rintro e w5 ⟨rfl, hb5⟩
  have E5 := E4.step hF hb5
  have xa5 := xa4.below hb5
  have xb5 := xb4.below hb5
  clear hb5 E4 xa4 xb4 q0 q1 q2
  have q0 := E5.c0; have q1 := E5.c1; have q2 := E5.c2
  by_cases hle1 : rlistErr f.sorts.length l1 = 0
  case neg =>
    have hlow := E5.low
    have heb : (rlistErr f.sorts.length l1 != 0) = true := by simpa using hle1
    clear hle1
    go_wp2
    go_ret
    exact ⟨rfl, hlow⟩
  rw [hle1]
  go_wp2_with fail
  refine (refListErr_any f a c b2 l2 d2 _ hn120 xb5 ml2).mono ?_
  rintro e w6 ⟨rfl, hb6⟩
  have E6 := E5.step hF hb6
  have xa6 := xa5.below hb6
  have xb6 := xb5.below hb6
  clear hb6 E5 xa5 xb5 q0 q1 q2
  have q0 := E6.c0; have q1 := E6.c1; have q2 := E6.c2
  by_cases hle2 : rlistErr f.sorts.length l2 = 0
  case neg =>
    have hlow := E6.low
    have heb : (rlistErr f.sorts.length l2 != 0) = true := by simpa using hle2
    clear hle2
    go_wp2
    go_ret
    exact ⟨rfl, hlow⟩
  rw [hle2]
  have he1 : listErr f l1 = 0 := by rw [listErr_eq, if_neg (by simp [H0.out])]; exact hle1
  have he2 : listErr f l2 = 0 := by rw [listErr_eq, if_neg (by simp [H0.out])]; exact hle2
  have he3 := listErr_app he1 he2 (by omega)
  have HE1 := Lib.hid he1; have HE2 := Lib.hid he2; have HE3 := Lib.hid he3
  have HO1 := Lib.hid (listErr_zero he1).2.2; have HO2 := Lib.hid (listErr_zero he2).2.2
  clear he1 he2 he3 hle1 hle2
  have KE := E6; have KA := xa6; have KB := xb6
  go_wp2_with fail
  refine (copyInts_any b1 l1 d1 _ xa6 (by omega) hd1).mono ?_
  rintro e w7 ⟨gc7, dc7, rfl, hrc7, hb7⟩
  have HSZ := Lib.hid hb7.size
  have HBB := Lib.hid hb7
  have E7 := E6.step hF hb7
  have xa7 := xa6.below hb7
  have xb7 := xb6.below hb7
  clear hb7 E6 xa6 xb6 q0 q1 q2
  have q0 := E7.c0; have q1 := E7.c1; have q2 := E7.c2
  obtain ⟨i0, hi, hz0, hz1, hz2⟩ := info_parts info3
  have hall : ∀ w8 : World, ∀ v : Value, w8.ownsRow w6.heap.size 3 1 v (l1.length + l2.length) (vals l1 ++ vals l2) → ¬ v = .slice none 0 0 → ∃ g cap, v = .slice (some ⟨g, 0, none⟩) (l1 ++ l2).length cap ∧ IntsAt w8 (some ⟨g, 0, none⟩) (l1 ++ l2) := fun w8 v hv hne => by
    rw [← vals_append] at hv
    rcases hv.2 with ⟨e, _⟩ | ⟨g, cap, cur, e, _⟩
    · exact absurd e hne
    · subst e
      exact ⟨g, cap, by rw [List.length_append], ints_of_row hv⟩
  have HALL := Lib.hid hall
  clear hall
  cases b2 with
  | none =>
    have hl20 : l2 = [] := by
      rcases l2 with _ | ⟨x, r⟩
      · rfl
      · obtain ⟨ad, h, _⟩ := hX2 0 (by simp); cases h
    have hd20 : d2 = 0 := hd2 rfl
    subst hl20 hd20
    obtain ⟨gl, dl, el, xl7⟩ := HALL.out _ (.slice (some ⟨gc7, 0, none⟩) l1.length dc7) (by simpa [vals] using hrc7) (by simp)
    have eg : gc7 = gl ∧ dc7 = dl := by
      injection el with e1 e2 e3
      injection e1 with e1
      injection e1 with e1
      exact ⟨e1, e3⟩
    obtain ⟨eg1, eg2⟩ := eg
    subst eg1 eg2
    clear el KE KA KB HBB
    go_wp2_with (at_builtin; refine wpList_append_own_none rfl _ _ 31 rfl w6.heap.size 3 i0 1 Tryd.underlying31 hi _ l1.length (vals l1) rfl hrc7 rfl ?_)
    have w1bd := width_bd HR.out HO1.out (by omega)
    have w2bd := width_bd HR.out HO2.out (by first | omega | simp)
    have WA := Lib.hid (width_append (f := f) l1 [])
    have NPL := Lib.hid (need_plus HO1.out HO2.out)
    rw [List.append_nil] at WA NPL HE3 xl7
    have hmlA : l1.length ≤ maxLen := by unfold maxLen; omega
    have wr1 : widthR f l1 = (widthOf f l1, 0) := by unfold widthR; rw [if_neg (by simp [HE1.out])]
    have wr2 : widthR f [] = (widthOf f [], 0) := by unfold widthR; rw [if_neg (by simp [HE2.out])]
    have wr3 : widthR f l1 = (widthOf f l1 + widthOf f [], 0) := by unfold widthR; rw [if_neg (by simp [HE3.out])]; exact congrArg (fun t => (t, (0 : Int))) WA.out
    have WR1 := Lib.hid wr1; have WR2 := Lib.hid wr2; have WR3 := Lib.hid wr3
    clear wr1 wr2 wr3
    go_wp2_with fail
    refine (WidthOf_any f a c b1 l1 d1 _ E7.fa xa7 ml1).mono ?_
    rintro e w8 ⟨rfl, hb8⟩
    have E8 := E7.step hF hb8
    have xa8 := xa7.below hb8
    have xb8 := xb7.below hb8
    have xl8 := xl7.below hb8
    clear hb8 E7 xa7 xb7 xl7 q0 q1 q2
    have q0 := E8.c0; have q1 := E8.c1; have q2 := E8.c2
    rw [WR1.out]
    go_wp2_with fail
    refine (WidthOf_any f a c none [] 0 _ E8.fa xb8 ml2).mono ?_
    rintro e w9 ⟨rfl, hb9⟩
    have E9 := E8.step hF hb9
    have xa9 := xa8.below hb9
    have xb9 := xb8.below hb9
    have xl9 := xl8.below hb9
    clear hb9 E8 xa8 xb8 xl8 q0 q1 q2
    have q0 := E9.c0; have q1 := E9.c1; have q2 := E9.c2
    rw [WR2.out]
    go_wp2_with fail
    refine (WidthOf_any f a c (some ⟨gc7, 0, none⟩) l1 dc7 _ E9.fa xl9 hmlA).mono ?_
    rintro e w10 ⟨rfl, hb10⟩
    have E10 := E9.step hF hb10
    have xa10 := xa9.below hb10
    have xb10 := xb9.below hb10
    have xl10 := xl9.below hb10
    clear hb10 E9 xa9 xb9 xl9 q0 q1 q2
    have q0 := E10.c0; have q1 := E10.c1; have q2 := E10.c2
    rw [WR3.out]
    clear WR1 WR2 WR3 WA
    generalize widthOf f l1 = x1 at w1bd
    generalize widthOf f [] = x2 at w2bd
    have hwx : IntKind.i64.wrap (x1 + x2) = x1 + x2 := IntWalk.i64_in _ (by omega)
    go_wp2_with fail
    refine (NeedOf_any f a c b1 l1 d1 _ E10.fa xa10 ml1).mono ?_
    rintro e w11 ⟨hb11, hj11⟩
    have E11 := E10.step hF hb11
    have xa11 := xa10.below hb11
    have xb11 := xb10.below hb11
    have xl11 := xl10.below hb11
    clear hb11 E10 xa10 xb10 xl10 q0 q1 q2
    have q0 := E11.c0; have q1 := E11.c1; have q2 := E11.c2
    obtain ⟨_, gp, rfl, np11⟩ := hj11.resolve_left (fun h => h.1 HE1.out)
    clear hj11
    go_wp2_with fail
    refine (NeedOf_any f a c none [] 0 _ E11.fa xb11 ml2).mono ?_
    rintro e w12 ⟨hb12, hj12⟩
    have E12 := E11.step hF hb12
    have xa12 := xa11.below hb12
    have xb12 := xb11.below hb12
    have xl12 := xl11.below hb12
    have np12 := np11.below hb12
    clear hb12 E11 xa11 xb11 xl11 np11 q0 q1 q2
    have q0 := E12.c0; have q1 := E12.c1; have q2 := E12.c2
    obtain ⟨_, gq, rfl, nq12⟩ := hj12.resolve_left (fun h => h.1 HE2.out)
    clear hj12
    go_wp2_with fail
    refine (NeedOf_any f a c (some ⟨gc7, 0, none⟩) l1 dc7 _ E12.fa xl12 hmlA).mono ?_
    rintro e w13 ⟨hb13, hj13⟩
    have E13 := E12.step hF hb13
    have xa13 := xa12.below hb13
    have xb13 := xb12.below hb13
    have xl13 := xl12.below hb13
    have np13 := np12.below hb13
    have nq13 := nq12.below hb13
    clear hb13 E12 xa12 xb12 xl12 np12 nq12 q0 q1 q2
    have q0 := E13.c0; have q1 := E13.c1; have q2 := E13.c2
    obtain ⟨_, gr, rfl, nr13⟩ := hj13.resolve_left (fun h => h.1 HE3.out)
    clear hj13
    have HJ := Lib.hid (Joined_good (c := c) (d1 := f.sorts.length) (d2 := f.sorts.length) (N1 := f.sorts.length) (N2 := f.sorts.length) (needOf_len _ _).symm (needOf_len _ _).symm E13.fa np13.ints nq13.ints H0.out (need_ok (by first | omega | simp)) (need_ok (by first | omega | simp)) hn120 (need_over (by first | omega | simp) (by first | omega | simp)))
    go_wp2_with fail
    refine (HJ.out).mono ?_
    rintro e w14 ⟨gs, rfl, ns14, hb14⟩
    have E14 := E13.step hF hb14
    have xa14 := xa13.below hb14
    have xb14 := xb13.below hb14
    have xl14 := xl13.below hb14
    have np14 := np13.below hb14
    have nq14 := nq13.below hb14
    have nr14 := nr13.below hb14
    clear hb14 E13 xa13 xb13 xl13 np13 nq13 nr13 q0 q1 q2
    have q0 := E14.c0; have q1 := E14.c1; have q2 := E14.c2
    rw [NPL.out] at ns14
    clear HJ
    have HI := Lib.hid (ints_good (N1 := f.sorts.length) (N2 := f.sorts.length) (d1 := f.sorts.length) (d2 := f.sorts.length) (needOf_len _ _).symm (needOf_len _ _).symm ns14.ints nr14.ints (by rw [needOf_len]; unfold maxLen; omega) (by rw [needOf_len]; unfold maxLen; omega) rfl)
    go_wp2_with fail
    refine HI.out.mono ?_
    rintro e w30 ⟨rfl, hD⟩
    have hlow := hD.below E14.low
    clear HI
    go_wp2
    go_ret
    exact ⟨rfl, hlow⟩
  | some p2 =>
    obtain ⟨L, eL⟩ : ∃ L, L = l1 ++ l2 := ⟨_, rfl⟩
    rw [← eL] at HALL HE3
    have HLL := Lib.hid (show L.length = l1.length + l2.length by rw [eL, List.length_append])
    have ELL := Lib.hid eL
    clear eL
    have hn2 : ∀ j u, (vals l2)[j]? = some u → w7.cell? (p2.add j) = some u := by
      intro j u hj
      have hjl : j < l2.length := by
        have := (List.getElem?_eq_some_iff.1 hj).1
        simpa [vals] using this
      obtain ⟨ad', e, _, hc⟩ := xb7 j hjl
      cases e
      rw [vals_at hjl] at hj
      rw [hc, hj]
    have hone : ∀ u ∈ vals l2, u.oneCell' = true := by
      intro u hu
      obtain ⟨x, _, rfl⟩ := List.mem_map.1 hu
      rfl
    have HN := Lib.hid hn2; have HON := Lib.hid hone
    have HLN := Lib.hid (show (vals l2).length = l2.length * 1 by simp [vals])
    have H63 := Lib.hid (show l1.length + l2.length ≤ maxLen by unfold maxLen; omega)
    have HBY := Lib.hid (show (l1.length + l2.length) * 8 ≤ 140737488355328 by omega)
    have hszn : w6.heap.size ≤ w7.heap.size := HSZ.out
    clear hn2 hone
    go_wp2_with (at_builtin; refine wpList_append_own _ rfl _ _ 31 rfl w6.heap.size 3 i0 (.int .i64 0) 1 8 Tryd.underlying31 hi hz0 hz1 hz2 rfl (by decide) _ l1.length (vals l1) rfl hrc7 p2 l2.length d2 (vals l2) rfl HLN.out HN.out HON.out H63.out HBY.out hszn ?_; intro v' w8 hown8 hgrow8 hnil8; obtain ⟨gl, dl, el, xl8⟩ := HALL.out _ v' hown8 (fun e => by have := (hnil8.1 e).1; cases this); subst el; have hbb : Below w6.heap.size w6 w8 := HBB.out.grown hgrow8 HSZ.out (fun k hk => (hrc7.lt k hk).1); have E8 := KE.step hF hbb; have xa8 := KA.below hbb; have xb8 := KB.below hbb; clear q0 q1 q2 E7 xa7 xb7; have q0 := E8.c0; have q1 := E8.c1; have q2 := E8.c2)
    have w1bd := width_bd HR.out HO1.out (by omega)
    have w2bd := width_bd HR.out HO2.out (by first | omega | simp)
    have WA := Lib.hid (width_append (f := f) l1 l2)
    have NPL := Lib.hid (need_plus HO1.out HO2.out)
    rw [← ELL.out] at WA NPL
    have hmlA : L.length ≤ maxLen := by have := HLL.out; unfold maxLen; omega
    have wr1 : widthR f l1 = (widthOf f l1, 0) := by unfold widthR; rw [if_neg (by simp [HE1.out])]
    have wr2 : widthR f l2 = (widthOf f l2, 0) := by unfold widthR; rw [if_neg (by simp [HE2.out])]
    have wr3 : widthR f L = (widthOf f l1 + widthOf f l2, 0) := by unfold widthR; rw [if_neg (by simp [HE3.out])]; exact congrArg (fun t => (t, (0 : Int))) WA.out
    have WR1 := Lib.hid wr1; have WR2 := Lib.hid wr2; have WR3 := Lib.hid wr3
    clear wr1 wr2 wr3
    go_wp2_with fail
    refine (WidthOf_any f a c b1 l1 d1 _ E8.fa xa8 ml1).mono ?_
    rintro e w9 ⟨rfl, hb9⟩
    have E9 := E8.step hF hb9
    have xa9 := xa8.below hb9
    have xb9 := xb8.below hb9
    have xl9 := xl8.below hb9
    clear hb9 E8 xa8 xb8 xl8 q0 q1 q2
    have q0 := E9.c0; have q1 := E9.c1; have q2 := E9.c2
    rw [WR1.out]
    go_wp2_with fail
    refine (WidthOf_any f a c (some p2) l2 d2 _ E9.fa xb9 ml2).mono ?_
    rintro e w10 ⟨rfl, hb10⟩
    have E10 := E9.step hF hb10
    have xa10 := xa9.below hb10
    have xb10 := xb9.below hb10
    have xl10 := xl9.below hb10
    clear hb10 E9 xa9 xb9 xl9 q0 q1 q2
    have q0 := E10.c0; have q1 := E10.c1; have q2 := E10.c2
    rw [WR2.out]
    go_wp2_with fail
    refine (WidthOf_any f a c (some ⟨gl, 0, none⟩) L dl _ E10.fa xl10 hmlA).mono ?_
    rintro e w11 ⟨rfl, hb11⟩
    have E11 := E10.step hF hb11
    have xa11 := xa10.below hb11
    have xb11 := xb10.below hb11
    have xl11 := xl10.below hb11
    clear hb11 E10 xa10 xb10 xl10 q0 q1 q2
    have q0 := E11.c0; have q1 := E11.c1; have q2 := E11.c2
    rw [WR3.out]
    clear WR1 WR2 WR3 WA
    generalize widthOf f l1 = x1 at w1bd
    generalize widthOf f l2 = x2 at w2bd
    have hwx : IntKind.i64.wrap (x1 + x2) = x1 + x2 := IntWalk.i64_in _ (by omega)
    go_wp2_with fail
    refine (NeedOf_any f a c b1 l1 d1 _ E11.fa xa11 ml1).mono ?_
    rintro e w12 ⟨hb12, hj12⟩
    have E12 := E11.step hF hb12
    have xa12 := xa11.below hb12
    have xb12 := xb11.below hb12
    have xl12 := xl11.below hb12
    clear hb12 E11 xa11 xb11 xl11 q0 q1 q2
    have q0 := E12.c0; have q1 := E12.c1; have q2 := E12.c2
    obtain ⟨_, gp, rfl, np12⟩ := hj12.resolve_left (fun h => h.1 HE1.out)
    clear hj12
    go_wp2_with fail
    refine (NeedOf_any f a c (some p2) l2 d2 _ E12.fa xb12 ml2).mono ?_
    rintro e w13 ⟨hb13, hj13⟩
    have E13 := E12.step hF hb13
    have xa13 := xa12.below hb13
    have xb13 := xb12.below hb13
    have xl13 := xl12.below hb13
    have np13 := np12.below hb13
    clear hb13 E12 xa12 xb12 xl12 np12 q0 q1 q2
    have q0 := E13.c0; have q1 := E13.c1; have q2 := E13.c2
    obtain ⟨_, gq, rfl, nq13⟩ := hj13.resolve_left (fun h => h.1 HE2.out)
    clear hj13
    go_wp2_with fail
    refine (NeedOf_any f a c (some ⟨gl, 0, none⟩) L dl _ E13.fa xl13 hmlA).mono ?_
    rintro e w14 ⟨hb14, hj14⟩
    have E14 := E13.step hF hb14
    have xa14 := xa13.below hb14
    have xb14 := xb13.below hb14
    have xl14 := xl13.below hb14
    have np14 := np13.below hb14
    have nq14 := nq13.below hb14
    clear hb14 E13 xa13 xb13 xl13 np13 nq13 q0 q1 q2
    have q0 := E14.c0; have q1 := E14.c1; have q2 := E14.c2
    obtain ⟨_, gr, rfl, nr14⟩ := hj14.resolve_left (fun h => h.1 HE3.out)
    clear hj14
    have HJ := Lib.hid (Joined_good (c := c) (d1 := f.sorts.length) (d2 := f.sorts.length) (N1 := f.sorts.length) (N2 := f.sorts.length) (needOf_len _ _).symm (needOf_len _ _).symm E14.fa np14.ints nq14.ints H0.out (need_ok (by first | omega | simp)) (need_ok (by first | omega | simp)) hn120 (need_over (by first | omega | simp) (by first | omega | simp)))
    go_wp2_with fail
    refine (HJ.out).mono ?_
    rintro e w15 ⟨gs, rfl, ns15, hb15⟩
    have E15 := E14.step hF hb15
    have xa15 := xa14.below hb15
    have xb15 := xb14.below hb15
    have xl15 := xl14.below hb15
    have np15 := np14.below hb15
    have nq15 := nq14.below hb15
    have nr15 := nr14.below hb15
    clear hb15 E14 xa14 xb14 xl14 np14 nq14 nr14 q0 q1 q2
    have q0 := E15.c0; have q1 := E15.c1; have q2 := E15.c2
    rw [NPL.out] at ns15
    clear HJ
    have HI := Lib.hid (ints_good (N1 := f.sorts.length) (N2 := f.sorts.length) (d1 := f.sorts.length) (d2 := f.sorts.length) (needOf_len _ _).symm (needOf_len _ _).symm ns15.ints nr15.ints (by rw [needOf_len]; unfold maxLen; omega) (by rw [needOf_len]; unfold maxLen; omega) rfl)
    go_wp2_with fail
    refine HI.out.mono ?_
    rintro e w30 ⟨rfl, hD⟩
    have hlow := hD.below E15.low
    clear HI
    go_wp2
    go_ret
    exact ⟨rfl, hlow⟩
end Go.Proofs.YtjkcomafgkabeaaDoor
