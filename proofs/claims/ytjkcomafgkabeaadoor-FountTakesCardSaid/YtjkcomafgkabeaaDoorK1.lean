/-
  The law on what is kept: its walk.
-/
import Derived.Test.YtjkcomafgkabeaaDoorN6
import Derived.Test.YtjkcomafgkabeaaDoorT3
namespace Go.Proofs.YtjkcomafgkabeaaDoor
open Go.RowKit Go.Maps

def lackN (l1 l2 : List Int) : Nat → Bool
  | 0 => false
  | k + 1 => lackN l1 l2 k || (lack l1 l2 k != 0)
theorem lackN_none {l1 l2 : List Int} : ∀ {m j : Nat}, short l1 l2 m j = none → ∀ k, k ≤ j + m → lackN l1 l2 j = false → lackN l1 l2 k = false ∨ k < j := by
  intro m
  induction m with
  | zero => intro j _ k hk h; by_cases e : k = j <;> first | (subst e; exact .inl h) | (right; omega)
  | succ m ih =>
    intro j h k hk hj
    unfold short at h
    split at h
    · cases h
    · rename_i hq
      have hj2 : lackN l1 l2 (j + 1) = false := by
        show (lackN l1 l2 j || (lack l1 l2 j != 0)) = false
        rw [hj, show lack l1 l2 j = 0 by unfold lack; omega]; rfl
      rcases ih h k (by omega) hj2 with h1 | h1
      · exact .inl h1
      · by_cases e : k = j
        · subst e; exact .inl hj
        · right; omega
theorem lackN_mono {l1 l2 : List Int} {k : Nat} (h : lackN l1 l2 k = true) : ∀ m, lackN l1 l2 (k + m) = true := by
  intro m
  induction m with
  | zero => exact h
  | succ m ih => show (lackN l1 l2 (k + m) || _) = true; rw [ih]; rfl
theorem lackN_some {l1 l2 : List Int} : ∀ {m j i : Nat}, short l1 l2 m j = some i → lackN l1 l2 (j + m) = true := by
  intro m
  induction m with
  | zero => intro j i h; cases h
  | succ m ih =>
    intro j i h
    unfold short at h
    split at h
    · rename_i hq
      have : lackN l1 l2 (j + 1) = true := by
        show (lackN l1 l2 j || (lack l1 l2 j != 0)) = true
        have hne : lack l1 l2 j ≠ 0 := by unfold lack; omega
        have : (lack l1 l2 j != 0) = true := by simpa using hne
        rw [this]; simp
      have := lackN_mono this m
      rwa [show j + 1 + m = j + (m + 1) by omega] at this
    · have := ih h
      rwa [show j + 1 + m = j + (m + 1) by omega] at this

/-- How often a need can be taken, and the sort that stops it. -/
theorem timesN_spec {l1 l2 : List Int} {n : Nat} (h1 : ∀ j, j < n → 0 ≤ l1.getD j 0 ∧ l1.getD j 0 ≤ 1000000) (h2 : ∀ j, j < n → 0 ≤ l2.getD j 0) : ∀ k, k ≤ n →
    ((timesN l1 l2 k).1 < 0 ∧ ∀ j, j < k → l2.getD j 0 = 0) ∨ (∃ (s : Nat) (q : Int), timesN l1 l2 k = (q, (s : Int)) ∧ s < k ∧ 0 < l2.getD s 0 ∧ 0 ≤ q ∧ q ≤ 1000000 ∧ (∀ j, j < k → q * l2.getD j 0 ≤ l1.getD j 0) ∧ (∀ j, j < s → (q + 1) * l2.getD j 0 ≤ l1.getD j 0) ∧ l1.getD s 0 < (q + 1) * l2.getD s 0) := by
  intro k
  induction k with
  | zero => intro _; exact .inl ⟨(by show (-1 : Int) < 0; decide), fun j hj => by omega⟩
  | succ k ih =>
    intro hk
    have hih := ih (by omega)
    obtain ⟨u1, u2⟩ := h1 k (by omega)
    by_cases hz : l2.getD k 0 = 0
    · rw [timesN_skip hz]
      rcases hih with ⟨a1, a2⟩ | ⟨s, q, e, a1, a2, a3, a4, a5, a6, a7⟩
      · refine .inl ⟨a1, fun j hj => ?_⟩
        by_cases ej : j = k
        · subst ej; exact hz
        · exact a2 j (by omega)
      · refine .inr ⟨s, q, e, by omega, a2, a3, a4, fun j hj => ?_, a6, a7⟩
        by_cases ej : j = k
        · subst ej; rw [hz, Int.mul_zero]; exact u1
        · exact a5 j (by omega)
    · have hp : 0 < l2.getD k 0 := by have := h2 k (by omega); omega
      have q0 : 0 ≤ l1.getD k 0 / l2.getD k 0 := Int.ediv_nonneg u1 (by omega)
      have q1 : l1.getD k 0 / l2.getD k 0 ≤ 1000000 := Int.le_trans (Int.ediv_le_self _ u1) u2
      have q2 : l1.getD k 0 / l2.getD k 0 * l2.getD k 0 ≤ l1.getD k 0 := Int.ediv_mul_le _ (by omega)
      have q3 : l1.getD k 0 < (l1.getD k 0 / l2.getD k 0 + 1) * l2.getD k 0 := Int.lt_ediv_add_one_mul_self _ hp
      right
      rcases hih with ⟨a1, a2⟩ | ⟨s, q, e, a1, a2, a3, a4, a5, a6, a7⟩
      · rw [timesN_new hz (.inl a1)]
        refine ⟨k, _, rfl, by omega, hp, q0, q1, fun j hj => ?_, fun j hj => ?_, q3⟩
        · by_cases ej : j = k
          · subst ej; exact q2
          · rw [a2 j (by omega), Int.mul_zero]; exact (h1 j (by omega)).1
        · rw [a2 j hj, Int.mul_zero]; exact (h1 j (by omega)).1
      · by_cases g : l1.getD k 0 / l2.getD k 0 < q
        · rw [timesN_new hz (.inr (by rw [e]; exact g))]
          have hle : ∀ j, j < k → (l1.getD k 0 / l2.getD k 0 + 1) * l2.getD j 0 ≤ l1.getD j 0 := fun j hj => by
            have b1 := a5 j hj
            have b2 : (l1.getD k 0 / l2.getD k 0 + 1) * l2.getD j 0 ≤ q * l2.getD j 0 := Int.mul_le_mul_of_nonneg_right (by omega) (h2 j (by omega))
            omega
          refine ⟨k, _, rfl, by omega, hp, q0, q1, fun j hj => ?_, hle, q3⟩
          by_cases ej : j = k
          · subst ej; exact q2
          · have b1 := hle j (by omega)
            have b2 : l1.getD k 0 / l2.getD k 0 * l2.getD j 0 ≤ (l1.getD k 0 / l2.getD k 0 + 1) * l2.getD j 0 := Int.mul_le_mul_of_nonneg_right (by omega) (h2 j (by omega))
            omega
        · rw [timesN_keep hz (by rw [e]; show ¬ (q < 0 ∨ _ < q); omega)]
          refine ⟨s, q, e, by omega, a2, a3, a4, fun j hj => ?_, a6, a7⟩
          by_cases ej : j = k
          · subst ej
            have b2 : q * l2.getD j 0 ≤ l1.getD j 0 / l2.getD j 0 * l2.getD j 0 := Int.mul_le_mul_of_nonneg_right (by omega) (by omega)
            omega
          · exact a5 j (by omega)
theorem times_zero {l1 l2 : List Int} {n : Nat} (h : (timesN l1 l2 n).1 < 0) : timesR l1 l2 n = (0, 0, 11) := by
  unfold timesR; rw [if_pos h]
theorem minus_plus {l1 l2 : List Int} {n : Nat} (h1 : l1.length = n) : tab n (plus (tab n (minus l1 l2)) l2) = l1 :=
  list_eq (by rw [tab_len, h1]) (fun j hj => by
    rw [tab_len] at hj
    rw [tab_at hj]; unfold plus; rw [tab_at hj]; unfold minus; omega)
theorem minus_over {l1 l2 : List Int} {n : Nat} (h1 : OkC n l1) : over (tab n (minus l1 l2)) l2 n 0 = false :=
  over_ok (n := n) (fun j hj => by
    have := h1.2 j hj
    unfold plus; rw [tab_at hj]; unfold minus; omega) _ _ (by omega)

theorem Row3.cell' {w : World} {g n : Nat} {fn : Nat → Int} (h : Row3 w g (tab n fn)) {k : Nat} (hk : k < n) : w.cell? ⟨g, k, none⟩ = some (.int .i64 (fn k)) := by
  obtain ⟨_, e, _, hc⟩ := h.ints k (by rw [tab_len]; exact hk)
  cases e
  rw [add0, tab_at hk] at hc
  exact hc

set_option maxRecDepth 100000 in
set_option maxHeartbeats 8000000 in
theorem kept_walk (f : FT) (a : Option Addr) (c : Nat) (b1 : Option Addr) (l1 : List Int) (d1 : Nat) (b2 : Option Addr) (l2 : List Int) (d2 : Nat) (w : World) (hF : FAt w a f) (hL : LawOk w) (hc : f.sorts.length ≤ c) (hX1 : IntsAt w b1 l1) (hl1 : l1.length ≤ maxLen) (hX2 : IntsAt w b2 l2) (hl2 : l2.length ≤ maxLen) :
    Calls Tryd.prog 9 #[.agg #[.string f.name, .int .i64 f.body, .slice a f.sorts.length c], .slice b1 l1.length d1, .slice b2 l2.length d2] w fun e w' => e = .returned (.bool true) ∧ Below w.heap.size w w' := by
  have hB0 : Below (w.heap.size + 1) (w.alloc (boxF f a c)) (w.alloc (boxF f a c)) := Below.refl _ _
  have E0 := Env.of hF hB0
  go_enter Tryd.func9, Tryd.ntmps9
  go_wp2_with fail
  refine (awake_any _ (hL.below E0.low)).mono ?_
  rintro e w2 ⟨rfl, hb2⟩
  have E2 := E0.step hF hb2
  have q0 := E2.c0; have q1 := E2.c1; have q2 := E2.c2
  clear hb2 E0
  go_wp2_with fail
  refine (few_any f a c _ E2.fa.ok E2.fa.at_).mono ?_
  rintro e w3 ⟨rfl, hb3⟩
  have E3 := E2.step hF hb3
  clear q0 q1 q2 hb3 E2
  have q0 := E3.c0; have q1 := E3.c1; have q2 := E3.c2
  cases hfew : fewB f
  · have hlow := E3.low
    go_wp2
    go_ret
    exact ⟨rfl, hlow⟩
  have hX3 := hX1.below E3.low
  go_wp2_with fail
  refine (refCheckCase_any f a c b1 l1 d1 _ hc E3.fa.ok E3.fa.at_ hX3 hl1).mono ?_
  rintro e w4 ⟨rfl, hb4⟩
  have E4 := E3.step hF hb4
  clear q0 q1 q2 hb4 E3 hX3
  have q0 := E4.c0; have q1 := E4.c1; have q2 := E4.c2
  by_cases hce : caseErr f l1 = 0
  · obtain ⟨h0, hok1⟩ := case_ok hce
    have hX4 := hX2.below E4.low
    rw [hce]
    go_wp2_with fail
    refine (refCheckCase_any f a c b2 l2 d2 _ hc E4.fa.ok E4.fa.at_ hX4 hl2).mono ?_
    rintro e w5 ⟨rfl, hb5⟩
    have E5 := E4.step hF hb5
    clear q0 q1 q2 hb5 E4 hX4
    have q0 := E5.c0; have q1 := E5.c1; have q2 := E5.c2
    by_cases hce2 : caseErr f l2 = 0
    · obtain ⟨_, hok2⟩ := case_ok hce2
      obtain ⟨_, hR, _⟩ := checkF_right h0
      have hn120 := hR.2.2.2.1
      rw [hce2]
      have H0 := Lib.hid h0; have HOK1 := Lib.hid hok1; have HOK2 := Lib.hid hok2
      have HL1 := Lib.hid hok1.1; have HL2 := Lib.hid hok2.1
      clear hR hok1 hok2 h0 hce hce2 hfew
      have hX15 := hX1.below E5.low
      have hX25 := hX2.below E5.low
      cases hsh : short l1 l2 f.sorts.length 0 with
      | some si =>
        have HSH := Lib.hid hsh
        have HS1 := Lib.hid (lackN_some hsh)
        clear hsh
        go_wp2_with fail
        refine (Taken_short rfl rfl E5.fa hX15 hX25 H0.out HOK1.out HOK2.out hn120 HSH.out).mono ?_
        rintro e w6 ⟨rfl, hb6⟩
        have E6 := E5.step hF hb6
        have hX16 := hX15.below hb6
        have hX26 := hX25.below hb6
        clear q0 q1 q2 hb6 E5 hX15 hX25
        have q0 := E6.c0; have q1 := E6.c1; have q2 := E6.c2
        go_wp2_with fail
        refine (Lacking_good rfl rfl E6.fa hX16 hX26 H0.out HOK1.out HOK2.out hn120).mono ?_
        rintro e w7 ⟨g7, rfl, hm7, hb7⟩
        have E7 := E6.step hF hb7
        have hX17 := hX16.below hb7
        have hX27 := hX26.below hb7
        clear q0 q1 q2 hb7 E6 hX16 hX26
        have hl1n : (l1.length : Int) = (f.sorts.length : Int) := by rw [HL1.out]
        go_wp2_with fail
        go_loopw [12, 13] (fun b i wr => ∃ k : Nat, k ≤ f.sorts.length ∧ i = .int .i64 k ∧ b = .bool (lackN l1 l2 k) ∧ Drew w7 wr) (fun _ i _ => f.sorts.length - (intOf i).toNat)
        case atStart => exact ⟨0, Nat.zero_le _, rfl, rfl, Drew.refl _⟩
        case round =>
         obtain ⟨k, hk, rfl, rfl, hD⟩ := hrel
         by_cases hlt : k < f.sorts.length
         · have hcm := hD.cell (hm7.cell' hlt)
           have hkl : (k : Int) < (f.sorts.length : Int) := by omega
           have hst := Lib.hid (show lackN l1 l2 (k + 1) = (lackN l1 l2 k || (lack l1 l2 k != 0)) from rfl)
           cases hlk : lackN l1 l2 k
           · go_wp2
             go_roundw
             case rel => exact ⟨k + 1, by omega, by go_num, by rw [hst.out, hlk]; rfl, hD⟩
             case measure => simp [intOf]; omega
           · go_wp2
             go_roundw
             case rel => exact ⟨k + 1, by omega, by go_num, by rw [hst.out, hlk]; rfl, hD⟩
             case measure => simp [intOf]; omega
         · have hk2 : k = f.sorts.length := by omega
           have hlk : lackN l1 l2 k = true := by
             rw [hk2]
             have := HS1.out; rwa [Nat.zero_add] at this
           rw [hlk]
           have E8 : Env w f a c wr := by obtain ⟨m, rfl⟩ := hD; exact E7.drewN hF m
           have z1 := hD.ints hX17
           have z2 := hD.ints hX27
           clear HS1 HSH hlk hm7 E7 hX17 hX27
           clear hl1n
           have tsp := timesN_spec HOK1.out.2 (fun j hj => (HOK2.out.2 j hj).1) f.sorts.length (Nat.le_refl _)
           have q0 := E8.c0; have q1 := E8.c1; have q2 := E8.c2
           rcases tsp with ⟨tn, _⟩ | ⟨s, q, te, ts1, ts2, ts3, ts4, ts5, ts6, ts7⟩
           · have HT : timesE f l1 l2 = (0, 0, 11) := by
               unfold timesE; rw [if_neg (by simp [two_ok H0.out HOK1.out HOK2.out]), HL1.out, times_zero tn]
             have hT := Times_any f a c b1 l1 d1 b2 l2 d2 _ E8.fa z1 hl1 z2 hl2
             unfold TimesPost at hT
             rw [HT] at hT
             have HTT := Lib.hid hT
             clear HT hT tn
             go_wp2_with fail
             refine HTT.out.mono ?_
             rintro e w9 ⟨rfl, hb9⟩
             have hlow := (E8.step hF hb9).low
             clear hb9 E8
             go_wp2
             go_ret
             exact ⟨rfl, hlow⟩
           · have hT := Times_good (c := c) (d1 := d1) (d2 := d2) (N1 := l1.length) (N2 := l2.length) rfl rfl E8.fa z1 z2 H0.out HOK1.out HOK2.out hn120 (by rw [te]; exact ts3)
             rw [te] at hT
             have HTT := Lib.hid hT
             have T5 := Lib.hid ts5; have T6 := Lib.hid ts6
             have sb1 := HOK1.out.2 s ts1
             have sb2 := HOK2.out.2 s ts1
             clear hT te ts5 ts6
             go_wp2_with fail
             refine HTT.out.mono ?_
             rintro e w9 ⟨rfl, hb9⟩
             have E9 := E8.step hF hb9
             have y1 := z1.below hb9
             have y2 := z2.below hb9
             clear hb9 E8 HTT z1 z2 q0 q1 q2
             obtain ⟨p1, hp1e, hp1, hc1⟩ := y1.at_ (k := s) (by rw [HL1.out]; exact ts1)
             obtain ⟨p2, hp2e, hp2, hc2⟩ := y2.at_ (k := s) (by rw [HL2.out]; exact ts1)
             subst hp1e hp2e
             generalize l1.getD s 0 = xs at hc1 sb1 ts7
             generalize l2.getD s 0 = ys at hc2 sb2 ts2 ts7
             have i1 : inB q 0 1000000 = true := decide_eq_true ⟨ts3, ts4⟩
             have hln1 : (s : Int) < (l1.length : Int) := by have := HL1.out; omega
             have hln2 : (s : Int) < (l2.length : Int) := by have := HL2.out; omega
             have i2 : inB (s : Int) 0 ((l1.length : Int) - 1) = true := decide_eq_true ⟨by omega, by omega⟩
             have i3 : inB ys 1 1000000 = true := decide_eq_true ⟨by omega, sb2.2⟩
             have hl120 : (l1.length : Int) ≤ 120 := by have := HL1.out; omega
             go_wp2_with (go_at_call 30; refine (within_any _ _ _ _).mono ?_; rintro e w' ⟨rfl, rfl⟩)
             go_loopw [19] (fun i wr => ∃ k : Nat, k ≤ l2.length ∧ i = .int .i64 k ∧ Drew w9 wr) (fun i _ => l2.length - (intOf i).toNat)
             case atStart => exact ⟨0, Nat.zero_le _, rfl, Drew.refl _⟩
             case round =>
               obtain ⟨k, hk, rfl, hD⟩ := hrel
               by_cases hlt : k < l2.length
               · have hkn : k < f.sorts.length := by have := HL2.out; omega
                 obtain ⟨_, e1, hpk1, hck1⟩ := (hD.ints y1).at_ (k := k) (by rw [HL1.out]; exact hkn)
                 cases e1
                 obtain ⟨_, e2, hpk2, hck2⟩ := (hD.ints y2).at_ (k := k) hlt
                 cases e2
                 have kb1 := HOK1.out.2 k hkn
                 have kb2 := HOK2.out.2 k hkn
                 have m1 := T5.out k hkn
                 have m2 := T6.out k
                 have hkl2 : (k : Int) < (l2.length : Int) := by omega
                 have hkl1 : (k : Int) < (l1.length : Int) := by have := HL1.out; omega
                 have m3 : 0 ≤ q * l2.getD k 0 := Int.mul_nonneg ts3 kb2.1
                 generalize l1.getD k 0 = x at hck1 kb1 m1 m2
                 generalize l2.getD k 0 = y at hck2 kb2 m1 m2 m3
                 clear hc1 hc2
                 by_cases hks : k < s
                 · have m4 := m2 hks
                   have m5 : 0 ≤ (q + 1) * y := Int.mul_nonneg (by omega) kb2.1
                   have gd1 : decide (x < q * y) = false := decide_eq_false (by omega)
                   have gd2 : decide ((k : Int) < (s : Int)) = true := decide_eq_true (by omega)
                   have gd3 : decide (x < (q + 1) * y) = false := decide_eq_false (by omega)
                   clear m2 ts7
                   go_wp2
                   go_quiet (fail)
                   go_wp2
                   go_roundw
                   case rel => exact ⟨k + 1, by omega, by go_num, hD.drewN _⟩
                   case measure => simp [intOf]; omega
                 · have gd1 : decide (x < q * y) = false := decide_eq_false (by omega)
                   have gd2 : decide ((k : Int) < (s : Int)) = false := decide_eq_false (by omega)
                   clear m2 ts7
                   go_wp2
                   go_quiet (fail)
                   go_wp2
                   go_roundw
                   case rel => exact ⟨k + 1, by omega, by go_num, hD.drewN _⟩
                   case measure => simp [intOf]; omega
               · have r1 := hD.cell hc1
                 have r2 := hD.cell hc2
                 have m5 : 0 ≤ (q + 1) * ys := Int.mul_nonneg (by omega) sb2.1
                 have m6 : (q + 1) * ys ≤ 1000001 * 1000000 := Int.mul_le_mul (by omega) sb2.2 sb2.1 (by omega)
                 have hlow := hD.below E9.low
                 clear hc1 hc2
                 go_wp2
                 go_quiet (fail)
                 go_wp2
                 go_ret
                 exact ⟨rfl, below_drewN hlow _⟩

      | none =>
        have HS1 := Lib.hid (lackN_none hsh f.sorts.length (by omega) rfl)
        have HSH := Lib.hid hsh
        clear hsh
        go_wp2_with fail
        refine (Taken_good rfl rfl E5.fa hX15 hX25 H0.out HOK1.out HOK2.out hn120 HSH.out).mono ?_
        rintro e w6 ⟨g6, rfl, hr6, hb6⟩
        have E6 := E5.step hF hb6
        have hX16 := hX15.below hb6
        have hX26 := hX25.below hb6
        clear q0 q1 q2 hb6 E5 hX15 hX25
        have q0 := E6.c0; have q1 := E6.c1; have q2 := E6.c2
        go_wp2_with fail
        refine (Lacking_good rfl rfl E6.fa hX16 hX26 H0.out HOK1.out HOK2.out hn120).mono ?_
        rintro e w7 ⟨g7, rfl, hm7, hb7⟩
        have E7 := E6.step hF hb7
        have hX17 := hX16.below hb7
        have hX27 := hX26.below hb7
        have hr7 := hr6.below hb7
        clear q0 q1 q2 hb7 E6 hX16 hX26 hr6
        have hl1n : (l1.length : Int) = (f.sorts.length : Int) := by rw [HL1.out]
        go_wp2_with fail
        go_loopw [12, 13] (fun b i wr => ∃ k : Nat, k ≤ f.sorts.length ∧ i = .int .i64 k ∧ b = .bool (lackN l1 l2 k) ∧ Drew w7 wr) (fun _ i _ => f.sorts.length - (intOf i).toNat)
        case atStart => exact ⟨0, Nat.zero_le _, rfl, rfl, Drew.refl _⟩
        case round =>
         obtain ⟨k, hk, rfl, rfl, hD⟩ := hrel
         by_cases hlt : k < f.sorts.length
         · have hcm := hD.cell (hm7.cell' hlt)
           have hkl : (k : Int) < (f.sorts.length : Int) := by omega
           have hst := Lib.hid (show lackN l1 l2 (k + 1) = (lackN l1 l2 k || (lack l1 l2 k != 0)) from rfl)
           cases hlk : lackN l1 l2 k
           · go_wp2
             go_roundw
             case rel => exact ⟨k + 1, by omega, by go_num, by rw [hst.out, hlk]; rfl, hD⟩
             case measure => simp [intOf]; omega
           · go_wp2
             go_roundw
             case rel => exact ⟨k + 1, by omega, by go_num, by rw [hst.out, hlk]; rfl, hD⟩
             case measure => simp [intOf]; omega
         · have hk2 : k = f.sorts.length := by omega
           have hlk : lackN l1 l2 k = false := by
             rw [hk2]
             exact HS1.out.resolve_right (by omega)
           rw [hlk]
           have E8 : Env w f a c wr := by obtain ⟨m, rfl⟩ := hD; exact E7.drewN hF m
           have z1 := hD.ints hX17
           have z2 := hD.ints hX27
           have r8 : Row3 wr g6 (tab f.sorts.length (minus l1 l2)) := by obtain ⟨m, rfl⟩ := hD; exact hr7.drewN m
           have okm := HOK1.out.minus_ HOK2.out HSH.out
           have OKM := Lib.hid okm
           have HJ := Lib.hid (Joined_good (c := c) (d1 := f.sorts.length) (d2 := d2) (N1 := f.sorts.length) (N2 := l2.length) (tab_len _ _).symm rfl E8.fa r8.ints z2 H0.out OKM.out HOK2.out hn120 (minus_over HOK1.out))
           have q0 := E8.c0; have q1 := E8.c1; have q2 := E8.c2
           clear HS1 HSH hlk hm7 E7 hX17 hX27 okm
           go_wp2_with fail
           refine HJ.out.mono ?_
           rintro e w8 ⟨g8, rfl, hr8, hb8⟩
           have E9' := E8.step hF hb8
           have z3 := z1.below hb8
           have z4 := z2.below hb8
           rw [minus_plus HL1.out] at hr8
           have HI := Lib.hid (ints_good (N1 := f.sorts.length) (N2 := l1.length) (d1 := f.sorts.length) (d2 := d1) HL1.out.symm rfl hr8.ints z3 hl1 hl1 rfl)
           clear HJ hb8 E8 z1 z2 r8 q0 q1 q2 hr7 hr8
           go_wp2_with fail
           refine HI.out.mono ?_
           rintro e w10 ⟨rfl, hD2⟩
           have E10 : Env w f a c w10 := by obtain ⟨m, rfl⟩ := hD2; exact E9'.drewN hF m
           have z5 := hD2.ints z3
           have z6 := hD2.ints z4
           clear HI E9' z3 z4
           clear hl1n
           have tsp := timesN_spec HOK1.out.2 (fun j hj => (HOK2.out.2 j hj).1) f.sorts.length (Nat.le_refl _)
           have q0 := E10.c0; have q1 := E10.c1; have q2 := E10.c2
           rcases tsp with ⟨tn, _⟩ | ⟨s, q, te, ts1, ts2, ts3, ts4, ts5, ts6, ts7⟩
           · have HT : timesE f l1 l2 = (0, 0, 11) := by
               unfold timesE; rw [if_neg (by simp [two_ok H0.out HOK1.out HOK2.out]), HL1.out, times_zero tn]
             have hT := Times_any f a c b1 l1 d1 b2 l2 d2 _ E10.fa z5 hl1 z6 hl2
             unfold TimesPost at hT
             rw [HT] at hT
             have HTT := Lib.hid hT
             clear HT hT tn
             go_wp2_with fail
             refine HTT.out.mono ?_
             rintro e w9 ⟨rfl, hb9⟩
             have hlow := (E10.step hF hb9).low
             clear hb9 E10
             go_wp2
             go_ret
             exact ⟨rfl, hlow⟩
           · have hT := Times_good (c := c) (d1 := d1) (d2 := d2) (N1 := l1.length) (N2 := l2.length) rfl rfl E10.fa z5 z6 H0.out HOK1.out HOK2.out hn120 (by rw [te]; exact ts3)
             rw [te] at hT
             have HTT := Lib.hid hT
             have T5 := Lib.hid ts5; have T6 := Lib.hid ts6
             have sb1 := HOK1.out.2 s ts1
             have sb2 := HOK2.out.2 s ts1
             clear hT te ts5 ts6
             go_wp2_with fail
             refine HTT.out.mono ?_
             rintro e w9 ⟨rfl, hb9⟩
             have E9 := E10.step hF hb9
             have y1 := z5.below hb9
             have y2 := z6.below hb9
             clear hb9 E10 HTT z5 z6 q0 q1 q2
             obtain ⟨p1, hp1e, hp1, hc1⟩ := y1.at_ (k := s) (by rw [HL1.out]; exact ts1)
             obtain ⟨p2, hp2e, hp2, hc2⟩ := y2.at_ (k := s) (by rw [HL2.out]; exact ts1)
             subst hp1e hp2e
             generalize l1.getD s 0 = xs at hc1 sb1 ts7
             generalize l2.getD s 0 = ys at hc2 sb2 ts2 ts7
             have i1 : inB q 0 1000000 = true := decide_eq_true ⟨ts3, ts4⟩
             have hln1 : (s : Int) < (l1.length : Int) := by have := HL1.out; omega
             have hln2 : (s : Int) < (l2.length : Int) := by have := HL2.out; omega
             have i2 : inB (s : Int) 0 ((l1.length : Int) - 1) = true := decide_eq_true ⟨by omega, by omega⟩
             have i3 : inB ys 1 1000000 = true := decide_eq_true ⟨by omega, sb2.2⟩
             have hl120 : (l1.length : Int) ≤ 120 := by have := HL1.out; omega
             go_wp2_with (go_at_call 30; refine (within_any _ _ _ _).mono ?_; rintro e w' ⟨rfl, rfl⟩)
             go_loopw [19] (fun i wr => ∃ k : Nat, k ≤ l2.length ∧ i = .int .i64 k ∧ Drew w9 wr) (fun i _ => l2.length - (intOf i).toNat)
             case atStart => exact ⟨0, Nat.zero_le _, rfl, Drew.refl _⟩
             case round =>
               obtain ⟨k, hk, rfl, hD⟩ := hrel
               by_cases hlt : k < l2.length
               · have hkn : k < f.sorts.length := by have := HL2.out; omega
                 obtain ⟨_, e1, hpk1, hck1⟩ := (hD.ints y1).at_ (k := k) (by rw [HL1.out]; exact hkn)
                 cases e1
                 obtain ⟨_, e2, hpk2, hck2⟩ := (hD.ints y2).at_ (k := k) hlt
                 cases e2
                 have kb1 := HOK1.out.2 k hkn
                 have kb2 := HOK2.out.2 k hkn
                 have m1 := T5.out k hkn
                 have m2 := T6.out k
                 have hkl2 : (k : Int) < (l2.length : Int) := by omega
                 have hkl1 : (k : Int) < (l1.length : Int) := by have := HL1.out; omega
                 have m3 : 0 ≤ q * l2.getD k 0 := Int.mul_nonneg ts3 kb2.1
                 generalize l1.getD k 0 = x at hck1 kb1 m1 m2
                 generalize l2.getD k 0 = y at hck2 kb2 m1 m2 m3
                 clear hc1 hc2
                 by_cases hks : k < s
                 · have m4 := m2 hks
                   have m5 : 0 ≤ (q + 1) * y := Int.mul_nonneg (by omega) kb2.1
                   have gd1 : decide (x < q * y) = false := decide_eq_false (by omega)
                   have gd2 : decide ((k : Int) < (s : Int)) = true := decide_eq_true (by omega)
                   have gd3 : decide (x < (q + 1) * y) = false := decide_eq_false (by omega)
                   clear m2 ts7
                   go_wp2
                   go_quiet (fail)
                   go_wp2
                   go_roundw
                   case rel => exact ⟨k + 1, by omega, by go_num, hD.drewN _⟩
                   case measure => simp [intOf]; omega
                 · have gd1 : decide (x < q * y) = false := decide_eq_false (by omega)
                   have gd2 : decide ((k : Int) < (s : Int)) = false := decide_eq_false (by omega)
                   clear m2 ts7
                   go_wp2
                   go_quiet (fail)
                   go_wp2
                   go_roundw
                   case rel => exact ⟨k + 1, by omega, by go_num, hD.drewN _⟩
                   case measure => simp [intOf]; omega
               · have r1 := hD.cell hc1
                 have r2 := hD.cell hc2
                 have m5 : 0 ≤ (q + 1) * ys := Int.mul_nonneg (by omega) sb2.1
                 have m6 : (q + 1) * ys ≤ 1000001 * 1000000 := Int.mul_le_mul (by omega) sb2.2 sb2.1 (by omega)
                 have hlow := hD.below E9.low
                 clear hc1 hc2
                 go_wp2
                 go_quiet (fail)
                 go_wp2
                 go_ret
                 exact ⟨rfl, below_drewN hlow _⟩

    · have hlow := E5.low
      have hcb : (caseErr f l2 != 0) = true := by simpa using hce2
      go_wp2
      go_ret
      exact ⟨rfl, hlow⟩
  · have hlow := E4.low
    have hcb : (caseErr f l1 != 0) = true := by simpa using hce
    go_wp2
    go_ret
    exact ⟨rfl, hlow⟩
end Go.Proofs.YtjkcomafgkabeaaDoor
