/-
  The law on bills and casting: its walk.
-/
import Derived.Test.YtjkcomafgkabeaaDoorT2
namespace Go.Proofs.YtjkcomafgkabeaaDoor
open Go.RowKit Go.Maps

theorem within_yes {n lo hi : Int} {w : World} (h1 : lo ≤ n) (h2 : n ≤ hi) :
    Calls Tryd.prog 30 #[.int .i64 n, .int .i64 lo, .int .i64 hi] w fun e w' => e = .returned (.bool true) ∧ w = w' := by
  have h := within_any n lo hi w
  rw [show inB n lo hi = true from decide_eq_true ⟨h1, h2⟩] at h
  exact h
theorem within_no {n lo hi : Int} {w : World} (h1 : ¬ (lo ≤ n ∧ n ≤ hi)) :
    Calls Tryd.prog 30 #[.int .i64 n, .int .i64 lo, .int .i64 hi] w fun e w' => e = .returned (.bool false) ∧ w = w' := by
  have h := within_any n lo hi w
  rw [show inB n lo hi = false from decide_eq_false h1] at h
  exact h
theorem few_len {f : FT} (h : fewB f = true) (hf : RightF f) : f.sorts.length ≤ 10 := by
  unfold fewB at h
  have h1 : decide (20 < f.name.size ∨ (10 < f.sorts.length ∧ f.sorts.length ≤ 120) ∨ 123 < f.sorts.length) = false := by
    cases e : decide (20 < f.name.size ∨ (10 < f.sorts.length ∧ f.sorts.length ≤ 120) ∨ 123 < f.sorts.length)
    · rfl
    · rw [e] at h; simp at h
  have h2 := of_decide_eq_false h1
  have h3 := hf.2.2.2.1
  omega

theorem tab_congr {n : Nat} {f g : Nat → Int} (h : ∀ j, j < n → f j = g j) : tab n f = tab n g :=
  list_eq (by rw [tab_len, tab_len]) (fun j hj => by rw [tab_len] at hj; rw [tab_at hj, tab_at hj, h j hj])

set_option maxRecDepth 100000 in
set_option maxHeartbeats 4000000 in
theorem bills_walk (f : FT) (a : Option Addr) (c : Nat) (b : Option Addr) (l : List Int) (d : Nat) (size m : Int) (w : World) (hF : FAt w a f) (hc : f.sorts.length ≤ c) (hX : IntsAt w b l) (hl : l.length ≤ maxLen) :
    Calls Tryd.prog 15 #[.agg #[.string f.name, .int .i64 f.body, .slice a f.sorts.length c], .slice b l.length d, .agg #[.int .i64 size, .int .i64 m]] w fun e w' => e = .returned (.bool true) ∧ Below w.heap.size w w' := by
  have hB0 : Below (w.heap.size + 1) (w.alloc (boxF f a c)) (w.alloc (boxF f a c)) := Below.refl _ _
  have E1 := (Env.of hF hB0).alloc hF (.cells #[.int .i64 size, .int .i64 m] 92)
  go_enter Tryd.func15, Tryd.ntmps15
  go_wp2_with fail
  refine (cast_any _ E1.fa.tab).mono ?_
  rintro e w2 ⟨rfl, hb2⟩
  have E2 := E1.step hF hb2
  have x0 : w2.cell? ⟨w.heap.size + 1, 0, none⟩ = some (.int .i64 size) := (hb2.cell (p := ⟨w.heap.size + 1, 0, none⟩) (by simp)).trans (by simp)
  have x1 : w2.cell? ⟨w.heap.size + 1, 1, none⟩ = some (.int .i64 m) := (hb2.cell (p := ⟨w.heap.size + 1, 1, none⟩) (by simp)).trans (by simp)
  clear hb2
  go_wp2_with fail
  go_quiet (fail)
  have E3 := E2.drewN hF nq
  have q0 := E2.c0; have q1 := E2.c1; have q2 := E2.c2
  clear x0 x1 E1
  go_wp2_with fail
  refine (few_any f a c _ E3.fa.ok E3.fa.at_).mono ?_
  rintro e w3 ⟨rfl, hb3⟩
  have E4 := E3.step hF hb3
  clear q0 q1 q2 hb3 E3 E2
  have q0 := E4.c0; have q1 := E4.c1; have q2 := E4.c2
  cases hfew : fewB f
  · have hlow := E4.low
    go_wp2
    go_ret
    exact ⟨rfl, hlow⟩
  have hX3 := hX.below E4.low
  go_wp2_with fail
  refine (refCheckCase_any f a c b l d _ hc E4.fa.ok E4.fa.at_ hX3 hl).mono ?_
  rintro e w4 ⟨rfl, hb4⟩
  have E5 := E4.step hF hb4
  clear q0 q1 q2 hb4 E4 hX3
  have q0 := E5.c0; have q1 := E5.c1; have q2 := E5.c2
  by_cases hce : caseErr f l = 0
  · obtain ⟨h0, hok⟩ := case_ok hce
    obtain ⟨_, hR, _⟩ := checkF_right h0
    have hn120 := hR.2.2.2.1
    have hn1 := hR.2.2.1
    have hn10 := few_len hfew hR
    have hX5 := hX.below E5.low
    rw [hce]
    have H0 := Lib.hid h0; have HOK := Lib.hid hok; have HR := Lib.hid hR
    have hlen := hok.1
    have HLEN := Lib.hid hlen
    clear h0 hok hce hR hlen hfew
    have hlow := E5.low
    rcases inB_cases size 1 1000 with ⟨hi1, hsz1, hsz2⟩ | ⟨hi1, _⟩
    · rcases inB_cases m 0 1000000000000000 with ⟨hi2, hm1, hm2⟩ | ⟨hi2, _⟩
      · go_wp2_with (go_at_call 30; refine (within_any _ _ _ _).mono ?_; rintro e w' ⟨rfl, rfl⟩)
        have hX5' := hX5
        have hl20 : l.length < 20 := by have := HLEN.out; omega
        have hbf := BillFor_any f a c b l d size _ E5.fa hX5 hl hl20
        refine hbf.mono ?_
        rintro e w6 ⟨hb6, hres⟩
        have E6 := E5.step hF hb6
        have hX6 := hX5.below hb6
        clear q0 q1 q2 hb6 E5 hX5 hX5' hlow hbf
        have q0 := E6.c0; have q1 := E6.c1; have q2 := E6.c2
        rcases hres with ⟨hne, rfl⟩ | ⟨heq, g, rfl, hrow⟩
        · have h11 : billE f l size = 11 := by
            unfold billE at hne ⊢
            rw [if_neg (by simp [cases_ok H0.out (ls := [l]) (by intro x hx; simp at hx; subst hx; exact HOK.out)]), if_neg (by omega)] at hne ⊢
            split at hne
            · rename_i h; rw [if_pos h]
            · exact absurd rfl hne
          rw [h11]
          have hlow := E6.low
          clear hne h11
          go_wp2
          go_ret
          exact ⟨rfl, hlow⟩
        · have hs0 : sumOf l ≠ 0 := by
            intro h
            unfold billE at heq
            rw [if_neg (by simp [cases_ok H0.out (ls := [l]) (by intro x hx; simp at hx; subst hx; exact HOK.out)]), if_neg (by omega), if_pos h] at heq
            cases heq
          have HS0 := Lib.hid hs0
          have ob : OkC f.sorts.length (billOf l (sumOf l) size) := bill_ok HOK.out (by omega) hs0 (by omega)
          have le := bill_le (total := size) HOK.out (by omega) hs0 (by omega)
          have sm := bill_sum (total := size) HOK.out (by omega) hs0
          generalize billOf l (sumOf l) size = bl at hrow ob le sm
          have hbl := hrow.ints
          have mg : 1 ≤ metal f bl := by have := metal_ge HR.out ob; omega
          have mu : metal f bl ≤ 1000000000000000 := by
            have h2 := (metalN_bd HR.out ob.1 (fun k hk => ob.2 k (by have := ob.1; omega)) bl.length (Nat.le_refl _)).2
            have h3 := ob.1
            unfold metal; omega
          have OB := Lib.hid ob; have LE := Lib.hid le; have SM := Lib.hid sm
          have HBL := Lib.hid ob.1
          have HNL := Lib.hid (HBL.out.trans HLEN.out.symm)
          clear hrow ob le sm hs0 heq
          have hcast := Cast_good (f := f) (a := a) (c := c) (m := m) (b := some ⟨g, 0, none⟩) (d := l.length) HNL.out.symm E6.fa hbl H0.out OB.out hn120 (by omega) (by omega)
          have hmet := fun w' (hF' : FAt w' a f) (hX' : IntsAt w' (some ⟨g, 0, none⟩) bl) => MetalOf_good (c := c) (d1 := l.length) HNL.out.symm hF' hX' H0.out OB.out hn120
          generalize hp : metal f bl = p at mg mu hcast hmet
          have HP := Lib.hid hp
          clear hp
          have HC := Lib.hid hcast; have HM := Lib.hid hmet
          clear hcast hmet
          go_wp2_with fail
          refine HC.out.mono ?_
          rintro e w7 ⟨rfl, hb7⟩
          have E7 := E6.step hF hb7
          have hX7 := hX6.below hb7
          have hbl7 := hbl.below hb7
          clear q0 q1 q2 hb7 E6 hX6 hbl HC
          have q0 := E7.c0; have q1 := E7.c1; have q2 := E7.c2
          go_wp2_with fail
          refine (HM.out _ E7.fa hbl7).mono ?_
          rintro e w8 ⟨rfl, hb8⟩
          have E8 := E7.step hF hb8
          have hX8 := hX7.below hb8
          have hbl8 := hbl7.below hb8
          clear q0 q1 q2 hb8 E7 hX7 hbl7 HM
          have q0 := E8.c0; have q1 := E8.c1; have q2 := E8.c2
          have t1 : m / p * p + m % p = m := Int.ediv_mul_add_emod m p
          have t2 : 0 ≤ m / p := Int.ediv_nonneg hm1 (by omega)
          have t3 : m / p ≤ m := Int.ediv_le_self p hm1
          have t4 : 0 ≤ m % p := Int.emod_nonneg m (by omega)
          have t5 : m % p < p := Int.emod_lt_of_pos m (by omega)
          have i1 : inB (m / p) 0 1000000000000000 = true := decide_eq_true ⟨t2, by omega⟩
          have i2 : inB p 1 1000000000000000 = true := decide_eq_true ⟨mg, by omega⟩
          have hpz : (p == 0) = false := by simp; omega
          have hmk := fun W => run_make_row' (P := Tryd.prog) 31 3 (.int .i64 0) 8 Tryd.underlying31 info3 rfl .i64 .i64 l.length (by omega) (by omega) W
          go_wp2_with (go_at_call 30; refine (within_any _ _ _ _).mono ?_; rintro e w' ⟨rfl, rfl⟩)
          -- BLOCKS
          · skip
            have tT : 20 ≤ 20 := by omega
            go_loopw [16, 17] (fun v16 v17 wr => ∃ k : Nat, (k : Int) ≤ 20 ∧ v17 = .int .i64 k ∧ ∃ g2 N, N = f.sorts.length ∧ v16 = .slice (some ⟨g2, 0, none⟩) N N ∧ Row3 wr g2 (tab f.sorts.length fun j => (k : Int) * bl.getD j 0) ∧ IntsAt wr b l ∧ IntsAt wr (some ⟨g, 0, none⟩) bl ∧ Env w f a c wr) (fun _ v17 _ => 20 - (intOf v17).toNat)
            case atStart => exact ⟨0, (by omega), rfl, w8.heap.size, l.length, HLEN.out, rfl, Row3.of_tab (by rw [HLEN.out]; exact Own.made _ _ _ _ (Nat.le_refl _) (fun j _ => by simp)), hX8.alloc _, hbl8.alloc _, E8.alloc hF _⟩
            case round =>
              obtain ⟨k, hk, rfl, g2, N, hN, rfl, hrow, hXr, hblr, Er⟩ := hrel
              clear E8 hX8 hbl8
              have q0 := Er.c0; have q1 := Er.c1; have q2 := Er.c2
              have HN := Lib.hid hN
              clear hN
              have okK : OkC f.sorts.length (tab f.sorts.length fun j => (k : Int) * bl.getD j 0) := by
                refine ⟨tab_len _ _, fun j hj => ?_⟩
                rw [tab_at hj]
                have a1 := OB.out.2 j hj
                have a2 := LE.out j (by have := HLEN.out; omega)
                have a3 : 0 ≤ (k : Int) * bl.getD j 0 := Int.mul_nonneg (by omega) a1.1
                have a4 : (k : Int) * bl.getD j 0 ≤ 20 * 1000 := Int.mul_le_mul (by omega) (by omega) a1.1 (by omega)
                omega
              have OKK := Lib.hid okK
              clear okK
              by_cases hlt : (k : Int) < 20
              · have hov : over (tab f.sorts.length fun j => (k : Int) * bl.getD j 0) bl f.sorts.length 0 = false := over_ok (n := f.sorts.length) (fun j hj => by
                  unfold plus
                  rw [tab_at hj]
                  have a1 := OB.out.2 j hj
                  have a2 := LE.out j (by have := HLEN.out; omega)
                  have a4 : (k : Int) * bl.getD j 0 ≤ 20 * 1000 := Int.mul_le_mul (by omega) (by omega) a1.1 (by omega)
                  omega) _ _ (by omega)
                have hj := Lib.hid (Joined_good (c := c) (d1 := N) (d2 := l.length) (N1 := N) (N2 := l.length) (HN.out.trans (tab_len _ _).symm) HNL.out.symm Er.fa hrow.ints hblr H0.out OKK.out OB.out hn120 hov)
                have hnext : (tab f.sorts.length (plus (tab f.sorts.length fun j => (k : Int) * bl.getD j 0) bl)) = tab f.sorts.length fun j => ((k + 1 : Nat) : Int) * bl.getD j 0 := by
                  apply tab_congr
                  intro j hj
                  unfold plus
                  rw [tab_at hj, Int.natCast_add, Int.add_mul]; simp
                have HX := Lib.hid hnext
                clear hov hnext hrow
                go_wp2_with fail
                refine hj.out.mono ?_
                rintro e w9 ⟨g3, rfl, hrow3, hb9⟩
                rw [HX.out] at hrow3
                have E9 := Er.step hF hb9
                have hX9 := hXr.below hb9
                have hbl9 := hblr.below hb9
                clear hb9 Er hXr hblr q0 q1 q2 hj
                go_wp2
                go_roundw
                case rel => exact ⟨k + 1, by omega, by go_num, g3, _, rfl, rfl, hrow3, hX9, hbl9, E9⟩
                case measure => simp [intOf]; omega
              · have hkT : (k : Int) = 20 := by omega
                by_cases hz : 20 = 0
                · first
                    | (exfalso; omega)
                    | (have hlow := Er.low
                       go_wp2
                       go_ret
                       exact ⟨rfl, hlow⟩)
                · have tm := timesN_mul (l1 := bl) (l1' := tab f.sorts.length fun j => (k : Int) * bl.getD j 0) (l2 := l) (c := (k : Int)) (n := f.sorts.length) (by omega) OB.out.2 (fun j hj => (HOK.out.2 j hj).1) (fun j hj => tab_at hj) f.sorts.length (Nat.le_refl _)
                  have tm2 := tm.resolve_left (fun h => HS0.out (by
                    unfold sumOf
                    rw [HLEN.out, sumTo_congr (g := fun _ => 0) (fun i hi => h.2.2 i hi)]
                    have : ∀ n, sumTo (fun _ => 0) n = 0 := by
                      intro n
                      induction n with
                      | zero => rfl
                      | succ n ih => show sumTo _ n + 0 = 0; rw [ih]; rfl
                    exact this _))
                  clear tm
                  have hT1 := Lib.hid (fun w' (hF' : FAt w' a f) (hX1 : IntsAt w' (some ⟨g, 0, none⟩) bl) (hX2 : IntsAt w' b l) => Times_good (c := c) (d1 := l.length) (d2 := d) HNL.out.symm rfl hF' hX1 hX2 H0.out OB.out HOK.out hn120 tm2.1)
                  have hT2 := Lib.hid (fun w' (hF' : FAt w' a f) (hX1 : IntsAt w' (some ⟨g2, 0, none⟩) _) (hX2 : IntsAt w' b l) => Times_good (c := c) (d1 := N) (d2 := d) (HN.out.trans (tab_len _ _).symm) rfl hF' hX1 hX2 H0.out OKK.out HOK.out hn120 tm2.2.2.2)
                  obtain ⟨u1, u2, u3, u4⟩ := tm2
                  generalize timesN bl l f.sorts.length = t1 at u1 u2 u3 hT1
                  generalize timesN (tab f.sorts.length fun j => (k : Int) * bl.getD j 0) l f.sorts.length = t2 at u3 u4 hT2
                  rw [hkT] at u3
                  obtain ⟨t1a, t1b⟩ := t1
                  obtain ⟨t2a, t2b⟩ := t2
                  have u5 : 0 ≤ t1a * 20 := Int.mul_nonneg u1 (by omega)
                  have u6 : t1a * 20 ≤ 1000000 * 20 := Int.mul_le_mul u2 (by omega) (by omega) (by omega)
                  clear hlt
                  go_wp2_with fail
                  refine (hT1.out _ Er.fa hblr hXr).mono ?_
                  rintro e w9 ⟨rfl, hb9⟩
                  have E9 := Er.step hF hb9
                  have hX9 := hXr.below hb9
                  have hrow9 := hrow.below hb9
                  clear hb9 Er hXr hblr q0 q1 q2 hT1 hrow
                  have q0 := E9.c0; have q1 := E9.c1; have q2 := E9.c2
                  go_wp2_with fail
                  refine (hT2.out _ E9.fa hrow9.ints hX9).mono ?_
                  rintro e w10 ⟨rfl, hb10⟩
                  have hlow := (E9.step hF hb10).low
                  go_wp2
                  go_ret
                  exact ⟨rfl, hlow⟩
          · skip
            have tT : (m / p) ≤ 20 := by omega
            go_loopw [16, 17] (fun v16 v17 wr => ∃ k : Nat, (k : Int) ≤ (m / p) ∧ v17 = .int .i64 k ∧ ∃ g2 N, N = f.sorts.length ∧ v16 = .slice (some ⟨g2, 0, none⟩) N N ∧ Row3 wr g2 (tab f.sorts.length fun j => (k : Int) * bl.getD j 0) ∧ IntsAt wr b l ∧ IntsAt wr (some ⟨g, 0, none⟩) bl ∧ Env w f a c wr) (fun _ v17 _ => 20 - (intOf v17).toNat)
            case atStart => exact ⟨0, t2, rfl, w8.heap.size, l.length, HLEN.out, rfl, Row3.of_tab (by rw [HLEN.out]; exact Own.made _ _ _ _ (Nat.le_refl _) (fun j _ => by simp)), hX8.alloc _, hbl8.alloc _, E8.alloc hF _⟩
            case round =>
              obtain ⟨k, hk, rfl, g2, N, hN, rfl, hrow, hXr, hblr, Er⟩ := hrel
              clear E8 hX8 hbl8
              have q0 := Er.c0; have q1 := Er.c1; have q2 := Er.c2
              have HN := Lib.hid hN
              clear hN
              have okK : OkC f.sorts.length (tab f.sorts.length fun j => (k : Int) * bl.getD j 0) := by
                refine ⟨tab_len _ _, fun j hj => ?_⟩
                rw [tab_at hj]
                have a1 := OB.out.2 j hj
                have a2 := LE.out j (by have := HLEN.out; omega)
                have a3 : 0 ≤ (k : Int) * bl.getD j 0 := Int.mul_nonneg (by omega) a1.1
                have a4 : (k : Int) * bl.getD j 0 ≤ 20 * 1000 := Int.mul_le_mul (by omega) (by omega) a1.1 (by omega)
                omega
              have OKK := Lib.hid okK
              clear okK
              by_cases hlt : (k : Int) < (m / p)
              · have hov : over (tab f.sorts.length fun j => (k : Int) * bl.getD j 0) bl f.sorts.length 0 = false := over_ok (n := f.sorts.length) (fun j hj => by
                  unfold plus
                  rw [tab_at hj]
                  have a1 := OB.out.2 j hj
                  have a2 := LE.out j (by have := HLEN.out; omega)
                  have a4 : (k : Int) * bl.getD j 0 ≤ 20 * 1000 := Int.mul_le_mul (by omega) (by omega) a1.1 (by omega)
                  omega) _ _ (by omega)
                have hj := Lib.hid (Joined_good (c := c) (d1 := N) (d2 := l.length) (N1 := N) (N2 := l.length) (HN.out.trans (tab_len _ _).symm) HNL.out.symm Er.fa hrow.ints hblr H0.out OKK.out OB.out hn120 hov)
                have hnext : (tab f.sorts.length (plus (tab f.sorts.length fun j => (k : Int) * bl.getD j 0) bl)) = tab f.sorts.length fun j => ((k + 1 : Nat) : Int) * bl.getD j 0 := by
                  apply tab_congr
                  intro j hj
                  unfold plus
                  rw [tab_at hj, Int.natCast_add, Int.add_mul]; simp
                have HX := Lib.hid hnext
                clear hov hnext hrow
                go_wp2_with fail
                refine hj.out.mono ?_
                rintro e w9 ⟨g3, rfl, hrow3, hb9⟩
                rw [HX.out] at hrow3
                have E9 := Er.step hF hb9
                have hX9 := hXr.below hb9
                have hbl9 := hblr.below hb9
                clear hb9 Er hXr hblr q0 q1 q2 hj
                go_wp2
                go_roundw
                case rel => exact ⟨k + 1, by omega, by go_num, g3, _, rfl, rfl, hrow3, hX9, hbl9, E9⟩
                case measure => simp [intOf]; omega
              · have hkT : (k : Int) = (m / p) := by omega
                by_cases hz : (m / p) = 0
                · first
                    | (exfalso; omega)
                    | (have hlow := Er.low
                       go_wp2
                       go_ret
                       exact ⟨rfl, hlow⟩)
                · have tm := timesN_mul (l1 := bl) (l1' := tab f.sorts.length fun j => (k : Int) * bl.getD j 0) (l2 := l) (c := (k : Int)) (n := f.sorts.length) (by omega) OB.out.2 (fun j hj => (HOK.out.2 j hj).1) (fun j hj => tab_at hj) f.sorts.length (Nat.le_refl _)
                  have tm2 := tm.resolve_left (fun h => HS0.out (by
                    unfold sumOf
                    rw [HLEN.out, sumTo_congr (g := fun _ => 0) (fun i hi => h.2.2 i hi)]
                    have : ∀ n, sumTo (fun _ => 0) n = 0 := by
                      intro n
                      induction n with
                      | zero => rfl
                      | succ n ih => show sumTo _ n + 0 = 0; rw [ih]; rfl
                    exact this _))
                  clear tm
                  have hT1 := Lib.hid (fun w' (hF' : FAt w' a f) (hX1 : IntsAt w' (some ⟨g, 0, none⟩) bl) (hX2 : IntsAt w' b l) => Times_good (c := c) (d1 := l.length) (d2 := d) HNL.out.symm rfl hF' hX1 hX2 H0.out OB.out HOK.out hn120 tm2.1)
                  have hT2 := Lib.hid (fun w' (hF' : FAt w' a f) (hX1 : IntsAt w' (some ⟨g2, 0, none⟩) _) (hX2 : IntsAt w' b l) => Times_good (c := c) (d1 := N) (d2 := d) (HN.out.trans (tab_len _ _).symm) rfl hF' hX1 hX2 H0.out OKK.out HOK.out hn120 tm2.2.2.2)
                  obtain ⟨u1, u2, u3, u4⟩ := tm2
                  generalize timesN bl l f.sorts.length = t1 at u1 u2 u3 hT1
                  generalize timesN (tab f.sorts.length fun j => (k : Int) * bl.getD j 0) l f.sorts.length = t2 at u3 u4 hT2
                  rw [hkT] at u3
                  obtain ⟨t1a, t1b⟩ := t1
                  obtain ⟨t2a, t2b⟩ := t2
                  have u5 : 0 ≤ t1a * (m / p) := Int.mul_nonneg u1 (by omega)
                  have u6 : t1a * (m / p) ≤ 1000000 * 20 := Int.mul_le_mul u2 (by omega) (by omega) (by omega)
                  clear hlt
                  go_wp2_with fail
                  refine (hT1.out _ Er.fa hblr hXr).mono ?_
                  rintro e w9 ⟨rfl, hb9⟩
                  have E9 := Er.step hF hb9
                  have hX9 := hXr.below hb9
                  have hrow9 := hrow.below hb9
                  clear hb9 Er hXr hblr q0 q1 q2 hT1 hrow
                  have q0 := E9.c0; have q1 := E9.c1; have q2 := E9.c2
                  go_wp2_with fail
                  refine (hT2.out _ E9.fa hrow9.ints hX9).mono ?_
                  rintro e w10 ⟨rfl, hb10⟩
                  have hlow := (E9.step hF hb10).low
                  go_wp2
                  go_ret
                  exact ⟨rfl, hlow⟩
      · go_wp2_with (go_at_call 30; refine (within_any _ _ _ _).mono ?_; rintro e w' ⟨rfl, rfl⟩)
        go_ret
        exact ⟨rfl, hlow⟩
    · go_wp2_with (go_at_call 30; refine (within_any _ _ _ _).mono ?_; rintro e w' ⟨rfl, rfl⟩)
      go_ret
      exact ⟨rfl, hlow⟩
  · have hlow := E5.low
    have hcb : (caseErr f l != 0) = true := by simpa using hce
    go_wp2
    go_ret
    exact ⟨rfl, hlow⟩
end Go.Proofs.YtjkcomafgkabeaaDoor
