/-
  The law on parting: its walk.
-/
import Derived.Test.YtjkcomafgkabeaaDoorF1
namespace Go.Proofs.YtjkcomafgkabeaaDoor
open Go.RowKit Go.Maps

theorem info31 : (Tryd.prog.info? 31).map (fun i => (i.zero, i.size, i.bytes)) = some (some (.slice none 0 0), 1, 24) := by kernel_rfl
def isVal (x : IS) : Value := .slice x.a x.l.length x.c
def sumAt (T : List IS) (j : Nat) : Int := (T.map fun x => x.l.getD j 0).sum
/-- What holds of the parts: the left one, the metal of the taken ones, the taken ones. -/
structure Part (w : World) (f : FT) (l : List Int) (wr : World) (g : Nat) (L : List Int) (M : Int) (v9 : Value) (T : List IS) : Prop where
  row : Row3 wr g L
  okL : OkC f.sorts.length L
  metal : metal f L + M = metal f l
  own : wr.ownsRow (w.heap.size + 1) 31 1 v9 T.length (T.map isVal)
  okT : ∀ x ∈ T, OkC f.sorts.length x.l ∧ IntsAt w x.a x.l
  sum : ∀ j, j < f.sorts.length → L.getD j 0 + sumAt T j = l.getD j 0

theorem own_shape {w : World} {base e n : Nat} {v : Value} {xs : List Value} (h : w.ownsRow base e 1 v n xs) : ∃ (A : Option Addr) (cap : Nat), v = .slice A n cap ∧ (0 < n → ∃ g, A = some ⟨g, 0, none⟩) := by
  rcases h.2 with ⟨e1, e2⟩ | ⟨g, cap, cur, e1, _⟩
  · subst e2; exact ⟨none, 0, e1, fun h => by omega⟩
  · exact ⟨_, cap, e1, fun _ => ⟨g, rfl⟩⟩
theorem sumAt_nonneg {T : List IS} {n : Nat} (h : ∀ x ∈ T, OkC n x.l) {j : Nat} (hj : j < n) : 0 ≤ sumAt T j := by
  induction T with
  | nil => simp [sumAt]
  | cons x r ih =>
    have h1 := (h x (by simp)).2 j hj
    have h2 := ih (fun y hy => h y (by simp [hy]))
    have h3 : sumAt (x :: r) j = x.l.getD j 0 + sumAt r j := by simp [sumAt]
    omega
theorem sumAt_snoc (T : List IS) (x : IS) (j : Nat) : sumAt (T ++ [x]) j = sumAt T j + x.l.getD j 0 := by simp [sumAt]
theorem sumAt_take {T : List IS} {m : Nat} (hm : m < T.length) (j : Nat) : sumAt (T.take (m + 1)) j = sumAt (T.take m) j + (T.getD m noIS).l.getD j 0 := by
  rw [List.take_succ_eq_append_getElem hm]
  have : T.getD m noIS = T[m] := by rw [List.getD_eq_getElem?_getD, List.getElem?_eq_getElem hm]; rfl
  rw [this]
  exact sumAt_snoc _ _ _
theorem ints_good {N1 N2 : Nat} {b1 b2 : Option Addr} {l1 l2 : List Int} {d1 d2 : Nat} {w : World} (hN1 : N1 = l1.length) (hN2 : N2 = l2.length) (hX1 : IntsAt w b1 l1) (hX2 : IntsAt w b2 l2) (hl1 : l1.length ≤ maxLen) (hl2 : l2.length ≤ maxLen) (h : l1 = l2) :
    Calls Tryd.prog 24 #[.slice b1 N1 d1, .slice b2 N2 d2] w fun e w' => e = .returned (.bool true) ∧ Drew w w' := by
  subst hN1 hN2
  have h1 := ints_any b1 l1 d1 b2 l2 d2 w hX1 hX2 hl1 hl2
  rw [decide_eq_true h] at h1
  exact h1

set_option maxRecDepth 100000 in
set_option maxHeartbeats 4000000 in
theorem parted_walk (f : FT) (a : Option Addr) (c : Nat) (b : Option Addr) (l : List Int) (d : Nat) (A : Option Addr) (ls : List IS) (C : Nat) (w : World) (hF : FAt w a f) (hc : f.sorts.length ≤ c) (hX : IntsAt w b l) (hl : l.length ≤ maxLen) (hd : b = none → d = 0) (hL : ListsAt w A ls) (hls : ls.length ≤ maxLen) :
    Calls Tryd.prog 14 #[.agg #[.string f.name, .int .i64 f.body, .slice a f.sorts.length c], .slice b l.length d, .slice A ls.length C] w fun e w' => e = .returned (.bool true) ∧ Below w.heap.size w w' := by
  have hB0 : Below (w.heap.size + 1) (w.alloc (boxF f a c)) (w.alloc (boxF f a c)) := Below.refl _ _
  have E0 := Env.of hF hB0
  go_enter Tryd.func14, Tryd.ntmps14
  go_wp2_with fail
  refine (cast_any _ E0.fa.tab).mono ?_
  rintro e w2 ⟨rfl, hb2⟩
  have E2 := E0.step hF hb2
  have q0 := E2.c0; have q1 := E2.c1; have q2 := E2.c2
  clear hb2
  go_wp2_with fail
  refine (few_any f a c _ E2.fa.ok E2.fa.at_).mono ?_
  rintro e w3 ⟨rfl, hb3⟩
  have E3 := E2.step hF hb3
  clear q0 q1 q2 hb3
  have q0 := E3.c0; have q1 := E3.c1; have q2 := E3.c2
  unfold maxLen at hls
  cases hfew : fewB f
  · have hlow := E3.low
    go_wp2
    go_ret
    exact ⟨rfl, hlow⟩
  by_cases h5 : 5 < ls.length
  · have hlow := E3.low
    go_wp2
    go_ret
    exact ⟨rfl, hlow⟩
  have hX3 := hX.below E3.low
  go_wp2_with fail
  refine (refCheckCase_any f a c b l d _ hc E3.fa.ok E3.fa.at_ hX3 hl).mono ?_
  rintro e w4 ⟨rfl, hb4⟩
  have E4 := E3.step hF hb4
  clear q0 q1 q2 hb4
  have q0 := E4.c0; have q1 := E4.c1; have q2 := E4.c2
  by_cases hce : caseErr f l = 0
  · obtain ⟨h0, hok⟩ := case_ok hce
    obtain ⟨_, hR, _⟩ := checkF_right h0
    have hn120 := hR.2.2.2.1
    have hX4 := hX.below E4.low
    rw [hce]
    have H0 := Lib.hid h0; have HOK := Lib.hid hok; have HR := Lib.hid hR
    have hlen := hok.1
    have HLEN := Lib.hid hlen
    have hlim : l.length ≤ 1000000 := by omega
    clear h0 hok hce hR hlen
    go_wp2_with fail
    refine (copyInts_any b l d _ hX4 hlim hd).mono ?_
    rintro e w5 ⟨g, cap, rfl, hrow, hb5⟩
    rw [HLEN.out]
    have E5 := E4.step hF hb5
    have P0 : Part w f l w5 g l 0 (.slice none 0 0) [] := ⟨Row3.of_own hrow, HOK.out, by omega, World.ownsRow_nil _ _ _ _, by simp, fun j _ => by simp [sumAt]⟩
    clear q0 q1 q2 hrow hb5 hX3 hX4
    go_wp2_with fail
    go_loopw [7, 8, 9, 10] (fun v7 v8 v9 i wr => ∃ k : Nat, k ≤ ls.length ∧ i = .int .i64 k ∧ ∃ (g cap : Nat) (L : List Int) (M : Int) (T : List IS), v7 = .slice (some ⟨g, 0, none⟩) f.sorts.length cap ∧ v8 = .int .i64 M ∧ T.length ≤ k ∧ Part w f l wr g L M v9 T ∧ Env w f a c wr) (fun _ _ _ i _ => ls.length - (intOf i).toNat)
    case atStart => exact ⟨0, Nat.zero_le _, rfl, g, cap, l, 0, [], rfl, rfl, Nat.le_refl _, P0, E5⟩
    case round =>
      obtain ⟨k, hk, rfl, g', cap', L, M, T, rfl, rfl, hTk, PA, E⟩ := hrel
      clear P0 E5
      have q0 := E.c0; have q1 := E.c1; have q2 := E.c2; have hlt0 := E.lt
      by_cases hlt : k < ls.length
      · obtain ⟨ad, rfl, had, hcell, hi, hil⟩ := (hL.below E.low).at_ hlt
        obtain ⟨x, ex⟩ : ∃ x, x = ls.getD k noIS := ⟨_, rfl⟩
        rw [← ex] at hcell hi hil
        have hxw : Hid (IntsAt w x.a x.l) := by
          obtain ⟨_, _, _, _, hh, _⟩ := hL.at_ hlt
          rw [← ex] at hh; exact hh
        have EX := Lib.hid ex; clear ex
        have hkl : (k : Int) < (ls.length : Int) := by omega
        have hadw : (ad.add k).block < wr.heap.size := by rw [add_block]; exact had
        have hxl := Lib.hid hil
        clear q0 q1 q2
        have q0 := E.c0; have q1 := E.c1; have q2 := E.c2
        by_cases hcx : caseErr f x.l = 0
        · obtain ⟨_, hokx⟩ := case_ok hcx
          have HX := Lib.hid hokx
          have HN := Lib.hid hokx.1
          have HCX := Lib.hid hcx
          clear hokx
          go_wp2_with fail
          go_region_held3 (fun w' => w'.cell? ⟨w.heap.size, 0, none⟩ = some (.string f.name) ∧ w'.cell? ⟨w.heap.size, 1, none⟩ = some (.int .i64 f.body) ∧ w'.cell? ⟨w.heap.size, 2, none⟩ = some (.slice a f.sorts.length c) ∧ w'.cell? (ad.add k) = some (.slice x.a x.l.length x.c)) (go_keep)
            (first | (go_at_call 43; refine (refCheckCase_any f a c x.a x.l x.c _ hc E.fa.ok (by exact E.fa.at_) (by exact hi) hxl.out).mono ?_; rintro e w6 ⟨rfl, hb6⟩; have k0 := (hb6.cell (p := ⟨w.heap.size, 0, none⟩) E.lt).trans E.c0; have k1 := (hb6.cell (p := ⟨w.heap.size, 1, none⟩) E.lt).trans E.c1; have k2 := (hb6.cell (p := ⟨w.heap.size, 2, none⟩) E.lt).trans E.c2; have k3 := (hb6.cell (p := ad.add k) hadw).trans hcell))
          have E6 := (E.drew hF).step hF hb6
          have hb6' : Below wr.heap.size wr w6 := (Below.refl _ wr).drew.trans hb6
          have hi6 := hi.below hb6'
          have hcell6 := k3
          have hadw6 : (ad.add k).block < w6.heap.size := Nat.lt_of_lt_of_le hadw hb6'.size
          have hrow6 := PA.row.below hb6'
          have own6 := own_below PA.own hb6'
          have okL := Lib.hid PA.okL
          have hNL := Lib.hid PA.okL.1
          have okT : Hid (∀ y ∈ T, OkC f.sorts.length y.l ∧ IntsAt w y.a y.l) := PA.okT
          have hsum : Hid (∀ j, j < f.sorts.length → L.getD j 0 + sumAt T j = l.getD j 0) := PA.sum
          have hmet : Hid (metal f L + M = metal f l) := PA.metal
          have hlt6 := E6.lt
          clear hb6 hcell hadw q0 q1 q2 k0 k1 k2 hcx PA hi
          rename_i hH6
          clear hH6
          have q0 := E6.c0; have q1 := E6.c1; have q2 := E6.c2
          cases hsh : short L x.l f.sorts.length 0 with
          | some si =>
            have HSH := Lib.hid hsh; clear hsh
            go_wp2_with fail
            go_region_held3 (fun w' => w'.cell? ⟨w.heap.size, 0, none⟩ = some (.string f.name) ∧ w'.cell? ⟨w.heap.size, 1, none⟩ = some (.int .i64 f.body) ∧ w'.cell? ⟨w.heap.size, 2, none⟩ = some (.slice a f.sorts.length c) ∧ w'.cell? (ad.add k) = some (.slice x.a x.l.length x.c)) (go_keep)
              (first | (go_at_call 46; refine (Taken_short hNL.out.symm rfl (by exact (E6.drew hF).fa) (by exact hrow6.ints) (by exact hi6) H0.out okL.out HX.out hn120 HSH.out).mono ?_; rintro e w7 ⟨rfl, hb7⟩; have k0 := (hb7.cell (p := ⟨w.heap.size, 0, none⟩) E6.lt).trans E6.c0; have k1 := (hb7.cell (p := ⟨w.heap.size, 1, none⟩) E6.lt).trans E6.c1; have k2 := (hb7.cell (p := ⟨w.heap.size, 2, none⟩) E6.lt).trans E6.c2; have k3 := (hb7.cell (p := ad.add k) hadw6).trans hcell6))
            have E7 := (E6.drew hF).step hF hb7
            have hb7' : Below w6.heap.size w6 w7 := (Below.refl _ w6).drew.trans hb7
            have hcell7 := k3
            have hadw7 : (ad.add k).block < w7.heap.size := Nat.lt_of_lt_of_le hadw6 hb7'.size
            have hrow7 := hrow6.below hb7'
            have hi7 := hi6.below hb7'
            have own7 := own_below own6 hb7'
            clear hb7 hcell6 hadw6 hrow6 hi6 own6 q0 q1 q2 k0 k1 k2
            rename_i hHeld7
            clear hHeld7
            have q0 := E7.c0; have q1 := E7.c1; have q2 := E7.c2; have hlt7 := E7.lt
            go_wp2_with fail
            go_region_held3 (fun w' => w'.cell? ⟨w.heap.size, 0, none⟩ = some (.string f.name) ∧ w'.cell? ⟨w.heap.size, 1, none⟩ = some (.int .i64 f.body) ∧ w'.cell? ⟨w.heap.size, 2, none⟩ = some (.slice a f.sorts.length c) ∧ w'.cell? (ad.add k) = some (.slice x.a x.l.length x.c)) (go_keep)
              (first | (go_at_call 47; refine (Lacking_good hNL.out.symm rfl (by exact (E7.drew hF).fa) (by exact hrow7.ints) (by exact hi7) H0.out okL.out HX.out hn120).mono ?_; rintro e w8 ⟨g8, rfl, hlk8, hb8⟩; have k0 := (hb8.cell (p := ⟨w.heap.size, 0, none⟩) E7.lt).trans E7.c0; have k1 := (hb8.cell (p := ⟨w.heap.size, 1, none⟩) E7.lt).trans E7.c1; have k2 := (hb8.cell (p := ⟨w.heap.size, 2, none⟩) E7.lt).trans E7.c2; have k3 := (hb8.cell (p := ad.add k) hadw7).trans hcell7))
            have E8 := (E7.drew hF).step hF hb8
            have hb8' : Below w7.heap.size w7 w8 := (Below.refl _ w7).drew.trans hb8
            have hcell8 := k3
            have hadw8 : (ad.add k).block < w8.heap.size := Nat.lt_of_lt_of_le hadw7 hb8'.size
            have hrow8 := hrow7.below hb8'
            have hi8 := hi7.below hb8'
            have own8 := own_below own7 hb8'
            clear hb8 hcell7 hadw7 hrow7 hi7 own7 q0 q1 q2 k0 k1 k2
            rename_i hHeld8
            clear hHeld8
            have q0 := E8.c0; have q1 := E8.c1; have q2 := E8.c2; have hlt8 := E8.lt
            have okK : Hid (OkC f.sorts.length (tab f.sorts.length (lack L x.l))) := okL.out.lack_ HX.out
            cases hov : over L (tab f.sorts.length (lack L x.l)) f.sorts.length 0 with
            | true =>
              have HOV := Lib.hid hov; clear hov
              go_wp2_with fail
              refine (Joined_over hNL.out.symm (tab_len _ _).symm E8.fa hrow8.ints hlk8.ints H0.out okL.out okK.out hn120 HOV.out).mono ?_
              rintro e w9 ⟨rfl, hb9⟩
              have E9 := E8.step hF hb9
              have hb9' := hb9
              have hcell9 := (hb9.cell (p := ad.add k) hadw8).trans hcell8
              have hadw9 : (ad.add k).block < w9.heap.size := Nat.lt_of_lt_of_le hadw8 hb9'.size
              have hrow9 := hrow8.below hb9'
              have hi9 := hi8.below hb9'
              have own9 := own_below own8 hb9'
              clear hb9 hcell8 hadw8 hrow8 hi8 own8 q0 q1 q2
              have q0 := E9.c0; have q1 := E9.c1; have q2 := E9.c2; have hlt9 := E9.lt
              clear q0 q1 q2
              go_wp2
              go_roundw
              case rel => exact ⟨k + 1, by omega, by go_num, g', cap', L, M, T, rfl, rfl, by omega, ⟨hrow9, okL.out, hmet.out, own9, okT.out, hsum.out⟩, E9⟩
              case measure => simp [intOf]; omega
            | false =>
              have HOV := Lib.hid hov; clear hov
              go_wp2_with fail
              refine (Joined_good hNL.out.symm (tab_len _ _).symm E8.fa hrow8.ints hlk8.ints H0.out okL.out okK.out hn120 HOV.out).mono ?_
              rintro e w9 ⟨g9, rfl, hrc9, hb9⟩
              have E9 := E8.step hF hb9
              have hb9' := hb9
              have hcell9 := (hb9.cell (p := ad.add k) hadw8).trans hcell8
              have hadw9 : (ad.add k).block < w9.heap.size := Nat.lt_of_lt_of_le hadw8 hb9'.size
              have hrow9 := hrow8.below hb9'
              have hi9 := hi8.below hb9'
              have own9 := own_below own8 hb9'
              clear hb9 hcell8 hadw8 hrow8 hi8 own8 q0 q1 q2
              have q0 := E9.c0; have q1 := E9.c1; have q2 := E9.c2; have hlt9 := E9.lt
              have okR : Hid (OkC f.sorts.length (tab f.sorts.length (plus L (tab f.sorts.length (lack L x.l))))) := okL.out.plus_ okK.out HOV.out
              have HS2 : Hid (short (tab f.sorts.length (plus L (tab f.sorts.length (lack L x.l)))) x.l f.sorts.length 0 = none) := short_none (n := f.sorts.length) (fun j hj => by rw [tab_at hj]; unfold plus; rw [tab_at hj]; unfold lack; omega) _ _ (by omega)
              go_wp2_with fail
              go_region_held3 (fun w' => w'.cell? ⟨w.heap.size, 0, none⟩ = some (.string f.name) ∧ w'.cell? ⟨w.heap.size, 1, none⟩ = some (.int .i64 f.body) ∧ w'.cell? ⟨w.heap.size, 2, none⟩ = some (.slice a f.sorts.length c) ∧ w'.cell? (ad.add k) = some (.slice x.a x.l.length x.c)) (go_keep)
                (first | (go_at_call 46; refine (Taken_good (tab_len _ _).symm rfl (by exact (E9.drew hF).fa) (by exact hrc9.ints) (by exact hi9) H0.out okR.out HX.out hn120 HS2.out).mono ?_; rintro e w10 ⟨g10, rfl, hlk10, hb10⟩; have k0 := (hb10.cell (p := ⟨w.heap.size, 0, none⟩) E9.lt).trans E9.c0; have k1 := (hb10.cell (p := ⟨w.heap.size, 1, none⟩) E9.lt).trans E9.c1; have k2 := (hb10.cell (p := ⟨w.heap.size, 2, none⟩) E9.lt).trans E9.c2; have k3 := (hb10.cell (p := ad.add k) hadw9).trans hcell9))
              have E10 := (E9.drew hF).step hF hb10
              have hb10' : Below w9.heap.size w9 w10 := (Below.refl _ w9).drew.trans hb10
              have hcell10 := k3
              have hadw10 : (ad.add k).block < w10.heap.size := Nat.lt_of_lt_of_le hadw9 hb10'.size
              have hrow10 := hrow9.below hb10'
              have hi10 := hi9.below hb10'
              have own10 := own_below own9 hb10'
              clear hb10 hcell9 hadw9 hrow9 hi9 own9 q0 q1 q2 k0 k1 k2
              rename_i hHeld10
              clear hHeld10
              have q0 := E10.c0; have q1 := E10.c1; have q2 := E10.c2; have hlt10 := E10.lt
              clear q0 q1 q2
              go_wp2
              go_roundw
              case rel => exact ⟨k + 1, by omega, by go_num, g', cap', L, M, T, rfl, rfl, by omega, ⟨hrow10, okL.out, hmet.out, own10, okT.out, hsum.out⟩, E10⟩
              case measure => simp [intOf]; omega
          | none =>
            have HSH := Lib.hid hsh; clear hsh
            have okM : Hid (OkC f.sorts.length (tab f.sorts.length (minus L x.l))) := okL.out.minus_ HX.out HSH.out
            obtain ⟨i0, hi0, hz0, hz1, hz2⟩ := info_parts info31
            have hmb1 := metal_bd HR.out okL.out
            have hmb2 := metal_bd HR.out HX.out
            have hmb3 := metal_bd HR.out HOK.out
            have hMb1 : -2000000000000000 ≤ M := by have := hmet.out; omega
            have hMb2 : M ≤ 2000000000000000 := by have := hmet.out; omega
            clear hmb1 hmb3
            go_wp2_with fail
            go_region_held3 (fun w' => w'.cell? ⟨w.heap.size, 0, none⟩ = some (.string f.name) ∧ w'.cell? ⟨w.heap.size, 1, none⟩ = some (.int .i64 f.body) ∧ w'.cell? ⟨w.heap.size, 2, none⟩ = some (.slice a f.sorts.length c) ∧ w'.cell? (ad.add k) = some (.slice x.a x.l.length x.c)) (go_keep)
              (first | (go_at_call 46; refine (Taken_good hNL.out.symm rfl (by exact (E6.drew hF).fa) (by exact hrow6.ints) (by exact hi6) H0.out okL.out HX.out hn120 HSH.out).mono ?_; rintro e w7 ⟨g7, rfl, hrt7, hb7⟩; have k0 := (hb7.cell (p := ⟨w.heap.size, 0, none⟩) E6.lt).trans E6.c0; have k1 := (hb7.cell (p := ⟨w.heap.size, 1, none⟩) E6.lt).trans E6.c1; have k2 := (hb7.cell (p := ⟨w.heap.size, 2, none⟩) E6.lt).trans E6.c2; have k3 := (hb7.cell (p := ad.add k) hadw6).trans hcell6))
            have E7 := (E6.drew hF).step hF hb7
            have hb7' : Below w6.heap.size w6 w7 := (Below.refl _ w6).drew.trans hb7
            have hcell7 := k3
            have hadw7 : (ad.add k).block < w7.heap.size := Nat.lt_of_lt_of_le hadw6 hb7'.size
            have hrow7 := hrow6.below hb7'
            have hi7 := hi6.below hb7'
            have own7 := own_below own6 hb7'
            clear hb7 hcell6 hadw6 hrow6 hi6 own6 q0 q1 q2 k0 k1 k2
            rename_i hHeld7
            clear hHeld7
            have q0 := E7.c0; have q1 := E7.c1; have q2 := E7.c2; have hlt7 := E7.lt
            go_wp2_with fail
            go_region_held3 (fun w' => w'.cell? ⟨w.heap.size, 0, none⟩ = some (.string f.name) ∧ w'.cell? ⟨w.heap.size, 1, none⟩ = some (.int .i64 f.body) ∧ w'.cell? ⟨w.heap.size, 2, none⟩ = some (.slice a f.sorts.length c) ∧ w'.cell? (ad.add k) = some (.slice x.a x.l.length x.c)) (go_keep)
              (first | (go_at_call 47; refine (Lacking_good hNL.out.symm rfl (by exact (E7.drew hF).fa) (by exact hrow7.ints) (by exact hi7) H0.out okL.out HX.out hn120).mono ?_; rintro e w8 ⟨g8, rfl, hlk8, hb8⟩; have k0 := (hb8.cell (p := ⟨w.heap.size, 0, none⟩) E7.lt).trans E7.c0; have k1 := (hb8.cell (p := ⟨w.heap.size, 1, none⟩) E7.lt).trans E7.c1; have k2 := (hb8.cell (p := ⟨w.heap.size, 2, none⟩) E7.lt).trans E7.c2; have k3 := (hb8.cell (p := ad.add k) hadw7).trans hcell7))
            have E8 := (E7.drew hF).step hF hb8
            have hb8' : Below w7.heap.size w7 w8 := (Below.refl _ w7).drew.trans hb8
            have hcell8 := k3
            have hadw8 : (ad.add k).block < w8.heap.size := Nat.lt_of_lt_of_le hadw7 hb8'.size
            have hrow8 := hrow7.below hb8'
            have hi8 := hi7.below hb8'
            have own8 := own_below own7 hb8'
            have hrt8 := hrt7.below hb8'
            clear hb8 hcell7 hadw7 hrow7 hi7 own7 q0 q1 q2 k0 k1 k2 hrt7
            rename_i hHeld8
            clear hHeld8
            have q0 := E8.c0; have q1 := E8.c1; have q2 := E8.c2; have hlt8 := E8.lt
            go_wp2_with fail
            go_region_held3 (fun w' => w'.cell? ⟨w.heap.size, 0, none⟩ = some (.string f.name) ∧ w'.cell? ⟨w.heap.size, 1, none⟩ = some (.int .i64 f.body) ∧ w'.cell? ⟨w.heap.size, 2, none⟩ = some (.slice a f.sorts.length c) ∧ w'.cell? (ad.add k) = some (.slice x.a x.l.length x.c)) (go_keep)
              (first | (go_at_call 58; refine (MetalOf_good rfl (by exact (E8.drew hF).fa) (by exact hi8) H0.out HX.out hn120).mono ?_; rintro e w9 ⟨rfl, hb9⟩; have k0 := (hb9.cell (p := ⟨w.heap.size, 0, none⟩) E8.lt).trans E8.c0; have k1 := (hb9.cell (p := ⟨w.heap.size, 1, none⟩) E8.lt).trans E8.c1; have k2 := (hb9.cell (p := ⟨w.heap.size, 2, none⟩) E8.lt).trans E8.c2; have k3 := (hb9.cell (p := ad.add k) hadw8).trans hcell8))
            have E9 := (E8.drew hF).step hF hb9
            have hb9' : Below w8.heap.size w8 w9 := (Below.refl _ w8).drew.trans hb9
            have hcell9 := k3
            have hadw9 : (ad.add k).block < w9.heap.size := Nat.lt_of_lt_of_le hadw8 hb9'.size
            have hrow9 := hrow8.below hb9'
            have hi9 := hi8.below hb9'
            have own9 := own_below own8 hb9'
            have hrt9 := hrt8.below hb9'
            clear hb9 hcell8 hadw8 hrow8 hi8 own8 q0 q1 q2 k0 k1 k2 hrt8
            rename_i hHeld9
            clear hHeld9
            have q0 := E9.c0; have q1 := E9.c1; have q2 := E9.c2; have hlt9 := E9.lt
            have hbase : w.heap.size + 1 ≤ (w9.alloc (.cells #[.slice x.a x.l.length x.c] 31)).heap.size := by have := E9.lt; simp; omega
            have HO1 : Hid (∀ u ∈ [Value.slice x.a x.l.length x.c], u.oneCell' = true) := Lib.hid (by intro u hu; rw [List.mem_singleton.1 hu]; rfl)
            have H63 : Hid (T.length + 1 ≤ maxLen) := Lib.hid (by unfold maxLen; omega)
            have HBY : Hid ((T.length + 1) * 24 ≤ 140737488355328) := Lib.hid (by omega)
            have HNW := Lib.hid (show ∀ j u, [Value.slice x.a x.l.length x.c][j]? = some u → (w9.alloc (.cells #[.slice x.a x.l.length x.c] 31)).cell? ((⟨w9.heap.size, 0, none⟩ : Addr).add j) = some u from cell_one_new _ _ _)
            have own9a := own9.alloc (.cells #[.slice x.a x.l.length x.c] 31)
            go_wp2_with (at_builtin; refine wpList_append_own _ rfl _ _ 73 rfl (w.heap.size + 1) 31 i0 (.slice none 0 0) 1 24 Tryd.underlying73 hi0 hz0 hz1 hz2 rfl (by decide) _ T.length (T.map isVal) rfl own9a ⟨w9.heap.size, 0, none⟩ 1 1 [.slice x.a x.l.length x.c] rfl rfl HNW.out HO1.out H63.out HBY.out hbase ?_; intro v' w10 hown10 hgrow10 hnil10)
            have hrowM := (hrt9.below ((Below.refl _ _).alloc (Nat.le_refl _) (.cells #[.slice x.a x.l.length x.c] 31))).kept own9a hgrow10
            have hbel10 : Below (w.heap.size + 1) (w.alloc (boxF f a c)) w10 := (E9.bel.alloc (by have := E9.lt; omega) _).grown hgrow10 hbase (fun q hq => (own9a.lt q hq).1)
            have E10 := Env.of hF hbel10
            have hxs : (T ++ [x]).map isVal = T.map isVal ++ [.slice x.a x.l.length x.c] := by simp [isVal]
            have hmin : ∀ j, j < f.sorts.length → (tab f.sorts.length (minus L x.l)).getD j 0 + x.l.getD j 0 = L.getD j 0 := fun j hj => by rw [tab_at hj]; unfold minus; omega
            have hPA : Part w f l w10 g7 (tab f.sorts.length (minus L x.l)) (M + metal f x.l) v' (T ++ [x]) := by
              refine ⟨hrowM, okM.out, ?_, ?_, ?_, ?_⟩
              · have := metal_add (f := f) (tab_len _ _) HN.out hNL.out hmin
                have h2 := hmet.out
                omega
              · rw [hxs]; simpa using hown10
              · intro y hy
                rcases List.mem_append.1 hy with h | h
                · exact okT.out y h
                · rw [List.mem_singleton.1 h]; exact ⟨HX.out, hxw.out⟩
              · intro j hj
                have h1 := hmin j hj
                have h2 := hsum.out j hj
                have h3 : sumAt (T ++ [x]) j = sumAt T j + x.l.getD j 0 := by simp [sumAt]
                omega
            clear q0 q1 q2
            go_roundw
            case rel => exact ⟨k + 1, by omega, by go_num, g7, f.sorts.length, _, M + metal f x.l, T ++ [x], rfl, rfl, by simp; omega, hPA, E10⟩
            case measure => simp [intOf]; omega
        · have hcxb : (caseErr f x.l != 0) = true := by simpa using hcx
          clear hcx
          go_wp2_with fail
          go_region_held3 (fun w' => w'.cell? ⟨w.heap.size, 0, none⟩ = some (.string f.name) ∧ w'.cell? ⟨w.heap.size, 1, none⟩ = some (.int .i64 f.body) ∧ w'.cell? ⟨w.heap.size, 2, none⟩ = some (.slice a f.sorts.length c) ∧ w'.cell? (ad.add k) = some (.slice x.a x.l.length x.c)) (go_keep)
            (first | (go_at_call 43; refine (refCheckCase_any f a c x.a x.l x.c _ hc E.fa.ok (by exact E.fa.at_) (by exact hi) hxl.out).mono ?_; rintro e w6 ⟨rfl, hb6⟩; have k0 := (hb6.cell (p := ⟨w.heap.size, 0, none⟩) E.lt).trans E.c0; have k1 := (hb6.cell (p := ⟨w.heap.size, 1, none⟩) E.lt).trans E.c1; have k2 := (hb6.cell (p := ⟨w.heap.size, 2, none⟩) E.lt).trans E.c2; have k3 := (hb6.cell (p := ad.add k) hadw).trans hcell))
          have E6 := (E.drew hF).step hF hb6
          have hlow := E6.low
          clear hb6 k0 k1 k2 k3
          go_wp2
          go_ret
          exact ⟨rfl, hlow⟩
      · have okL := Lib.hid PA.okL
        have hNL := Lib.hid PA.okL.1
        have okT : Hid (∀ y ∈ T, OkC f.sorts.length y.l ∧ IntsAt w y.a y.l) := PA.okT
        have hsum : Hid (∀ j, j < f.sorts.length → L.getD j 0 + sumAt T j = l.getD j 0) := PA.sum
        have hmet : Hid (metal f L + M = metal f l) := PA.metal
        have hrow0 := PA.row
        have own0 := PA.own
        have hmb1 := metal_bd HR.out okL.out
        have hmb3 := metal_bd HR.out HOK.out
        have hMb1 : -2000000000000000 ≤ M := by have := hmet.out; omega
        have hMb2 : M ≤ 2000000000000000 := by have := hmet.out; omega
        clear PA
        obtain ⟨A9, cap9, rfl, hA9⟩ := own_shape own0
        have hTl : T.length ≤ 5 := by omega
        go_wp2_with fail
        refine (MetalOf_good hNL.out.symm E.fa hrow0.ints H0.out okL.out hn120).mono ?_
        rintro e w6 ⟨rfl, hb6⟩
        have E6 := E.step hF hb6
        have hrow6 := hrow0.below hb6
        have own6 := own_below own0 hb6
        clear q0 q1 q2 hb6 hrow0 own0
        have q0 := E6.c0; have q1 := E6.c1; have q2 := E6.c2; have hlt6 := E6.lt
        go_wp2_with fail
        refine (MetalOf_good HLEN.out.symm E6.fa (hX.below E6.low) H0.out HOK.out hn120).mono ?_
        rintro e w7 ⟨rfl, hb7⟩
        have E7 := E6.step hF hb7
        have hrow7 := hrow6.below hb7
        have own7 := own_below own6 hb7
        clear q0 q1 q2 hb7 hrow6 own6
        have q0 := E7.c0; have q1 := E7.c1; have q2 := E7.c2; have hlt7 := E7.lt
        have hme : (metal f L + M != metal f l) = false := by simpa using hmet.out
        go_wp2_with fail
        clear q0 q1 q2 hme hmb1 hmb3
        go_loopw [7, 24] (fun v7 i wr => ∃ k : Nat, k ≤ T.length ∧ i = .int .i64 ((k : Int) - 1) ∧ ∃ (g cap : Nat) (L : List Int), v7 = .slice (some ⟨g, 0, none⟩) f.sorts.length cap ∧ Row3 wr g L ∧ OkC f.sorts.length L ∧ (∀ j, j < f.sorts.length → L.getD j 0 + sumAt (T.take k) j = l.getD j 0) ∧ wr.ownsRow (w.heap.size + 1) 31 1 (.slice A9 T.length cap9) T.length (T.map isVal) ∧ Env w f a c wr) (fun _ i _ => (intOf i + 1).toNat)
        case atStart => exact ⟨T.length, Nat.le_refl _, rfl, g', cap', L, rfl, hrow7, okL.out, by rw [List.take_length]; exact hsum.out, own7, E7⟩
        case round =>
          obtain ⟨k, hk, rfl, g2, cap2, L2, rfl, hrow, hok2, hsum2, hown, E⟩ := hrel
          clear E7 hrow7 own7
          have q0 := E.c0; have q1 := E.c1; have q2 := E.c2; have hlt0 := E.lt
          have HO2 := Lib.hid hok2
          have HS2 := Lib.hid hsum2
          clear hok2 hsum2
          rcases k with _ | m
          · have hz : (((0 : Nat) : Int) - 1) = (-1 : Int) := by omega
            rw [hz]
            have hLl : Hid (L2 = l) := list_eq (by rw [HO2.out.1, HLEN.out]) (fun j hj => by
              have h1 := HS2.out j (by rw [← HO2.out.1]; exact hj)
              have h2 : sumAt (T.take 0) j = 0 := by simp [sumAt]
              omega)
            have hX9 := hX.below E.low
            clear hz
            go_wp2_with fail
            refine (ints_good HO2.out.1.symm HLEN.out.symm hrow.ints hX9 (okc_len HO2.out hn120) hl hLl.out).mono ?_
            rintro e w8 ⟨rfl, hD⟩
            have hlow := hD.below E.low
            go_wp2
            go_ret
            exact ⟨rfl, hlow⟩
          · have hz : (((m + 1 : Nat) : Int) - 1) = (m : Int) := by omega
            rw [hz]
            clear hz
            have hml : m < T.length := by omega
            obtain ⟨gT, rfl⟩ := hA9 (by omega)
            obtain ⟨x, ex⟩ : ∃ x, x = T.getD m noIS := ⟨_, rfl⟩
            have hxm : x ∈ T := by
              rw [ex, List.getD_eq_getElem?_getD, List.getElem?_eq_getElem hml]; exact List.getElem_mem hml
            have hOX := okT.out x hxm
            have HX := Lib.hid hOX.1
            have hi := hOX.2.below E.low
            have hcell : wr.cell? ⟨gT, m, none⟩ = some (.slice x.a x.l.length x.c) := by
              have := hown.cells (g := gT) rfl m (isVal x) (by rw [List.getElem?_map, List.getElem?_eq_getElem hml, ex, List.getD_eq_getElem?_getD, List.getElem?_eq_getElem hml]; rfl)
              rw [add0] at this; exact this
            have hgT : gT < wr.heap.size := (hown.lt gT rfl).2
            have hov : Hid (over L2 x.l f.sorts.length 0 = false) := over_ok (n := f.sorts.length) (fun j hj => by
              have h1 := HS2.out j hj
              have h2 := sumAt_take hml j
              have h3 := sumAt_nonneg (T := T.take m) (n := f.sorts.length) (fun y hy => (okT.out y (List.mem_of_mem_take hy)).1) hj
              have h4 := (HOK.out.2 j hj).2
              rw [← ex] at h2
              unfold plus; omega) _ _ (by omega)
            have hkl : (m : Int) < (T.length : Int) := by omega
            have hsum3 : Hid (∀ j, j < f.sorts.length → (tab f.sorts.length (plus L2 x.l)).getD j 0 + sumAt (T.take m) j = l.getD j 0) := Lib.hid (fun j hj => by
              have h1 := HS2.out j hj
              have h2 := sumAt_take hml j
              rw [← ex] at h2
              rw [tab_at hj]; unfold plus; omega)
            have okP : Hid (OkC f.sorts.length (tab f.sorts.length (plus L2 x.l))) := HO2.out.plus_ HX.out hov.out
            clear ex hxm hOX
            go_wp2_with fail
            go_region_held3 (fun w' => w'.cell? ⟨w.heap.size, 0, none⟩ = some (.string f.name) ∧ w'.cell? ⟨w.heap.size, 1, none⟩ = some (.int .i64 f.body) ∧ w'.cell? ⟨w.heap.size, 2, none⟩ = some (.slice a f.sorts.length c) ∧ w'.cell? ⟨gT, m, none⟩ = some (.slice x.a x.l.length x.c)) (go_keep)
              (first | (go_at_call 42; refine (Joined_good HO2.out.1.symm rfl (by exact (E.drew hF).fa) (by exact hrow.ints) (by exact hi) H0.out HO2.out HX.out hn120 hov.out).mono ?_; rintro e w8 ⟨g8, rfl, hr8, hb8⟩; have k0 := (hb8.cell (p := ⟨w.heap.size, 0, none⟩) E.lt).trans E.c0; have k1 := (hb8.cell (p := ⟨w.heap.size, 1, none⟩) E.lt).trans E.c1; have k2 := (hb8.cell (p := ⟨w.heap.size, 2, none⟩) E.lt).trans E.c2; have k3 := (hb8.cell (p := ⟨gT, m, none⟩) hgT).trans hcell))
            have E8 := (E.drew hF).step hF hb8
            have hb8' : Below wr.heap.size wr w8 := (Below.refl _ wr).drew.trans hb8
            have own8 := own_below hown hb8'
            clear hb8 k0 k1 k2 k3 q0 q1 q2 hcell
            rename_i hHeld8
            clear hHeld8
            go_wp2
            go_roundw
            case rel => exact ⟨m, by omega, by go_num, g8, f.sorts.length, _, rfl, hr8, okP.out, hsum3.out, own8, E8⟩
            case measure => simp [intOf]
  · have hceb : (caseErr f l != 0) = true := by simpa using hce
    have hlow := E4.low
    clear hce
    go_wp2
    go_ret
    exact ⟨rfl, hlow⟩
end Go.Proofs.YtjkcomafgkabeaaDoor
