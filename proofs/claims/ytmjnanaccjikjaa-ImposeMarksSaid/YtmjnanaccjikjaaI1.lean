/-
  The law on creep and marks: its walk.
-/
import Derived.Test.YtmjnanaccjikjaaIZ
namespace Go.Proofs.Ytmjnanaccjikjaa
open Go.RowKit

theorem mark_in {s p m : Int} (h : (markE s p m).2 = 0) : inB (markE s p m).1 0 (p - m) = true := by
  unfold markE at h ⊢
  by_cases hb : markB s p m = true
  · rw [if_pos hb] at h ⊢
    unfold markB at hb
    simp only [Bool.and_eq_true] at hb
    obtain ⟨⟨h1, h2⟩, h3⟩ := hb
    obtain ⟨a1, a2⟩ := inB_iff.1 h1
    obtain ⟨b1, b2⟩ := inB_iff.1 h2
    obtain ⟨c1, c2⟩ := inB_iff.1 h3
    obtain ⟨q1, q2, q3, q4⟩ := mark_b (s := s) a2 b1 b2 c1 c2
    refine inB_iff.2 ⟨q3, ?_⟩
    have d1 := Int.emod_lt_of_pos s (show 0 < p / m by omega)
    have d2 : s % (p / m) + 1 ≤ p / m := by omega
    have d3 := Int.mul_le_mul_of_nonneg_right d2 (show 0 ≤ m by omega)
    have d4 : p / m * m ≤ p := Int.ediv_mul_le _ (by omega)
    rw [Int.add_mul, Int.one_mul] at d3
    show s % (p / m) * m ≤ p - m
    omega
  · rw [if_neg hb] at h; simp at h
theorem creep_other {l t p : Int} (h : (creepE l t p).2 = 0) : (1 ≤ p ∧ p ≤ 128) ∧ creepE l t (if p % 2 = 0 then p - 1 else p + 1) = creepE l t p := by
  unfold creepE at h
  by_cases hb : creepB l t p = true
  · have hb0 := hb
    unfold creepB at hb
    simp only [Bool.and_eq_true] at hb
    obtain ⟨⟨h1, h2⟩, h3⟩ := hb
    obtain ⟨a1, a2⟩ := inB_iff.1 h1
    obtain ⟨c1, c2⟩ := inB_iff.1 h3
    refine ⟨by omega, ?_⟩
    have e : ((if p % 2 = 0 then p - 1 else p + 1) - 1) / 2 = (p - 1) / 2 := by split <;> omega
    have hb1 : creepB l t (if p % 2 = 0 then p - 1 else p + 1) = true := by
      unfold creepB
      rw [h1, h2, inB_yes (by split <;> omega)]; rfl
    unfold creepE
    rw [if_pos hb0, if_pos hb1, e]
  · rw [if_neg hb] at h; simp at h
set_option maxRecDepth 100000 in
set_option maxHeartbeats 8000000 in
theorem marks_walk (l t p s q m : Int) (a : Option Addr) (L : List Int) (c : Nat) (w : World) (hL : RowsAt 1 intL w a L) (hl : L.length ≤ maxLen) (hn : a = none → c = 0) :
    Calls Try.prog 14 #[.agg #[.int .i64 l, .int .i64 t, .int .i64 p, .int .i64 s, .int .i64 q, .int .i64 m, .slice a L.length c]] w fun e w' => e = .returned (.bool true) ∧ Below w.heap.size w w' := by
  unfold maxLen at hl
  go_enter Try.func14, Try.ntmps14
  go_wp2_with fail
  refine (awake_any _).mono ?_
  rintro e w1 ⟨rfl, hb1⟩
  have hB1 := ((Below.refl w.heap.size w).alloc (Nat.le_refl _) (.cells #[.int .i64 l, .int .i64 t, .int .i64 p, .int .i64 s, .int .i64 q, .int .i64 m, .slice a L.length c] 111)).trans (hb1.mono (B' := w.heap.size) (by simp))
  have bx := (BoxAt.new w #[.int .i64 l, .int .i64 t, .int .i64 p, .int .i64 s, .int .i64 q, .int .i64 m, .slice a L.length c] 111).below hb1
  clear hb1
  have c0 := bx.cell 0; have c1 := bx.cell 1; have c2 := bx.cell 2; have c3 := bx.cell 3; have c4 := bx.cell 4; have c5 := bx.cell 5; have c6 := bx.cell 6
  have hbl := bx.lt
  simp at c0 c1 c2 c3 c4 c5 c6
  by_cases h60 : 60 < L.length
  · go_wp2_with fail
    go_ret
    exact ⟨rfl, hB1⟩
  obtain ⟨ce, hce⟩ : ∃ x, x = creepE l t p := ⟨_, rfl⟩
  obtain ⟨me, hme⟩ : ∃ x, x = markE s q m := ⟨_, rfl⟩
  obtain ⟨oe, hoe⟩ : ∃ x, x = orderE L := ⟨_, rfl⟩
  have k1 := fun W => creep_any l t p W
  have k2 := fun W => markAt_any s q m W
  have k3 := fun (a' : Option Addr) (c' : Nat) W hW => firstMis_any a' L c' W hW (by unfold maxLen; exact hl)
  have k4 := fun W => refCreep_any l t p W
  have k5 := fun W => refMarkAt_any s q m W
  have k6 := fun (a' : Option Addr) (c' : Nat) W hW => refFirstMis_any a' L c' W hW (by unfold maxLen; exact hl)
  rw [← hce] at k1 k4
  rw [← hme] at k2 k5
  rw [← hoe] at k3 k6
  have K1 := Lib.hid k1; have K2 := Lib.hid k2; have K3 := Lib.hid k3; have K4 := Lib.hid k4; have K5 := Lib.hid k5; have K6 := Lib.hid k6
  have HCE := Lib.hid hce; have HME := Lib.hid hme
  clear k1 k2 k3 k4 k5 k6 hce hme hoe
  obtain ⟨cv, cerr⟩ := ce
  obtain ⟨mv, merr⟩ := me
  obtain ⟨ov, oerr⟩ := oe
  have hLw := hL.below hB1
  go_wp2_with fail
  refine (K1.out _).mono ?_
  rintro e w2 ⟨rfl, rfl⟩
  go_wp2_with fail
  refine (K2.out _).mono ?_
  rintro e w2 ⟨rfl, rfl⟩
  go_wp2_with fail
  refine (copyInts_any a L c _ hLw (by omega) hn).mono ?_
  rintro e w2 ⟨v2, rfl, ho2, hb2⟩
  obtain ⟨a2, d2, rfl, hr2, -, -, -, -⟩ := ho2.rows int_l
  have hB2 := hB1.trans (hb2.mono (B' := w.heap.size) hB1.size)
  have bx2 := bx.below hb2
  have hL2 := hLw.below hb2
  clear c0 c1 c2 c3 c4 c5 c6 hbl bx hLw hb2
  have c0 := bx2.cell 0; have c1 := bx2.cell 1; have c2 := bx2.cell 2; have c3 := bx2.cell 3; have c4 := bx2.cell 4; have c5 := bx2.cell 5; have c6 := bx2.cell 6
  have hbl := bx2.lt
  simp at c0 c1 c2 c3 c4 c5 c6
  go_wp2_with fail
  refine (K3.out a2 d2 _ hr2).mono ?_
  rintro e w3 ⟨rfl, rfl⟩
  go_wp2_with fail
  refine (K4.out _).mono ?_
  rintro e w3 ⟨rfl, rfl⟩
  go_wp2_with fail
  refine (K5.out _).mono ?_
  rintro e w3 ⟨rfl, rfl⟩
  go_wp2_with fail
  refine (K6.out a c _ hL2).mono ?_
  rintro e w3 ⟨rfl, rfl⟩
  have hfin : ∀ W, Below w2.heap.size w2 W → True := fun _ _ => trivial
  clear hfin
  by_cases hm0 : merr = 0
  · subst hm0
    have hmk := HME.out
    have hin : inB mv 0 (q - m) = true := by
      have := mark_in (s := s) (p := q) (m := m) (by rw [← hmk])
      rw [← hmk] at this; exact this
    have hqm : Hid ((1 ≤ q ∧ q ≤ 4000) ∧ 1 ≤ m ∧ m ≤ q) := by
      unfold markE at hmk
      by_cases hb : markB s q m = true
      · unfold markB at hb
        simp only [Bool.and_eq_true] at hb
        exact ⟨inB_iff.1 hb.1.2, inB_iff.1 hb.2⟩
      · rw [if_neg hb] at hmk; injection hmk with _ h2; exact absurd h2 (by decide)
    obtain ⟨⟨q1, q2⟩, q3, q4⟩ := hqm
    clear hmk
    by_cases hc0 : cerr = 0
    · subst hc0
      have hck := HCE.out
      obtain ⟨⟨p1, p2⟩, hoth⟩ := creep_other (l := l) (t := t) (p := p) (by rw [← hck])
      rw [← hck] at hoth
      by_cases hev : p % 2 = 0
      · rw [if_pos hev] at hoth
        have k7 := fun W => creep_any l t (p - 1) W
        rw [hoth] at k7
        have K7 := Lib.hid k7
        clear k7 hoth hck
        have hevb : (p % 2 == 0) = true := by simpa using hev
        go_wp2_with (go_at_call 42; refine (within_any _ _ _ _).mono ?_; rintro e w' ⟨rfl, rfl⟩)
        refine (K7.out _).mono ?_
        rintro e w3 ⟨rfl, rfl⟩
        go_wp2_with fail
        go_ret
        exact ⟨rfl, hB2⟩
      · rw [if_neg hev] at hoth
        have k7 := fun W => creep_any l t (p + 1) W
        rw [hoth] at k7
        have K7 := Lib.hid k7
        clear k7 hoth hck
        have hevb : (p % 2 == 0) = false := by simpa using hev
        clear hev
        go_wp2_with (go_at_call 42; refine (within_any _ _ _ _).mono ?_; rintro e w' ⟨rfl, rfl⟩)
        refine (K7.out _).mono ?_
        rintro e w3 ⟨rfl, rfl⟩
        go_wp2_with fail
        go_ret
        exact ⟨rfl, hB2⟩
    · have hcb : (cerr != 0) = true := by simpa using hc0
      clear hc0
      go_wp2_with (go_at_call 42; refine (within_any _ _ _ _).mono ?_; rintro e w' ⟨rfl, rfl⟩)
      go_ret
      exact ⟨rfl, hB2⟩
  · have hmb : (merr == 0) = false := by simpa using hm0
    clear hm0
    by_cases hc0 : cerr = 0
    · subst hc0
      have hck := HCE.out
      obtain ⟨⟨p1, p2⟩, hoth⟩ := creep_other (l := l) (t := t) (p := p) (by rw [← hck])
      rw [← hck] at hoth
      by_cases hev : p % 2 = 0
      · rw [if_pos hev] at hoth
        have k7 := fun W => creep_any l t (p - 1) W
        rw [hoth] at k7
        have K7 := Lib.hid k7
        clear k7 hoth hck
        have hevb : (p % 2 == 0) = true := by simpa using hev
        go_wp2_with fail
        refine (K7.out _).mono ?_
        rintro e w3 ⟨rfl, rfl⟩
        go_wp2_with fail
        go_ret
        exact ⟨rfl, hB2⟩
      · rw [if_neg hev] at hoth
        have k7 := fun W => creep_any l t (p + 1) W
        rw [hoth] at k7
        have K7 := Lib.hid k7
        clear k7 hoth hck
        have hevb : (p % 2 == 0) = false := by simpa using hev
        clear hev
        go_wp2_with fail
        refine (K7.out _).mono ?_
        rintro e w3 ⟨rfl, rfl⟩
        go_wp2_with fail
        go_ret
        exact ⟨rfl, hB2⟩
    · have hcb : (cerr != 0) = true := by simpa using hc0
      clear hc0
      go_wp2_with fail
      go_ret
      exact ⟨rfl, hB2⟩
end Go.Proofs.Ytmjnanaccjikjaa
