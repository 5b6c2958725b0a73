/-
  Package impose: tests of all pages of a view; the opposite cell; equal views; a view copied.
-/
import Derived.Test.YtjkjfmahcjcniaaI9
namespace Go.Proofs.Ytjkjfmahcjcniaa
open Go.RowKit

theorem all_step {α : Type} {p : α → Bool} {L : List α} {k : Nat} (hk : k < L.length) : (L.drop k).all p = (p L[k] && (L.drop (k + 1)).all p) := by
  rw [List.drop_eq_getElem_cons hk]; rfl
theorem all_stop {α : Type} {p : α → Bool} {L : List α} {k : Nat} (hk : ¬ k < L.length) : (L.drop k).all p = true := by
  rw [List.drop_of_length_le (by omega)]; rfl
set_option maxRecDepth 100000 in
set_option maxHeartbeats 2000000 in
theorem arePages_any (m : Int) (a : Option Addr) (L : List Page) (c : Nat) (w : World) (hL : RowsAt 2 Page.l w a L) (hl : L.length ≤ maxLen) :
    Calls Try.prog 85 #[.int .i64 m, .slice a L.length c] w fun e w' => e = .returned (.bool (L.all (pageB m))) ∧ Below w.heap.size w w' := by
  unfold maxLen at hl
  go_enter Try.func85, Try.ntmps85
  go_wp2
  go_loopw [9] (fun i wr => ∃ k : Nat, k ≤ L.length ∧ i = .int .i64 k ∧ Hid ((L.drop 0).all (pageB m) = (L.drop k).all (pageB m)) ∧ Below w.heap.size w wr) (fun i _ => L.length - (intOf i).toNat)
  case atStart => exact ⟨0, Nat.zero_le _, rfl, Lib.hid rfl, Below.refl _ _⟩
  case round =>
    obtain ⟨k, hk, rfl, HR, hB⟩ := hrel
    by_cases hlt : k < L.length
    · obtain ⟨ad, rfl, had, s0, s1⟩ := (hL.below hB).page hlt
      obtain ⟨x, ex⟩ : ∃ x, x = L[k] := ⟨_, rfl⟩
      have hst := all_step (p := pageB m) hlt
      rw [← ex] at s0 s1 hst
      have HST := Lib.hid hst
      clear ex hst
      have hBx := hB.alloc hB.size (.cells #[.int .i64 x.p, .int .i64 x.t] 119)
      have hkl : (k : Int) < (L.length : Int) := by omega
      cases h1 : inB x.p 1 m
      · have HO : Hid (L.all (pageB m) = false) := Lib.hid (by
          have := HR.out; rw [List.drop_zero] at this; rw [this, HST.out]; unfold pageB; rw [h1]; rfl)
        go_wp2_with (go_at_call 102; refine (isFrom_any _ _ _ _).mono ?_; rintro e w' ⟨rfl, rfl⟩)
        go_ret
        exact ⟨ret_bool HO.out.symm, hBx⟩
      · cases h2 : inB x.t 0 1
        · have HO : Hid (L.all (pageB m) = false) := Lib.hid (by
            have := HR.out; rw [List.drop_zero] at this; rw [this, HST.out]; unfold pageB; rw [h1, h2]; rfl)
          go_wp2_with (go_at_call 102; refine (isFrom_any _ _ _ _).mono ?_; rintro e w' ⟨rfl, rfl⟩)
          go_ret
          exact ⟨ret_bool HO.out.symm, hBx⟩
        · have HO : Hid ((L.drop 0).all (pageB m) = (L.drop (k + 1)).all (pageB m)) := Lib.hid (by
            rw [HR.out, HST.out]; unfold pageB; rw [h1, h2]; rfl)
          go_wp2_with (go_at_call 102; refine (isFrom_any _ _ _ _).mono ?_; rintro e w' ⟨rfl, rfl⟩)
          go_roundw
          case rel => exact ⟨k + 1, by omega, by go_num, HO, hBx⟩
          case measure => simp [intOf]; omega
    · have HO : Hid (L.all (pageB m) = true) := Lib.hid (by
        have := HR.out; rw [List.drop_zero] at this; rw [this, all_stop hlt])
      have hkl : ¬ (k : Int) < (L.length : Int) := by omega
      go_wp2
      go_ret
      exact ⟨ret_bool HO.out.symm, hB⟩
def oppN (C R k : Nat) (b : Bool) : Nat := if b = true then (R - 1 - k / C) * C + k % C else k / C * C + (C - 1 - k % C)
theorem oppN_lt {C R k : Nat} (b : Bool) (hC : 1 ≤ C) (hk : k < C * R) : oppN C R k b < C * R := by
  have h1 : k % C < C := Nat.mod_lt _ hC
  have h2 : k / C < R := Nat.div_lt_of_lt_mul hk
  unfold oppN
  obtain ⟨q, hq⟩ : ∃ q, k / C = q := ⟨_, rfl⟩
  obtain ⟨r, hr⟩ : ∃ r, k % C = r := ⟨_, rfl⟩
  rw [hq] at h2 ⊢
  rw [hr] at h1 ⊢
  split
  · exact mul_lt (by omega) h1
  · exact mul_lt h2 (by omega)
set_option maxRecDepth 100000 in
set_option maxHeartbeats 2000000 in
theorem opposite_any (C R k : Nat) (b : Bool) (w : World) (hC : 1 ≤ C ∧ C ≤ 8) (hR : 1 ≤ R ∧ R ≤ 8) (hk : k < C * R) :
    Calls Try.prog 90 #[.agg #[.int .i64 C, .int .i64 R], .int .i64 k, .bool b] w fun e w' => e = .returned (.int .i64 (oppN C R k b)) ∧ Below w.heap.size w w' := by
  have hrem : (k : Int).tmod (C : Int) = ((k % C : Nat) : Int) := by rw [Int.tmod_eq_emod_of_nonneg (by omega)]; exact (Int.natCast_emod k C).symm
  have hquo : (k : Int).tdiv (C : Int) = ((k / C : Nat) : Int) := by rw [Int.tdiv_eq_ediv_of_nonneg (by omega)]; exact (Int.natCast_ediv k C).symm
  have h1 : k % C < C := Nat.mod_lt _ hC.1
  have h2 : k / C < R := Nat.div_lt_of_lt_mul hk
  obtain ⟨q, hq⟩ : ∃ q, k / C = q := ⟨_, rfl⟩
  obtain ⟨r, hr⟩ : ∃ r, k % C = r := ⟨_, rfl⟩
  have HOP : Hid (oppN C R k b = if b = true then (R - 1 - q) * C + r else q * C + (C - 1 - r)) := Lib.hid (by unfold oppN; rw [hq, hr])
  rw [hq] at hquo h2
  rw [hr] at hrem h1
  have hm0 : (R - 1 - q) * C ≤ 8 * 8 := Nat.mul_le_mul (by omega) (by omega)
  have hm1 : q * C ≤ 8 * 8 := Nat.mul_le_mul (by omega) (by omega)
  have e1 : ((R : Int) - 1 - q) * C = (((R - 1 - q) * C : Nat) : Int) := by rw [Int.natCast_mul, Int.natCast_sub (by omega), Int.natCast_sub (by omega)]; rfl
  have e2 : (q : Int) * C = ((q * C : Nat) : Int) := by rw [Int.natCast_mul]
  have HA : Hid (∀ W, Calls Try.prog 82 #[.agg #[.int .i64 C, .int .i64 R], .int .i64 r, .int .i64 ((R : Int) - 1 - q)] W fun e w' => e = .returned (.int .i64 (((R - 1 - q) * C + r : Nat) : Int)) ∧ Below W.heap.size W w') :=
    Lib.hid (fun W => at_any C R r ((R : Int) - 1 - q) _ W (by rw [e1]; push_cast; rfl) (by rw [e1]; omega) (by rw [e1]; omega) (by omega) (by omega))
  have HB : Hid (∀ W, Calls Try.prog 82 #[.agg #[.int .i64 C, .int .i64 R], .int .i64 ((C : Int) - 1 - r), .int .i64 (q : Int)] W fun e w' => e = .returned (.int .i64 ((q * C + (C - 1 - r) : Nat) : Int)) ∧ Below W.heap.size W w') :=
    Lib.hid (fun W => at_any C R ((C : Int) - 1 - r) q _ W (by rw [e2]; omega) (by rw [e2]; omega) (by rw [e2]; omega) (by omega) (by omega))
  have hC0 : ¬ (C : Int) = 0 := by omega
  have hC0b : ((C : Int) == 0) = false := by simp; omega
  have hB0 := (Below.refl w.heap.size w).alloc (Nat.le_refl _) (.cells #[.int .i64 C, .int .i64 R] 122)
  clear hq hr hm0 hm1 e1 e2 hk
  cases b
  · have HE : Hid (oppN C R k false = q * C + (C - 1 - r)) := Lib.hid (by rw [HOP.out, if_neg (by simp)])
    go_enter Try.func90, Try.ntmps90
    go_wp2
    go_quiet (fail)
    go_wp2_with fail
    refine (HB.out _).mono ?_
    rintro e w2 ⟨rfl, hb2⟩
    go_wp2_with fail
    go_ret
    exact ⟨by rw [HE.out]; exact ret_int (by rw [Int.natCast_add, Int.natCast_mul]), (below_drewN hB0 _).trans (hb2.mono (B' := w.heap.size) (below_drewN hB0 _).size)⟩
  · have HE : Hid (oppN C R k true = (R - 1 - q) * C + r) := Lib.hid (by rw [HOP.out, if_pos rfl])
    go_enter Try.func90, Try.ntmps90
    go_wp2
    go_quiet (fail)
    go_wp2_with fail
    refine (HA.out _).mono ?_
    rintro e w2 ⟨rfl, hb2⟩
    go_wp2_with fail
    go_ret
    exact ⟨by rw [HE.out]; exact ret_int (by rw [Int.natCast_add, Int.natCast_mul]), (below_drewN hB0 _).trans (hb2.mono (B' := w.heap.size) (below_drewN hB0 _).size)⟩
structure View where
  C : Int
  R : Int
  l : List Page
def sameV (x y : View) : Bool := decide (x.C = y.C ∧ x.R = y.R ∧ x.l = y.l)
set_option maxRecDepth 100000 in
set_option maxHeartbeats 2000000 in
theorem sameViews_any (x : View) (a1 : Option Addr) (c1 : Nat) (y : View) (a2 : Option Addr) (c2 : Nat) (w : World) (h1 : RowsAt 2 Page.l w a1 x.l) (h2 : RowsAt 2 Page.l w a2 y.l) (l1 : x.l.length ≤ maxLen) (l2 : y.l.length ≤ maxLen) :
    Calls Try.prog 37 #[.agg #[.int .i64 x.C, .int .i64 x.R, .slice a1 x.l.length c1], .agg #[.int .i64 y.C, .int .i64 y.R, .slice a2 y.l.length c2]] w fun e w' => e = .returned (.bool (sameV x y)) ∧ Below w.heap.size w w' := by
  obtain ⟨C1, R1, L1⟩ := x
  obtain ⟨C2, R2, L2⟩ := y
  have h1 : RowsAt 2 Page.l w a1 L1 := h1
  have h2 : RowsAt 2 Page.l w a2 L2 := h2
  have L1H := Lib.hid (show L1.length ≤ maxLen from l1)
  have L2H := Lib.hid (show L2.length ≤ maxLen from l2)
  clear l1 l2
  have hB0 := ((Below.refl w.heap.size w).alloc (Nat.le_refl _) (.cells #[.int .i64 C1, .int .i64 R1, .slice a1 L1.length c1] 56)).alloc (by simp) (.cells #[.int .i64 C2, .int .i64 R2, .slice a2 L2.length c2] 56)
  by_cases hC : C1 = C2
  · subst hC
    by_cases hR : R1 = R2
    · subst hR
      have HE : Hid (sameV ⟨C1, R1, L1⟩ ⟨C1, R1, L2⟩ = decide (L1 = L2)) := Lib.hid (by unfold sameV; simp)
      have g1 := (h1.alloc (.cells #[.int .i64 C1, .int .i64 R1, .slice a1 L1.length c1] 56)).alloc (.cells #[.int .i64 C1, .int .i64 R1, .slice a2 L2.length c2] 56)
      have g2 := (h2.alloc (.cells #[.int .i64 C1, .int .i64 R1, .slice a1 L1.length c1] 56)).alloc (.cells #[.int .i64 C1, .int .i64 R1, .slice a2 L2.length c2] 56)
      go_enter Try.func37, Try.ntmps37
      go_wp2_with fail
      refine (samePages_any a1 L1 c1 a2 L2 c2 _ g1 g2 L1H.out L2H.out).mono ?_
      rintro e w1 ⟨rfl, hd⟩
      have hB1 := hd.below hB0
      go_wp2_with fail
      go_ret
      exact ⟨ret_bool HE.out.symm, hB1⟩
    · have HE : Hid (sameV ⟨C1, R1, L1⟩ ⟨C1, R2, L2⟩ = false) := Lib.hid (decide_eq_false (fun e => hR e.2.1))
      have hb : (R1 == R2) = false := by simpa using hR
      clear hR
      go_enter Try.func37, Try.ntmps37
      go_wp2_with fail
      go_ret
      exact ⟨ret_bool HE.out.symm, hB0⟩
  · have HE : Hid (sameV ⟨C1, R1, L1⟩ ⟨C2, R2, L2⟩ = false) := Lib.hid (decide_eq_false (fun e => hC e.1))
    have hb : (C1 == C2) = false := by simpa using hC
    clear hC
    go_enter Try.func37, Try.ntmps37
    go_wp2_with fail
    go_ret
    exact ⟨ret_bool HE.out.symm, hB0⟩
end Go.Proofs.Ytjkjfmahcjcniaa
