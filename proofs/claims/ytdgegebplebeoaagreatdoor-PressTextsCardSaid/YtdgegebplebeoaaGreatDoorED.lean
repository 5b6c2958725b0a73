/-
  Package press: RunMinutes, Estimate.
-/
import Derived.Test.YtdgegebplebeoaaGreatDoorEC
namespace Go.Proofs.YtdgegebplebeoaaGreatDoor
open Go.RowKit

def ceilI (n by_ : Int) : Int := (n + by_ - 1) / by_
def runMin (x : Run) : Int := x.ready * x.cols.length + ceilI (60 * x.given * x.cols.length) x.hour
theorem ceil_bd {n by_ N : Int} (h1 : 0 ≤ n) (h2 : n ≤ N) (h3 : 1 ≤ by_) : 0 ≤ ceilI n by_ ∧ ceilI n by_ ≤ N := by
  unfold ceilI
  refine ⟨Int.ediv_nonneg (by omega) (by omega), ?_⟩
  have : (n + by_ - 1) / by_ < n + 1 := by
    apply Int.ediv_lt_of_lt_mul (by omega)
    have h4 : n * 1 ≤ n * by_ := Int.mul_le_mul_of_nonneg_left h3 h1
    rw [Int.add_mul]; omega
  omega
set_option maxHeartbeats 1000000 in
theorem dividedUp_any (n by_ : Int) (w : World) (h1 : 0 ≤ n) (h2 : n ≤ 1000000000000000) (h3 : 1 ≤ by_) (h4 : by_ ≤ 1000000) :
    Calls Tryz.prog 36 #[.int .i64 n, .int .i64 by_] w fun e w' => e = .returned (.int .i64 (ceilI n by_)) ∧ w = w' := by
  have hz : (by_ == 0) = false := by simp; omega
  go_enter Tryz.func36, Tryz.ntmps36
  go_wp2
  go_ret
  exact ⟨ret_int rfl, rfl⟩
theorem runMin_bd {x : Run} (h : runErr x = 0) : 0 ≤ runMin x ∧ runMin x ≤ 1000000 := by
  obtain ⟨-, -, h3, h4, h5, -, h7, h8⟩ := run_ok h
  have a1 := mul_bd h7.1 h7.2 (show (0 : Int) ≤ x.cols.length by omega) (show (x.cols.length : Int) ≤ 6 by omega)
  have a2 := mul_bd (show 0 ≤ 60 * x.given by omega) (show 60 * x.given ≤ 120000 by omega) (show (0 : Int) ≤ x.cols.length by omega) (show (x.cols.length : Int) ≤ 6 by omega)
  have a3 := ceil_bd (by_ := x.hour) a2.1 a2.2 h8.1
  unfold runMin
  omega
set_option maxRecDepth 100000 in
set_option maxHeartbeats 2000000 in
theorem runMinutes_any (x : Run) (a : Option Addr) (c : Nat) (w : World) (h : runErr x = 0) :
    Calls Tryz.prog 37 #[.agg #[.string x.job, .int .i64 x.day, .int .i64 x.wanted, .int .i64 x.given, .slice a x.cols.length c, .int .i64 x.ready, .int .i64 x.hour]] w (CheckPost (runMin x) w) := by
  obtain ⟨-, -, h3, h4, h5, -, h7, h8⟩ := run_ok h
  obtain ⟨job, day, wanted, given, cols, ready, hour⟩ := x
  dsimp only at h3 h4 h5 h7 h8
  have a1 := mul_bd h7.1 h7.2 (show (0 : Int) ≤ cols.length by omega) (show (cols.length : Int) ≤ 6 by omega)
  have a2 := mul_bd (show 0 ≤ 60 * given by omega) (show 60 * given ≤ 120000 by omega) (show (0 : Int) ≤ cols.length by omega) (show (cols.length : Int) ≤ 6 by omega)
  have a3 := ceil_bd (by_ := hour) a2.1 a2.2 h8.1
  obtain ⟨P1, hP1⟩ : ∃ P1, P1 = ready * (cols.length : Int) := ⟨_, rfl⟩
  obtain ⟨P2, hP2⟩ : ∃ P2, P2 = 60 * given := ⟨_, rfl⟩
  obtain ⟨P3, hP3⟩ : ∃ P3, P3 = P2 * (cols.length : Int) := ⟨_, rfl⟩
  obtain ⟨P4, hP4⟩ : ∃ P4, P4 = ceilI P3 hour := ⟨_, rfl⟩
  rw [← hP2, ← hP3] at a2 a3
  rw [← hP4] at a3
  rw [← hP1] at a1
  have HE := Lib.hid (show runMin ⟨job, day, wanted, given, cols, ready, hour⟩ = P1 + P4 by unfold runMin; rw [hP4, hP3, hP2, hP1])
  have w1 : IntKind.i64.wrap (ready * (cols.length : Int)) = P1 := by rw [← hP1]; exact IntWalk.i64_in _ (by omega)
  have w2 : IntKind.i64.wrap (60 * given) = P2 := by rw [← hP2]; exact IntWalk.i64_in _ (by omega)
  have w3 : IntKind.i64.wrap (P2 * (cols.length : Int)) = P3 := by rw [← hP3]; exact IntWalk.i64_in _ (by omega)
  have w4 : IntKind.i64.wrap (P1 + P4) = P1 + P4 := IntWalk.i64_in _ (by omega)
  have HC := Lib.hid (fun W => dividedUp_any P3 hour W a2.1 (by omega) h8.1 (by omega))
  rw [← hP4] at HC
  have bx := BoxAt.new w #[.string job, .int .i64 day, .int .i64 wanted, .int .i64 given, .slice a cols.length c, .int .i64 ready, .int .i64 hour] 24
  have hb := (Below.refl w.heap.size w).alloc (Nat.le_refl _) (.cells #[.string job, .int .i64 day, .int .i64 wanted, .int .i64 given, .slice a cols.length c, .int .i64 ready, .int .i64 hour] 24)
  clear hP1 hP2 hP3 hP4 h
  go_enter Tryz.func37, Tryz.ntmps37
  go_wp2_with fail
  go_quiet ((go_at_call 36; exact Calls.quiet_of_same (flip_same (HC.out _))))
  go_wp2
  go_ret
  exact ⟨ret_int HE.out.symm, below_drewN hb _⟩
def pairPost (n e : Int) (w : World) (en : Ending) (w' : World) : Prop := en = .returned (.tuple #[.int .i64 n, .int .i64 e]) ∧ Below w.heap.size w w'
def runMinP (x : Run) : Int := if runErr x = 0 then runMin x else 0
/-- Estimate. -/
def priceB (n : Int) : Bool := inB n 0 1000000
def estErr (x : Run) (p q r : Int) : Int := if runErr x ≠ 0 then runErr x else if [p, q, r].all priceB = false then 2 else 0
def estOf (x : Run) (p q r : Int) : Int := x.given * p + x.cols.length * q + ceilI (runMin x * r) 60
def estP (x : Run) (p q r : Int) : Int := if estErr x p q r = 0 then estOf x p q r else 0
set_option maxRecDepth 100000 in
set_option maxHeartbeats 4000000 in
theorem estimate_any (x : Run) (a : Option Addr) (c : Nat) (p q r : Int) (w : World) (hj : x.job.size ≤ maxLen) (hr : RowsG 1 tx w a x.cols) (hl : x.cols.length ≤ maxLen) (hc : ∀ s ∈ x.cols, s.size ≤ maxLen) :
    Calls Tryz.prog 13 #[.agg #[.string x.job, .int .i64 x.day, .int .i64 x.wanted, .int .i64 x.given, .slice a x.cols.length c, .int .i64 x.ready, .int .i64 x.hour], .agg #[.int .i64 p, .int .i64 q, .int .i64 r]] w (pairPost (estP x p q r) (estErr x p q r) w) := by
  have hb := ((Below.refl w.heap.size w).alloc (Nat.le_refl _) (.cells #[.string x.job, .int .i64 x.day, .int .i64 x.wanted, .int .i64 x.given, .slice a x.cols.length c, .int .i64 x.ready, .int .i64 x.hour] 24)).alloc (by simp) (.cells #[.int .i64 p, .int .i64 q, .int .i64 r] 41)
  have bx := (BoxAt.new w #[.string x.job, .int .i64 x.day, .int .i64 x.wanted, .int .i64 x.given, .slice a x.cols.length c, .int .i64 x.ready, .int .i64 x.hour] 24).alloc (.cells #[.int .i64 p, .int .i64 q, .int .i64 r] 41)
  have by_ := BoxAt.new (w.alloc (.cells #[.string x.job, .int .i64 x.day, .int .i64 x.wanted, .int .i64 x.given, .slice a x.cols.length c, .int .i64 x.ready, .int .i64 x.hour] 24)) #[.int .i64 p, .int .i64 q, .int .i64 r] 41
  rw [World.size_alloc] at by_
  have HCK := Lib.hid (checkRun_any x a c ((w.alloc (.cells #[.string x.job, .int .i64 x.day, .int .i64 x.wanted, .int .i64 x.given, .slice a x.cols.length c, .int .i64 x.ready, .int .i64 x.hour] 24)).alloc (.cells #[.int .i64 p, .int .i64 q, .int .i64 r] 41)) hj ((hr.alloc _).alloc _) hl hc)
  by_cases h : runErr x = 0
  · have H := Lib.hid h
    have HB := Lib.hid (runMin_bd h)
    have HRO := Lib.hid (run_ok h)
    clear h hc hr
    go_enter Tryz.func13, Tryz.ntmps13
    go_wp2_with fail
    refine HCK.out.mono ?_
    rintro e w1 ⟨rfl, hb1⟩
    have bx1 := bx.below hb1
    have by1 := by_.below hb1
    have hB1 := hb.trans (hb1.mono (by simp <;> omega))
    have c0 := bx1.cell 0; have c1 := bx1.cell 1; have c2 := bx1.cell 2; have c3 := bx1.cell 3; have c4 := bx1.cell 4; have c5 := bx1.cell 5; have c6 := bx1.cell 6
    have d0 := by1.cell 0; have d1 := by1.cell 1; have d2 := by1.cell 2
    simp at c0 c1 c2 c3 c4 c5 c6 d0 d1 d2
    have hbl := bx1.lt
    have hyl := by1.lt
    rw [H.out]
    clear hb1 bx by_ hb HCK
    go_wp2_with fail
    have hib : IBox (w1.alloc (.cells #[.int .i64 p, .int .i64 q, .int .i64 r] 3)) w1.heap.size [p, q, r] := IBox.lit w1 [p, q, r] _ rfl
    have bx2 := bx1.alloc (.cells #[.int .i64 p, .int .i64 q, .int .i64 r] 3)
    have by2 := by1.alloc (.cells #[.int .i64 p, .int .i64 q, .int .i64 r] 3)
    have hB2 := hB1.alloc hB1.size (.cells #[.int .i64 p, .int .i64 q, .int .i64 r] 3)
    have HE0 := Lib.hid (show estErr x p q r = if ([p, q, r].drop 0).all priceB = false then 2 else 0 by unfold estErr; rw [if_neg (by simp [H.out])]; rfl)
    obtain ⟨PL, hPL⟩ : ∃ PL, PL = [p, q, r] := ⟨_, rfl⟩
    have hlen : PL.length = 3 := by rw [hPL]; rfl
    rw [← hPL] at HE0 hib
    obtain ⟨w2, hw2⟩ : ∃ w2, w2 = w1.alloc (.cells #[.int .i64 p, .int .i64 q, .int .i64 r] 3) := ⟨_, rfl⟩
    obtain ⟨g, hg⟩ : ∃ g, g = w1.heap.size := ⟨_, rfl⟩
    rw [← hw2, ← hg] at hib
    rw [← hw2] at bx2 by2 hB2
    rw [← hw2, ← hg]
    have HPL := Lib.hid hPL; have HLEN := Lib.hid hlen; have hgl := hib.lt
    have HG := Lib.hid hg
    clear hw2 hPL hlen hg c0 c1 c2 c3 c4 c5 c6 d0 d1 d2 hbl hyl bx1 by1 hB1
    go_loop [23] (fun i => ∃ k : Nat, k ≤ 3 ∧ i = .int .i64 k ∧ Hid ((PL.drop 0).all priceB = (PL.drop k).all priceB)) (fun i => 3 - (intOf i).toNat)
    case atStart => exact ⟨0, Nat.zero_le _, rfl, Lib.hid rfl⟩
    case round =>
      obtain ⟨k, hk, rfl, HR⟩ := hrel
      by_cases hlt : k < 3
      · have hkl : k < PL.length := by rw [HLEN.out]; exact hlt
        have s0 := hib.cell hkl
        have HST := Lib.hid (all_step (p := priceB) hkl)
        obtain ⟨y, ey⟩ : ∃ y, y = PL[k] := ⟨_, rfl⟩
        rw [← ey] at s0 HST
        clear ey hkl
        cases hy : inB y 0 1000000
        · have HX := Lib.hid (show estErr x p q r = 2 by rw [HE0.out, HR.out, HST.out, show priceB y = false from hy]; rfl)
          have HE := Lib.hid (show estP x p q r = 0 by unfold estP; rw [if_neg (by rw [HX.out]; decide)])
          go_wp2_with (go_at_call 35; refine (isFrom_any _ _ _ _).mono ?_; rintro e w' ⟨rfl, rfl⟩)
          go_ret2
          exact ⟨two_eq HE.out.symm HX.out.symm, hB2⟩
        · have HX := Lib.hid (show (PL.drop 0).all priceB = (PL.drop (k + 1)).all priceB by rw [HR.out, HST.out, show priceB y = true from hy]; rfl)
          go_wp2_with (go_at_call 35; refine (isFrom_any _ _ _ _).mono ?_; rintro e w' ⟨rfl, rfl⟩)
          go_round
          case rel => exact ⟨k + 1, by omega, by go_num, HX⟩
          case measure => simp [intOf]; omega
      · have hend : (PL.drop k).all priceB = true := all_stop (by have := HLEN.out; omega)
        have hall : ([p, q, r].all priceB) = true := by
          have h1 := HR.out
          rw [hend, List.drop_zero, HPL.out] at h1
          exact h1
        have HX := Lib.hid (show estErr x p q r = 0 by rw [HE0.out, HR.out, hend]; rfl)
        have HE := Lib.hid (show estP x p q r = estOf x p q r by unfold estP; rw [if_pos HX.out])
        have hp3 : (0 ≤ p ∧ p ≤ 1000000) ∧ (0 ≤ q ∧ q ≤ 1000000) ∧ (0 ≤ r ∧ r ≤ 1000000) := by
          simp [priceB] at hall
          exact ⟨inB_iff.1 hall.1, inB_iff.1 hall.2.1, inB_iff.1 hall.2.2⟩
        obtain ⟨hp, hq, hr3⟩ := hp3
        obtain ⟨job, day, wanted, given, cols, ready, hour⟩ := x
        obtain ⟨-, -, h3, h4, h5, -, h7, h8⟩ := HRO.out
        dsimp only at h3 h4 h5 h7 h8
        have hMb := HB.out
        have HRM := Lib.hid (fun W => runMinutes_any ⟨job, day, wanted, given, cols, ready, hour⟩ a c W H.out)
        obtain ⟨M, hM⟩ : ∃ M, M = runMin ⟨job, day, wanted, given, cols, ready, hour⟩ := ⟨_, rfl⟩
        rw [← hM] at hMb HRM
        have a1 := mul_bd (show 0 ≤ given by omega) (show given ≤ 2000 by omega) hp.1 hp.2
        have a2 := mul_bd (show (0 : Int) ≤ cols.length by omega) (show (cols.length : Int) ≤ 6 by omega) hq.1 hq.2
        have a3 := mul_bd hMb.1 hMb.2 hr3.1 hr3.2
        have a4 := ceil_bd (by_ := 60) a3.1 a3.2 (by omega)
        obtain ⟨P1, hP1⟩ : ∃ P1, P1 = given * p := ⟨_, rfl⟩
        obtain ⟨P2, hP2⟩ : ∃ P2, P2 = (cols.length : Int) * q := ⟨_, rfl⟩
        obtain ⟨P3, hP3⟩ : ∃ P3, P3 = M * r := ⟨_, rfl⟩
        obtain ⟨P4, hP4⟩ : ∃ P4, P4 = ceilI P3 60 := ⟨_, rfl⟩
        rw [← hP3] at a3 a4
        rw [← hP4] at a4
        rw [← hP1] at a1
        rw [← hP2] at a2
        have HEQ := Lib.hid (show estOf ⟨job, day, wanted, given, cols, ready, hour⟩ p q r = P1 + P2 + P4 by unfold estOf; rw [hP4, hP3, hP2, hP1, hM])
        have w1' : IntKind.i64.wrap (given * p) = P1 := by rw [← hP1]; exact IntWalk.i64_in _ (by omega)
        have w2' : IntKind.i64.wrap ((cols.length : Int) * q) = P2 := by rw [← hP2]; exact IntWalk.i64_in _ (by omega)
        have w3' : IntKind.i64.wrap (M * r) = P3 := by rw [← hP3]; exact IntWalk.i64_in _ (by omega)
        have w4' : IntKind.i64.wrap (P1 + P2 + P4) = P1 + P2 + P4 := IntWalk.i64_in _ (by omega)
        have HC := Lib.hid (fun W => dividedUp_any P3 60 W a3.1 (by omega) (by omega) (by omega))
        rw [← hP4] at HC
        clear hP1 hP2 hP3 hP4 hM HRO HB
        have c0 := bx2.cell 0; have c1 := bx2.cell 1; have c2 := bx2.cell 2; have c3 := bx2.cell 3; have c4 := bx2.cell 4; have c5 := bx2.cell 5; have c6 := bx2.cell 6
        have d0 := by2.cell 0; have d1 := by2.cell 1; have d2 := by2.cell 2
        simp at c0 c1 c2 c3 c4 c5 c6 d0 d1 d2
        have hbl := bx2.lt
        have hyl := by2.lt
        obtain ⟨a1, b1⟩ := a1; obtain ⟨a2, b2⟩ := a2; obtain ⟨a4, b4⟩ := a4
        clear a3
        go_wp2_with fail
        go_region_held3 (fun w' => w'.cell? ⟨w.heap.size, 0, none⟩ = some (.string job) ∧ w'.cell? ⟨w.heap.size, 1, none⟩ = some (.int .i64 day) ∧ w'.cell? ⟨w.heap.size, 2, none⟩ = some (.int .i64 wanted) ∧ w'.cell? ⟨w.heap.size, 3, none⟩ = some (.int .i64 given) ∧ w'.cell? ⟨w.heap.size, 4, none⟩ = some (.slice a cols.length c) ∧ w'.cell? ⟨w.heap.size, 5, none⟩ = some (.int .i64 ready) ∧ w'.cell? ⟨w.heap.size, 6, none⟩ = some (.int .i64 hour) ∧ w'.cell? ⟨w.heap.size + 1, 2, none⟩ = some (.int .i64 r)) (go_keep)
          (first | (go_at_call 37; refine (HRM.out _).mono ?_; rintro e w8 ⟨rfl, hb8⟩; have k0 := (bx2.drew.below hb8).cell 0; have k1 := (bx2.drew.below hb8).cell 1; have k2 := (bx2.drew.below hb8).cell 2; have k3 := (bx2.drew.below hb8).cell 3; have k4 := (bx2.drew.below hb8).cell 4; have k5 := (bx2.drew.below hb8).cell 5; have k6 := (bx2.drew.below hb8).cell 6; have k7 := (by2.drew.below hb8).cell 2; simp at k0 k1 k2 k3 k4 k5 k6 k7) | (go_at_call 36; refine (HC.out _).mono ?_; rintro e w9 ⟨rfl, rfl⟩))
        go_wp2
        go_ret2
        exact ⟨two_eq (by rw [HE.out, HEQ.out]) HX.out.symm, hB2.drew.trans (hb8.mono (by simp <;> exact hB2.size))⟩
  · have h' : (runErr x != 0) = true := by simpa using h
    have HE1 := Lib.hid (show estErr x p q r = runErr x by unfold estErr; rw [if_pos h])
    have HE := Lib.hid (show estP x p q r = 0 by unfold estP; rw [if_neg (by rw [HE1.out]; exact h)])
    clear h hc hr
    go_enter Tryz.func13, Tryz.ntmps13
    go_wp2_with fail
    refine HCK.out.mono ?_
    rintro e w1 ⟨rfl, hb1⟩
    go_wp2_with fail
    go_ret2
    exact ⟨two_eq HE.out.symm HE1.out.symm, hb.trans (hb1.mono (by simp <;> omega))⟩
end Go.Proofs.YtdgegebplebeoaaGreatDoor
