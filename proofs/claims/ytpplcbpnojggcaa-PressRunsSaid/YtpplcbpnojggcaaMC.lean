/-
  Package press: the reference's estimate; one more sheet does not make a run cheaper.
-/
import Derived.Test.YtpplcbpnojggcaaMA
namespace Go.Proofs.Ytpplcbpnojggcaa
open Go.RowKit Go.Maps

theorem ceil_mono {m n b : Int} (hb : 1 ≤ b) (h : m ≤ n) : ceilI m b ≤ ceilI n b := by
  unfold ceilI; exact Int.ediv_le_ediv (by omega) (by omega)
theorem run_more {x : Run} {g : Int} (h : runErr x = 0) (h1 : x.given ≤ g) (h2 : g ≤ 2000) : runErr { x with given := g } = 0 := by
  obtain ⟨r1, r2, r3, r4, r5, r6, r7, r8⟩ := run_ok h
  unfold runErr
  dsimp only
  rw [if_neg (by rw [r1]; decide), if_neg (by rw [inB_yes r2]; decide), if_neg (by rw [inB_yes r3]; decide), if_neg (by rw [inB_yes (by omega)]; decide), if_neg (by omega), if_neg (by omega), if_neg (by rw [r6]; simp), if_neg (by rw [inB_yes r7]; decide), if_neg (by rw [inB_yes r8]; decide)]
theorem runMin_more {x : Run} {g : Int} (h : runErr x = 0) (h1 : x.given ≤ g) : runMin x ≤ runMin { x with given := g } := by
  obtain ⟨r1, r2, r3, r4, r5, r6, r7, r8⟩ := run_ok h
  unfold runMin
  dsimp only
  have h3 : 60 * x.given * (x.cols.length : Int) ≤ 60 * g * (x.cols.length : Int) := Int.mul_le_mul_of_nonneg_right (by omega) (by omega)
  have h4 := ceil_mono r8.1 h3
  omega
theorem estOf_more {x : Run} {g p q r : Int} (h : runErr x = 0) (h1 : x.given ≤ g) (hp : 0 ≤ p) (hr : 0 ≤ r) : estOf x p q r ≤ estOf { x with given := g } p q r := by
  unfold estOf
  have h2 : x.given * p ≤ g * p := Int.mul_le_mul_of_nonneg_right h1 hp
  have h3 : runMin x * r ≤ runMin { x with given := g } * r := Int.mul_le_mul_of_nonneg_right (runMin_more h h1) hr
  have h4 := ceil_mono (b := 60) (by omega) h3
  dsimp only at h2 h3 h4 ⊢
  omega
set_option maxHeartbeats 1000000 in
theorem isPrice_any (n : Int) (w : World) :
    Calls Try.prog 25 #[.int .i64 n] w fun e w' => e = .returned (.bool (priceB n)) ∧ w = w' := by
  go_enter Try.func25, Try.ntmps25
  go_wp2_with (go_at_call 30; refine (within_any _ _ _ _).mono ?_; rintro e w' ⟨rfl, rfl⟩)
  go_ret
  exact ⟨rfl, rfl⟩
set_option maxRecDepth 100000 in
set_option maxHeartbeats 4000000 in
theorem refEstimate_any (x : Run) (a : Option Addr) (n c : Nat) (p q r : Int) (w : World) (hn : n = x.cols.length) (h : runErr x = 0) (hp : 0 ≤ p ∧ p ≤ 1000000) (hq : 0 ≤ q ∧ q ≤ 1000000) (hr3 : 0 ≤ r ∧ r ≤ 1000000) :
    Calls Try.prog 26 #[.agg #[.string x.job, .int .i64 x.day, .int .i64 x.wanted, .int .i64 x.given, .slice a n c, .int .i64 x.ready, .int .i64 x.hour], .agg #[.int .i64 p, .int .i64 q, .int .i64 r]] w (CheckPost (estOf x p q r) w) := by
  have HRM := Lib.hid (fun W => refRunMinutes_any x a n c W hn h)
  obtain ⟨-, -, hw, hg, hc, -, -, -⟩ := run_ok h
  have hMb := runMin_bd h
  have HEQ0 := Lib.hid (show estOf x p q r = x.given * p + x.cols.length * q + ceilI (runMin x * r) 60 from rfl)
  obtain ⟨E, hE⟩ : ∃ E, E = estOf x p q r := ⟨_, rfl⟩
  obtain ⟨M, hM⟩ : ∃ M, M = runMin x := ⟨_, rfl⟩
  rw [← hM] at hMb HRM HEQ0
  rw [← hE] at HEQ0 ⊢
  obtain ⟨job, day, wanted, given, cols, ready, hour⟩ := x
  dsimp only at hg hc hw hn HRM HEQ0 ⊢
  rw [← hn] at hc HEQ0
  have a1 := mul_bd (show 0 ≤ given by omega) (show given ≤ 2000 by omega) hp.1 hp.2
  have a2 := mul_bd (show (0 : Int) ≤ n by omega) (show (n : Int) ≤ 6 by omega) hq.1 hq.2
  have a3 := mul_bd hMb.1 hMb.2 hr3.1 hr3.2
  have a4 := ceil_bd (by_ := 60) a3.1 a3.2 (by omega)
  obtain ⟨P1, hP1⟩ : ∃ P1, P1 = given * p := ⟨_, rfl⟩
  obtain ⟨P2, hP2⟩ : ∃ P2, P2 = (n : Int) * q := ⟨_, rfl⟩
  obtain ⟨P3, hP3⟩ : ∃ P3, P3 = M * r := ⟨_, rfl⟩
  obtain ⟨P4, hP4⟩ : ∃ P4, P4 = ceilI P3 60 := ⟨_, rfl⟩
  rw [← hP3] at a3 a4
  rw [← hP4] at a4
  rw [← hP1] at a1
  rw [← hP2] at a2
  have HEQ := Lib.hid (show E = P1 + P2 + P4 by rw [HEQ0.out, hP4, hP3, hP2, hP1])
  have w1' : IntKind.i64.wrap (given * p) = P1 := by rw [← hP1]; exact IntWalk.i64_in _ (by omega)
  have w2' : IntKind.i64.wrap ((n : Int) * q) = P2 := by rw [← hP2]; exact IntWalk.i64_in _ (by omega)
  have w3' : IntKind.i64.wrap (M * r) = P3 := by rw [← hP3]; exact IntWalk.i64_in _ (by omega)
  have w5' : IntKind.i64.wrap (P1 + P2) = P1 + P2 := IntWalk.i64_in _ (by omega)
  have w4' : IntKind.i64.wrap (P1 + P2 + P4) = P1 + P2 + P4 := IntWalk.i64_in _ (by omega)
  have HC := Lib.hid (fun W => refCeil_any P3 60 W a3.1 (by omega) (by omega) (by omega))
  rw [← hP4] at HC
  have bx := (BoxAt.new w #[.string job, .int .i64 day, .int .i64 wanted, .int .i64 given, .slice a n c, .int .i64 ready, .int .i64 hour] 24).alloc (.cells #[.int .i64 p, .int .i64 q, .int .i64 r] 26)
  have by2 := BoxAt.new (w.alloc (.cells #[.string job, .int .i64 day, .int .i64 wanted, .int .i64 given, .slice a n c, .int .i64 ready, .int .i64 hour] 24)) #[.int .i64 p, .int .i64 q, .int .i64 r] 26
  rw [World.size_alloc] at by2
  have hb := ((Below.refl w.heap.size w).alloc (Nat.le_refl _) (.cells #[.string job, .int .i64 day, .int .i64 wanted, .int .i64 given, .slice a n c, .int .i64 ready, .int .i64 hour] 24)).alloc (by simp) (.cells #[.int .i64 p, .int .i64 q, .int .i64 r] 26)
  obtain ⟨a1, b1⟩ := a1; obtain ⟨a2, b2⟩ := a2; obtain ⟨a4, b4⟩ := a4
  clear hP1 hP2 hP3 hP4 hM hE h hn HEQ0 a3
  go_enter Try.func26, Try.ntmps26
  go_wp2_with fail
  obtain ⟨W2, hW2⟩ : ∃ W2, W2 = (w.alloc (.cells #[.string job, .int .i64 day, .int .i64 wanted, .int .i64 given, .slice a n c, .int .i64 ready, .int .i64 hour] 24)).alloc (.cells #[.int .i64 p, .int .i64 q, .int .i64 r] 26) := ⟨_, rfl⟩
  rw [← hW2] at bx by2 hb ⊢
  clear hW2
  have c0 := bx.cell 0; have c1 := bx.cell 1; have c2 := bx.cell 2; have c3 := bx.cell 3; have c4 := bx.cell 4; have c5 := bx.cell 5; have c6 := bx.cell 6
  have d0 := by2.cell 0; have d1 := by2.cell 1; have d2 := by2.cell 2
  simp at c0 c1 c2 c3 c4 c5 c6 d0 d1 d2
  have hbl := bx.lt
  have hyl := by2.lt
  have HBX := Lib.hid bx; have HBY := Lib.hid by2; have HB := Lib.hid hb
  clear bx by2 hb
  go_region_held3 (fun w' => w'.cell? ⟨w.heap.size, 0, none⟩ = some (.string job) ∧ w'.cell? ⟨w.heap.size, 1, none⟩ = some (.int .i64 day) ∧ w'.cell? ⟨w.heap.size, 2, none⟩ = some (.int .i64 wanted) ∧ w'.cell? ⟨w.heap.size, 3, none⟩ = some (.int .i64 given) ∧ w'.cell? ⟨w.heap.size, 4, none⟩ = some (.slice a n c) ∧ w'.cell? ⟨w.heap.size, 5, none⟩ = some (.int .i64 ready) ∧ w'.cell? ⟨w.heap.size, 6, none⟩ = some (.int .i64 hour) ∧ w'.cell? ⟨w.heap.size + 1, 0, none⟩ = some (.int .i64 p) ∧ w'.cell? ⟨w.heap.size + 1, 1, none⟩ = some (.int .i64 q) ∧ w'.cell? ⟨w.heap.size + 1, 2, none⟩ = some (.int .i64 r)) (go_keep)
    (first | (go_at_call 24; refine (HRM.out _).mono ?_; rintro e w8 ⟨rfl, hb8⟩; have k0 := (HBX.out.drew.below hb8).cell 0; have k1 := (HBX.out.drew.below hb8).cell 1; have k2 := (HBX.out.drew.below hb8).cell 2; have k3 := (HBX.out.drew.below hb8).cell 3; have k4 := (HBX.out.drew.below hb8).cell 4; have k5 := (HBX.out.drew.below hb8).cell 5; have k6 := (HBX.out.drew.below hb8).cell 6; have j0 := (HBY.out.drew.below hb8).cell 0; have j1 := (HBY.out.drew.below hb8).cell 1; have j2 := (HBY.out.drew.below hb8).cell 2; simp at k0 k1 k2 k3 k4 k5 k6 j0 j1 j2) | (go_at_call 91; refine (HC.out _).mono ?_; rintro e w9 ⟨rfl, rfl⟩))
  go_wp2
  go_ret
  exact ⟨ret_int HEQ.out.symm, HB.out.drew.trans (hb8.mono (by have := HB.out.size; simp; exact this))⟩
def ShortPost (n : Nat) (w : World) (e : Ending) (w' : World) : Prop := (∃ b : Bool, e = .returned (.bool b) ∧ (b = true → n ≤ 8)) ∧ Below w.heap.size w w'
set_option maxRecDepth 100000 in
set_option maxHeartbeats 2000000 in
theorem shortR_any (x : Run) (a : Option Addr) (c : Nat) (w : World) (hj : x.job.size ≤ maxLen) (hr : RowsG 1 tx w a x.cols) (hl : x.cols.length ≤ maxLen) (hc : ∀ s ∈ x.cols, s.size ≤ maxLen) :
    Calls Try.prog 18 #[.agg #[.string x.job, .int .i64 x.day, .int .i64 x.wanted, .int .i64 x.given, .slice a x.cols.length c, .int .i64 x.ready, .int .i64 x.hour]] w (ShortPost x.cols.length w) := by
  obtain ⟨job, day, wanted, given, cols, ready, hour⟩ := x
  have hj : job.size ≤ maxLen := hj
  have hl : cols.length ≤ maxLen := hl
  unfold maxLen at hj hl
  have HC : Hid (∀ s ∈ cols, s.size ≤ maxLen) := Lib.hid hc
  have HR : Hid (RowsG 1 tx w a cols) := Lib.hid hr
  clear hc hr
  dsimp only
  have bx := BoxAt.new w #[.string job, .int .i64 day, .int .i64 wanted, .int .i64 given, .slice a cols.length c, .int .i64 ready, .int .i64 hour] 24
  have hb := (Below.refl w.heap.size w).alloc (Nat.le_refl _) (.cells #[.string job, .int .i64 day, .int .i64 wanted, .int .i64 given, .slice a cols.length c, .int .i64 ready, .int .i64 hour] 24)
  by_cases h1 : 30 < job.size
  · have h1' : decide ((job.size : Int) > 30) = true := decide_eq_true (by omega)
    go_enter Try.func18, Try.ntmps18
    go_wp2
    go_ret
    exact ⟨⟨false, rfl, fun h => by cases h⟩, hb⟩
  have h1' : decide ((job.size : Int) > 30) = false := decide_eq_false (by omega)
  by_cases h2 : 8 < cols.length
  · have h2' : decide ((cols.length : Int) > 8) = true := decide_eq_true (by omega)
    clear h1
    go_enter Try.func18, Try.ntmps18
    go_wp2
    go_ret
    exact ⟨⟨false, rfl, fun h => by cases h⟩, hb⟩
  have h2' : decide ((cols.length : Int) > 8) = false := decide_eq_false (by omega)
  have hl8 : cols.length ≤ 8 := by omega
  clear h1 h2
  have HBX := Lib.hid bx
  go_enter Try.func18, Try.ntmps18
  go_wp2
  go_loopw [3] (fun i wr => ∃ k : Nat, k ≤ cols.length ∧ i = .int .i64 k ∧ wr = w.alloc (.cells #[.string job, .int .i64 day, .int .i64 wanted, .int .i64 given, .slice a cols.length c, .int .i64 ready, .int .i64 hour] 24)) (fun i _ => cols.length - (intOf i).toNat)
  case atStart => exact ⟨0, Nat.zero_le _, rfl, rfl⟩
  case round =>
    obtain ⟨k, hk, rfl, hw⟩ := hrel
    have c4 : wr.cell? ⟨w.heap.size, 4, none⟩ = some (.slice a cols.length c) := by rw [hw]; exact HBX.out.cell 4
    have hwl : w.heap.size < wr.heap.size := by rw [hw]; exact HBX.out.lt
    have HW := Lib.hid hw
    by_cases hlt : k < cols.length
    · have hlt' : (k : Int) < (cols.length : Int) := by omega
      have hrw : RowsG 1 tx wr a cols := by rw [hw]; exact HR.out.alloc _
      obtain ⟨ad, rfl, had, s0⟩ := hrw.txt hlt
      have hsz := HC.out _ (List.getElem_mem hlt)
      unfold maxLen at hsz
      obtain ⟨s, es⟩ : ∃ s, s = cols[k] := ⟨_, rfl⟩
      rw [← es] at s0 hsz
      clear es hrw hw bx hb
      by_cases h3 : 30 < s.size
      · have h3' : decide ((s.size : Int) > 30) = true := decide_eq_true (by omega)
        clear h3
        go_wp2
        go_ret
        exact ⟨⟨false, rfl, fun h => by cases h⟩, by rw [HW.out]; exact (Below.refl _ _).alloc (Nat.le_refl _) _⟩
      · have h3' : decide ((s.size : Int) > 30) = false := decide_eq_false (by omega)
        clear h3
        go_wp2
        go_roundw
        case rel => exact ⟨k + 1, by omega, by go_num, HW.out⟩
        case measure => simp [intOf]; omega
    · obtain rfl : k = cols.length := by omega
      clear hw bx hb
      go_wp2
      go_ret
      exact ⟨⟨true, rfl, fun _ => hl8⟩, by rw [HW.out]; exact (Below.refl _ _).alloc (Nat.le_refl _) _⟩
end Go.Proofs.Ytpplcbpnojggcaa
