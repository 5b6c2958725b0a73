/-
  Package press: ExpectedGood; base.Lowest.
-/
import Derived.Test.YtpplcbpnojggcaaMH
namespace Go.Proofs.Ytpplcbpnojggcaa
open Go.RowKit

def expErr (n N D : Int) : Int := if inB n 0 2000 = false then 2 else chErr N D 10
def expX (n N D : Int) : Int := if expErr n N D = 0 then n * (D - N) / Int.gcd (n * (D - N)) D else 0
def expY (n N D : Int) : Int := if expErr n N D = 0 then D / Int.gcd (n * (D - N)) D else 0
set_option maxRecDepth 100000 in
set_option maxHeartbeats 4000000 in
theorem expected_any (n N D : Int) (w : World) (hN : OkI N) (hD : OkI D) :
    Calls Try.prog 28 #[.int .i64 n, .agg #[.int .i64 N, .int .i64 D]] w (ChancePost (expX n N D) (expY n N D) (expErr n N D) w) := by
  have hb := ((Below.refl w.heap.size w).alloc (Nat.le_refl _) (.cells #[.int .i64 N, .int .i64 D] 40)).alloc (by simp) (.cells #[.int .i64 0, .int .i64 0] 40)
  have bx := (BoxAt.new w #[.int .i64 N, .int .i64 D] 40).alloc (.cells #[.int .i64 0, .int .i64 0] 40)
  have bz := BoxAt.new (w.alloc (.cells #[.int .i64 N, .int .i64 D] 40)) #[.int .i64 0, .int .i64 0] 40
  rw [World.size_alloc] at bz
  cases h1 : inB n 0 2000
  · have HE := Lib.hid (show expErr n N D = 2 by unfold expErr; rw [if_pos h1])
    have HX := Lib.hid (show expX n N D = 0 by unfold expX; rw [if_neg (by rw [HE.out]; decide)])
    have HY := Lib.hid (show expY n N D = 0 by unfold expY; rw [if_neg (by rw [HE.out]; decide)])
    rw [HE.out, HX.out, HY.out]
    go_enter Try.func28, Try.ntmps28
    go_wp2_with (go_at_call 85; refine (isFrom_any _ _ _ _).mono ?_; rintro e w' ⟨rfl, rfl⟩)
    refine bodyPost_ret (v := .tuple #[.agg #[.int .i64 0, .int .i64 0], .int .i64 2]) (by simp [results, Try.results28, go_sem]) rfl ⟨rfl, ?_⟩
    (repeat (first | exact hb | refine Below.setCell ?_ (by simp) _))
  have HC := Lib.hid (fun W => errorOfSpoil_any N D W hN hD)
  have HE0 := Lib.hid (show expErr n N D = chErr N D 10 by unfold expErr; rw [if_neg (by simp [h1])])
  by_cases h3 : chErr N D 10 = 0
  · have HE := Lib.hid (HE0.out.trans h3)
    obtain ⟨hD1, -, hN1, hD2⟩ := ch_ok h3
    have hn := inB_iff.1 h1
    have HX := Lib.hid (show expX n N D = n * (D - N) / Int.gcd (n * (D - N)) D by unfold expX; rw [if_pos HE.out])
    have HY := Lib.hid (show expY n N D = D / Int.gcd (n * (D - N)) D by unfold expY; rw [if_pos HE.out])
    have hub := mul_bd (a := n) (b := D - N) (A := 2000) (B := 10) hn.1 hn.2 (by omega) (by omega)
    obtain ⟨G, hG⟩ : ∃ G, G = D - N := ⟨_, rfl⟩
    rw [← hG] at hub HX HY
    obtain ⟨E, hE⟩ : ∃ E, E = n * G := ⟨_, rfl⟩
    rw [← hE] at hub HX HY
    have v1 : IntKind.i64.wrap (D - N) = G := by rw [← hG]; exact IntWalk.i64_in _ (by omega)
    have v2 : IntKind.i64.wrap (n * G) = E := by rw [← hE]; exact IntWalk.i64_in _ (by omega)
    have HGB := Lib.hid (gcd_le (a := E) hD1)
    have HDV := Lib.hid (fun W => divisorOf_any E D W (OkI.of (by omega) (by omega)) hD1 (OkI.of (by omega) (by omega)))
    obtain ⟨g, hgg⟩ : ∃ g : Int, g = Int.gcd E D := ⟨_, rfl⟩
    rw [← hgg] at HGB HDV HX HY
    obtain ⟨g1, g2⟩ := HGB.out
    have hz : (g == 0) = false := by simp; omega
    have q1 : 0 ≤ E / g ∧ E / g ≤ 20000 := ⟨Int.ediv_nonneg hub.1 (by omega), Int.le_trans (Int.ediv_le_self _ hub.1) (by omega)⟩
    have q2 : 0 ≤ D / g ∧ D / g ≤ 10 := ⟨Int.ediv_nonneg (by omega) (by omega), Int.le_trans (Int.ediv_le_self _ (by omega)) (by omega)⟩
    obtain ⟨X, hX⟩ : ∃ X, X = E / g := ⟨_, rfl⟩
    obtain ⟨Y, hY⟩ : ∃ Y, Y = D / g := ⟨_, rfl⟩
    rw [← hX] at q1 HX
    rw [← hY] at q2 HY
    have t1 : IntKind.i64.wrap (E.tdiv g) = X := by rw [Int.tdiv_eq_ediv_of_nonneg hub.1, ← hX]; exact IntWalk.i64_in _ (by omega)
    have t2 : IntKind.i64.wrap (D.tdiv g) = Y := by rw [Int.tdiv_eq_ediv_of_nonneg (by omega), ← hY]; exact IntWalk.i64_in _ (by omega)
    rw [HE.out, HX.out, HY.out]
    have H3 := Lib.hid h3
    have e1 : E / g = X := hX.symm
    have e2 : D / g = Y := hY.symm
    clear h3 hE hG hgg HE0 hX hY
    go_enter Try.func28, Try.ntmps28
    go_wp2_with (first | (go_at_call 85; refine (isFrom_any _ _ _ _).mono ?_; rintro e w' ⟨rfl, rfl⟩) | fail)
    refine (HC.out _).mono ?_
    rintro e w1 ⟨rfl, hb1⟩
    rw [H3.out]
    have bx1 := bx.below hb1
    have bz1 := bz.below hb1
    have hB1 := hb.trans (hb1.mono (B' := w.heap.size) (by simp <;> omega))
    have c0 := bx1.cell 0; have c1 := bx1.cell 1
    simp at c0 c1
    have hbl := bx1.lt
    clear hb1 hb bx bz
    go_wp2_with fail
    refine (HDV.out _).mono ?_
    rintro e w3 ⟨rfl, hd⟩
    have bx3 := hd.box bx1
    have bz3 := hd.box bz1
    have hB3 := hd.below hB1
    clear bx1 bz1 hB1 hd c0 c1 hbl
    have c0 := bx3.cell 0; have c1 := bx3.cell 1
    simp at c0 c1
    have hbl := bx3.lt
    have z0 := bz3.free 0; have z1 := bz3.free 1
    have d0 := bz3.cell 0; have d1 := bz3.cell 1
    simp at d0 d1
    have hzl := bz3.lt
    go_wp2_with fail
    go_region
    go_wp2
    refine bodyPost_ret (v := .tuple #[.agg #[.int .i64 X, .int .i64 Y], .int .i64 0]) (by simp [results, Try.results28, go_sem, d0, d1]) rfl ⟨rfl, ?_⟩
    (repeat (first | exact hB3 | refine Below.setCell ?_ (by simp) _ | refine Below.drew ?_))
  · have hb3 : (chErr N D 10 != 0) = true := by simpa using h3
    have HX := Lib.hid (show expX n N D = 0 by unfold expX; rw [if_neg (by rw [HE0.out]; exact h3)])
    have HY := Lib.hid (show expY n N D = 0 by unfold expY; rw [if_neg (by rw [HE0.out]; exact h3)])
    rw [HE0.out, HX.out, HY.out]
    clear h3
    go_enter Try.func28, Try.ntmps28
    go_wp2_with (first | (go_at_call 85; refine (isFrom_any _ _ _ _).mono ?_; rintro e w' ⟨rfl, rfl⟩) | fail)
    refine (HC.out _).mono ?_
    rintro e w1 ⟨rfl, hb1⟩
    have bz1 := bz.below hb1
    have d0 := bz1.cell 0; have d1 := bz1.cell 1
    simp at d0 d1
    have z0 := bz1.free 0; have z1 := bz1.free 1
    have hzl := bz1.lt
    go_wp2_with fail
    refine bodyPost_ret (v := .tuple #[.agg #[.int .i64 0, .int .i64 0], .int .i64 (chErr N D 10)]) (by simp [results, Try.results28, go_sem, d0, d1]) rfl ⟨rfl, ?_⟩
    have hB1 := hb.trans (hb1.mono (B' := w.heap.size) (by simp <;> omega))
    (repeat (first | exact hB1 | refine Below.setCell ?_ (by simp) _))
set_option maxRecDepth 100000 in
set_option maxHeartbeats 4000000 in
theorem lowest_any (E D : Int) (w : World) (h0 : 0 ≤ E) (h1 : E ≤ 1000000000000000000) (h2 : 1 ≤ D) (h3 : D ≤ 1000000000000000000) :
    Calls Try.prog 31 #[.int .i64 E, .int .i64 D] w (AggPost (.agg #[.int .i64 (E / Int.gcd E D), .int .i64 (D / Int.gcd E D)]) w) := by
  have hb := (Below.refl w.heap.size w).alloc (Nat.le_refl _) (.cells #[.int .i64 0, .int .i64 0] 40)
  have bz := BoxAt.new w #[.int .i64 0, .int .i64 0] 40
  have HGB := Lib.hid (gcd_le (a := E) h2)
  have HDV := Lib.hid (fun W => refGcd_any E D W (OkI.of (by omega) (by omega)) h2 (OkI.of (by omega) (by omega)))
  obtain ⟨g, hgg⟩ : ∃ g : Int, g = Int.gcd E D := ⟨_, rfl⟩
  rw [← hgg] at HGB HDV ⊢
  obtain ⟨g1, g2⟩ := HGB.out
  have hz : (g == 0) = false := by simp; omega
  have q1 : 0 ≤ E / g ∧ E / g ≤ 1000000000000000000 := ⟨Int.ediv_nonneg h0 (by omega), Int.le_trans (Int.ediv_le_self _ h0) (by omega)⟩
  have q2 : 0 ≤ D / g ∧ D / g ≤ 1000000000000000000 := ⟨Int.ediv_nonneg (by omega) (by omega), Int.le_trans (Int.ediv_le_self _ (by omega)) (by omega)⟩
  obtain ⟨X, hX⟩ : ∃ X, X = E / g := ⟨_, rfl⟩
  obtain ⟨Y, hY⟩ : ∃ Y, Y = D / g := ⟨_, rfl⟩
  rw [← hX] at q1 ⊢
  rw [← hY] at q2 ⊢
  have t1 : IntKind.i64.wrap (E.tdiv g) = X := by rw [Int.tdiv_eq_ediv_of_nonneg h0, ← hX]; exact IntWalk.i64_in _ (by omega)
  have t2 : IntKind.i64.wrap (D.tdiv g) = Y := by rw [Int.tdiv_eq_ediv_of_nonneg (by omega), ← hY]; exact IntWalk.i64_in _ (by omega)
  have e1 : E / g = X := hX.symm
  have e2 : D / g = Y := hY.symm
  have hnl : ¬ D < 0 := by omega
  clear hgg hX hY
  go_enter Try.func31, Try.ntmps31
  go_wp2_with fail
  refine (HDV.out _).mono ?_
  rintro e w3 ⟨rfl, hd⟩
  have bz3 := hd.box bz
  have hB3 := hd.below hb
  clear bz hb hd
  have z0 := bz3.free 0; have z1 := bz3.free 1
  have d0 := bz3.cell 0; have d1 := bz3.cell 1
  simp at d0 d1
  have hzl := bz3.lt
  go_wp2_with fail
  go_region
  go_wp2
  refine bodyPost_ret (v := .agg #[.int .i64 X, .int .i64 Y]) (by simp [results, Try.results31, go_sem, d0, d1]) rfl ⟨rfl, ?_⟩
  (repeat (first | exact hB3 | refine Below.setCell ?_ (by simp) _ | refine Below.drew ?_))
end Go.Proofs.Ytpplcbpnojggcaa
