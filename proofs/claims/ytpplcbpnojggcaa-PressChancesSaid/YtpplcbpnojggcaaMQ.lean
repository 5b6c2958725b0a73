/-
  Package press: the reference's ChanceOf.
-/
import Derived.Test.YtpplcbpnojggcaaMP
namespace Go.Proofs.Ytpplcbpnojggcaa
open Go.RowKit

set_option maxRecDepth 100000 in
set_option maxHeartbeats 4000000 in
theorem refChanceOf_any (n good N D : Int) (w : World) (he : sheetsErr n good N D = 0) :
    Calls Try.prog 33 #[.agg #[.int .i64 n, .int .i64 good, .int .i64 N, .int .i64 D]] w (AggPost (.agg #[.int .i64 (chanceX n good N D), .int .i64 (chanceY n good N D)]) w) := by
  have hb := ((Below.refl w.heap.size w).alloc (Nat.le_refl _) (.cells #[.int .i64 n, .int .i64 good, .int .i64 N, .int .i64 D] 42)).alloc (by simp) (.cells #[.int .i64 0, .int .i64 0] 43)
  have bx := (BoxAt.new w #[.int .i64 n, .int .i64 good, .int .i64 N, .int .i64 D] 42).alloc (.cells #[.int .i64 0, .int .i64 0] 43)
  have bz := BoxAt.new (w.alloc (.cells #[.int .i64 n, .int .i64 good, .int .i64 N, .int .i64 D] 42)) #[.int .i64 0, .int .i64 0] 43
  rw [World.size_alloc] at bz
  obtain ⟨hn, hg, hN', hD', -⟩ := sheets_ok he
  obtain ⟨m, rfl⟩ : ∃ m : Nat, n = m := ⟨n.toNat, by omega⟩
  obtain ⟨k, rfl⟩ : ∃ k : Nat, good = k := ⟨good.toNat, by omega⟩
  have hab := all_bd (D := D) (n := m) (by omega) (by omega) (by omega)
  have HA := Lib.hid (tl_all (N := N) (G := D - N) (n := m) (by omega))
  rw [show N + (D - N) = D by omega] at HA
  have hle := tl_le (N := N) (G := D - N) (by omega) (by omega) m k (by omega)
  have hnn := tl_nonneg (N := N) (G := D - N) (by omega) (by omega) m k
  rw [HA.out] at hle
  have HX := Lib.hid (show chanceX m k N D = tl N (D - N) m k / Int.gcd (tl N (D - N) m k) (D ^ m) by unfold chanceX; rw [if_pos he]; rfl)
  have HY := Lib.hid (show chanceY m k N D = D ^ m / Int.gcd (tl N (D - N) m k) (D ^ m) by unfold chanceY; rw [if_pos he]; rfl)
  have HG := Lib.hid (fun W => good_any m k N D W (by omega) (by omega) hN'.1 hN'.2 hD'.1 hD'.2)
  have HP := Lib.hid (fun W => power_any D m W (by omega) hD'.2 (by omega))
  obtain ⟨E, hE⟩ : ∃ E, E = tl N (D - N) m k := ⟨_, rfl⟩
  obtain ⟨A, hA⟩ : ∃ A, A = D ^ m := ⟨_, rfl⟩
  rw [← hE] at hle hnn HX HY HG
  rw [← hA] at hab hle HX HY HP
  have HGB := Lib.hid (gcd_le (a := E) hab.1)
  have HDV := Lib.hid (fun W => refGcd_any E A W (OkI.of (by omega) (by omega)) hab.1 (OkI.of (by omega) (by omega)))
  obtain ⟨g, hgg⟩ : ∃ g : Int, g = Int.gcd E A := ⟨_, rfl⟩
  rw [← hgg] at HGB HDV HX HY
  obtain ⟨g1, g2⟩ := HGB.out
  obtain ⟨hab1, hab2⟩ := hab
  have hz : (g == 0) = false := by simp; omega
  have q1 : 0 ≤ E / g ∧ E / g ≤ 100000000000000000 := ⟨Int.ediv_nonneg hnn (by omega), Int.le_trans (Int.ediv_le_self _ hnn) (by omega)⟩
  have q2 : 0 ≤ A / g ∧ A / g ≤ 100000000000000000 := ⟨Int.ediv_nonneg (by omega) (by omega), Int.le_trans (Int.ediv_le_self _ (by omega)) (by omega)⟩
  obtain ⟨X, hX⟩ : ∃ X, X = E / g := ⟨_, rfl⟩
  obtain ⟨Y, hY⟩ : ∃ Y, Y = A / g := ⟨_, rfl⟩
  rw [← hX] at q1 HX
  rw [← hY] at q2 HY
  have t1 : IntKind.i64.wrap (E.tdiv g) = X := by rw [Int.tdiv_eq_ediv_of_nonneg hnn, ← hX]; exact IntWalk.i64_in _ (by omega)
  have t2 : IntKind.i64.wrap (A.tdiv g) = Y := by rw [Int.tdiv_eq_ediv_of_nonneg (by omega), ← hY]; exact IntWalk.i64_in _ (by omega)
  rw [HX.out, HY.out]
  have e1 : E / g = X := hX.symm
  have e2 : A / g = Y := hY.symm
  have c0 := bx.cell 0; have c1 := bx.cell 1; have c2 := bx.cell 2; have c3 := bx.cell 3
  have hbl := bx.lt
  obtain ⟨W0, hW0⟩ : ∃ W0, W0 = (w.alloc (.cells #[.int .i64 m, .int .i64 k, .int .i64 N, .int .i64 D] 42)).alloc (.cells #[.int .i64 0, .int .i64 0] 43) := ⟨_, rfl⟩
  rw [← hW0] at hb bx bz c0 c1 c2 c3 hbl
  simp at c0 c1 c2 c3
  have HB := Lib.hid hb; have HBX := Lib.hid bx; have HBZ := Lib.hid bz
  clear hE hA hgg hX hY q1 q2 he hb bx bz
  go_enter Try.func33, Try.ntmps33
  go_wp2_with fail
  rw [← hW0]
  clear hW0
  refine Code.wp_mono (Q := fun e a' w' => match e with
    | .normal => a' = { tmps := #[.agg #[.int .i64 m, .int .i64 k, .int .i64 N, .int .i64 D], .pointer (some ⟨w.heap.size, 0, none⟩), .pointer (some ⟨w.heap.size + 1, 0, none⟩), .int .i64 E, .int .i64 A, undef, .agg #[.int .i64 m, .int .i64 k, .int .i64 N, .int .i64 D], .int .i64 E, .pointer (some ⟨w.heap.size, 2, none⟩), .pointer (some ⟨w.heap.size, 3, none⟩), .int .i64 D, .pointer (some ⟨w.heap.size, 0, none⟩), .int .i64 m, .int .i64 A, undef, undef, undef, undef, undef, undef, undef, undef, undef, undef], defers := [] } ∧ Below W0.drew.heap.size W0.drew w'
    | _ => False) ?cont ?reg
  case reg =>
    go_region_with ((first
      | (go_at_call 98; refine (HG.out _).mono ?_; rintro e w4 ⟨rfl, hb4⟩; have k0 := (HBX.out.drew.below hb4).cell 0; have k3 := (HBX.out.drew.below hb4).cell 3; simp at k0 k3; have hkl := (HBX.out.drew.below hb4).lt)
      | (go_at_call 99; refine (HP.out _).mono ?_; rintro e w5 ⟨rfl, rfl⟩)))
    all_goals exact ⟨rfl, hb4⟩
  case cont =>
    rintro e a' w4 hq
    cases e <;> try exact hq.elim
    obtain ⟨rfl, hb4⟩ := hq
    have bz4 := HBZ.out.drew.below hb4
    have hB4 := (HB.out.drew).trans (hb4.mono (B' := w.heap.size) HB.out.drew.size)
    clear c0 c1 c2 c3 hbl hb4
    go_wp2_with fail
    refine (HDV.out _).mono ?_
    rintro e w3 ⟨rfl, hd⟩
    have bz3 := hd.box bz4
    have hB3 := hd.below hB4
    clear bz4 hB4 hd
    have z0 := bz3.free 0; have z1 := bz3.free 1
    have d0 := bz3.cell 0; have d1 := bz3.cell 1
    simp at d0 d1
    have hzl := bz3.lt
    go_wp2_with fail
    go_region
    go_wp2
    refine bodyPost_ret (v := .agg #[.int .i64 X, .int .i64 Y]) (by simp [results, Try.results33, go_sem, d0, d1]) rfl ⟨rfl, ?_⟩
    (repeat (first | exact hB3 | refine Below.setCell ?_ (by simp) _ | refine Below.drew ?_))
end Go.Proofs.Ytpplcbpnojggcaa
