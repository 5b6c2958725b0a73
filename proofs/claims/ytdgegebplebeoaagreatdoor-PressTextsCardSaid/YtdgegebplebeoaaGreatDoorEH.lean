/-
  Package press: ChanceOf; CheckSheets of the reference.
-/
import Derived.Test.YtdgegebplebeoaaGreatDoorEG
namespace Go.Proofs.YtdgegebplebeoaaGreatDoor
open Go.RowKit

theorem intsUnder : Tryz.prog.underlying 49 = some (.slice (Tryz.prog.elem 49)) := by
  rw [show Tryz.prog.elem 49 = 3 by kernel_rfl]; exact Tryz.underlying49
theorem intSize (W : World) : (sizeOf (Tryz.prog.elem 49)).run Tryz.prog W = .ok 1 W := by
  obtain ⟨i0, hi0, hz0, hz1, hz2⟩ := info_parts tInt.info
  rw [show Tryz.prog.elem 49 = 3 by kernel_rfl]
  simp [sizeOf, typeInfo, hi0, hz1]
def sheetsErr (n good N D : Int) : Int := if inB n 0 17 = false then 2 else if inB good 0 n = false then 2 else chErr N D 10
def chanceG (n good : Nat) (N D : Int) : Int := Int.gcd (tl N (D - N) n good) (D ^ n)
def chanceX (n good : Int) (N D : Int) : Int := if sheetsErr n good N D = 0 then tl N (D - N) n.toNat good.toNat / chanceG n.toNat good.toNat N D else 0
def chanceY (n good : Int) (N D : Int) : Int := if sheetsErr n good N D = 0 then D ^ n.toNat / chanceG n.toNat good.toNat N D else 0
theorem sheets_ok {n good N D : Int} (h : sheetsErr n good N D = 0) : (0 ≤ n ∧ n ≤ 17) ∧ (0 ≤ good ∧ good ≤ n) ∧ (0 ≤ N ∧ N ≤ D) ∧ (1 ≤ D ∧ D ≤ 10) ∧ chErr N D 10 = 0 := by
  unfold sheetsErr at h
  split at h
  · cases h
  rename_i h1
  split at h
  · cases h
  rename_i h2
  have := ch_ok h
  exact ⟨inB_iff.1 (by simpa using h1), inB_iff.1 (by simpa using h2), this.2.2.1, ⟨this.1, this.2.2.2⟩, h⟩
def ChancePost (x y e : Int) (w : World) (en : Ending) (w' : World) : Prop := en = .returned (.tuple #[.agg #[.int .i64 x, .int .i64 y], .int .i64 e]) ∧ Below w.heap.size w w'
set_option maxRecDepth 100000 in
set_option maxHeartbeats 4000000 in
theorem chanceOf_any (n good N D : Int) (w : World) (hN : OkI N) (hD : OkI D) :
    Calls Tryz.prog 15 #[.agg #[.int .i64 n, .int .i64 good, .int .i64 N, .int .i64 D]] w (ChancePost (chanceX n good N D) (chanceY n good N D) (sheetsErr n good N D) w) := by
  have hb := ((Below.refl w.heap.size w).alloc (Nat.le_refl _) (.cells #[.int .i64 n, .int .i64 good, .int .i64 N, .int .i64 D] 48)).alloc (by simp) (.cells #[.int .i64 0, .int .i64 0] 42)
  have bx := (BoxAt.new w #[.int .i64 n, .int .i64 good, .int .i64 N, .int .i64 D] 48).alloc (.cells #[.int .i64 0, .int .i64 0] 42)
  have bz := BoxAt.new (w.alloc (.cells #[.int .i64 n, .int .i64 good, .int .i64 N, .int .i64 D] 48)) #[.int .i64 0, .int .i64 0] 42
  rw [World.size_alloc] at bz
  cases h1 : inB n 0 17
  · have HE := Lib.hid (show sheetsErr n good N D = 2 by unfold sheetsErr; rw [if_pos h1])
    have HX := Lib.hid (show chanceX n good N D = 0 by unfold chanceX; rw [if_neg (by rw [HE.out]; decide)])
    have HY := Lib.hid (show chanceY n good N D = 0 by unfold chanceY; rw [if_neg (by rw [HE.out]; decide)])
    rw [HE.out, HX.out, HY.out]
    go_enter Tryz.func15, Tryz.ntmps15
    go_wp2_with (go_at_call 35; refine (isFrom_any _ _ _ _).mono ?_; rintro e w' ⟨rfl, rfl⟩)
    refine bodyPost_ret (v := .tuple #[.agg #[.int .i64 0, .int .i64 0], .int .i64 2]) (by simp [results, Tryz.results15, go_sem]) rfl ⟨rfl, ?_⟩
    (repeat (first | exact hb | refine Below.setCell ?_ (by simp) _))
  cases h2 : inB good 0 n
  · have HE := Lib.hid (show sheetsErr n good N D = 2 by unfold sheetsErr; rw [if_neg (by simp [h1]), if_pos h2])
    have HX := Lib.hid (show chanceX n good N D = 0 by unfold chanceX; rw [if_neg (by rw [HE.out]; decide)])
    have HY := Lib.hid (show chanceY n good N D = 0 by unfold chanceY; rw [if_neg (by rw [HE.out]; decide)])
    rw [HE.out, HX.out, HY.out]
    go_enter Tryz.func15, Tryz.ntmps15
    go_wp2_with (go_at_call 35; refine (isFrom_any _ _ _ _).mono ?_; rintro e w' ⟨rfl, rfl⟩)
    refine bodyPost_ret (v := .tuple #[.agg #[.int .i64 0, .int .i64 0], .int .i64 2]) (by simp [results, Tryz.results15, go_sem]) rfl ⟨rfl, ?_⟩
    (repeat (first | exact hb | refine Below.setCell ?_ (by simp) _))
  have HC := Lib.hid (fun W => errorOfSpoil_any N D W hN hD)
  have HE0 := Lib.hid (show sheetsErr n good N D = chErr N D 10 by unfold sheetsErr; rw [if_neg (by simp [h1]), if_neg (by simp [h2])])
  by_cases h3 : chErr N D 10 = 0
  · have HE := Lib.hid (HE0.out.trans h3)
    obtain ⟨hn, hg, hN', hD', -⟩ := sheets_ok HE.out
    obtain ⟨m, rfl⟩ : ∃ m : Nat, n = m := ⟨n.toNat, by omega⟩
    obtain ⟨k, rfl⟩ : ∃ k : Nat, good = k := ⟨good.toNat, by omega⟩
    have HT0 := Lib.hid (tl_drop (N := N) (G := D - N) (n := m) (k := 0) (by omega) (by omega))
    have HT := Lib.hid (tl_drop (N := N) (G := D - N) (n := m) (k := k) (by omega) (by omega))
    have HA := Lib.hid (tl_all (N := N) (G := D - N) (n := m) (by omega))
    rw [show N + (D - N) = D by omega] at HA
    have hab := all_bd (D := D) (n := m) (by omega) (by omega) (by omega)
    have hle := tl_le (N := N) (G := D - N) (by omega) (by omega) m k (by omega)
    have hnn := tl_nonneg (N := N) (G := D - N) (by omega) (by omega) m k
    rw [HA.out] at hle
    have HX := Lib.hid (show chanceX m k N D = tl N (D - N) m k / Int.gcd (tl N (D - N) m k) (D ^ m) by unfold chanceX; rw [if_pos HE.out]; rfl)
    have HY := Lib.hid (show chanceY m k N D = D ^ m / Int.gcd (tl N (D - N) m k) (D ^ m) by unfold chanceY; rw [if_pos HE.out]; rfl)
    obtain ⟨E, hE⟩ : ∃ E, E = tl N (D - N) m k := ⟨_, rfl⟩
    obtain ⟨A, hA⟩ : ∃ A, A = D ^ m := ⟨_, rfl⟩
    rw [← hE] at hle hnn HX HY HT
    rw [← hA] at hab hle HX HY HA
    have HGB := Lib.hid (gcd_le (a := E) hab.1)
    have HDV := Lib.hid (fun W => divisorOf_any E A W (OkI.of (by omega) (by omega)) hab.1 (OkI.of (by omega) (by omega)))
    obtain ⟨g, hgg⟩ : ∃ g : Int, g = Int.gcd E A := ⟨_, rfl⟩
    rw [← hgg] at HGB HDV HX HY
    obtain ⟨g1, g2⟩ := HGB.out
    obtain ⟨hab1, hab2⟩ := hab
    have HW := Lib.hid (fun W => weightsOf_any m N D W (by omega) hN'.1 hN'.2 hD'.1 hD'.2)
    have HNN : Hid (∀ x ∈ wts N (D - N) m, 0 ≤ x) := Lib.hid fun x hx => by
      obtain ⟨j, _, rfl⟩ := List.mem_map.1 hx
      exact wf_nonneg hN'.1 (by omega) m j
    have hcut : ∀ (b : Nat) (W : World), (Instr.sliceAt 49 (.slice (some ⟨b, 0, none⟩) (m + 1) (m + 1)) (some (.int .i64 (k : Int))) none none).run Tryz.prog W = .ok (.slice (some ⟨b, k, none⟩) (m + 1 - k) (m + 1 - k)) W := fun b W => by
      have h := cut_high (P := Tryz.prog) 49 ⟨b, 0, none⟩ (m + 1) (m + 1) k intsUnder 1 intSize (by omega) W
      rw [if_neg (by omega), Nat.mul_one, add0] at h
      exact h
    have hz : (g == 0) = false := by simp; omega
    have q1 : 0 ≤ E / g ∧ E / g ≤ 100000000000000000 := ⟨Int.ediv_nonneg hnn (by omega), Int.le_trans (Int.ediv_le_self _ hnn) (by omega)⟩
    have q2 : 0 ≤ A / g ∧ A / g ≤ 100000000000000000 := ⟨Int.ediv_nonneg (by omega) (by omega), Int.le_trans (Int.ediv_le_self _ (by omega)) (by omega)⟩
    obtain ⟨X, hX⟩ : ∃ X, X = E / g := ⟨_, rfl⟩
    obtain ⟨Y, hY⟩ : ∃ Y, Y = A / g := ⟨_, rfl⟩
    rw [← hX] at q1 HX
    rw [← hY] at q2 HY
    have t1 : IntKind.i64.wrap (E.tdiv g) = X := by rw [Int.tdiv_eq_ediv_of_nonneg hnn, ← hX]; exact IntWalk.i64_in _ (by omega)
    have t2 : IntKind.i64.wrap (A.tdiv g) = Y := by rw [Int.tdiv_eq_ediv_of_nonneg (by omega), ← hY]; exact IntWalk.i64_in _ (by omega)
    rw [HE.out, HX.out, HY.out]
    have H3 := Lib.hid h3
    have hk1 : ¬ ((m : Int) + 1 < (k : Int)) := by omega
    clear h3 hE hA hgg HE0 q1 q2
    go_enter Tryz.func15, Tryz.ntmps15
    go_wp2_with (first | (go_at_call 35; refine (isFrom_any _ _ _ _).mono ?_; rintro e w' ⟨rfl, rfl⟩) | fail)
    refine (HC.out _).mono ?_
    rintro e w1 ⟨rfl, hb1⟩
    rw [H3.out]
    have bx1 := bx.below hb1
    have bz1 := bz.below hb1
    have hB1 := hb.trans (hb1.mono (B' := w.heap.size) (by simp <;> omega))
    have c0 := bx1.cell 0; have c1 := bx1.cell 1; have c2 := bx1.cell 2; have c3 := bx1.cell 3
    simp at c0 c1 c2 c3
    have hbl := bx1.lt
    clear hb1 hb bx bz
    go_wp2_with fail
    refine (HW.out _).mono ?_
    rintro e w2 ⟨b, rfl, ib, hbb, hb2⟩
    have bx2 := bx1.below hb2
    have bz2 := bz1.below hb2
    have hB2 := hB1.trans (hb2.mono (B' := w.heap.size) hB1.size)
    have hr := ib.rows
    have hr2 : RowsAt 1 intL w2 (some ⟨b, k, none⟩) ((wts N (D - N) m).drop k) := by
      have := hr.drop k
      rw [Nat.mul_one, add0] at this
      exact this
    clear c0 c1 c2 c3 hbl bx1 bz1 hB1 hb2 hbb
    have c0 := bx2.cell 0; have c1 := bx2.cell 1; have c2 := bx2.cell 2; have c3 := bx2.cell 3
    simp at c0 c1 c2 c3
    have hbl := bx2.lt
    go_wp2_with fail
    refine (sumOf_any _ ((wts N (D - N) m).drop k) _ _ _ (by rw [List.length_drop, wts_len]) hr2 (by rw [List.length_drop, wts_len]; omega) (fun x hx => HNN.out x (List.mem_of_mem_drop hx)) (by rw [HT.out]; omega)).mono ?_
    rintro e w' ⟨rfl, rfl⟩
    rw [HT.out]
    go_wp2_with fail
    refine (sumOf_any _ (wts N (D - N) m) _ _ _ (by rw [wts_len]) hr (by rw [wts_len]; omega) HNN.out (by have := HT0.out; rw [List.drop_zero] at this; rw [this, HA.out]; omega)).mono ?_
    rintro e w' ⟨rfl, rfl⟩
    rw [show sumI (wts N (D - N) m) = A by have := HT0.out; rw [List.drop_zero] at this; rw [this, HA.out]]
    go_wp2_with fail
    refine (HDV.out _).mono ?_
    rintro e w3 ⟨rfl, hd⟩
    have bz3 := hd.box bz2
    have hB3 := hd.below hB2
    clear hr hr2 ib bx2 bz2 hB2 hd c0 c1 c2 c3 hbl
    have z0 := bz3.free 0; have z1 := bz3.free 1
    have d0 := bz3.cell 0; have d1 := bz3.cell 1
    simp at d0 d1
    have hzl := bz3.lt
    have e1 : E / g = X := hX.symm
    have e2 : A / g = Y := hY.symm
    clear hX hY
    go_wp2_with fail
    go_region
    go_wp2
    refine bodyPost_ret (v := .tuple #[.agg #[.int .i64 X, .int .i64 Y], .int .i64 0]) (by simp [results, Tryz.results15, go_sem, d0, d1]) rfl ⟨rfl, ?_⟩
    (repeat (first | exact hB3 | refine Below.setCell ?_ (by simp) _ | refine Below.drew ?_))
  · have hb3 : (chErr N D 10 != 0) = true := by simpa using h3
    have HX := Lib.hid (show chanceX n good N D = 0 by unfold chanceX; rw [if_neg (by rw [HE0.out]; exact h3)])
    have HY := Lib.hid (show chanceY n good N D = 0 by unfold chanceY; rw [if_neg (by rw [HE0.out]; exact h3)])
    rw [HE0.out, HX.out, HY.out]
    clear h3
    go_enter Tryz.func15, Tryz.ntmps15
    go_wp2_with (first | (go_at_call 35; refine (isFrom_any _ _ _ _).mono ?_; rintro e w' ⟨rfl, rfl⟩) | fail)
    refine (HC.out _).mono ?_
    rintro e w1 ⟨rfl, hb1⟩
    have bz1 := bz.below hb1
    have d0 := bz1.cell 0; have d1 := bz1.cell 1
    simp at d0 d1
    have z0 := bz1.free 0; have z1 := bz1.free 1
    have hzl := bz1.lt
    go_wp2_with fail
    refine bodyPost_ret (v := .tuple #[.agg #[.int .i64 0, .int .i64 0], .int .i64 (chErr N D 10)]) (by simp [results, Tryz.results15, go_sem, d0, d1]) rfl ⟨rfl, ?_⟩
    have hB1 := hb.trans (hb1.mono (B' := w.heap.size) (by simp <;> omega))
    (repeat (first | exact hB1 | refine Below.setCell ?_ (by simp) _))
end Go.Proofs.YtdgegebplebeoaaGreatDoor
