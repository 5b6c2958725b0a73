/-
  Over the chapters: the walk of the law on sheets, sheet by sheet.
-/
import Derived.Test.YtpplcbpnojggcaaEI
import Derived.Test.YtpplcbpnojggcaaEK
namespace Go.Proofs.Ytpplcbpnojggcaa
open Go.RowKit

/-- What a chance of right sheets is. -/
theorem chance_sc {n good N D : Int} (h : sheetsErr n good N D = 0) : ScOk (chanceX n good N D) (chanceY n good N D) (D ^ n.toNat) (tl N (D - N) n.toNat good.toNat) := by
  obtain ⟨hn, hg, hN, hD, -⟩ := sheets_ok h
  unfold chanceX chanceY
  rw [if_pos h, if_pos h]
  have hab := all_bd (D := D) (n := n.toNat) (by omega) (by omega) (by omega)
  have hle := tl_le (N := N) (G := D - N) (by omega) (by omega) n.toNat good.toNat (by omega)
  have hA := tl_all (N := N) (G := D - N) (n := n.toNat) (by omega)
  rw [show N + (D - N) = D by omega] at hA
  rw [hA] at hle
  exact sc_ok (tl_nonneg (N := N) (G := D - N) (by omega) (by omega) _ _) hle hab.1 hab.2
theorem sheets_less {n good N D : Int} (h : sheetsErr n good N D = 0) (h1 : 1 ≤ n) (k : Int) (h2 : 0 ≤ k) (h3 : k ≤ n - 1) : sheetsErr (n - 1) k N D = 0 := by
  obtain ⟨hn, hg, hN, hD, he⟩ := sheets_ok h
  unfold sheetsErr
  rw [if_neg (by rw [inB_yes (by omega)]; simp), if_neg (by rw [inB_yes (by omega)]; simp)]
  exact he
set_option maxRecDepth 100000 in
set_option maxHeartbeats 8000000 in
theorem sheets_walk (n good N D : Int) (w : World) (hN : OkI N) (hD : OkI D) :
    Calls Try.prog 15 #[.agg #[.int .i64 n, .int .i64 good, .int .i64 N, .int .i64 D]] w fun e w' => e = .returned (.bool true) ∧ Below w.heap.size w w' := by
  have bx := BoxAt.new w #[.int .i64 n, .int .i64 good, .int .i64 N, .int .i64 D] 42
  have hb := (Below.refl w.heap.size w).alloc (Nat.le_refl _) (.cells #[.int .i64 n, .int .i64 good, .int .i64 N, .int .i64 D] 42)
  by_cases he : sheetsErr n good N D = 0
  · obtain ⟨g0, gg, gN, gD, -⟩ := sheets_ok he
    have H0 := Lib.hid he
    have HCA := Lib.hid (fun W => chanceOf_any n good N D W hN hD)
    have HS := Lib.hid (chance_sc he)
    cases hi : inB n 1 7
    · clear he
      go_enter Try.func15, Try.ntmps15
      go_wp2_with fail
      refine (printed_any _).mono ?_
      rintro e w1 ⟨rfl, hb1⟩
      have bx1 := bx.below hb1
      have hB1 := hb.trans (hb1.mono (B' := w.heap.size) (by simp))
      have c0 := bx1.cell 0; have c1 := bx1.cell 1; have c2 := bx1.cell 2; have c3 := bx1.cell 3
      simp at c0 c1 c2 c3
      have hbl := bx1.lt
      go_wp2_with fail
      refine (checkSheets_any n good N D _ hN hD).mono ?_
      rintro e w2 ⟨rfl, hb2⟩
      rw [H0.out]
      have bx2 := bx1.below hb2
      have hB2 := hB1.trans (hb2.mono (B' := w.heap.size) hB1.size)
      clear c0 c1 c2 c3 hbl
      have c0 := bx2.cell 0; have c1 := bx2.cell 1; have c2 := bx2.cell 2; have c3 := bx2.cell 3
      simp at c0 c1 c2 c3
      have hbl := bx2.lt
      go_wp2_with (go_at_call 30; refine (within_any _ _ _ _).mono ?_; rintro e w' ⟨rfl, rfl⟩)
      go_ret
      exact ⟨rfl, hB2⟩
    obtain ⟨n1, n7⟩ := inB_iff.1 hi
    have hcb := fun j : Nat => fun (hj : j ≤ 7) => all_bd (D := D) (n := j) (by omega) (by omega) (by omega)
    have HCB := Lib.hid hcb; clear hcb
    have HP : Hid (D ^ n.toNat = D ^ (n - 1).toNat * D) := Lib.hid (by rw [← Int.pow_succ]; congr 1; omega)
    have hCb := HCB.out (n - 1).toNat (by omega)
    have hAb := HCB.out n.toNat (by omega)
    by_cases hk0 : good = 0
    · subst hk0
      have HCB1 := Lib.hid (fun W => chanceOf_any (n - 1) 0 N D W hN hD)
      have HE1 := Lib.hid (sheets_less H0.out n1 0 (by omega) (by omega))
      have HS1 := Lib.hid (chance_sc HE1.out)
      have HCB2 := Lib.hid (fun W => chanceOf_any (n - 1) 0 N D W hN hD)
      have HE2 := Lib.hid (sheets_less H0.out n1 0 (by omega) (by omega))
      have HS2 := Lib.hid (chance_sc HE2.out)
      have HID := Lib.hid (show tl N (D - N) n.toNat (0 : Int).toNat = (D - N) * tl N (D - N) (n - 1).toNat (0 : Int).toNat + N * tl N (D - N) (n - 1).toNat (0 : Int).toNat by rw [show n.toNat = (n - 1).toNat + 1 by omega, show (0 : Int).toNat = 0 from rfl, tl_zero (by omega), ← Int.add_mul, Int.mul_comm]; congr 1; omega)
      rw [H0.out] at HCA; rw [HE1.out] at HCB1
      rw [HE2.out] at HCB2
      have HWH := Lib.hid (show chanceX n 0 N D = 1 ∧ chanceY n 0 N D = 1 by
        have ha := tl_all (N := N) (G := D - N) (n := n.toNat) (by omega)
        rw [show N + (D - N) = D by omega] at ha
        unfold chanceX chanceY chanceG
        rw [if_pos H0.out, if_pos H0.out, show (0 : Int).toNat = 0 from rfl, ha]
        have hgc : ((Int.gcd (D ^ n.toNat) (D ^ n.toNat) : Nat) : Int) = D ^ n.toNat := by rw [Int.gcd_self]; omega
        rw [hgc]
        have : D ^ n.toNat / D ^ n.toNat = 1 := Int.ediv_self (by omega)
        exact ⟨this, this⟩)
      obtain ⟨C, hC⟩ : ∃ C, C = D ^ (n - 1).toNat := ⟨_, rfl⟩
      obtain ⟨A, hA⟩ : ∃ A, A = D ^ n.toNat := ⟨_, rfl⟩
      rw [← hC] at hCb HS1 HS2
      rw [← hA] at hAb HS
      rw [← hC, ← hA] at HP
      obtain ⟨E, hE⟩ : ∃ E, E = tl N (D - N) n.toNat (0 : Int).toNat := ⟨_, rfl⟩
      obtain ⟨E1, hE1⟩ : ∃ E1, E1 = tl N (D - N) (n - 1).toNat (0 : Int).toNat := ⟨_, rfl⟩
      obtain ⟨E2, hE2⟩ : ∃ E2, E2 = tl N (D - N) (n - 1).toNat (0 : Int).toNat := ⟨_, rfl⟩
      rw [← hE] at HS HID
      rw [← hE1] at HID HS1 HS2
      have HS2 : Hid (ScOk (chanceX (n - 1) 0 N D) (chanceY (n - 1) 0 N D) C E1) := HS2
      clear hE2 E2
      obtain ⟨X, hX⟩ : ∃ X, X = chanceX n 0 N D := ⟨_, rfl⟩
      obtain ⟨Y, hY⟩ : ∃ Y, Y = chanceY n 0 N D := ⟨_, rfl⟩
      obtain ⟨X1, hX1⟩ : ∃ X, X = chanceX (n - 1) 0 N D := ⟨_, rfl⟩
      obtain ⟨Y1, hY1⟩ : ∃ X, X = chanceY (n - 1) 0 N D := ⟨_, rfl⟩
      rw [← hX, ← hY] at HS HCA
      rw [← hX1, ← hY1] at HS1 HCB1 HS2 HCB2
      rw [← hX, ← hY] at HWH
      obtain ⟨X2, hX2⟩ : ∃ X, X = X1 := ⟨_, rfl⟩
      obtain ⟨Y2, hY2⟩ : ∃ X, X = Y1 := ⟨_, rfl⟩
      rw [← hX2, ← hY2] at HS2 HCB2
      have hbE := HS.out.e0; have hbE2 := HS.out.eA; have hbF := HS1.out.e0; have hbF2 := HS1.out.eA; have hbG := HS2.out.e0; have hbG2 := HS2.out.eA
      have m1 := mul_bd (show 0 ≤ D - N by omega) (show D - N ≤ 10 by omega) hbF (show E1 ≤ 100000000000000000 by omega)
      have m2 := mul_bd (show 0 ≤ N by omega) (show N ≤ 10 by omega) hbG (show E1 ≤ (100000000000000000 : Int) by omega)
      obtain ⟨R1, hR1⟩ : ∃ R, R = (D - N) * E1 := ⟨_, rfl⟩
      obtain ⟨R2, hR2⟩ : ∃ R, R = N * E1 := ⟨_, rfl⟩
      rw [← hR1] at m1 HID; rw [← hR2] at m2 HID
      have v1 : IntKind.i64.wrap ((D - N) * E1) = R1 := by rw [← hR1]; exact IntWalk.i64_in _ (by omega)
      have v2 : IntKind.i64.wrap (N * E1) = R2 := by rw [← hR2]; exact IntWalk.i64_in _ (by omega)
      have v3 : IntKind.i64.wrap (C * D) = A := by rw [← HP.out]; exact IntWalk.i64_in _ (by omega)
      have v4 : (E == R1 + R2) = true := by rw [HID.out]; simp
      obtain ⟨m1a, m1b⟩ := m1; obtain ⟨m2a, m2b⟩ := m2
      have HCC := Lib.hid hC
      clear hE hE1 hX hY hX1 hY1 hR1 hR2 hA hC he HE1 hX2 hY2
      obtain ⟨hC1, hC2⟩ := hCb; obtain ⟨hA1, hA2⟩ := hAb
      go_enter Try.func15, Try.ntmps15
      go_wp2_with fail
      refine (printed_any _).mono ?_
      rintro e w1 ⟨rfl, hb1⟩
      have bx1 := bx.below hb1
      have hB1 := hb.trans (hb1.mono (B' := w.heap.size) (by simp))
      have c0 := bx1.cell 0; have c1 := bx1.cell 1; have c2 := bx1.cell 2; have c3 := bx1.cell 3
      simp at c0 c1 c2 c3
      have hbl := bx1.lt
      go_wp2_with fail
      refine (checkSheets_any n 0 N D _ hN hD).mono ?_
      rintro e w2 ⟨rfl, hb2⟩
      rw [H0.out]
      have bx2 := bx1.below hb2
      have hB2 := hB1.trans (hb2.mono (B' := w.heap.size) hB1.size)
      clear c0 c1 c2 c3 hbl hb hb1 hb2 bx bx1 hB1
      have c0 := bx2.cell 0; have c1 := bx2.cell 1; have c2 := bx2.cell 2; have c3 := bx2.cell 3
      simp at c0 c1 c2 c3
      have hbl := bx2.lt
      go_wp2_with (go_at_call 30; refine (within_any _ _ _ _).mono ?_; rintro e w' ⟨rfl, rfl⟩)
      go_loop [3, 4] (fun x i => ∃ j : Nat, (j : Int) ≤ n - 1 ∧ i = .int .i64 ((j : Int) + 1) ∧ ∃ q : Int, x = .int .i64 q ∧ Hid (q = D ^ j)) (fun _ i => (n - intOf i).toNat)
      case atStart => exact ⟨0, by omega, rfl, 1, rfl, Lib.hid (by simp)⟩
      case round =>
        obtain ⟨j, hj, rfl, q, rfl, HQ⟩ := hrel
        by_cases hlt : (j : Int) + 1 < n
        · have HQ2 := Lib.hid (show q * D = D ^ (j + 1) by rw [HQ.out, Int.pow_succ])
          have hqb := HCB.out j (by omega)
          have hqb2 := HCB.out (j + 1) (by omega)
          rw [← HQ.out] at hqb
          obtain ⟨q2, hq2⟩ : ∃ q2, q2 = D ^ (j + 1) := ⟨_, rfl⟩
          rw [← hq2] at HQ2 hqb2
          have v5 : IntKind.i64.wrap (q * D) = q2 := by rw [HQ2.out]; exact IntWalk.i64_in _ (by omega)
          have HQ3 := Lib.hid hq2
          clear hq2 hqb hqb2
          go_wp2
          go_round
          case rel => exact ⟨j + 1, by omega, by go_num, q2, rfl, HQ3⟩
          case measure => simp [intOf]; omega
        · have hqC : q = C := by rw [HQ.out, HCC.out]; congr 1; omega
          have HQC := Lib.hid hqC
          subst hqC
          clear HQ HQC HCC
          have hje : (j : Int) + 1 = n := by omega
          have hnn : ¬ ((j : Int) + 1 < n) := hlt
          go_wp2_with fail
          refine (HCA.out _).mono ?_
          rintro e w3 ⟨rfl, hb3⟩
          have bx3 := bx2.below hb3
          have hB3 := hB2.trans (hb3.mono (B' := w.heap.size) hB2.size)
          clear c0 c1 c2 c3 hbl hb3 hB2 bx2
          have b5 := BoxAt.new w3 #[.int .i64 X, .int .i64 Y] 43
          have bx4 := bx3.alloc (.cells #[.int .i64 X, .int .i64 Y] 43)
          have hB4 := hB3.alloc hB3.size (.cells #[.int .i64 X, .int .i64 Y] 43)
          have c0 := bx3.cell 0; have c1 := bx3.cell 1; have c2 := bx3.cell 2; have c3 := bx3.cell 3
          simp at c0 c1 c2 c3
          have hbl := bx3.lt
          have hmax : max (-1 : Int) 0 = 0 := by decide
          go_wp2_with fail
          refine (HCB1.out _).mono ?_
          rintro e w4 ⟨rfl, hb4⟩
          have bx5 := bx4.below hb4
          have b55 := b5.below hb4
          have hB5 := hB4.trans (hb4.mono (B' := w.heap.size) hB4.size)
          have hx35 : w.heap.size < w3.heap.size := hbl
          have hx34 : w3.heap.size < w4.heap.size := by have := hb4.size; simp at this; omega
          obtain ⟨g5, hg5⟩ : ∃ g, g = w3.heap.size := ⟨_, rfl⟩
          rw [← hg5] at b55 hx35 hx34 ⊢
          clear hg5 c0 c1 c2 c3 hbl hb4 hB4 hB3 bx4 bx3 b5
          have bx6 := (bx5.alloc (.cells #[.int .i64 X1, .int .i64 Y1] 43)).alloc (.cells #[.int .i64 0, .int .i64 1] 43)
          have b56 := (b55.alloc (.cells #[.int .i64 X1, .int .i64 Y1] 43)).alloc (.cells #[.int .i64 0, .int .i64 1] 43)
          have b76 := (BoxAt.new w4 #[.int .i64 X1, .int .i64 Y1] 43).alloc (.cells #[.int .i64 0, .int .i64 1] 43)
          have b96 := BoxAt.new (w4.alloc (.cells #[.int .i64 X1, .int .i64 Y1] 43)) #[.int .i64 0, .int .i64 1] 43
          rw [World.size_alloc] at b96
          have hB6 := (hB5.alloc hB5.size (.cells #[.int .i64 X1, .int .i64 Y1] 43)).alloc (by have := hB5.size; simp; omega) (.cells #[.int .i64 0, .int .i64 1] 43)
          have c0 := bx5.cell 0; have c1 := bx5.cell 1; have c2 := bx5.cell 2; have c3 := bx5.cell 3
          simp at c0 c1 c2 c3
          have hbl := bx5.lt
          have hlg : ((0 : Int) < n) := by omega
          go_wp2_with fail
          refine (HCB2.out _).mono ?_
          rintro e w5 ⟨rfl, hb5⟩
          have bx7 := bx6.below hb5; have b57 := b56.below hb5; have b77 := b76.below hb5; have b97 := b96.below hb5
          have hB7 := hB6.trans (hb5.mono (B' := w.heap.size) hB6.size)
          obtain ⟨g7, hg7⟩ : ∃ g, g = w4.heap.size := ⟨_, rfl⟩
          have hx57 : g5 < g7 := by rw [hg7]; exact hx34
          rw [← hg7] at b77 b97 ⊢
          have hbw : w.heap.size < w5.heap.size := bx7.lt
          clear hg7 c0 c1 c2 c3 hbl hb5 hB5 hB6 bx5 bx6 b55 b56 b76 b96 hx34
          have z0 := b97.free 0; have z1 := b97.free 1; have d0 := b97.cell 0; have d1 := b97.cell 1
          simp at d0 d1
          have hbl := b97.lt
          have c0 := bx7.cell 0; have c1 := bx7.cell 1; have c2 := bx7.cell 2; have c3 := bx7.cell 3
          simp at c0 c1 c2 c3
          go_wp2_with fail
          obtain ⟨w7, hw7⟩ : ∃ w7, w7 = ((w5.setCell ⟨g7 + 1, 0, none⟩ (.int .i64 X2)).setCell ⟨g7 + 1, 1, none⟩ (.int .i64 Y2)).alloc (.cells #[.int .i64 X2, .int .i64 Y2] 43) := ⟨_, rfl⟩
          first | rw [← hw7] | trace_state
          have bx8 : BoxAt w7 w.heap.size #[.int .i64 n, .int .i64 0, .int .i64 N, .int .i64 D] 42 := by rw [hw7]; exact ((bx7.set_other (by show w.heap.size ≠ g7 + 1; omega) _).set_other (by show w.heap.size ≠ g7 + 1; omega) _).alloc _
          have b58 : BoxAt w7 g5 #[.int .i64 X, .int .i64 Y] 43 := by rw [hw7]; exact ((b57.set_other (by show g5 ≠ g7 + 1; omega) _).set_other (by show g5 ≠ g7 + 1; omega) _).alloc _
          have b78 : BoxAt w7 g7 #[.int .i64 X1, .int .i64 Y1] 43 := by rw [hw7]; exact ((b77.set_other (by show g7 ≠ g7 + 1; omega) _).set_other (by show g7 ≠ g7 + 1; omega) _).alloc _
          have b98 : BoxAt w7 (g7 + 1) #[.int .i64 X2, .int .i64 Y2] 43 := by rw [hw7]; exact ((b97.set 0 _).set 1 _).alloc _
          have hB8 : Below w.heap.size w w7 := by rw [hw7]; exact ((hB7.setCell (p := ⟨g7 + 1, 0, none⟩) (by show w.heap.size ≤ g7 + 1; omega) _).setCell (p := ⟨g7 + 1, 1, none⟩) (by show w.heap.size ≤ g7 + 1; omega) _).alloc (by simp; omega) _
          clear hw7 c0 c1 c2 c3 d0 d1 z0 z1 hbl hB7 bx7 b57 b77 b97
          have c3 := bx8.cell 3; have c0 := bx8.cell 0; have c1 := bx8.cell 1; have c2 := bx8.cell 2; have d0 := b58.cell 0; have d1 := b58.cell 1; have d2 := b78.cell 0; have d3 := b78.cell 1; have d4 := b98.cell 0; have d5 := b98.cell 1
          simp at c0 c1 c2 c3 d0 d1 d2 d3 d4 d5
          have l0 := bx8.lt; have l5 := b58.lt; have l7 := b78.lt; have l9 := b98.lt
          have hq : Below w7.heap.size w7 w7.drew := (Below.refl _ w7).drew
          go_region_held3 (fun w' => w'.cell? ⟨w.heap.size, 3, none⟩ = some (.int .i64 D) ∧ w'.cell? ⟨w.heap.size, 0, none⟩ = some (.int .i64 n) ∧ w'.cell? ⟨w.heap.size, 1, none⟩ = some (.int .i64 0) ∧ w'.cell? ⟨w.heap.size, 2, none⟩ = some (.int .i64 N) ∧ w'.cell? ⟨g5, 0, none⟩ = some (.int .i64 X) ∧ w'.cell? ⟨g5, 1, none⟩ = some (.int .i64 Y) ∧ w'.cell? ⟨g7, 0, none⟩ = some (.int .i64 X1) ∧ w'.cell? ⟨g7, 1, none⟩ = some (.int .i64 Y1) ∧ w'.cell? ⟨g7 + 1, 0, none⟩ = some (.int .i64 X2) ∧ w'.cell? ⟨g7 + 1, 1, none⟩ = some (.int .i64 Y2)) (go_keep) (first | (go_at_call 77; (with_reducible refine (scaled_any _ _ _ _ HS.out _).mono ?_); rintro e v ⟨rfl, hbv⟩; have hq := hq.trans (hbv.mono (B' := w7.heap.size) hq.size); have j0 := (hq.cell (p := ⟨w.heap.size, 3, none⟩) l0).trans c3; have j1 := (hq.cell (p := ⟨w.heap.size, 0, none⟩) l0).trans c0; have j2 := (hq.cell (p := ⟨w.heap.size, 1, none⟩) l0).trans c1; have j3 := (hq.cell (p := ⟨w.heap.size, 2, none⟩) l0).trans c2; have j4 := (hq.cell (p := ⟨g5, 0, none⟩) l5).trans d0; have j5 := (hq.cell (p := ⟨g5, 1, none⟩) l5).trans d1; have j6 := (hq.cell (p := ⟨g7, 0, none⟩) l7).trans d2; have j7 := (hq.cell (p := ⟨g7, 1, none⟩) l7).trans d3; have j8 := (hq.cell (p := ⟨g7 + 1, 0, none⟩) l9).trans d4; have j9 := (hq.cell (p := ⟨g7 + 1, 1, none⟩) l9).trans d5) | (go_at_call 77; (with_reducible refine (scaled_any _ _ _ _ HS1.out _).mono ?_); rintro e v ⟨rfl, hbv⟩; have hq := hq.trans (hbv.mono (B' := w7.heap.size) hq.size); have j0 := (hq.cell (p := ⟨w.heap.size, 3, none⟩) l0).trans c3; have j1 := (hq.cell (p := ⟨w.heap.size, 0, none⟩) l0).trans c0; have j2 := (hq.cell (p := ⟨w.heap.size, 1, none⟩) l0).trans c1; have j3 := (hq.cell (p := ⟨w.heap.size, 2, none⟩) l0).trans c2; have j4 := (hq.cell (p := ⟨g5, 0, none⟩) l5).trans d0; have j5 := (hq.cell (p := ⟨g5, 1, none⟩) l5).trans d1; have j6 := (hq.cell (p := ⟨g7, 0, none⟩) l7).trans d2; have j7 := (hq.cell (p := ⟨g7, 1, none⟩) l7).trans d3; have j8 := (hq.cell (p := ⟨g7 + 1, 0, none⟩) l9).trans d4; have j9 := (hq.cell (p := ⟨g7 + 1, 1, none⟩) l9).trans d5) | (go_at_call 77; (with_reducible refine (scaled_any _ _ _ _ HS2.out _).mono ?_); rintro e v ⟨rfl, hbv⟩; have hq := hq.trans (hbv.mono (B' := w7.heap.size) hq.size); have j0 := (hq.cell (p := ⟨w.heap.size, 3, none⟩) l0).trans c3; have j1 := (hq.cell (p := ⟨w.heap.size, 0, none⟩) l0).trans c0; have j2 := (hq.cell (p := ⟨w.heap.size, 1, none⟩) l0).trans c1; have j3 := (hq.cell (p := ⟨w.heap.size, 2, none⟩) l0).trans c2; have j4 := (hq.cell (p := ⟨g5, 0, none⟩) l5).trans d0; have j5 := (hq.cell (p := ⟨g5, 1, none⟩) l5).trans d1; have j6 := (hq.cell (p := ⟨g7, 0, none⟩) l7).trans d2; have j7 := (hq.cell (p := ⟨g7, 1, none⟩) l7).trans d3; have j8 := (hq.cell (p := ⟨g7 + 1, 0, none⟩) l9).trans d4; have j9 := (hq.cell (p := ⟨g7 + 1, 1, none⟩) l9).trans d5))
          have hWX := HWH.out.1; have hWY := HWH.out.2
          subst hWX; subst hWY
          have hnp : ∀ W : World, (binOp .neq 43 (.agg #[.int .i64 1, .int .i64 1]) (.agg #[.int .i64 1, .int .i64 1])).run Try.prog W = .ok (.bool false) W := fun W => neq_pair 1 1 1 1 W
          go_wp2
          go_ret
          exact ⟨rfl, hB8.trans (hq.mono (B' := w.heap.size) hB8.size)⟩
    by_cases hkn : good < n
    · skip
      have HCB1 := Lib.hid (fun W => chanceOf_any (n - 1) (good - 1) N D W hN hD)
      have HE1 := Lib.hid (sheets_less H0.out n1 (good - 1) (by omega) (by omega))
      have HS1 := Lib.hid (chance_sc HE1.out)
      have HCB2 := Lib.hid (fun W => chanceOf_any (n - 1) good N D W hN hD)
      have HE2 := Lib.hid (sheets_less H0.out n1 good (by omega) (by omega))
      have HS2 := Lib.hid (chance_sc HE2.out)
      have HID := Lib.hid (show tl N (D - N) n.toNat good.toNat = (D - N) * tl N (D - N) (n - 1).toNat (good - 1).toNat + N * tl N (D - N) (n - 1).toNat good.toNat by rw [show n.toNat = (n - 1).toNat + 1 by omega, show good.toNat = (good - 1).toNat + 1 by omega, tl_succ, Int.mul_comm, Int.add_comm, Int.mul_comm])
      rw [H0.out] at HCA; rw [HE1.out] at HCB1
      rw [HE2.out] at HCB2
      obtain ⟨C, hC⟩ : ∃ C, C = D ^ (n - 1).toNat := ⟨_, rfl⟩
      obtain ⟨A, hA⟩ : ∃ A, A = D ^ n.toNat := ⟨_, rfl⟩
      rw [← hC] at hCb HS1 HS2
      rw [← hA] at hAb HS
      rw [← hC, ← hA] at HP
      obtain ⟨E, hE⟩ : ∃ E, E = tl N (D - N) n.toNat (good : Int).toNat := ⟨_, rfl⟩
      obtain ⟨E1, hE1⟩ : ∃ E1, E1 = tl N (D - N) (n - 1).toNat ((good - 1) : Int).toNat := ⟨_, rfl⟩
      obtain ⟨E2, hE2⟩ : ∃ E2, E2 = tl N (D - N) (n - 1).toNat (good : Int).toNat := ⟨_, rfl⟩
      rw [← hE] at HS HID
      rw [← hE1] at HS1 HID
      rw [← hE2] at HS2 HID
      obtain ⟨X, hX⟩ : ∃ X, X = chanceX n good N D := ⟨_, rfl⟩
      obtain ⟨Y, hY⟩ : ∃ Y, Y = chanceY n good N D := ⟨_, rfl⟩
      obtain ⟨X1, hX1⟩ : ∃ X, X = chanceX (n - 1) (good - 1) N D := ⟨_, rfl⟩
      obtain ⟨Y1, hY1⟩ : ∃ X, X = chanceY (n - 1) (good - 1) N D := ⟨_, rfl⟩
      rw [← hX, ← hY] at HS HCA
      rw [← hX1, ← hY1] at HS1 HCB1
      obtain ⟨X2, hX2⟩ : ∃ X, X = chanceX (n - 1) good N D := ⟨_, rfl⟩
      obtain ⟨Y2, hY2⟩ : ∃ X, X = chanceY (n - 1) good N D := ⟨_, rfl⟩
      rw [← hX2, ← hY2] at HS2 HCB2
      have hbE := HS.out.e0; have hbE2 := HS.out.eA; have hbF := HS1.out.e0; have hbF2 := HS1.out.eA; have hbG := HS2.out.e0; have hbG2 := HS2.out.eA
      have m1 := mul_bd (show 0 ≤ D - N by omega) (show D - N ≤ 10 by omega) hbF (show E1 ≤ 100000000000000000 by omega)
      have m2 := mul_bd (show 0 ≤ N by omega) (show N ≤ 10 by omega) hbG (show E2 ≤ (100000000000000000 : Int) by omega)
      obtain ⟨R1, hR1⟩ : ∃ R, R = (D - N) * E1 := ⟨_, rfl⟩
      obtain ⟨R2, hR2⟩ : ∃ R, R = N * E2 := ⟨_, rfl⟩
      rw [← hR1] at m1 HID; rw [← hR2] at m2 HID
      have v1 : IntKind.i64.wrap ((D - N) * E1) = R1 := by rw [← hR1]; exact IntWalk.i64_in _ (by omega)
      have v2 : IntKind.i64.wrap (N * E2) = R2 := by rw [← hR2]; exact IntWalk.i64_in _ (by omega)
      have v3 : IntKind.i64.wrap (C * D) = A := by rw [← HP.out]; exact IntWalk.i64_in _ (by omega)
      have v4 : (E == R1 + R2) = true := by rw [HID.out]; simp
      obtain ⟨m1a, m1b⟩ := m1; obtain ⟨m2a, m2b⟩ := m2
      have HCC := Lib.hid hC
      clear hE hE1 hX hY hX1 hY1 hR1 hR2 hA hC he HE1 hX2 hY2
      clear hE2
      obtain ⟨hC1, hC2⟩ := hCb; obtain ⟨hA1, hA2⟩ := hAb
      go_enter Try.func15, Try.ntmps15
      go_wp2_with fail
      refine (printed_any _).mono ?_
      rintro e w1 ⟨rfl, hb1⟩
      have bx1 := bx.below hb1
      have hB1 := hb.trans (hb1.mono (B' := w.heap.size) (by simp))
      have c0 := bx1.cell 0; have c1 := bx1.cell 1; have c2 := bx1.cell 2; have c3 := bx1.cell 3
      simp at c0 c1 c2 c3
      have hbl := bx1.lt
      go_wp2_with fail
      refine (checkSheets_any n good N D _ hN hD).mono ?_
      rintro e w2 ⟨rfl, hb2⟩
      rw [H0.out]
      have bx2 := bx1.below hb2
      have hB2 := hB1.trans (hb2.mono (B' := w.heap.size) hB1.size)
      clear c0 c1 c2 c3 hbl hb hb1 hb2 bx bx1 hB1
      have c0 := bx2.cell 0; have c1 := bx2.cell 1; have c2 := bx2.cell 2; have c3 := bx2.cell 3
      simp at c0 c1 c2 c3
      have hbl := bx2.lt
      go_wp2_with (go_at_call 30; refine (within_any _ _ _ _).mono ?_; rintro e w' ⟨rfl, rfl⟩)
      go_loop [3, 4] (fun x i => ∃ j : Nat, (j : Int) ≤ n - 1 ∧ i = .int .i64 ((j : Int) + 1) ∧ ∃ q : Int, x = .int .i64 q ∧ Hid (q = D ^ j)) (fun _ i => (n - intOf i).toNat)
      case atStart => exact ⟨0, by omega, rfl, 1, rfl, Lib.hid (by simp)⟩
      case round =>
        obtain ⟨j, hj, rfl, q, rfl, HQ⟩ := hrel
        by_cases hlt : (j : Int) + 1 < n
        · have HQ2 := Lib.hid (show q * D = D ^ (j + 1) by rw [HQ.out, Int.pow_succ])
          have hqb := HCB.out j (by omega)
          have hqb2 := HCB.out (j + 1) (by omega)
          rw [← HQ.out] at hqb
          obtain ⟨q2, hq2⟩ : ∃ q2, q2 = D ^ (j + 1) := ⟨_, rfl⟩
          rw [← hq2] at HQ2 hqb2
          have v5 : IntKind.i64.wrap (q * D) = q2 := by rw [HQ2.out]; exact IntWalk.i64_in _ (by omega)
          have HQ3 := Lib.hid hq2
          clear hq2 hqb hqb2
          go_wp2
          go_round
          case rel => exact ⟨j + 1, by omega, by go_num, q2, rfl, HQ3⟩
          case measure => simp [intOf]; omega
        · have hqC : q = C := by rw [HQ.out, HCC.out]; congr 1; omega
          have HQC := Lib.hid hqC
          subst hqC
          clear HQ HQC HCC
          have hje : (j : Int) + 1 = n := by omega
          have hnn : ¬ ((j : Int) + 1 < n) := hlt
          go_wp2_with fail
          refine (HCA.out _).mono ?_
          rintro e w3 ⟨rfl, hb3⟩
          have bx3 := bx2.below hb3
          have hB3 := hB2.trans (hb3.mono (B' := w.heap.size) hB2.size)
          clear c0 c1 c2 c3 hbl hb3 hB2 bx2
          have b5 := BoxAt.new w3 #[.int .i64 X, .int .i64 Y] 43
          have bx4 := bx3.alloc (.cells #[.int .i64 X, .int .i64 Y] 43)
          have hB4 := hB3.alloc hB3.size (.cells #[.int .i64 X, .int .i64 Y] 43)
          have c0 := bx3.cell 0; have c1 := bx3.cell 1; have c2 := bx3.cell 2; have c3 := bx3.cell 3
          simp at c0 c1 c2 c3
          have hbl := bx3.lt
          have hmax : max (good - 1) 0 = good - 1 := by omega
          go_wp2_with fail
          refine (HCB1.out _).mono ?_
          rintro e w4 ⟨rfl, hb4⟩
          have bx5 := bx4.below hb4
          have b55 := b5.below hb4
          have hB5 := hB4.trans (hb4.mono (B' := w.heap.size) hB4.size)
          have hx35 : w.heap.size < w3.heap.size := hbl
          have hx34 : w3.heap.size < w4.heap.size := by have := hb4.size; simp at this; omega
          obtain ⟨g5, hg5⟩ : ∃ g, g = w3.heap.size := ⟨_, rfl⟩
          rw [← hg5] at b55 hx35 hx34 ⊢
          clear hg5 c0 c1 c2 c3 hbl hb4 hB4 hB3 bx4 bx3 b5
          have bx6 := (bx5.alloc (.cells #[.int .i64 X1, .int .i64 Y1] 43)).alloc (.cells #[.int .i64 0, .int .i64 1] 43)
          have b56 := (b55.alloc (.cells #[.int .i64 X1, .int .i64 Y1] 43)).alloc (.cells #[.int .i64 0, .int .i64 1] 43)
          have b76 := (BoxAt.new w4 #[.int .i64 X1, .int .i64 Y1] 43).alloc (.cells #[.int .i64 0, .int .i64 1] 43)
          have b96 := BoxAt.new (w4.alloc (.cells #[.int .i64 X1, .int .i64 Y1] 43)) #[.int .i64 0, .int .i64 1] 43
          rw [World.size_alloc] at b96
          have hB6 := (hB5.alloc hB5.size (.cells #[.int .i64 X1, .int .i64 Y1] 43)).alloc (by have := hB5.size; simp; omega) (.cells #[.int .i64 0, .int .i64 1] 43)
          have c0 := bx5.cell 0; have c1 := bx5.cell 1; have c2 := bx5.cell 2; have c3 := bx5.cell 3
          simp at c0 c1 c2 c3
          have hbl := bx5.lt
          go_wp2_with fail
          refine (HCB2.out _).mono ?_
          rintro e w5 ⟨rfl, hb5⟩
          have bx7 := bx6.below hb5; have b57 := b56.below hb5; have b77 := b76.below hb5; have b97 := b96.below hb5
          have hB7 := hB6.trans (hb5.mono (B' := w.heap.size) hB6.size)
          obtain ⟨g7, hg7⟩ : ∃ g, g = w4.heap.size := ⟨_, rfl⟩
          have hx57 : g5 < g7 := by rw [hg7]; exact hx34
          rw [← hg7] at b77 b97 ⊢
          have hbw : w.heap.size < w5.heap.size := bx7.lt
          clear hg7 c0 c1 c2 c3 hbl hb5 hB5 hB6 bx5 bx6 b55 b56 b76 b96 hx34
          have z0 := b97.free 0; have z1 := b97.free 1; have d0 := b97.cell 0; have d1 := b97.cell 1
          simp at d0 d1
          have hbl := b97.lt
          have c0 := bx7.cell 0; have c1 := bx7.cell 1; have c2 := bx7.cell 2; have c3 := bx7.cell 3
          simp at c0 c1 c2 c3
          go_wp2_with fail
          obtain ⟨w7, hw7⟩ : ∃ w7, w7 = ((w5.setCell ⟨g7 + 1, 0, none⟩ (.int .i64 X2)).setCell ⟨g7 + 1, 1, none⟩ (.int .i64 Y2)).alloc (.cells #[.int .i64 X2, .int .i64 Y2] 43) := ⟨_, rfl⟩
          first | rw [← hw7] | trace_state
          have bx8 : BoxAt w7 w.heap.size #[.int .i64 n, .int .i64 good, .int .i64 N, .int .i64 D] 42 := by rw [hw7]; exact ((bx7.set_other (by show w.heap.size ≠ g7 + 1; omega) _).set_other (by show w.heap.size ≠ g7 + 1; omega) _).alloc _
          have b58 : BoxAt w7 g5 #[.int .i64 X, .int .i64 Y] 43 := by rw [hw7]; exact ((b57.set_other (by show g5 ≠ g7 + 1; omega) _).set_other (by show g5 ≠ g7 + 1; omega) _).alloc _
          have b78 : BoxAt w7 g7 #[.int .i64 X1, .int .i64 Y1] 43 := by rw [hw7]; exact ((b77.set_other (by show g7 ≠ g7 + 1; omega) _).set_other (by show g7 ≠ g7 + 1; omega) _).alloc _
          have b98 : BoxAt w7 (g7 + 1) #[.int .i64 X2, .int .i64 Y2] 43 := by rw [hw7]; exact ((b97.set 0 _).set 1 _).alloc _
          have hB8 : Below w.heap.size w w7 := by rw [hw7]; exact ((hB7.setCell (p := ⟨g7 + 1, 0, none⟩) (by show w.heap.size ≤ g7 + 1; omega) _).setCell (p := ⟨g7 + 1, 1, none⟩) (by show w.heap.size ≤ g7 + 1; omega) _).alloc (by simp; omega) _
          clear hw7 c0 c1 c2 c3 d0 d1 z0 z1 hbl hB7 bx7 b57 b77 b97
          have c3 := bx8.cell 3; have c0 := bx8.cell 0; have c1 := bx8.cell 1; have c2 := bx8.cell 2; have d0 := b58.cell 0; have d1 := b58.cell 1; have d2 := b78.cell 0; have d3 := b78.cell 1; have d4 := b98.cell 0; have d5 := b98.cell 1
          simp at c0 c1 c2 c3 d0 d1 d2 d3 d4 d5
          have l0 := bx8.lt; have l5 := b58.lt; have l7 := b78.lt; have l9 := b98.lt
          have hq : Below w7.heap.size w7 w7.drew := (Below.refl _ w7).drew
          go_region_held3 (fun w' => w'.cell? ⟨w.heap.size, 3, none⟩ = some (.int .i64 D) ∧ w'.cell? ⟨w.heap.size, 0, none⟩ = some (.int .i64 n) ∧ w'.cell? ⟨w.heap.size, 1, none⟩ = some (.int .i64 good) ∧ w'.cell? ⟨w.heap.size, 2, none⟩ = some (.int .i64 N) ∧ w'.cell? ⟨g5, 0, none⟩ = some (.int .i64 X) ∧ w'.cell? ⟨g5, 1, none⟩ = some (.int .i64 Y) ∧ w'.cell? ⟨g7, 0, none⟩ = some (.int .i64 X1) ∧ w'.cell? ⟨g7, 1, none⟩ = some (.int .i64 Y1) ∧ w'.cell? ⟨g7 + 1, 0, none⟩ = some (.int .i64 X2) ∧ w'.cell? ⟨g7 + 1, 1, none⟩ = some (.int .i64 Y2)) (go_keep) (first | (go_at_call 77; (with_reducible refine (scaled_any _ _ _ _ HS.out _).mono ?_); rintro e v ⟨rfl, hbv⟩; have hq := hq.trans (hbv.mono (B' := w7.heap.size) hq.size); have j0 := (hq.cell (p := ⟨w.heap.size, 3, none⟩) l0).trans c3; have j1 := (hq.cell (p := ⟨w.heap.size, 0, none⟩) l0).trans c0; have j2 := (hq.cell (p := ⟨w.heap.size, 1, none⟩) l0).trans c1; have j3 := (hq.cell (p := ⟨w.heap.size, 2, none⟩) l0).trans c2; have j4 := (hq.cell (p := ⟨g5, 0, none⟩) l5).trans d0; have j5 := (hq.cell (p := ⟨g5, 1, none⟩) l5).trans d1; have j6 := (hq.cell (p := ⟨g7, 0, none⟩) l7).trans d2; have j7 := (hq.cell (p := ⟨g7, 1, none⟩) l7).trans d3; have j8 := (hq.cell (p := ⟨g7 + 1, 0, none⟩) l9).trans d4; have j9 := (hq.cell (p := ⟨g7 + 1, 1, none⟩) l9).trans d5) | (go_at_call 77; (with_reducible refine (scaled_any _ _ _ _ HS1.out _).mono ?_); rintro e v ⟨rfl, hbv⟩; have hq := hq.trans (hbv.mono (B' := w7.heap.size) hq.size); have j0 := (hq.cell (p := ⟨w.heap.size, 3, none⟩) l0).trans c3; have j1 := (hq.cell (p := ⟨w.heap.size, 0, none⟩) l0).trans c0; have j2 := (hq.cell (p := ⟨w.heap.size, 1, none⟩) l0).trans c1; have j3 := (hq.cell (p := ⟨w.heap.size, 2, none⟩) l0).trans c2; have j4 := (hq.cell (p := ⟨g5, 0, none⟩) l5).trans d0; have j5 := (hq.cell (p := ⟨g5, 1, none⟩) l5).trans d1; have j6 := (hq.cell (p := ⟨g7, 0, none⟩) l7).trans d2; have j7 := (hq.cell (p := ⟨g7, 1, none⟩) l7).trans d3; have j8 := (hq.cell (p := ⟨g7 + 1, 0, none⟩) l9).trans d4; have j9 := (hq.cell (p := ⟨g7 + 1, 1, none⟩) l9).trans d5) | (go_at_call 77; (with_reducible refine (scaled_any _ _ _ _ HS2.out _).mono ?_); rintro e v ⟨rfl, hbv⟩; have hq := hq.trans (hbv.mono (B' := w7.heap.size) hq.size); have j0 := (hq.cell (p := ⟨w.heap.size, 3, none⟩) l0).trans c3; have j1 := (hq.cell (p := ⟨w.heap.size, 0, none⟩) l0).trans c0; have j2 := (hq.cell (p := ⟨w.heap.size, 1, none⟩) l0).trans c1; have j3 := (hq.cell (p := ⟨w.heap.size, 2, none⟩) l0).trans c2; have j4 := (hq.cell (p := ⟨g5, 0, none⟩) l5).trans d0; have j5 := (hq.cell (p := ⟨g5, 1, none⟩) l5).trans d1; have j6 := (hq.cell (p := ⟨g7, 0, none⟩) l7).trans d2; have j7 := (hq.cell (p := ⟨g7, 1, none⟩) l7).trans d3; have j8 := (hq.cell (p := ⟨g7 + 1, 0, none⟩) l9).trans d4; have j9 := (hq.cell (p := ⟨g7 + 1, 1, none⟩) l9).trans d5))
          go_wp2
          go_ret
          exact ⟨rfl, hB8.trans (hq.mono (B' := w.heap.size) hB8.size)⟩
    · skip
      have HCB1 := Lib.hid (fun W => chanceOf_any (n - 1) (good - 1) N D W hN hD)
      have HE1 := Lib.hid (sheets_less H0.out n1 (good - 1) (by omega) (by omega))
      have HS1 := Lib.hid (chance_sc HE1.out)
      have HID := Lib.hid (show tl N (D - N) n.toNat good.toNat = (D - N) * tl N (D - N) (n - 1).toNat (good - 1).toNat + N * 0 by rw [show n.toNat = (n - 1).toNat + 1 by omega, show good.toNat = (good - 1).toNat + 1 by omega, tl_succ, tl_out (show (n - 1).toNat < (good - 1).toNat + 1 by omega), Int.zero_mul, Int.mul_zero, Int.mul_comm]; omega)
      rw [H0.out] at HCA; rw [HE1.out] at HCB1
      obtain ⟨C, hC⟩ : ∃ C, C = D ^ (n - 1).toNat := ⟨_, rfl⟩
      obtain ⟨A, hA⟩ : ∃ A, A = D ^ n.toNat := ⟨_, rfl⟩
      rw [← hC] at hCb HS1
      rw [← hA] at hAb HS
      rw [← hC, ← hA] at HP
      obtain ⟨E, hE⟩ : ∃ E, E = tl N (D - N) n.toNat (good : Int).toNat := ⟨_, rfl⟩
      obtain ⟨E1, hE1⟩ : ∃ E1, E1 = tl N (D - N) (n - 1).toNat ((good - 1) : Int).toNat := ⟨_, rfl⟩
      rw [← hE] at HS HID
      rw [← hE1] at HS1 HID
      obtain ⟨X, hX⟩ : ∃ X, X = chanceX n good N D := ⟨_, rfl⟩
      obtain ⟨Y, hY⟩ : ∃ Y, Y = chanceY n good N D := ⟨_, rfl⟩
      obtain ⟨X1, hX1⟩ : ∃ X, X = chanceX (n - 1) (good - 1) N D := ⟨_, rfl⟩
      obtain ⟨Y1, hY1⟩ : ∃ X, X = chanceY (n - 1) (good - 1) N D := ⟨_, rfl⟩
      rw [← hX, ← hY] at HS HCA
      rw [← hX1, ← hY1] at HS1 HCB1
      have HS2 := Lib.hid (sc_zero (A := C) hCb.1 hCb.2)
      have hbE := HS.out.e0; have hbE2 := HS.out.eA; have hbF := HS1.out.e0; have hbF2 := HS1.out.eA; have hbG := HS2.out.e0; have hbG2 := HS2.out.eA
      have m1 := mul_bd (show 0 ≤ D - N by omega) (show D - N ≤ 10 by omega) hbF (show E1 ≤ 100000000000000000 by omega)
      have m2 := mul_bd (show 0 ≤ N by omega) (show N ≤ 10 by omega) hbG (show 0 ≤ (100000000000000000 : Int) by omega)
      obtain ⟨R1, hR1⟩ : ∃ R, R = (D - N) * E1 := ⟨_, rfl⟩
      obtain ⟨R2, hR2⟩ : ∃ R, R = N * 0 := ⟨_, rfl⟩
      rw [← hR1] at m1 HID; rw [← hR2] at m2 HID
      have v1 : IntKind.i64.wrap ((D - N) * E1) = R1 := by rw [← hR1]; exact IntWalk.i64_in _ (by omega)
      have v2 : IntKind.i64.wrap (N * 0) = R2 := by rw [← hR2]; exact IntWalk.i64_in _ (by omega)
      have v3 : IntKind.i64.wrap (C * D) = A := by rw [← HP.out]; exact IntWalk.i64_in _ (by omega)
      have v4 : (E == R1 + R2) = true := by rw [HID.out]; simp
      have hr20 : R2 = 0 := by rw [hR2]; simp
      have v5 : (E == R1) = true := by have h := HID.out; rw [hr20] at h; rw [h]; simp
      clear hr20
      obtain ⟨m1a, m1b⟩ := m1; obtain ⟨m2a, m2b⟩ := m2
      have HCC := Lib.hid hC
      clear hE hE1 hX hY hX1 hY1 hR1 hR2 hA hC he HE1
      obtain ⟨hC1, hC2⟩ := hCb; obtain ⟨hA1, hA2⟩ := hAb
      go_enter Try.func15, Try.ntmps15
      go_wp2_with fail
      refine (printed_any _).mono ?_
      rintro e w1 ⟨rfl, hb1⟩
      have bx1 := bx.below hb1
      have hB1 := hb.trans (hb1.mono (B' := w.heap.size) (by simp))
      have c0 := bx1.cell 0; have c1 := bx1.cell 1; have c2 := bx1.cell 2; have c3 := bx1.cell 3
      simp at c0 c1 c2 c3
      have hbl := bx1.lt
      go_wp2_with fail
      refine (checkSheets_any n good N D _ hN hD).mono ?_
      rintro e w2 ⟨rfl, hb2⟩
      rw [H0.out]
      have bx2 := bx1.below hb2
      have hB2 := hB1.trans (hb2.mono (B' := w.heap.size) hB1.size)
      clear c0 c1 c2 c3 hbl hb hb1 hb2 bx bx1 hB1
      have c0 := bx2.cell 0; have c1 := bx2.cell 1; have c2 := bx2.cell 2; have c3 := bx2.cell 3
      simp at c0 c1 c2 c3
      have hbl := bx2.lt
      go_wp2_with (go_at_call 30; refine (within_any _ _ _ _).mono ?_; rintro e w' ⟨rfl, rfl⟩)
      go_loop [3, 4] (fun x i => ∃ j : Nat, (j : Int) ≤ n - 1 ∧ i = .int .i64 ((j : Int) + 1) ∧ ∃ q : Int, x = .int .i64 q ∧ Hid (q = D ^ j)) (fun _ i => (n - intOf i).toNat)
      case atStart => exact ⟨0, by omega, rfl, 1, rfl, Lib.hid (by simp)⟩
      case round =>
        obtain ⟨j, hj, rfl, q, rfl, HQ⟩ := hrel
        by_cases hlt : (j : Int) + 1 < n
        · have HQ2 := Lib.hid (show q * D = D ^ (j + 1) by rw [HQ.out, Int.pow_succ])
          have hqb := HCB.out j (by omega)
          have hqb2 := HCB.out (j + 1) (by omega)
          rw [← HQ.out] at hqb
          obtain ⟨q2, hq2⟩ : ∃ q2, q2 = D ^ (j + 1) := ⟨_, rfl⟩
          rw [← hq2] at HQ2 hqb2
          have v5 : IntKind.i64.wrap (q * D) = q2 := by rw [HQ2.out]; exact IntWalk.i64_in _ (by omega)
          have HQ3 := Lib.hid hq2
          clear hq2 hqb hqb2
          go_wp2
          go_round
          case rel => exact ⟨j + 1, by omega, by go_num, q2, rfl, HQ3⟩
          case measure => simp [intOf]; omega
        · have hqC : q = C := by rw [HQ.out, HCC.out]; congr 1; omega
          have HQC := Lib.hid hqC
          subst hqC
          clear HQ HQC HCC
          have hje : (j : Int) + 1 = n := by omega
          have hnn : ¬ ((j : Int) + 1 < n) := hlt
          go_wp2_with fail
          refine (HCA.out _).mono ?_
          rintro e w3 ⟨rfl, hb3⟩
          have bx3 := bx2.below hb3
          have hB3 := hB2.trans (hb3.mono (B' := w.heap.size) hB2.size)
          clear c0 c1 c2 c3 hbl hb3 hB2 bx2
          have b5 := BoxAt.new w3 #[.int .i64 X, .int .i64 Y] 43
          have bx4 := bx3.alloc (.cells #[.int .i64 X, .int .i64 Y] 43)
          have hB4 := hB3.alloc hB3.size (.cells #[.int .i64 X, .int .i64 Y] 43)
          have c0 := bx3.cell 0; have c1 := bx3.cell 1; have c2 := bx3.cell 2; have c3 := bx3.cell 3
          simp at c0 c1 c2 c3
          have hbl := bx3.lt
          have hmax : max (good - 1) 0 = good - 1 := by omega
          go_wp2_with fail
          refine (HCB1.out _).mono ?_
          rintro e w4 ⟨rfl, hb4⟩
          have bx5 := bx4.below hb4
          have b55 := b5.below hb4
          have hB5 := hB4.trans (hb4.mono (B' := w.heap.size) hB4.size)
          have hx35 : w.heap.size < w3.heap.size := hbl
          have hx34 : w3.heap.size < w4.heap.size := by have := hb4.size; simp at this; omega
          obtain ⟨g5, hg5⟩ : ∃ g, g = w3.heap.size := ⟨_, rfl⟩
          rw [← hg5] at b55 hx35 hx34 ⊢
          clear hg5 c0 c1 c2 c3 hbl hb4 hB4 hB3 bx4 bx3 b5
          have bx6 := (bx5.alloc (.cells #[.int .i64 X1, .int .i64 Y1] 43)).alloc (.cells #[.int .i64 0, .int .i64 1] 43)
          have b56 := (b55.alloc (.cells #[.int .i64 X1, .int .i64 Y1] 43)).alloc (.cells #[.int .i64 0, .int .i64 1] 43)
          have b76 := (BoxAt.new w4 #[.int .i64 X1, .int .i64 Y1] 43).alloc (.cells #[.int .i64 0, .int .i64 1] 43)
          have b96 := BoxAt.new (w4.alloc (.cells #[.int .i64 X1, .int .i64 Y1] 43)) #[.int .i64 0, .int .i64 1] 43
          rw [World.size_alloc] at b96
          have hB6 := (hB5.alloc hB5.size (.cells #[.int .i64 X1, .int .i64 Y1] 43)).alloc (by have := hB5.size; simp; omega) (.cells #[.int .i64 0, .int .i64 1] 43)
          have c0 := bx5.cell 0; have c1 := bx5.cell 1; have c2 := bx5.cell 2; have c3 := bx5.cell 3
          simp at c0 c1 c2 c3
          have hbl := bx5.lt
          go_wp2_with fail
          obtain ⟨g7, hg7⟩ : ∃ g, g = w4.heap.size := ⟨_, rfl⟩
          have hx57 : g5 < g7 := by rw [hg7]; exact hx34
          obtain ⟨w7, hw7⟩ : ∃ w7, w7 = (w4.alloc (.cells #[.int .i64 X1, .int .i64 Y1] 43)).alloc (.cells #[.int .i64 0, .int .i64 1] 43) := ⟨_, rfl⟩
          rw [← hw7] at bx6 b56 b76 b96 hB6 ⊢
          rw [← hg7] at b76 b96 ⊢
          have bx8 := bx6; have b58 := b56; have b78 := b76; have b98 := b96; have hB8 := hB6
          clear hw7 hg7 c0 c1 c2 c3 hbl hB5 hB6 bx5 bx6 b55 b56 b76 b96 hx34
          have c3 := bx8.cell 3; have c0 := bx8.cell 0; have c1 := bx8.cell 1; have c2 := bx8.cell 2; have d0 := b58.cell 0; have d1 := b58.cell 1; have d2 := b78.cell 0; have d3 := b78.cell 1; have d4 := b98.cell 0; have d5 := b98.cell 1
          simp at c0 c1 c2 c3 d0 d1 d2 d3 d4 d5
          have l0 := bx8.lt; have l5 := b58.lt; have l7 := b78.lt; have l9 := b98.lt
          have hq : Below w7.heap.size w7 w7.drew := (Below.refl _ w7).drew
          go_region_held3 (fun w' => w'.cell? ⟨w.heap.size, 3, none⟩ = some (.int .i64 D) ∧ w'.cell? ⟨w.heap.size, 0, none⟩ = some (.int .i64 n) ∧ w'.cell? ⟨w.heap.size, 1, none⟩ = some (.int .i64 good) ∧ w'.cell? ⟨w.heap.size, 2, none⟩ = some (.int .i64 N) ∧ w'.cell? ⟨g5, 0, none⟩ = some (.int .i64 X) ∧ w'.cell? ⟨g5, 1, none⟩ = some (.int .i64 Y) ∧ w'.cell? ⟨g7, 0, none⟩ = some (.int .i64 X1) ∧ w'.cell? ⟨g7, 1, none⟩ = some (.int .i64 Y1) ∧ w'.cell? ⟨g7 + 1, 0, none⟩ = some (.int .i64 0) ∧ w'.cell? ⟨g7 + 1, 1, none⟩ = some (.int .i64 1)) (go_keep) (first | (go_at_call 77; (with_reducible refine (scaled_any _ _ _ _ HS.out _).mono ?_); rintro e v ⟨rfl, hbv⟩; have hq := hq.trans (hbv.mono (B' := w7.heap.size) hq.size); have j0 := (hq.cell (p := ⟨w.heap.size, 3, none⟩) l0).trans c3; have j1 := (hq.cell (p := ⟨w.heap.size, 0, none⟩) l0).trans c0; have j2 := (hq.cell (p := ⟨w.heap.size, 1, none⟩) l0).trans c1; have j3 := (hq.cell (p := ⟨w.heap.size, 2, none⟩) l0).trans c2; have j4 := (hq.cell (p := ⟨g5, 0, none⟩) l5).trans d0; have j5 := (hq.cell (p := ⟨g5, 1, none⟩) l5).trans d1; have j6 := (hq.cell (p := ⟨g7, 0, none⟩) l7).trans d2; have j7 := (hq.cell (p := ⟨g7, 1, none⟩) l7).trans d3; have j8 := (hq.cell (p := ⟨g7 + 1, 0, none⟩) l9).trans d4; have j9 := (hq.cell (p := ⟨g7 + 1, 1, none⟩) l9).trans d5) | (go_at_call 77; (with_reducible refine (scaled_any _ _ _ _ HS1.out _).mono ?_); rintro e v ⟨rfl, hbv⟩; have hq := hq.trans (hbv.mono (B' := w7.heap.size) hq.size); have j0 := (hq.cell (p := ⟨w.heap.size, 3, none⟩) l0).trans c3; have j1 := (hq.cell (p := ⟨w.heap.size, 0, none⟩) l0).trans c0; have j2 := (hq.cell (p := ⟨w.heap.size, 1, none⟩) l0).trans c1; have j3 := (hq.cell (p := ⟨w.heap.size, 2, none⟩) l0).trans c2; have j4 := (hq.cell (p := ⟨g5, 0, none⟩) l5).trans d0; have j5 := (hq.cell (p := ⟨g5, 1, none⟩) l5).trans d1; have j6 := (hq.cell (p := ⟨g7, 0, none⟩) l7).trans d2; have j7 := (hq.cell (p := ⟨g7, 1, none⟩) l7).trans d3; have j8 := (hq.cell (p := ⟨g7 + 1, 0, none⟩) l9).trans d4; have j9 := (hq.cell (p := ⟨g7 + 1, 1, none⟩) l9).trans d5) | (go_at_call 77; (with_reducible refine (scaled_any _ _ _ _ HS2.out _).mono ?_); rintro e v ⟨rfl, hbv⟩; have hq := hq.trans (hbv.mono (B' := w7.heap.size) hq.size); have j0 := (hq.cell (p := ⟨w.heap.size, 3, none⟩) l0).trans c3; have j1 := (hq.cell (p := ⟨w.heap.size, 0, none⟩) l0).trans c0; have j2 := (hq.cell (p := ⟨w.heap.size, 1, none⟩) l0).trans c1; have j3 := (hq.cell (p := ⟨w.heap.size, 2, none⟩) l0).trans c2; have j4 := (hq.cell (p := ⟨g5, 0, none⟩) l5).trans d0; have j5 := (hq.cell (p := ⟨g5, 1, none⟩) l5).trans d1; have j6 := (hq.cell (p := ⟨g7, 0, none⟩) l7).trans d2; have j7 := (hq.cell (p := ⟨g7, 1, none⟩) l7).trans d3; have j8 := (hq.cell (p := ⟨g7 + 1, 0, none⟩) l9).trans d4; have j9 := (hq.cell (p := ⟨g7 + 1, 1, none⟩) l9).trans d5))
          go_wp2
          go_ret
          exact ⟨rfl, hB8.trans (hq.mono (B' := w.heap.size) hB8.size)⟩
  · have he' : (sheetsErr n good N D != 0) = true := by simpa using he
    clear he
    go_enter Try.func15, Try.ntmps15
    go_wp2_with fail
    refine (printed_any _).mono ?_
    rintro e w1 ⟨rfl, hb1⟩
    have bx1 := bx.below hb1
    have hB1 := hb.trans (hb1.mono (B' := w.heap.size) (by simp))
    have c0 := bx1.cell 0; have c1 := bx1.cell 1; have c2 := bx1.cell 2; have c3 := bx1.cell 3
    simp at c0 c1 c2 c3
    have hbl := bx1.lt
    go_wp2_with fail
    refine (checkSheets_any n good N D _ hN hD).mono ?_
    rintro e w2 ⟨rfl, hb2⟩
    go_wp2_with fail
    go_ret
    exact ⟨rfl, hB1.trans (hb2.mono hB1.size)⟩
end Go.Proofs.Ytpplcbpnojggcaa
