/-
  Package press: LeastSheets: the least number of sheets for a risk.
-/
import Derived.Test.YtpplcbpnojggcaaMI
namespace Go.Proofs.Ytpplcbpnojggcaa
open Go.RowKit

def okS (good : Nat) (N D rn rd : Int) (n : Nat) : Bool := decide ((D ^ n - tl N (D - N) n good) * rd ≤ rn * D ^ n)
def lsF (good : Nat) (N D rn rd : Int) : Nat → Nat → Int × Int
  | 0, _ => (0, 12)
  | f + 1, n => if okS good N D rn rd n then ((n : Int), 0) else lsF good N D rn rd f (n + 1)
def lsR (good N D rn rd : Int) : Int × Int :=
  if inB good 1 17 = false then (0, 2) else if chErr N D 10 ≠ 0 then (0, chErr N D 10) else if chErr rn rd 1000000000 ≠ 0 then (0, chErr rn rd 1000000000)
  else lsF good.toNat N D rn rd (18 - good.toNat) good.toNat
theorem tk_sum {N G : Int} {n k : Nat} (hn : n ≤ 17) (hk : k ≤ n + 1) : sumI ((wts N G n).take k) = (N + G) ^ n - tl N G n k := by
  have h1 := sumI_app ((wts N G n).take k) ((wts N G n).drop k)
  rw [List.take_append_drop, tl_drop (by omega) hk] at h1
  have h2 := tl_drop (N := N) (G := G) (n := n) (k := 0) (by omega) (by omega)
  rw [List.drop_zero, tl_all (by omega)] at h2
  omega
theorem isAtMost_int (a b N D : Int) (w : World) (ha : 0 ≤ a ∧ a ≤ 100000000000000000) (hb : 0 ≤ b ∧ b ≤ 100000000000000000) (hN : 0 ≤ N ∧ N ≤ 1000000000) (hD : 0 ≤ D ∧ D ≤ 1000000000) :
    Calls Try.prog 102 #[.int .i64 a, .int .i64 b, .agg #[.int .i64 N, .int .i64 D]] w (AggPost (.bool (decide (a * D ≤ N * b))) w) := by
  obtain ⟨a, rfl⟩ : ∃ m : Nat, a = m := ⟨a.toNat, by omega⟩
  obtain ⟨b, rfl⟩ : ∃ m : Nat, b = m := ⟨b.toNat, by omega⟩
  obtain ⟨N, rfl⟩ : ∃ m : Nat, N = m := ⟨N.toNat, by omega⟩
  obtain ⟨D, rfl⟩ : ∃ m : Nat, D = m := ⟨D.toNat, by omega⟩
  have e : decide ((a : Int) * D ≤ N * b) = decide (a * D ≤ N * b) := decide_eq_decide.2 (by rw [← Int.natCast_mul, ← Int.natCast_mul]; exact Int.ofNat_le)
  rw [e]
  exact isAtMost_any a b N D w (by omega) (by omega) (by omega) (by omega)
def PairPost (R : Int × Int) (w : World) (e : Ending) (w' : World) : Prop := e = .returned (.tuple #[.int .i64 R.1, .int .i64 R.2]) ∧ Below w.heap.size w w'
set_option maxRecDepth 100000 in
set_option maxHeartbeats 2000000 in
theorem leastSheets_any (good N D rn rd : Int) (w : World) (hN : OkI N) (hD : OkI D) (hrn : OkI rn) (hrd : OkI rd) :
    Calls Try.prog 36 #[.int .i64 good, .agg #[.int .i64 N, .int .i64 D], .agg #[.int .i64 rn, .int .i64 rd]] w (PairPost (lsR good N D rn rd) w) := by
  have hb := ((Below.refl w.heap.size w).alloc (Nat.le_refl _) (.cells #[.int .i64 N, .int .i64 D] 40)).alloc (by simp) (.cells #[.int .i64 rn, .int .i64 rd] 40)
  have bx := (BoxAt.new w #[.int .i64 N, .int .i64 D] 40).alloc (.cells #[.int .i64 rn, .int .i64 rd] 40)
  have bz := BoxAt.new (w.alloc (.cells #[.int .i64 N, .int .i64 D] 40)) #[.int .i64 rn, .int .i64 rd] 40
  rw [World.size_alloc] at bz
  have HC := Lib.hid (fun W => errorOfSpoil_any N D W hN hD)
  have HR := Lib.hid (fun W => errorOfChance_any rn rd 1000000000 W hrn hrd)
  cases h1 : inB good 1 17
  · have HE := Lib.hid (show lsR good N D rn rd = (0, 2) by unfold lsR; rw [if_pos h1])
    rw [HE.out]
    go_enter Try.func36, Try.ntmps36
    go_wp2_with (first | (go_at_call 85; refine (isFrom_any _ _ _ _).mono ?_; rintro e w' ⟨rfl, rfl⟩) | fail)
    go_ret2
    exact ⟨rfl, hb⟩
  by_cases h2 : chErr N D 10 = 0
  · by_cases h3 : chErr rn rd 1000000000 = 0
    · have hg := inB_iff.1 h1
      obtain ⟨hD1, -, hN1, hD2⟩ := ch_ok h2
      obtain ⟨hrd1, -, hrn1, hrd2⟩ := ch_ok h3
      have HE := Lib.hid (show lsR good N D rn rd = lsF good.toNat N D rn rd (18 - good.toNat) good.toNat by unfold lsR; rw [if_neg (by rw [h1]; decide), if_neg (by omega), if_neg (by omega)])
      obtain ⟨g, rfl⟩ : ∃ m : Nat, good = m := ⟨good.toNat, by omega⟩
      rw [HE.out, Int.toNat_natCast]
      obtain ⟨R, hR⟩ : ∃ R, R = lsF g N D rn rd (18 - g) g := ⟨_, rfl⟩
      rw [← hR]
      have H2 := Lib.hid h2; have H3 := Lib.hid h3
      have HRR := Lib.hid hR
      obtain ⟨W0, hW0⟩ : ∃ W0, W0 = (w.alloc (.cells #[.int .i64 N, .int .i64 D] 40)).alloc (.cells #[.int .i64 rn, .int .i64 rd] 40) := ⟨_, rfl⟩
      have hb' := hb; have bx' := bx; have bz' := bz
      rw [← hW0] at hb' bx' bz'
      have HB := Lib.hid hb'; have HX := Lib.hid bx'; have HZ := Lib.hid bz'
      clear hR h2 h3 HE hb' bx' bz'
      go_enter Try.func36, Try.ntmps36
      go_wp2_with (first | (go_at_call 85; refine (isFrom_any _ _ _ _).mono ?_; rintro e w' ⟨rfl, rfl⟩) | fail)
      refine (HC.out _).mono ?_
      rintro e w1 ⟨rfl, hb1⟩
      rw [H2.out]
      have bx1 := bx.below hb1
      have bz1 := bz.below hb1
      have hB1 := hb.trans (hb1.mono (B' := w.heap.size) (by simp <;> omega))
      have c0 := bz1.cell 0; have c1 := bz1.cell 1
      simp at c0 c1
      have hbl := bz1.lt
      clear hb1 hb bx bz
      go_wp2_with fail
      refine (HR.out _).mono ?_
      rintro e w2 ⟨rfl, hb2⟩
      rw [H3.out]
      have HX := Lib.hid (bx1.below hb2)
      have HZ := Lib.hid (bz1.below hb2)
      have HB := Lib.hid (hB1.trans (hb2.mono (B' := w.heap.size) hB1.size))
      clear c0 c1 hbl bx1 bz1 hB1 hb2 HC HR
      go_wp2_with fail
      go_loopw [10] (fun i wr => ∃ k : Nat, g ≤ k ∧ k ≤ 18 ∧ i = .int .i64 k ∧ Hid (R = lsF g N D rn rd (18 - k) k) ∧ Hid (BoxAt wr w.heap.size #[.int .i64 N, .int .i64 D] 40) ∧ Hid (BoxAt wr (w.heap.size + 1) #[.int .i64 rn, .int .i64 rd] 40) ∧ Hid (Below w.heap.size w wr)) (fun i _ => 18 - (intOf i).toNat)
      case atStart => exact ⟨g, Nat.le_refl _, by omega, rfl, HRR, HX, HZ, HB⟩
      case round =>
        clear HX HZ HB HRR
        obtain ⟨k, hgk, hk, rfl, HRR, HX, HZ, HB⟩ := hrel
        by_cases hlt : k ≤ 17
        · have hlt' : (k : Int) ≤ 17 := by omega
          have HW := Lib.hid (fun W => weightsOf_any k N D W hlt hN1.1 hN1.2 hD1 hD2)
          have c0 := HX.out.cell 0; have c1 := HX.out.cell 1
          simp at c0 c1
          have hbl := HX.out.lt
          go_wp2_with fail
          refine (HW.out _).mono ?_
          rintro e w3 ⟨b, rfl, ib, hbb, hb3⟩
          have HX3 := Lib.hid (HX.out.below hb3)
          have HZ3 := Lib.hid (HZ.out.below hb3)
          have HB3 := Lib.hid (HB.out.trans (hb3.mono (B' := w.heap.size) HB.out.size))
          have hab := all_bd (D := D) (n := k) (by omega) (by omega) (by omega)
          have hle := tl_le (N := N) (G := D - N) (by omega) (by omega) k g (by omega)
          have hnn := tl_nonneg (N := N) (G := D - N) (by omega) (by omega) k g
          rw [tl_all (by omega), show N + (D - N) = D by omega] at hle
          have hsum := tk_sum (N := N) (G := D - N) (n := k) (k := g) hlt (by omega)
          rw [show N + (D - N) = D by omega] at hsum
          have hall := tk_sum (N := N) (G := D - N) (n := k) (k := k + 1) hlt (by omega)
          rw [show N + (D - N) = D by omega, tl_out (by omega), List.take_of_length_le (by rw [wts_len]; exact Nat.le_refl _), Int.sub_zero] at hall
          have HNN : Hid (∀ x ∈ wts N (D - N) k, 0 ≤ x) := Lib.hid fun x hx => by
            obtain ⟨j, _, rfl⟩ := List.mem_map.1 hx
            exact wf_nonneg hN1.1 (by omega) k j
          have hr := ib.drew.rows
          have HS1 := Lib.hid (sumOf_any (some ⟨b, 0, none⟩) ((wts N (D - N) k).take g) g (k + 1) w3.drew (by rw [List.length_take, wts_len]; omega) (hr.take g) (by rw [List.length_take, wts_len]; omega) (fun x hx => HNN.out x (List.mem_of_mem_take hx)) (by rw [hsum]; omega))
          have HS2 := Lib.hid (sumOf_any (some ⟨b, 0, none⟩) (wts N (D - N) k) (k + 1) (k + 1) w3.drew (by rw [wts_len]) hr (by rw [wts_len]; omega) HNN.out (by rw [hall]; omega))
          rw [hsum] at HS1
          rw [hall] at HS2
          have HAM := Lib.hid (isAtMost_int (D ^ k - tl N (D - N) k g) (D ^ k) rn rd w3.drew (by omega) (by omega) (by omega) (by omega))
          have hcut : ∀ (W : World), (Instr.sliceAt 75 (.slice (some ⟨b, 0, none⟩) (k + 1) (k + 1)) none (some (.int .i64 (g : Int))) none).run Try.prog W = .ok (.slice (some ⟨b, 0, none⟩) g (k + 1)) W := fun W =>
            cut_low (P := Try.prog) 75 ⟨b, 0, none⟩ (k + 1) (k + 1) g intsUnder 1 intSize (by omega) W
          obtain ⟨ok, hok⟩ : ∃ ok, ok = okS g N D rn rd k := ⟨_, rfl⟩
          rw [show decide ((D ^ k - tl N (D - N) k g) * rd ≤ rn * D ^ k) = okS g N D rn rd k from rfl, ← hok] at HAM
          obtain ⟨E, hE⟩ : ∃ E, E = D ^ k - tl N (D - N) k g := ⟨_, rfl⟩
          obtain ⟨A, hA⟩ : ∃ A, A = D ^ k := ⟨_, rfl⟩
          rw [← hE] at HS1 HAM
          rw [← hA] at HS2 HAM
          have hgk1 : (g : Int) ≤ (k : Int) + 1 := by omega
          have z0 := HZ3.out.cell 0; have z1 := HZ3.out.cell 1
          simp at z0 z1
          have hzl := HZ3.out.lt
          have HOK := Lib.hid hok
          clear hE hA hab hle hnn hsum hall hr ib hbb hb3 c0 c1 hbl hok
          go_wp2_with fail
          refine Code.wp_mono (Q := fun e a' w' => match e with
            | .normal => a' = { tmps := #[.int .i64 g, .agg #[.int .i64 N, .int .i64 D], .agg #[.int .i64 rn, .int .i64 rd], undef, .pointer (some ⟨w.heap.size, 0, none⟩), .pointer (some ⟨w.heap.size + 1, 0, none⟩), u6, u7, .int .i64 0, .int .i64 0, .int .i64 k, .slice (some ⟨b, 0, none⟩) (k + 1) (k + 1), .int .i64 g, .bool true, .bool false, .agg #[.int .i64 N, .int .i64 D], .int .i64 0, .int .i64 0, .bool false, undef, .agg #[.int .i64 rn, .int .i64 rd], .int .i64 0, .int .i64 0, .bool false, undef, .int .i64 g, .int .i64 k, .bool true, u28, u29, .int .i64 k, .agg #[.int .i64 N, .int .i64 D], .slice (some ⟨b, 0, none⟩) (k + 1) (k + 1), .slice (some ⟨b, 0, none⟩) (k + 1) (k + 1), .int .i64 g, .slice (some ⟨b, 0, none⟩) g (k + 1), .int .i64 E, .slice (some ⟨b, 0, none⟩) (k + 1) (k + 1), .int .i64 A, .agg #[.int .i64 rn, .int .i64 rd], .bool ok, u41], defers := [] } ∧ Below w3.drew.heap.size w3.drew w'
            | _ => False) ?cont ?reg
          case reg =>
            go_region_with ((first
              | (go_at_call 94; first | (with_reducible refine (HS1.out).mono ?_; rintro e w' ⟨rfl, rfl⟩) | (with_reducible refine (HS2.out).mono ?_; rintro e w' ⟨rfl, rfl⟩))
              | (go_at_call 102; refine (HAM.out).mono ?_; rintro e w4 ⟨rfl, hb4⟩)))
            all_goals exact ⟨rfl, hb4⟩
          case cont =>
            rintro e a' w4 hq
            cases e <;> try exact hq.elim
            obtain ⟨rfl, hb4⟩ := hq
            have HX4 := Lib.hid (HX3.out.drew.below hb4)
            have HZ4 := Lib.hid (HZ3.out.drew.below hb4)
            have HB4 := Lib.hid ((HB3.out.drew).trans (hb4.mono (B' := w.heap.size) HB3.out.drew.size))
            have hf : 18 - k = (17 - k) + 1 := by omega
            have hRR := HRR.out
            rw [hf] at hRR
            clear z0 z1 hzl hb4 hf hcut
            cases ok
            · have HRN := Lib.hid (show R = lsF g N D rn rd (18 - (k + 1)) (k + 1) by
                rw [hRR, show 18 - (k + 1) = 17 - k by omega]
                show (if okS g N D rn rd k then _ else _) = _
                rw [← HOK.out]; rfl)
              clear hRR
              go_wp2_with fail
              go_roundw
              case rel => exact ⟨k + 1, by omega, by omega, by go_num, HRN, HX4, HZ4, HB4⟩
              case measure => simp [intOf]; omega
            · have HRN := Lib.hid (show R = ((k : Int), 0) by
                rw [hRR]
                show (if okS g N D rn rd k then _ else _) = _
                rw [← HOK.out]; rfl)
              clear hRR
              go_wp2_with fail
              go_ret2
              rw [HRN.out]
              exact ⟨rfl, HB4.out⟩
        · obtain rfl : k = 18 := by omega
          have HRN := Lib.hid (show R = (0, 12) from HRR.out)
          go_wp2_with fail
          go_ret2
          rw [HRN.out]
          exact ⟨rfl, HB.out⟩
    · have hb3 : (chErr rn rd 1000000000 != 0) = true := by simpa using h3
      have HE := Lib.hid (show lsR good N D rn rd = (0, chErr rn rd 1000000000) by unfold lsR; rw [if_neg (by rw [h1]; decide), if_neg (by omega), if_pos h3])
      rw [HE.out]
      have H2 := Lib.hid h2
      clear h2 h3
      go_enter Try.func36, Try.ntmps36
      go_wp2_with (first | (go_at_call 85; refine (isFrom_any _ _ _ _).mono ?_; rintro e w' ⟨rfl, rfl⟩) | fail)
      refine (HC.out _).mono ?_
      rintro e w1 ⟨rfl, hb1⟩
      rw [H2.out]
      have bz1 := bz.below hb1
      have hB1 := hb.trans (hb1.mono (B' := w.heap.size) (by simp <;> omega))
      have c0 := bz1.cell 0; have c1 := bz1.cell 1
      simp at c0 c1
      have hbl := bz1.lt
      clear hb1 hb bx bz
      go_wp2_with fail
      refine (HR.out _).mono ?_
      rintro e w2 ⟨rfl, hb2⟩
      have HB := Lib.hid (hB1.trans (hb2.mono (B' := w.heap.size) hB1.size))
      clear hb2
      go_wp2_with fail
      go_ret2
      exact ⟨rfl, HB.out⟩
  · have hb3 : (chErr N D 10 != 0) = true := by simpa using h2
    have HE := Lib.hid (show lsR good N D rn rd = (0, chErr N D 10) by unfold lsR; rw [if_neg (by rw [h1]; decide), if_pos h2])
    rw [HE.out]
    clear h2
    go_enter Try.func36, Try.ntmps36
    go_wp2_with (first | (go_at_call 85; refine (isFrom_any _ _ _ _).mono ?_; rintro e w' ⟨rfl, rfl⟩) | fail)
    refine (HC.out _).mono ?_
    rintro e w1 ⟨rfl, hb1⟩
    have HB := Lib.hid (hb.trans (hb1.mono (B' := w.heap.size) (by simp <;> omega)))
    clear hb1
    go_wp2_with fail
    go_ret2
    exact ⟨rfl, HB.out⟩
end Go.Proofs.Ytpplcbpnojggcaa
