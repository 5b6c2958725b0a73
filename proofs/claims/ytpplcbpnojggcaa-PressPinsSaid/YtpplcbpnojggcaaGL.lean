/-
  Package press: pins: the reference's check, agreement.
-/
import Derived.Test.YtpplcbpnojggcaaGI
namespace Go.Proofs.Ytpplcbpnojggcaa
open Go.RowKit

/-- Whether two numbers agree, by the enclosure of their difference. -/
def agr (lo hi most : Int) : Int := if most < lo ∨ hi < -most then 0 else if -most ≤ lo ∧ hi ≤ most then 2 else 1
theorem agr_bd (lo hi most : Int) : 0 ≤ agr lo hi most ∧ agr lo hi most ≤ 2 := by
  unfold agr; split
  · omega
  · split <;> omega
set_option maxHeartbeats 1000000 in
theorem agreement_any (lo hi most : Int) (w : World) (h0 : 0 ≤ most) (h1 : most ≤ 1000000) :
    Calls Try.prog 106 #[.agg #[.int .i64 lo, .int .i64 hi], .int .i64 most] w (CheckPost (agr lo hi most) w) := by
  have hb := (Below.refl w.heap.size w).alloc (Nat.le_refl _) (.cells #[.int .i64 lo, .int .i64 hi] 62)
  have HA := Lib.hid (show agr lo hi most = if most < lo ∨ hi < -most then 0 else if -most ≤ lo ∧ hi ≤ most then 2 else 1 from rfl)
  obtain ⟨E, hE⟩ : ∃ E, E = agr lo hi most := ⟨_, rfl⟩
  rw [← hE] at HA ⊢
  clear hE
  by_cases g1 : most < lo
  · have hf := decide_eq_true (show lo > most from g1)
    have HE : Hid (E = 0) := Lib.hid (by rw [HA.out, if_pos (Or.inl g1)])
    clear g1
    go_enter Try.func106, Try.ntmps106
    go_wp2
    go_ret
    exact ⟨ret_int HE.out.symm, hb⟩
  have hf := decide_eq_false (show ¬ lo > most from g1)
  by_cases g2 : hi < -most
  · have hf2 := decide_eq_true g2
    have HE : Hid (E = 0) := Lib.hid (by rw [HA.out, if_pos (Or.inr g2)])
    clear g1 g2
    go_enter Try.func106, Try.ntmps106
    go_wp2
    go_ret
    exact ⟨ret_int HE.out.symm, hb⟩
  have hf2 := decide_eq_false g2
  by_cases g3 : -most ≤ lo
  · have hf3 := decide_eq_true (show lo ≥ -most from g3)
    by_cases g4 : hi ≤ most
    · have hf4 := decide_eq_true g4
      have HE : Hid (E = 2) := Lib.hid (by rw [HA.out, if_neg (by rintro (h | h); exact g1 h; exact g2 h), if_pos ⟨g3, g4⟩])
      clear g1 g2 g3 g4
      go_enter Try.func106, Try.ntmps106
      go_wp2
      go_ret
      exact ⟨ret_int HE.out.symm, hb⟩
    · have hf4 := decide_eq_false g4
      have HE : Hid (E = 1) := Lib.hid (by rw [HA.out, if_neg (by rintro (h | h); exact g1 h; exact g2 h), if_neg (fun h => g4 h.2)])
      clear g1 g2 g3 g4
      go_enter Try.func106, Try.ntmps106
      go_wp2
      go_ret
      exact ⟨ret_int HE.out.symm, hb⟩
  · have hf3 := decide_eq_false (show ¬ lo ≥ -most from g3)
    have HE : Hid (E = 1) := Lib.hid (by rw [HA.out, if_neg (by rintro (h | h); exact g1 h; exact g2 h), if_neg (fun h => g3 h.1)])
    clear g1 g2 g3
    go_enter Try.func106, Try.ntmps106
    go_wp2
    go_ret
    exact ⟨ret_int HE.out.symm, hb⟩
set_option maxRecDepth 100000 in
set_option maxHeartbeats 4000000 in
theorem refCheckPins_any (L : List Pin) (a : Option Addr) (n c : Nat) (w : World) (hn : n = L.length) (hr : RowsAt 6 Pin.l w a L) (hl : n ≤ 1000000) :
    Calls Try.prog 39 #[.slice a n c] w (CheckPost (pinsErr L) w) := by
  have HN := Lib.hid hn
  have HER := Lib.hid (fun (p : Pin) W => numbers_any p W)
  by_cases h1 : n < 2
  · have HE := Lib.hid (show pinsErr L = 10 by unfold pinsErr; rw [if_pos (by omega)])
    have h1' : decide ((n : Int) < 2) = true := decide_eq_true (by omega)
    clear hn
    rw [HE.out]
    go_enter Try.func39, Try.ntmps39
    go_wp2
    go_ret
    exact ⟨rfl, Below.refl _ _⟩
  by_cases h2 : 8 < n
  · have HE := Lib.hid (show pinsErr L = 8 by unfold pinsErr; rw [if_neg (by omega), if_pos (by omega)])
    have h1' : decide ((n : Int) < 2) = false := decide_eq_false (by omega)
    have h2' : decide ((n : Int) > 8) = true := decide_eq_true (by omega)
    clear hn
    rw [HE.out]
    go_enter Try.func39, Try.ntmps39
    go_wp2
    go_ret
    exact ⟨rfl, Below.refl _ _⟩
  have HE := Lib.hid (show pinsErr L = pinsE (L.drop 0) by unfold pinsErr; rw [if_neg (by omega), if_neg (by omega)]; rfl)
  have h1' : decide ((n : Int) < 2) = false := decide_eq_false (by omega)
  have h2' : decide ((n : Int) > 8) = false := decide_eq_false (by omega)
  have hn8 : n ≤ 8 := by omega
  have HR := Lib.hid hr
  obtain ⟨E, hE⟩ : ∃ E, E = pinsErr L := ⟨_, rfl⟩
  rw [← hE] at HE ⊢
  clear hE hn h1 h2 hr
  go_enter Try.func39, Try.ntmps39
  go_wp2
  go_loopw [3] (fun i wr => ∃ k : Nat, k ≤ n ∧ i = .int .i64 k ∧ Hid (E = pinsE (L.drop k)) ∧ Below w.heap.size w wr) (fun i _ => n - (intOf i).toNat)
  case atStart => exact ⟨0, Nat.zero_le _, rfl, HE, Below.refl _ _⟩
  case round =>
    obtain ⟨k, hk, rfl, hg, hB⟩ := hrel
    by_cases hlt : k < n
    · have hlt2 : k < L.length := by have := HN.out; omega
      have hlt' : (k : Int) < n := by omega
      obtain ⟨ad, rfl, had, hs⟩ := (HR.out.below hB) k hlt2
      have s0 := hs 0 (by decide)
      have s1 := hs 1 (by decide)
      have s2 := hs 2 (by decide)
      have s3 := hs 3 (by decide)
      have s4 := hs 4 (by decide)
      have s5 := hs 5 (by decide)
      simp only [Pin.l, List.getD_cons_zero, List.getD_cons_succ, fld] at s0 s1 s2 s3 s4 s5
      have HST := Lib.hid (pinsE_stop hlt2)
      have HGO := Lib.hid (pinsE_go hlt2)
      have HC := Lib.hid (fun W => HER.out L[k] W)
      have HPE := Lib.hid (show pinErr L[k] = if rgOk L[k].c0 L[k].c1 = false ∨ rgOk L[k].r0 L[k].r1 = false ∨ rgOk L[k].t0 L[k].t1 = false then 2 else if L[k].c1 < L[k].c0 ∨ L[k].r1 < L[k].r0 ∨ L[k].t1 < L[k].t0 then 9 else 0 from rfl)
      obtain ⟨q, hq⟩ : ∃ q, q = pinErr L[k] := ⟨_, rfl⟩
      rw [← hq] at HST HGO HPE
      obtain ⟨⟨c0, c1, r0, r1, t0, t1⟩, hp⟩ : ∃ p, p = L[k] := ⟨_, rfl⟩
      rw [← hp] at s0 s1 s2 s3 s4 s5 HC HPE
      dsimp only at s0 s1 s2 s3 s4 s5 HC HPE
      have HB := Lib.hid hB
      have hsz := hB.size
      clear hp hs hB hq
      go_wp2_with (go_at_call 104; refine (HC.out _).mono ?_; rintro e w2 ⟨rfl, hb2⟩; have HB2 := Lib.hid (HB.out.trans (hb2.mono hsz)); clear hb2)
      obtain ⟨V, hV⟩ : ∃ V, V = w2.alloc (.cells #[.int .i64 c0, .int .i64 c1, .int .i64 r0, .int .i64 r1, .int .i64 t0, .int .i64 t1] 63) := ⟨_, rfl⟩
      have HBV := Lib.hid (show Below w.heap.size w V by rw [hV]; exact HB2.out.alloc HB2.out.size _)
      have HXV := Lib.hid (show BoxAt V w2.heap.size #[.int .i64 c0, .int .i64 c1, .int .i64 r0, .int .i64 r1, .int .i64 t0, .int .i64 t1] 63 by rw [hV]; exact BoxAt.new _ _ _)
      rw [← hV]
      clear hV
      go_loopw [5] (fun i wr => ∃ j : Nat, (j = 0 ∨ j = 1 ∨ j = 2 ∨ j = 3) ∧ i = .int .i64 j ∧ Hid ((0 < j → rgOk c0 c1 = true) ∧ (1 < j → rgOk r0 r1 = true) ∧ (2 < j → rgOk t0 t1 = true)) ∧ Below V.heap.size V wr) (fun i _ => 3 - (intOf i).toNat)
      case atStart => exact ⟨0, Or.inl rfl, rfl, Lib.hid ⟨fun h => absurd h (by omega), fun h => absurd h (by omega), fun h => absurd h (by omega)⟩, Below.refl _ _⟩
      case round =>
        obtain ⟨j, hj, rfl, hg2, hB3⟩ := hrel
        have HB3 := Lib.hid hB3
        have hx3 := HXV.out.below hB3
        have x0 : wr.cell? ⟨w2.heap.size, 0, none⟩ = some (.int .i64 c0) := hx3.cell 0
        have x1 : wr.cell? ⟨w2.heap.size, 1, none⟩ = some (.int .i64 c1) := hx3.cell 1
        have x2 : wr.cell? ⟨w2.heap.size, 2, none⟩ = some (.int .i64 r0) := hx3.cell 2
        have x3 : wr.cell? ⟨w2.heap.size, 3, none⟩ = some (.int .i64 r1) := hx3.cell 3
        have x4 : wr.cell? ⟨w2.heap.size, 4, none⟩ = some (.int .i64 t0) := hx3.cell 4
        have x5 : wr.cell? ⟨w2.heap.size, 5, none⟩ = some (.int .i64 t1) := hx3.cell 5
        have hxl := hx3.lt
        clear hB3 hx3
        rcases hj with rfl | rfl | rfl | rfl
        · cases h1 : inB c0 (-1000000) 1000000
          · go_wp2_with (go_at_call 30; refine (within_any _ _ _ _).mono ?_; rintro e w4 ⟨rfl, rfl⟩)
            go_ret
            exact ⟨ret_int (by rw [hg.out, HST.out (by rw [HPE.out, if_pos ((Or.inl) (show rgOk _ _ = false by unfold rgOk pl; rw [h1]; rfl))]; decide), HPE.out, if_pos ((Or.inl) (show rgOk _ _ = false by unfold rgOk pl; rw [h1]; rfl))]), HBV.out.trans (HB3.out.mono HBV.out.size)⟩
          cases h2 : inB c1 (-1000000) 1000000
          · go_wp2_with (go_at_call 30; refine (within_any _ _ _ _).mono ?_; rintro e w4 ⟨rfl, rfl⟩)
            go_ret
            exact ⟨ret_int (by rw [hg.out, HST.out (by rw [HPE.out, if_pos ((Or.inl) (show rgOk _ _ = false by unfold rgOk pl; rw [h1, h2]; rfl))]; decide), HPE.out, if_pos ((Or.inl) (show rgOk _ _ = false by unfold rgOk pl; rw [h1, h2]; rfl))]), HBV.out.trans (HB3.out.mono HBV.out.size)⟩
          · go_wp2_with (go_at_call 30; refine (within_any _ _ _ _).mono ?_; rintro e w4 ⟨rfl, rfl⟩)
            go_roundw
            case rel => exact ⟨1, Or.inr (Or.inl rfl), by go_num, Lib.hid ⟨fun _ => (by unfold rgOk pl; rw [h1, h2]; rfl), fun h => absurd h (by omega), fun h => absurd h (by omega)⟩, HB3.out⟩
            case measure => simp [intOf] <;> omega
        · cases h1 : inB r0 (-1000000) 1000000
          · go_wp2_with (go_at_call 30; refine (within_any _ _ _ _).mono ?_; rintro e w4 ⟨rfl, rfl⟩)
            go_ret
            exact ⟨ret_int (by rw [hg.out, HST.out (by rw [HPE.out, if_pos ((fun x => Or.inr (Or.inl x)) (show rgOk _ _ = false by unfold rgOk pl; rw [h1]; rfl))]; decide), HPE.out, if_pos ((fun x => Or.inr (Or.inl x)) (show rgOk _ _ = false by unfold rgOk pl; rw [h1]; rfl))]), HBV.out.trans (HB3.out.mono HBV.out.size)⟩
          cases h2 : inB r1 (-1000000) 1000000
          · go_wp2_with (go_at_call 30; refine (within_any _ _ _ _).mono ?_; rintro e w4 ⟨rfl, rfl⟩)
            go_ret
            exact ⟨ret_int (by rw [hg.out, HST.out (by rw [HPE.out, if_pos ((fun x => Or.inr (Or.inl x)) (show rgOk _ _ = false by unfold rgOk pl; rw [h1, h2]; rfl))]; decide), HPE.out, if_pos ((fun x => Or.inr (Or.inl x)) (show rgOk _ _ = false by unfold rgOk pl; rw [h1, h2]; rfl))]), HBV.out.trans (HB3.out.mono HBV.out.size)⟩
          · go_wp2_with (go_at_call 30; refine (within_any _ _ _ _).mono ?_; rintro e w4 ⟨rfl, rfl⟩)
            go_roundw
            case rel => exact ⟨2, Or.inr (Or.inr (Or.inl rfl)), by go_num, Lib.hid ⟨fun _ => hg2.out.1 (by omega), fun _ => (by unfold rgOk pl; rw [h1, h2]; rfl), fun h => absurd h (by omega)⟩, HB3.out⟩
            case measure => simp [intOf] <;> omega
        · cases h1 : inB t0 (-1000000) 1000000
          · go_wp2_with (go_at_call 30; refine (within_any _ _ _ _).mono ?_; rintro e w4 ⟨rfl, rfl⟩)
            go_ret
            exact ⟨ret_int (by rw [hg.out, HST.out (by rw [HPE.out, if_pos ((fun x => Or.inr (Or.inr x)) (show rgOk _ _ = false by unfold rgOk pl; rw [h1]; rfl))]; decide), HPE.out, if_pos ((fun x => Or.inr (Or.inr x)) (show rgOk _ _ = false by unfold rgOk pl; rw [h1]; rfl))]), HBV.out.trans (HB3.out.mono HBV.out.size)⟩
          cases h2 : inB t1 (-1000000) 1000000
          · go_wp2_with (go_at_call 30; refine (within_any _ _ _ _).mono ?_; rintro e w4 ⟨rfl, rfl⟩)
            go_ret
            exact ⟨ret_int (by rw [hg.out, HST.out (by rw [HPE.out, if_pos ((fun x => Or.inr (Or.inr x)) (show rgOk _ _ = false by unfold rgOk pl; rw [h1, h2]; rfl))]; decide), HPE.out, if_pos ((fun x => Or.inr (Or.inr x)) (show rgOk _ _ = false by unfold rgOk pl; rw [h1, h2]; rfl))]), HBV.out.trans (HB3.out.mono HBV.out.size)⟩
          · go_wp2_with (go_at_call 30; refine (within_any _ _ _ _).mono ?_; rintro e w4 ⟨rfl, rfl⟩)
            go_roundw
            case rel => exact ⟨3, Or.inr (Or.inr (Or.inr rfl)), by go_num, Lib.hid ⟨fun _ => hg2.out.1 (by omega), fun _ => hg2.out.2.1 (by omega), fun _ => (by unfold rgOk pl; rw [h1, h2]; rfl)⟩, HB3.out⟩
            case measure => simp [intOf] <;> omega
        · have hg3 := hg2.out.1 (by omega)
          have hg4 := hg2.out.2.1 (by omega)
          have hg5 := hg2.out.2.2 (by omega)
          have HP1 : Hid (q = if c1 < c0 ∨ r1 < r0 ∨ t1 < t0 then 9 else 0) := Lib.hid (by rw [HPE.out, if_neg (by rw [hg3, hg4, hg5]; simp)])
          clear hg2 hg3 hg4 hg5 HPE x0 x1 x2 x3 x4 x5 hxl
          go_wp2
          go_loopw [6] (fun i wr => ∃ j : Nat, (j = 0 ∨ j = 1 ∨ j = 2 ∨ j = 3) ∧ i = .int .i64 j ∧ Hid ((0 < j → ¬ c1 < c0) ∧ (1 < j → ¬ r1 < r0) ∧ (2 < j → ¬ t1 < t0)) ∧ Below V.heap.size V wr) (fun i _ => 3 - (intOf i).toNat)
          case atStart => exact ⟨0, Or.inl rfl, rfl, Lib.hid ⟨fun h => absurd h (by omega), fun h => absurd h (by omega), fun h => absurd h (by omega)⟩, HB3.out⟩
          case round =>
            obtain ⟨j, hj, rfl, hg2, hB5⟩ := hrel
            have HB5 := Lib.hid hB5
            have hx3 := HXV.out.below hB5
            have x0 : wr.cell? ⟨w2.heap.size, 0, none⟩ = some (.int .i64 c0) := hx3.cell 0
            have x1 : wr.cell? ⟨w2.heap.size, 1, none⟩ = some (.int .i64 c1) := hx3.cell 1
            have x2 : wr.cell? ⟨w2.heap.size, 2, none⟩ = some (.int .i64 r0) := hx3.cell 2
            have x3 : wr.cell? ⟨w2.heap.size, 3, none⟩ = some (.int .i64 r1) := hx3.cell 3
            have x4 : wr.cell? ⟨w2.heap.size, 4, none⟩ = some (.int .i64 t0) := hx3.cell 4
            have x5 : wr.cell? ⟨w2.heap.size, 5, none⟩ = some (.int .i64 t1) := hx3.cell 5
            have hxl := hx3.lt
            clear hB5 hx3
            rcases hj with rfl | rfl | rfl | rfl
            · by_cases h1 : c1 < c0
              · have HF := Lib.hid h1
                have h1' : decide (c0 > c1) = true := decide_eq_true h1
                clear h1
                go_wp2
                go_region
                go_wp2
                go_ret
                exact ⟨ret_int (by rw [hg.out, HST.out (by rw [HP1.out, if_pos ((Or.inl) HF.out)]; decide), HP1.out, if_pos ((Or.inl) HF.out)]), below_drewN (HBV.out.trans (HB5.out.mono HBV.out.size)) 1⟩
              · have HF := Lib.hid h1
                have h1' : decide (c0 > c1) = false := decide_eq_false h1
                clear h1
                go_wp2
                go_region
                go_wp2
                go_roundw
                case rel => first | exact HB5.out.drew | exact ⟨Lib.hid (by have := HF.out; omega), HB5.out.drew⟩
                case measure => first | omega | simp [intOf] <;> omega
            · by_cases h1 : r1 < r0
              · have HF := Lib.hid h1
                have h1' : decide (r0 > r1) = true := decide_eq_true h1
                clear h1
                go_wp2
                go_region
                go_wp2
                go_ret
                exact ⟨ret_int (by rw [hg.out, HST.out (by rw [HP1.out, if_pos ((fun x => Or.inr (Or.inl x)) HF.out)]; decide), HP1.out, if_pos ((fun x => Or.inr (Or.inl x)) HF.out)]), below_drewN (HBV.out.trans (HB5.out.mono HBV.out.size)) 1⟩
              · have HF := Lib.hid h1
                have h1' : decide (r0 > r1) = false := decide_eq_false h1
                clear h1
                go_wp2
                go_region
                go_wp2
                go_roundw
                case rel => exact ⟨Lib.hid ⟨by have := hg2.out.1 (by omega); omega, by have := HF.out; omega⟩, HB5.out.drew⟩
                case measure => first | omega | simp [intOf] <;> omega
            · by_cases h1 : t1 < t0
              · have HF := Lib.hid h1
                have h1' : decide (t0 > t1) = true := decide_eq_true h1
                clear h1
                go_wp2
                go_region
                go_wp2
                go_ret
                exact ⟨ret_int (by rw [hg.out, HST.out (by rw [HP1.out, if_pos ((fun x => Or.inr (Or.inr x)) HF.out)]; decide), HP1.out, if_pos ((fun x => Or.inr (Or.inr x)) HF.out)]), below_drewN (HBV.out.trans (HB5.out.mono HBV.out.size)) 1⟩
              · have HF := Lib.hid h1
                have h1' : decide (t0 > t1) = false := decide_eq_false h1
                clear h1
                go_wp2
                go_region
                go_wp2
                go_roundw
                case rel => exact ⟨Lib.hid ⟨by have := hg2.out.1 (by omega); omega, by have := hg2.out.2.1 (by omega); omega, by have := HF.out; omega⟩, HB5.out.drew⟩
                case measure => first | omega | simp [intOf] <;> omega
            · have hg3 := hg2.out.1 (by omega)
              have hg4 := hg2.out.2.1 (by omega)
              have hg5 := hg2.out.2.2 (by omega)
              have HP2 : Hid (q = 0) := Lib.hid (by rw [HP1.out, if_neg (by simp [hg3, hg4, hg5])])
              clear hg2 hg3 hg4 hg5 HP1 x0 x1 x2 x3 x4 x5 hxl
              go_wp2
              go_roundw
              case rel => exact ⟨k + 1, by omega, by go_num, Lib.hid (hg.out.trans (HGO.out HP2.out)), HBV.out.trans (HB5.out.mono HBV.out.size)⟩
              case measure => simp [intOf] <;> omega
    · have HQ : Hid (E = 0) := Lib.hid (hg.out.trans (pinsE_end (by have := HN.out; omega)))
      have HB := Lib.hid hB
      clear hg hB
      obtain rfl : k = n := by omega
      go_wp2
      go_ret
      exact ⟨ret_int HQ.out.symm, HB.out⟩
end Go.Proofs.Ytpplcbpnojggcaa
