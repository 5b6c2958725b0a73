/-
  Package press: pins, the program's side: the error of a pin, of pins.
-/
import Derived.Test.YtpplcbpnojggcaaGH
namespace Go.Proofs.Ytpplcbpnojggcaa
open Go.RowKit

set_option maxRecDepth 100000 in
set_option maxHeartbeats 2000000 in
theorem errorOfPin_any (p : Pin) (w : World) :
    Calls Try.prog 105 #[.agg #[.int .i64 p.c0, .int .i64 p.c1, .int .i64 p.r0, .int .i64 p.r1, .int .i64 p.t0, .int .i64 p.t1]] w (CheckPost (pinErr p) w) := by
  have HPE := Lib.hid (show pinErr p = if rgOk p.c0 p.c1 = false ∨ rgOk p.r0 p.r1 = false ∨ rgOk p.t0 p.t1 = false then 2 else if p.c1 < p.c0 ∨ p.r1 < p.r0 ∨ p.t1 < p.t0 then 9 else 0 from rfl)
  have HEN := Lib.hid (fun W => enclosures_any p W)
  obtain ⟨E, hE⟩ : ∃ E, E = pinErr p := ⟨_, rfl⟩
  rw [← hE] at HPE ⊢
  clear hE
  obtain ⟨c0, c1, r0, r1, t0, t1⟩ := p
  dsimp only at HPE HEN ⊢
  have hx0 := fun W => (rg_at c0 c1 r0 r1 t0 t1 W).1
  have hx1 := fun W => (rg_at c0 c1 r0 r1 t0 t1 W).2.1
  have hx2 := fun W => (rg_at c0 c1 r0 r1 t0 t1 W).2.2
  have hb0 := (Below.refl w.heap.size w).alloc (Nat.le_refl _) (.cells #[.int .i64 c0, .int .i64 c1, .int .i64 r0, .int .i64 r1, .int .i64 t0, .int .i64 t1] 70)
  have bx := BoxAt.new w #[.int .i64 c0, .int .i64 c1, .int .i64 r0, .int .i64 r1, .int .i64 t0, .int .i64 t1] 70
  go_enter Try.func105, Try.ntmps105
  go_wp2_with (go_at_call 136; refine (HEN.out _).mono ?_; rintro e w1 ⟨rfl, hb1⟩; have HB1 := Lib.hid (hb0.trans (hb1.mono (by simp))); have BX1 := Lib.hid (bx.below hb1); clear hb1 hb0 bx)
  go_loopw [9] (fun i wr => ∃ k : Nat, (k = 0 ∨ k = 1 ∨ k = 2 ∨ k = 3) ∧ i = .int .i64 k ∧ Hid ((0 < k → rgOk c0 c1 = true) ∧ (1 < k → rgOk r0 r1 = true) ∧ (2 < k → rgOk t0 t1 = true)) ∧ Below w1.heap.size w1 wr) (fun i _ => 3 - (intOf i).toNat)
  case atStart => exact ⟨0, Or.inl rfl, rfl, Lib.hid ⟨fun h => absurd h (by omega), fun h => absurd h (by omega), fun h => absurd h (by omega)⟩, Below.refl _ _⟩
  case round =>
    obtain ⟨k, hk, rfl, hg, hB⟩ := hrel
    have HB := Lib.hid hB
    have hsz : w.heap.size ≤ wr.heap.size := Nat.le_trans HB1.out.size hB.size
    have hBA := fun o => (HB1.out.trans (hB.mono HB1.out.size)).alloc hsz o
    have HBA := Lib.hid hBA
    have hb2 := fun o => hB.alloc hB.size o
    have HB2 := Lib.hid hb2
    clear hB hBA hb2
    rcases hk with rfl | rfl | rfl | rfl
    · cases h1 : pl c0
      · go_wp2_with (go_at_call 137; refine (isPinPlace_any _ _).mono ?_; rintro e w2 ⟨rfl, rfl⟩)
        go_ret
        exact ⟨ret_int (by rw [HPE.out, if_pos ((Or.inl) (by unfold rgOk; rw [h1]; rfl))]), HBA.out _⟩
      cases h2 : pl c1
      · go_wp2_with (go_at_call 137; refine (isPinPlace_any _ _).mono ?_; rintro e w2 ⟨rfl, rfl⟩)
        go_ret
        exact ⟨ret_int (by rw [HPE.out, if_pos ((Or.inl) (by unfold rgOk; rw [h1, h2]; rfl))]), HBA.out _⟩
      · go_wp2_with (go_at_call 137; refine (isPinPlace_any _ _).mono ?_; rintro e w2 ⟨rfl, rfl⟩)
        go_roundw
        case rel => exact ⟨1, Or.inr (Or.inl rfl), by go_num, Lib.hid ⟨fun _ => (by unfold rgOk; rw [h1, h2]; rfl), fun h => absurd h (by omega), fun h => absurd h (by omega)⟩, HB2.out _⟩
        case measure => simp [intOf] <;> omega
    · cases h1 : pl r0
      · go_wp2_with (go_at_call 137; refine (isPinPlace_any _ _).mono ?_; rintro e w2 ⟨rfl, rfl⟩)
        go_ret
        exact ⟨ret_int (by rw [HPE.out, if_pos ((fun x => Or.inr (Or.inl x)) (by unfold rgOk; rw [h1]; rfl))]), HBA.out _⟩
      cases h2 : pl r1
      · go_wp2_with (go_at_call 137; refine (isPinPlace_any _ _).mono ?_; rintro e w2 ⟨rfl, rfl⟩)
        go_ret
        exact ⟨ret_int (by rw [HPE.out, if_pos ((fun x => Or.inr (Or.inl x)) (by unfold rgOk; rw [h1, h2]; rfl))]), HBA.out _⟩
      · go_wp2_with (go_at_call 137; refine (isPinPlace_any _ _).mono ?_; rintro e w2 ⟨rfl, rfl⟩)
        go_roundw
        case rel => exact ⟨2, Or.inr (Or.inr (Or.inl rfl)), by go_num, Lib.hid ⟨fun _ => hg.out.1 (by omega), fun _ => (by unfold rgOk; rw [h1, h2]; rfl), fun h => absurd h (by omega)⟩, HB2.out _⟩
        case measure => simp [intOf] <;> omega
    · cases h1 : pl t0
      · go_wp2_with (go_at_call 137; refine (isPinPlace_any _ _).mono ?_; rintro e w2 ⟨rfl, rfl⟩)
        go_ret
        exact ⟨ret_int (by rw [HPE.out, if_pos ((fun x => Or.inr (Or.inr x)) (by unfold rgOk; rw [h1]; rfl))]), HBA.out _⟩
      cases h2 : pl t1
      · go_wp2_with (go_at_call 137; refine (isPinPlace_any _ _).mono ?_; rintro e w2 ⟨rfl, rfl⟩)
        go_ret
        exact ⟨ret_int (by rw [HPE.out, if_pos ((fun x => Or.inr (Or.inr x)) (by unfold rgOk; rw [h1, h2]; rfl))]), HBA.out _⟩
      · go_wp2_with (go_at_call 137; refine (isPinPlace_any _ _).mono ?_; rintro e w2 ⟨rfl, rfl⟩)
        go_roundw
        case rel => exact ⟨3, Or.inr (Or.inr (Or.inr rfl)), by go_num, Lib.hid ⟨fun _ => hg.out.1 (by omega), fun _ => hg.out.2.1 (by omega), fun _ => (by unfold rgOk; rw [h1, h2]; rfl)⟩, HB2.out _⟩
        case measure => simp [intOf] <;> omega
    · have hg1 := hg.out.1 (by omega)
      have hg2 := hg.out.2.1 (by omega)
      have hg3 := hg.out.2.2 (by omega)
      have HP1 : Hid (E = if c1 < c0 ∨ r1 < r0 ∨ t1 < t0 then 9 else 0) := Lib.hid (by rw [HPE.out, if_neg (by rw [hg1, hg2, hg3]; simp)])
      have bxw := BX1.out.below HB.out
      have p0 : ∀ j, wr.cell? ⟨w.heap.size, j, none⟩ = (#[Value.int .i64 c0, .int .i64 c1, .int .i64 r0, .int .i64 r1, .int .i64 t0, .int .i64 t1] : Array Value)[j]? := fun j => bxw.cell j
      have p00 : wr.cell? ⟨w.heap.size, 0, none⟩ = some (.int .i64 c0) := p0 0
      have p01 : wr.cell? ⟨w.heap.size, 1, none⟩ = some (.int .i64 c1) := p0 1
      have p02 : wr.cell? ⟨w.heap.size, 2, none⟩ = some (.int .i64 r0) := p0 2
      have p03 : wr.cell? ⟨w.heap.size, 3, none⟩ = some (.int .i64 r1) := p0 3
      have p04 : wr.cell? ⟨w.heap.size, 4, none⟩ = some (.int .i64 t0) := p0 4
      have p05 : wr.cell? ⟨w.heap.size, 5, none⟩ = some (.int .i64 t1) := p0 5
      clear hg1 hg2 hg3 hg p0 bxw HPE
      have HBW := Lib.hid (HB1.out.trans (HB.out.mono HB1.out.size))
      clear HB2 HBA
      go_wp2_with (go_at_call 136; refine (HEN.out _).mono ?_; rintro e w3 ⟨rfl, hb3⟩; have HB3 := Lib.hid (HBW.out.trans (hb3.mono hsz)); clear hb3)
      go_loopw [25] (fun i wr => ∃ k : Nat, (k = 0 ∨ k = 1 ∨ k = 2 ∨ k = 3) ∧ i = .int .i64 k ∧ Hid ((0 < k → ¬ c1 < c0) ∧ (1 < k → ¬ r1 < r0) ∧ (2 < k → ¬ t1 < t0)) ∧ Below w.heap.size w wr) (fun i _ => 3 - (intOf i).toNat)
      case atStart => exact ⟨0, Or.inl rfl, rfl, Lib.hid ⟨fun h => absurd h (by omega), fun h => absurd h (by omega), fun h => absurd h (by omega)⟩, HB3.out⟩
      case round =>
        obtain ⟨k, hk, rfl, hg, hB⟩ := hrel
        have HB := Lib.hid hB
        have hb2 := fun o => hB.alloc hB.size o
        have HB2 := Lib.hid hb2
        clear hB hb2
        rcases hk with rfl | rfl | rfl | rfl
        · by_cases h1 : c1 < c0
          · have HF := Lib.hid h1
            have h1' : decide (c0 > c1) = true := decide_eq_true h1
            clear h1
            go_wp2
            go_ret
            exact ⟨ret_int (by rw [HP1.out, if_pos ((Or.inl) HF.out)]), HB2.out _⟩
          · have HF := Lib.hid h1
            have h1' : decide (c0 > c1) = false := decide_eq_false h1
            clear h1
            go_wp2
            go_roundw
            case rel => exact ⟨1, Or.inr (Or.inl rfl), by go_num, Lib.hid ⟨fun _ => HF.out, fun h => absurd h (by omega), fun h => absurd h (by omega)⟩, HB2.out _⟩
            case measure => simp [intOf] <;> omega
        · by_cases h1 : r1 < r0
          · have HF := Lib.hid h1
            have h1' : decide (r0 > r1) = true := decide_eq_true h1
            clear h1
            go_wp2
            go_ret
            exact ⟨ret_int (by rw [HP1.out, if_pos ((fun x => Or.inr (Or.inl x)) HF.out)]), HB2.out _⟩
          · have HF := Lib.hid h1
            have h1' : decide (r0 > r1) = false := decide_eq_false h1
            clear h1
            go_wp2
            go_roundw
            case rel => exact ⟨2, Or.inr (Or.inr (Or.inl rfl)), by go_num, Lib.hid ⟨fun _ => hg.out.1 (by omega), fun _ => HF.out, fun h => absurd h (by omega)⟩, HB2.out _⟩
            case measure => simp [intOf] <;> omega
        · by_cases h1 : t1 < t0
          · have HF := Lib.hid h1
            have h1' : decide (t0 > t1) = true := decide_eq_true h1
            clear h1
            go_wp2
            go_ret
            exact ⟨ret_int (by rw [HP1.out, if_pos ((fun x => Or.inr (Or.inr x)) HF.out)]), HB2.out _⟩
          · have HF := Lib.hid h1
            have h1' : decide (t0 > t1) = false := decide_eq_false h1
            clear h1
            go_wp2
            go_roundw
            case rel => exact ⟨3, Or.inr (Or.inr (Or.inr rfl)), by go_num, Lib.hid ⟨fun _ => hg.out.1 (by omega), fun _ => hg.out.2.1 (by omega), fun _ => HF.out⟩, HB2.out _⟩
            case measure => simp [intOf] <;> omega
        · have hg1 := hg.out.1 (by omega)
          have hg2 := hg.out.2.1 (by omega)
          have hg3 := hg.out.2.2 (by omega)
          have HP2 : Hid (E = 0) := Lib.hid (by rw [HP1.out, if_neg (by simp [hg1, hg2, hg3])])
          clear hg1 hg2 hg3 hg
          go_wp2
          go_ret
          exact ⟨ret_int HP2.out.symm, HB.out⟩
set_option maxRecDepth 100000 in
set_option maxHeartbeats 2000000 in
theorem checkPins_any (L : List Pin) (a : Option Addr) (n c : Nat) (w : World) (hn : n = L.length) (hr : RowsAt 6 Pin.l w a L) (hl : n ≤ 1000000) :
    Calls Try.prog 40 #[.slice a n c] w (CheckPost (pinsErr L) w) := by
  have HN := Lib.hid hn
  have HER := Lib.hid (fun (p : Pin) W => errorOfPin_any p W)
  by_cases h1 : n < 2
  · have HE := Lib.hid (show pinsErr L = 10 by unfold pinsErr; rw [if_pos (by omega)])
    have h1' : decide ((n : Int) < 2) = true := decide_eq_true (by omega)
    clear hn
    rw [HE.out]
    go_enter Try.func40, Try.ntmps40
    go_wp2
    go_ret
    exact ⟨rfl, Below.refl _ _⟩
  by_cases h2 : 8 < n
  · have HE := Lib.hid (show pinsErr L = 8 by unfold pinsErr; rw [if_neg (by omega), if_pos (by omega)])
    have h1' : decide ((n : Int) < 2) = false := decide_eq_false (by omega)
    have h2' : decide ((n : Int) > 8) = true := decide_eq_true (by omega)
    clear hn
    rw [HE.out]
    go_enter Try.func40, Try.ntmps40
    go_wp2
    go_ret
    exact ⟨rfl, Below.refl _ _⟩
  have HE := Lib.hid (show pinsErr L = pinsE (L.drop 0) by unfold pinsErr; rw [if_neg (by omega), if_neg (by omega)]; rfl)
  have h1' : decide ((n : Int) < 2) = false := decide_eq_false (by omega)
  have h2' : decide ((n : Int) > 8) = false := decide_eq_false (by omega)
  have hn8 : n ≤ 8 := by omega
  have HR := Lib.hid hr
  obtain ⟨E, hE⟩ : ∃ E, E = pinsErr L := ⟨_, rfl⟩
  rw [← hE] at HE ⊢
  clear hE hn h1 h2 hr
  go_enter Try.func40, Try.ntmps40
  go_wp2
  go_loopw [14] (fun i wr => ∃ k : Nat, k ≤ n ∧ i = .int .i64 k ∧ Hid (E = pinsE (L.drop k)) ∧ Below w.heap.size w wr) (fun i _ => n - (intOf i).toNat)
  case atStart => exact ⟨0, Nat.zero_le _, rfl, HE, Below.refl _ _⟩
  case round =>
    obtain ⟨k, hk, rfl, hg, hB⟩ := hrel
    by_cases hlt : k < n
    · have hlt2 : k < L.length := by have := HN.out; omega
      have hlt' : (k : Int) < n := by omega
      obtain ⟨ad, rfl, had, hs⟩ := (HR.out.below hB) k hlt2
      have s0 := hs 0 (by decide)
      have s1 := hs 1 (by decide)
      have s2 := hs 2 (by decide)
      have s3 := hs 3 (by decide)
      have s4 := hs 4 (by decide)
      have s5 := hs 5 (by decide)
      simp only [Pin.l, List.getD_cons_zero, List.getD_cons_succ, fld] at s0 s1 s2 s3 s4 s5
      have HST := Lib.hid (pinsE_stop hlt2)
      have HGO := Lib.hid (pinsE_go hlt2)
      have HC := Lib.hid (fun W => HER.out L[k] W)
      obtain ⟨q, hq⟩ : ∃ q, q = pinErr L[k] := ⟨_, rfl⟩
      rw [← hq] at HST HGO HC
      obtain ⟨⟨c0, c1, r0, r1, t0, t1⟩, hp⟩ : ∃ p, p = L[k] := ⟨_, rfl⟩
      rw [← hp] at s0 s1 s2 s3 s4 s5 HC
      dsimp only at s0 s1 s2 s3 s4 s5 HC
      have HB := Lib.hid hB
      have hsz := hB.size
      clear hp hs hB hq
      by_cases h0 : q = 0
      · have HQ := Lib.hid h0
        have h0' : (q != 0) = false := by simpa using h0
        clear h0
        go_wp2_with (go_at_call 105; refine (HC.out _).mono ?_; rintro e w2 ⟨rfl, hb2⟩)
        go_roundw
        case rel => exact ⟨k + 1, by omega, by go_num, Lib.hid (hg.out.trans (HGO.out HQ.out)), (HB.out.alloc hsz _).trans (hb2.mono (by simp; omega))⟩
        case measure => simp [intOf] <;> omega
      · have HQ := Lib.hid h0
        have h0' : (q != 0) = true := by simpa using h0
        clear h0
        go_wp2_with (go_at_call 105; refine (HC.out _).mono ?_; rintro e w2 ⟨rfl, hb2⟩)
        go_ret
        exact ⟨ret_int (by rw [hg.out, HST.out HQ.out]), (HB.out.alloc hsz _).trans (hb2.mono (by simp; omega))⟩
    · have HQ : Hid (E = 0) := Lib.hid (hg.out.trans (pinsE_end (by have := HN.out; omega)))
      have HB := Lib.hid hB
      clear hg hB
      obtain rfl : k = n := by omega
      go_wp2
      go_ret
      exact ⟨ret_int HQ.out.symm, HB.out⟩
end Go.Proofs.Ytpplcbpnojggcaa
