/-
  Package impose: a scheme printed on both halves of a sheet.
-/
import Derived.Test.YtgoandhlcekmiaaGreatDoorKQ2
import Derived.Test.YtgoandhlcekmiaaGreatDoorKI
namespace Go.Proofs.YtgoandhlcekmiaaGreatDoor
open Go.RowKit

theorem checkSc_ok {C R : Int} {L : List Cell} (h : (checkSc C R L).2 = 0) : cellsErr C R L.length = 0 := by
  unfold checkSc at h
  by_cases h1 : cellsErr C R L.length = 0
  · exact h1
  · rw [if_pos h1] at h; exact absurd h h1
theorem sch_bit2 {m : Int} : ∀ (L : List Cell) (S : List Int) (i : Int), (schErr m L S i).2 = 0 → ∀ x ∈ L, Bit x.ft ∧ Bit x.bt := by
  intro L
  induction L with
  | nil => intro _ _ _ x hx; simp at hx
  | cons y L ih =>
    intro S i h x hx
    unfold schErr at h
    by_cases h1 : cellB m y = false
    · rw [if_pos h1] at h; simp at h
    · rw [if_neg h1] at h
      by_cases h2 : dblB S y = true
      · rw [if_pos h2] at h; simp at h
      · rw [if_neg h2] at h
        rcases List.mem_cons.1 hx with rfl | hx
        · have h3 : cellB m x = true := by simpa using h1
          unfold cellB pageB at h3
          simp at h3
          have a1 := inB_iff.1 h3.1.2; have a2 := inB_iff.1 h3.2.2
          unfold Bit; omega
        · exact ih _ _ h x hx
set_option maxRecDepth 100000 in
set_option maxHeartbeats 60000000 in
theorem combined_any (C R : Int) (a : Option Addr) (L : List Cell) (c : Nat) (b : Bool) (w : World) (hL : RowsAt 4 Cell.l w a L) (hl : L.length ≤ 1000000) :
    Calls Tryz.prog 14 #[.agg #[.int .i64 C, .int .i64 R, .slice a L.length c], .bool b] w (CombPost w (.int .i64 (cbErr C R L b)) (cbD C R L b) (cbL C R L b)) := by
  obtain ⟨w2, hw2⟩ : ∃ w2, w2 = (w.alloc (.cells #[.int .i64 C, .int .i64 R, .slice a L.length c] 29)).alloc (.cells #[.int .i64 0, .int .i64 0, .slice none 0 0] 45) := ⟨_, rfl⟩
  have bx2 : BoxAt w2 w.heap.size #[.int .i64 C, .int .i64 R, .slice a L.length c] 29 := by rw [hw2]; exact (BoxAt.new w _ _).alloc _
  have br2 : BoxAt w2 (w.heap.size + 1) #[.int .i64 0, .int .i64 0, .slice none 0 0] 45 := by
    rw [hw2]
    have := BoxAt.new (w.alloc (.cells #[.int .i64 C, .int .i64 R, .slice a L.length c] 29)) #[.int .i64 0, .int .i64 0, .slice none 0 0] 45
    simpa using this
  have hB2 : Below w.heap.size w w2 := by rw [hw2]; exact ((Below.refl w.heap.size w).alloc (Nat.le_refl _) _).alloc (by simp) _
  have W2 := Lib.hid hw2
  have HLL := Lib.hid hl
  obtain ⟨p0, hp0⟩ : ∃ x, (checkSc C R L).1 = x := ⟨_, rfl⟩
  obtain ⟨q, hq⟩ : ∃ x, (checkSc C R L).2 = x := ⟨_, rfl⟩
  have HQ := Lib.hid hq
  have HCK := Lib.hid (fun W h => checkScheme_any C R a L c W h hl)
  rw [hp0, hq] at HCK
  clear hw2 hp0 hq
  go_enter Tryz.func14, Tryz.ntmps14
  go_wp2_with fail
  rw [← W2.out]
  refine (HCK.out _ (hL.below hB2)).mono ?_
  rintro e w3 ⟨rfl, hb3⟩
  have bx3 := bx2.below hb3; have br3 := br2.below hb3
  have hB3 := hB2.trans (hb3.mono (B' := w.heap.size) hB2.size)
  clear hb3 bx2 br2 hB2
  by_cases hq0 : q = 0
  case neg =>
    have HE : Hid (cbErr C R L b = q) := Lib.hid (by unfold cbErr; rw [HQ.out, if_pos hq0])
    have HD : Hid (cbD C R L b = (0, 0) ∧ cbL C R L b = []) := Lib.hid (by unfold cbD cbL; rw [HE.out]; exact ⟨if_neg hq0, if_neg hq0⟩)
    have heb : (q != 0) = true := by simpa using hq0
    clear hq0
    have r0 := br3.cell 0; have r1 := br3.cell 1; have r2 := br3.cell 2
    have z := fun j => br3.free j
    have hrl := br3.lt
    simp at r0 r1 r2
    go_wp2_with fail
    refine bodyPost_ret (v := .tuple #[.agg #[.int .i64 0, .int .i64 0, .slice none 0 0], .int .i64 q]) ?_ rfl (by rw [HE.out]; exact cb_fail (below_set3 hB3 (Nat.le_succ _) _ _ _) HD.out.1 HD.out.2)
    simp [results, Tryz.results14, go_sem, r0, r1, r2]
  subst hq0
  have HC0 := Lib.hid (checkSc_ok HQ.out)
  have HBT : Hid (∀ x ∈ L, Bit x.ft ∧ Bit x.bt) := Lib.hid (by
    have h := HQ.out
    unfold checkSc at h
    rw [if_neg (by simp [HC0.out])] at h
    exact sch_bit2 L _ _ h)
  obtain ⟨hs, hn⟩ := cells_ok HC0.out
  obtain ⟨sC, sR, sm⟩ := side_ok hs
  obtain ⟨cn, rfl⟩ : ∃ n : Nat, C = n := ⟨C.toNat, by omega⟩
  obtain ⟨rn, rfl⟩ : ∃ n : Nat, R = n := ⟨R.toNat, by omega⟩
  have HCR : Hid ((1 ≤ cn ∧ cn ≤ 8) ∧ (1 ≤ rn ∧ rn ≤ 8)) := Lib.hid (by omega)
  have HN : Hid (L.length = cn * rn) := Lib.hid (by have : (L.length : Int) = ((cn * rn : Nat) : Int) := by rw [hn, Int.natCast_mul]
                                                    omega)
  have hc8 : cn ≤ 8 := HCR.out.1.2
  have hr8 : rn ≤ 8 := HCR.out.2.2
  clear hs hn sC sR sm hl
  have c0 := bx3.cell 0; have c1 := bx3.cell 1; have c2 := bx3.cell 2
  simp at c0 c1 c2
  go_wp2_with fail
  refine (sizeOfScheme_any cn rn (.slice a L.length c) ⟨_, _, _, rfl⟩ _).mono ?_
  rintro e w4 ⟨rfl, hb4⟩
  have bx4 := bx3.below hb4; have br4 := br3.below hb4
  have hB4 := hB3.trans (hb4.mono (B' := w.heap.size) hB3.size)
  clear hb4 bx3 br3 hB3 c0 c1 c2
  obtain ⟨g8, hg8⟩ : ∃ g, g = w4.heap.size := ⟨_, rfl⟩
  obtain ⟨w6, hw6⟩ : ∃ w6, w6 = (if b = true then (w4.alloc (.cells #[.int .i64 cn, .int .i64 rn] 73)).alloc (.cells #[.int .i64 cn, .int .i64 (2 * (rn : Int))] 73) else (w4.alloc (.cells #[.int .i64 cn, .int .i64 rn] 73)).alloc (.cells #[.int .i64 (2 * (cn : Int)), .int .i64 rn] 73)) := ⟨_, rfl⟩
  have hne : (w4.alloc (.cells #[.int .i64 cn, .int .i64 rn] 73)).heap.size = w4.heap.size + 1 := by simp
  have bt0 : BoxAt ((w4.alloc (.cells #[.int .i64 cn, .int .i64 rn] 73)).alloc (.cells #[.int .i64 (2 * (cn : Int)), .int .i64 rn] 73)) (w4.heap.size + 1) #[.int .i64 (2 * (cn : Int)), .int .i64 rn] 73 := by
    have := BoxAt.new (w4.alloc (.cells #[.int .i64 cn, .int .i64 rn] 73)) #[.int .i64 (2 * (cn : Int)), .int .i64 rn] 73
    rw [hne] at this; exact this
  have bt1 : BoxAt ((w4.alloc (.cells #[.int .i64 cn, .int .i64 rn] 73)).alloc (.cells #[.int .i64 cn, .int .i64 (2 * (rn : Int))] 73)) (w4.heap.size + 1) #[.int .i64 cn, .int .i64 (2 * (rn : Int))] 73 := by
    have := BoxAt.new (w4.alloc (.cells #[.int .i64 cn, .int .i64 rn] 73)) #[.int .i64 cn, .int .i64 (2 * (rn : Int))] 73
    rw [hne] at this; exact this
  have h8 : w.heap.size + 1 < w4.heap.size := br4.lt
  have hB5 := hB4.alloc hB4.size (.cells #[.int .i64 cn, .int .i64 rn] 73)
  have bx6 : BoxAt w6 w.heap.size #[.int .i64 cn, .int .i64 rn, .slice a L.length c] 29 := by
    rw [hw6]; cases b
    · exact (bx4.alloc _).alloc _
    · exact (bx4.alloc _).alloc _
  have br6 : BoxAt w6 (w.heap.size + 1) #[.int .i64 0, .int .i64 0, .slice none 0 0] 45 := by
    rw [hw6]; cases b
    · exact (br4.alloc _).alloc _
    · exact (br4.alloc _).alloc _
  have b86 : BoxAt w6 g8 #[.int .i64 cn, .int .i64 rn] 73 := by
    rw [hw6, hg8]; cases b
    · exact (BoxAt.new w4 _ _).alloc _
    · exact (BoxAt.new w4 _ _).alloc _
  have b96 : BoxAt w6 (g8 + 1) #[.int .i64 (cC cn b : Nat), .int .i64 (cR rn b : Nat)] 73 := by
    rw [hw6, hg8]; cases b
    · have e1 : ((cC cn false : Nat) : Int) = 2 * (cn : Int) := by show ((2 * cn : Nat) : Int) = _; push_cast; rfl
      rw [e1]; exact bt0
    · have e1 : ((cR rn true : Nat) : Int) = 2 * (rn : Int) := by show ((2 * rn : Nat) : Int) = _; push_cast; rfl
      rw [e1]; exact bt1
  have hB6 : Below w.heap.size w w6 := by
    rw [hw6]; cases b
    · exact hB5.alloc hB5.size _
    · exact hB5.alloc hB5.size _
  have G1 : w.heap.size + 1 < g8 := by rw [hg8]; exact h8
  have HW6 := Lib.hid hw6; have HG8 := Lib.hid hg8
  have c0 := bx4.cell 0; have c1 := bx4.cell 1
  have hbl := bx4.lt
  simp at c0 c1
  have t0 := bt0.cell 0; have t1 := bt0.cell 1
  have tz := fun j => bt0.free j
  simp at t0 t1
  have q1 : ¬ w.heap.size = w4.heap.size := by omega
  have q2 : ¬ w4.heap.size = w.heap.size := by omega
  have q3 : ¬ w.heap.size = w4.heap.size + 1 := by omega
  clear hw6 hg8 bt0 bt1 hB5 hne h8
  go_upto_if 32 with fail
  go_cut [9] from 33 to 38 (fun v9 wx => v9 = .pointer (some ⟨g8 + 1, 0, none⟩) ∧ wx = w6)
  case first =>
    cases b
    · have hW := HW6.out
      rw [if_neg (by simp)] at hW
      have HWW := Lib.hid hW
      clear hW
      go_wp2_with fail
      go_meet
      exact ⟨by rw [HG8.out], HWW.out.symm⟩
    · have hW := HW6.out
      rw [if_pos rfl] at hW
      have HWW := Lib.hid hW
      clear hW
      go_wp2_with fail
      go_meet
      exact ⟨by rw [HG8.out], HWW.out.symm⟩
  case rest =>
  obtain ⟨rfl, rfl⟩ := hcut
  rename World => w6
  rw [← HG8.out]
  clear c0 c1 hbl t0 t1 tz q1 q2 q3 HW6 bx4 br4 hB4
  have c0 := b96.cell 0; have c1 := b96.cell 1
  simp at c0 c1
  go_wp2_with fail
  refine (errorOfSides_any _ _ _).mono ?_
  rintro e w7 ⟨rfl, hb7⟩
  have bx7 := bx6.below hb7; have br7 := br6.below hb7; have b87 := b86.below hb7; have b97 := b96.below hb7
  have hB7 := hB6.trans (hb7.mono (B' := w.heap.size) hB6.size)
  clear hb7 bx6 br6 b86 b96 hB6 c0 c1
  by_cases hse : sideErr (cC cn b : Nat) (cR rn b : Nat) = 0
  case neg =>
    have HE : Hid (cbErr cn rn L b = 8) := Lib.hid (by unfold cbErr; rw [HQ.out, if_neg (by simp), Int.toNat_natCast, Int.toNat_natCast, if_pos hse])
    have HD : Hid (cbD cn rn L b = (0, 0) ∧ cbL cn rn L b = []) := Lib.hid (by unfold cbD cbL; rw [HE.out]; exact ⟨rfl, rfl⟩)
    have heb : (sideErr (cC cn b : Nat) (cR rn b : Nat) != 0) = true := by simpa using hse
    clear hse
    have r0 := br7.cell 0; have r1 := br7.cell 1; have r2 := br7.cell 2
    have z := fun j => br7.free j
    have hrl := br7.lt
    simp at r0 r1 r2
    go_wp2_with fail
    refine bodyPost_ret (v := .tuple #[.agg #[.int .i64 0, .int .i64 0, .slice none 0 0], .int .i64 8]) ?_ rfl (by rw [HE.out]; exact cb_fail (below_set3 hB7 (Nat.le_succ _) _ _ _) HD.out.1 HD.out.2)
    simp [results, Tryz.results14, go_sem, r0, r1, r2]
  have HE : Hid (cbErr cn rn L b = 0) := Lib.hid (by unfold cbErr; rw [HQ.out, if_neg (by simp), Int.toNat_natCast, Int.toNat_natCast, if_neg (by simp [hse])])
  have HD : Hid (cbD cn rn L b = (((cC cn b : Nat) : Int), ((cR rn b : Nat) : Int)) ∧ cbL cn rn L b = cbAll cn rn b L) := Lib.hid (by unfold cbD cbL; rw [HE.out, Int.toNat_natCast, Int.toNat_natCast]; exact ⟨rfl, rfl⟩)
  obtain ⟨tC, tR, tm⟩ := side_ok hse
  rw [hse]
  have HTC : Hid ((1 ≤ cC cn b ∧ cC cn b ≤ 8) ∧ (1 ≤ cR rn b ∧ cR rn b ≤ 8)) := Lib.hid (by omega)
  have hC8 : cC cn b ≤ 8 := HTC.out.1.2
  have hR8 : cR rn b ≤ 8 := HTC.out.2.2
  obtain ⟨N2, hN2⟩ : ∃ N2, N2 = cC cn b * cR rn b := ⟨_, rfl⟩
  have HN2 := Lib.hid hN2
  have hN64 : N2 ≤ 64 := by rw [hN2]; exact Nat.mul_le_mul hC8 hR8
  have HNI : Hid (((cC cn b : Nat) : Int) * ((cR rn b : Nat) : Int) = ((N2 : Nat) : Int)) := Lib.hid (by rw [hN2, Int.natCast_mul])
  clear hse tC tR tm hN2
  have c0 := b97.cell 0; have c1 := b97.cell 1
  simp at c0 c1
  go_wp2_with fail
  refine (blank_any _ _ N2 _ HNI.out (by omega)).mono ?_
  rintro e w8 ⟨gp, rfl, hgp, hO8, hb8⟩
  have bx8 := bx7.below hb8; have br8 := br7.below hb8; have b88 := b87.below hb8; have b98 := b97.below hb8
  have hB8 := hB7.trans (hb8.mono (B' := w.heap.size) hB7.size)
  have G2 : g8 < g8 + 1 := Nat.lt_succ_self _
  have G3 : g8 + 1 < gp := Nat.lt_trans b97.lt hgp
  clear hb8 bx7 br7 b87 b97 hB7 c0 c1 hgp
  obtain ⟨g10, hg10⟩ : ∃ g, g = w8.heap.size := ⟨_, rfl⟩
  have G4 : gp < g10 := by rw [hg10]; exact (hO8.lt gp rfl).2
  obtain ⟨w9, hw9⟩ : ∃ w9, w9 = w8.alloc (.cells #[.int .i64 (cC cn b : Nat), .int .i64 (cR rn b : Nat), .slice (some ⟨gp, 0, none⟩) N2 N2] 45) := ⟨_, rfl⟩
  have E0 : CbEnv w cn rn (cC cn b) (cR rn b) a L c g8 (g8 + 1) gp g10 N2 (cbMid cn rn b L (0 * cn + 0)) w9 := by
    rw [show 0 * cn + 0 = 0 by omega, cbMid_zero, ← HN2.out, hw9, hg10]
    exact ⟨bx8.alloc _, br8.alloc _, b88.alloc _, b98.alloc _, BoxAt.new _ _ _, hO8.alloc _, hB8.alloc hB8.size _⟩
  have c1 := bx8.cell 1
  have hbl := bx8.lt
  simp at c1
  have q1 : ¬ w.heap.size = w8.heap.size := by omega
  have q2 : ¬ w8.heap.size = w.heap.size := by omega
  have HW9 := Lib.hid hw9; have HG10 := Lib.hid hg10
  clear hw9 hg10 br8 b88 b98 hB8 hO8
  go_wp2_with fail
  rw [← HW9.out, ← HG10.out]
  clear c1 hbl q1 q2 bx8
  go_loopw [47] (fun i wq => ∃ y : Nat, y ≤ rn ∧ i = .int .i64 y ∧ CbEnv w cn rn (cC cn b) (cR rn b) a L c g8 (g8 + 1) gp g10 N2 (cbMid cn rn b L (y * cn + 0)) wq) (fun i _ => rn - (intOf i).toNat)
  case atStart => exact ⟨0, Nat.zero_le _, rfl, E0⟩
  case round =>
    obtain ⟨y, hy, rfl, E⟩ := hrel
    clear E0
    by_cases hyl : y < rn
    · have hyI : (y : Int) < (rn : Int) := by omega
      have t0 := E.bs.cell 0
      simp at t0
      go_wp2_with fail
      go_loopw [52] (fun i wq => ∃ x : Nat, x ≤ cn ∧ i = .int .i64 x ∧ CbEnv w cn rn (cC cn b) (cR rn b) a L c g8 (g8 + 1) gp g10 N2 (cbMid cn rn b L (y * cn + x)) wq) (fun i _ => cn - (intOf i).toNat)
      case atStart => exact ⟨0, Nat.zero_le _, rfl, E⟩
      case round =>
        obtain ⟨x, hx, rfl, E⟩ := hrel
        clear t0
        by_cases hxl : x < cn
        · have hxI : (x : Int) < (cn : Int) := by omega
          obtain ⟨n, hn⟩ : ∃ n, y * cn + x = n := ⟨_, rfl⟩
          have hnI : (y : Int) * (cn : Int) + (x : Int) = (n : Int) := by rw [← hn, Int.natCast_add, Int.natCast_mul]
          have h64 : y * cn ≤ 8 * 8 := Nat.mul_le_mul (show y ≤ 8 by omega) hc8
          have hyc : (y : Int) * (cn : Int) = ((y * cn : Nat) : Int) := (Int.natCast_mul y cn).symm
          have hnl : n < L.length := by rw [← hn, HN.out]; exact mul_lt hyl hxl
          have HAT := Lib.hid (fun W => at_any (cn : Int) (rn : Int) (x : Int) (y : Int) (n : Int) W hnI (by rw [hyc]; omega) (by rw [hyc]; omega) (by omega) (by omega))
          obtain ⟨p1, hp1e⟩ : ∃ p, y * cC cn b + x = p := ⟨_, rfl⟩
          have hpI : (y : Int) * ((cC cn b : Nat) : Int) + (x : Int) = (p1 : Int) := by rw [← hp1e, Int.natCast_add, Int.natCast_mul]
          have h65 : y * cC cn b ≤ 8 * 8 := Nat.mul_le_mul (show y ≤ 8 by omega) hC8
          have hyd : (y : Int) * ((cC cn b : Nat) : Int) = ((y * cC cn b : Nat) : Int) := (Int.natCast_mul y _).symm
          have HAT2 := Lib.hid (fun W => at_any ((cC cn b : Nat) : Int) ((cR rn b : Nat) : Int) (x : Int) (y : Int) (p1 : Int) W hpI (by rw [hyd]; omega) (by rw [hyd]; omega) (by omega) (by omega))
          have hcb := cb_at (C := cn) (R := rn) (b := b) hxl hyl
          rw [hp1e] at hcb
          have hp1 : p1 < cC cn b * cR rn b := hcb.2.2
          have hp1N : p1 < N2 := by rw [HN2.out]; exact hp1
          have HOP := Lib.hid (fun W => opposite_any (cC cn b) (cR rn b) p1 b W HTC.out.1 HTC.out.2 hp1)
          obtain ⟨p2, hp2e⟩ : ∃ p, oppN (cC cn b) (cR rn b) p1 b = p := ⟨_, rfl⟩
          have hp2 : p2 < cC cn b * cR rn b := by rw [← hp2e]; exact oppN_lt b HTC.out.1.1 hp1
          have hp2N : p2 < N2 := by rw [HN2.out]; exact hp2
          rw [hp2e] at HOP
          have hp1I : (p1 : Int) < (N2 : Int) := by omega
          have hp2I : (p2 : Int) < (N2 : Int) := by omega
          have hnlI : (n : Int) < (L.length : Int) := by omega
          have c2 := E.bs.cell 2; have z0 := E.b8.cell 0; have z1 := E.b8.cell 1
          have hsl := E.bs.lt; have hzl := E.b8.lt
          simp at c2 z0 z1
          obtain ⟨ad, rfl, had, s0, s1, s2, s3⟩ := (hL.below E.low).cell hnl
          obtain ⟨p, ep⟩ : ∃ p, p = L[n] := ⟨_, rfl⟩
          rw [← ep] at s0 s1 s2 s3
          have hal : (ad.add (n * 4)).block < wr.heap.size := by rw [add_block]; exact had
          have EP := Lib.hid ep
          have HPU : Hid (Bit p.ft ∧ Bit p.bt) := Lib.hid (HBT.out _ (by rw [ep]; exact List.getElem_mem hnl))
          have HSET : Hid (((cbMid cn rn b L n).set p1 ⟨p.f, p.ft⟩).set p2 ⟨p.b, xr p.bt (roundB b)⟩ = cbMid cn rn b L (y * cn + (x + 1))) := Lib.hid (by
            have h := cbMid_set (C := cn) (R := rn) (y := y) (x := x) (b := b) (L := L) HCR.out.1.1 hxl hyl
            rw [hn, hp1e, hp2e, getD_in default hnl, ← ep] at h
            rw [← Nat.add_assoc, hn]; exact h)
          rw [hn] at E
          clear ep hnI h64 hyc hpI h65 hyd hcb hp1e hp2e hn
          have n0 := World.new_ne _ _ c2; have n1 := World.new_ne _ _ z0; have n2 := World.new_ne _ _ s0; have n3 := World.new_ne _ _ s1; have n4 := World.new_ne _ _ s2; have n5 := World.new_ne _ _ s3
          have hq : Below wr.heap.size wr wr.drew := (Below.refl _ wr).drew
          go_wp2_with fail
          go_cut [13] from 55 to 85 (fun v13 wx => ∃ b13, v13 = .pointer (some ⟨b13, 0, none⟩) ∧ BoxAt wx b13 #[.int .i64 p.f, .int .i64 p.ft, .int .i64 p.b, .int .i64 p.bt] 57 ∧ wr.heap.size ≤ b13 ∧ Below wr.heap.size wr wx)
          case first =>
            rename_i J9 K9 hR9 hM9
            go_region_held3 (fun w' => w'.cell? ⟨w.heap.size, 2, none⟩ = some (.slice (some ad) L.length c) ∧ w'.cell? ⟨g8, 0, none⟩ = some (.int .i64 cn) ∧ w'.cell? ⟨g8, 1, none⟩ = some (.int .i64 rn) ∧ w'.cell? (ad.add (n * 4)) = some (.int .i64 p.f) ∧ w'.cell? ⟨(ad.add (n * 4)).block, (ad.add (n * 4)).off + 1, none⟩ = some (.int .i64 p.ft) ∧ w'.cell? ⟨(ad.add (n * 4)).block, (ad.add (n * 4)).off + 2, none⟩ = some (.int .i64 p.b) ∧ w'.cell? ⟨(ad.add (n * 4)).block, (ad.add (n * 4)).off + 3, none⟩ = some (.int .i64 p.bt)) (first | exact ⟨j0, j1, j2, j3, j4, j5, j6⟩ | go_keep)
              (first
                | (go_at_call 27; refine (HAT.out _).mono ?_; rintro e v ⟨rfl, hbv⟩; first | ((with_reducible have hq := keep_same hq hbv); have j0 := (hq.cell (p := ⟨w.heap.size, 2, none⟩) hsl).trans c2; have j1 := (hq.cell (p := ⟨g8, 0, none⟩) hzl).trans z0; have j2 := (hq.cell (p := ⟨g8, 1, none⟩) hzl).trans z1; have j3 := (hq.cell (p := (ad.add (n * 4))) hal).trans s0; have j4 := (hq.cell (p := ⟨(ad.add (n * 4)).block, (ad.add (n * 4)).off + 1, none⟩) hal).trans s1; have j5 := (hq.cell (p := ⟨(ad.add (n * 4)).block, (ad.add (n * 4)).off + 2, none⟩) hal).trans s2; have j6 := (hq.cell (p := ⟨(ad.add (n * 4)).block, (ad.add (n * 4)).off + 3, none⟩) hal).trans s3; have jn0 := World.new_ne _ _ j0; have jn1 := World.new_ne _ _ j1; have jn2 := World.new_ne _ _ j2; have jn3 := World.new_ne _ _ j3; have jn4 := World.new_ne _ _ j4; have jn5 := World.new_ne _ _ j5; have jn6 := World.new_ne _ _ j6) | ((with_reducible have bal := box_newD hbv); have fz := fun j => bal.free j; have hbl8 := bal.lt; have y0 := bal.cell 0; have y1 := bal.cell 1; have y2 := bal.cell 2; have y3 := bal.cell 3; simp at y0 y1 y2 y3; obtain ⟨nx1, ny1⟩ := lt_ne hsl; obtain ⟨nx2, ny2⟩ := lt_ne hzl; obtain ⟨nx3, ny3⟩ := lt_ne hal; (with_reducible have hq := keep_newD hbv); have j0 := (hq.cell (p := ⟨w.heap.size, 2, none⟩) hsl).trans c2; have j1 := (hq.cell (p := ⟨g8, 0, none⟩) hzl).trans z0; have j2 := (hq.cell (p := ⟨g8, 1, none⟩) hzl).trans z1; have j3 := (hq.cell (p := (ad.add (n * 4))) hal).trans s0; have j4 := (hq.cell (p := ⟨(ad.add (n * 4)).block, (ad.add (n * 4)).off + 1, none⟩) hal).trans s1; have j5 := (hq.cell (p := ⟨(ad.add (n * 4)).block, (ad.add (n * 4)).off + 2, none⟩) hal).trans s2; have j6 := (hq.cell (p := ⟨(ad.add (n * 4)).block, (ad.add (n * 4)).off + 3, none⟩) hal).trans s3; have jn0 := World.new_ne _ _ j0; have jn1 := World.new_ne _ _ j1; have jn2 := World.new_ne _ _ j2; have jn3 := World.new_ne _ _ j3; have jn4 := World.new_ne _ _ j4; have jn5 := World.new_ne _ _ j5; have jn6 := World.new_ne _ _ j6)))
            all_goals
              refine hM9 _ _ ?_
              refine Met.intro ?_
              refine hR9 _ _ ?_
              (repeat apply Exists.intro)
              refine ⟨?_, rfl⟩
            all_goals first
              | exact ⟨_, rfl, BoxAt.new _ _ _, hq.size, hq.alloc hq.size _⟩
              | exact ⟨_, rfl, (((bal.set 0 _).set 1 _).set 2 _).set 3 _, Nat.le_refl _, (((hq.setCell (p := ⟨wr.heap.size, 0, none⟩) (Nat.le_refl _) _).setCell (p := ⟨wr.heap.size, 1, none⟩) (Nat.le_refl _) _).setCell (p := ⟨wr.heap.size, 2, none⟩) (Nat.le_refl _) _).setCell (p := ⟨wr.heap.size, 3, none⟩) (Nat.le_refl _) _⟩
          case rest =>
          obtain ⟨b13, rfl, k13, hk13, hbx⟩ := hcut
          rename World => wa
          have Ea := E.below hbx
          have hb13 : gp < b13 := Nat.lt_of_lt_of_le (Nat.lt_trans G4 E.bv.lt) hk13
          clear c2 z0 z1 hsl hzl s0 s1 s2 s3 hal had n0 n1 n2 n3 n4 n5 hq E hk13
          have c0 := Ea.b9.cell 0; have c1 := Ea.b9.cell 1
          simp at c0 c1
          go_wp2_with (go_at_call 27; refine (HAT2.out _).mono ?_; rintro e wb ⟨rfl, hbv⟩)
          have Eb := Ea.below hbv
          have k13b := k13.below hbv
          clear c0 c1 Ea k13 hbx
          have v2 := Eb.bv.cell 2
          have k0 := k13b.cell 0; have k1 := k13b.cell 1; have k2 := k13b.cell 2; have k3 := k13b.cell 3
          have hvl := Eb.bv.lt; have hkl := k13b.lt
          simp at v2 k0 k1 k2 k3
          clear hbv
          have hq : Below wb.heap.size wb wb.drew := (Below.refl _ wb).drew
          have hbp : b13 ≠ gp := by omega
          have k13 := k13b
          go_wp2_with fail
          go_cut [14] from 67 to 85 (fun v14 wx => v14 = .int .i64 p1 ∧ CbEnv w cn rn (cC cn b) (cR rn b) (some ad) L c g8 (g8 + 1) gp g10 N2 ((cbMid cn rn b L n).set p1 ⟨p.f, p.ft⟩) wx ∧ BoxAt wx b13 #[.int .i64 p.f, .int .i64 p.ft, .int .i64 p.b, .int .i64 p.bt] 57)
          case first =>
            rename_i J9 K9 hR9 hM9
            go_region_law ((first
              | (go_simp; go_at_call 42; refine (frontOf_any p _).mono ?_; rintro e v ⟨rfl, hbv⟩; have hq := keep_same hq hbv; have j0 := (hq.cell (p := ⟨g10, 2, none⟩) hvl).trans v2; have j1 := (hq.cell (p := ⟨b13, 0, none⟩) hkl).trans k0; have j2 := (hq.cell (p := ⟨b13, 1, none⟩) hkl).trans k1; have j3 := (hq.cell (p := ⟨b13, 2, none⟩) hkl).trans k2; have j4 := (hq.cell (p := ⟨b13, 3, none⟩) hkl).trans k3; have jn0 := World.new_ne _ _ j0; have jn1 := World.new_ne _ _ j1; have jn2 := World.new_ne _ _ j2; have jn3 := World.new_ne _ _ j3; have jn4 := World.new_ne _ _ j4; have hOv := Eb.own.below hq; have z := fun q => hOv.free q; obtain ⟨og, oc, oe1, orow, -, -, -, -⟩ := hOv.rows page_l; injection oe1 with oe1 oe2 oe3; clear oe2; subst oe1 oe3; obtain ⟨_, oe1, oh1, x0, x1⟩ := orow.page (k := p1) (by rw [cbMid_len]; exact hp1); cases oe1; rw [add0] at x0 x1)))
            all_goals
              refine hM9 _ _ ?_
              refine Met.intro ?_
              refine hR9 _ _ ?_
              (repeat apply Exists.intro)
              refine ⟨?_, rfl⟩
            all_goals exact ⟨rfl, (Eb.below hq).put G1 G2 G3 G4 (by rw [cbMid_len]; exact HN2.out) (by rw [cbMid_len]; exact hp1) ⟨p.f, p.ft⟩, ((k13.below hq).set_other (p := ⟨gp, p1 * 2, none⟩) hbp _).set_other (p := ⟨gp, p1 * 2 + 1, none⟩) hbp _⟩
          case rest =>
          obtain ⟨rfl, Ec, k13c⟩ := hcut
          rename World => wc
          clear v2 k0 k1 k2 k3 hvl hkl hq k13 k13b Eb
          have v2 := Ec.bv.cell 2; have z0 := Ec.b9.cell 0; have z1 := Ec.b9.cell 1
          have k0 := k13c.cell 0; have k1 := k13c.cell 1; have k2 := k13c.cell 2; have k3 := k13c.cell 3
          have hvl := Ec.bv.lt; have hkl := k13c.lt; have hzl := Ec.b9.lt
          simp at v2 k0 k1 k2 k3 z0 z1
          have hvp : (⟨g10, 2, none⟩ : Addr).block ≠ gp := by show g10 ≠ gp; omega
          have hzp : (⟨g8 + 1, 0, none⟩ : Addr).block ≠ gp := by show g8 + 1 ≠ gp; omega
          have hq : Below wc.heap.size wc wc.drew := (Below.refl _ wc).drew
          have jn0 := World.new_ne _ _ v2; have jn1 := World.new_ne _ _ k0; have jn2 := World.new_ne _ _ k1; have jn3 := World.new_ne _ _ k2; have jn4 := World.new_ne _ _ k3; have jn5 := World.new_ne _ _ z0; have jn6 := World.new_ne _ _ z1
          go_wp2_with fail
          go_region_held3 (fun w' => w'.cell? ⟨g10, 2, none⟩ = some (.slice (some ⟨gp, 0, none⟩) N2 N2) ∧ w'.cell? ⟨b13, 0, none⟩ = some (.int .i64 p.f) ∧ w'.cell? ⟨b13, 1, none⟩ = some (.int .i64 p.ft) ∧ w'.cell? ⟨b13, 2, none⟩ = some (.int .i64 p.b) ∧ w'.cell? ⟨b13, 3, none⟩ = some (.int .i64 p.bt) ∧ w'.cell? ⟨g8 + 1, 0, none⟩ = some (.int .i64 (cC cn b : Nat)) ∧ w'.cell? ⟨g8 + 1, 1, none⟩ = some (.int .i64 (cR rn b : Nat))) (first | exact ⟨j0, j1, j2, j3, j4, j5, j6⟩ | exact ⟨l0, l1, l2, l3, l4, l5, l6⟩ | go_keep)
            (first
              | (go_at_call 45; refine (roundIf2 b _).mono ?_; rintro e w' ⟨rfl, rfl⟩)
              | (go_at_call 46; refine (HOP.out _).mono ?_; rintro e v ⟨rfl, hbv⟩; have hq := keep_same hq hbv; have j0 := (hq.cell (p := ⟨g10, 2, none⟩) hvl).trans v2; have j1 := (hq.cell (p := ⟨b13, 0, none⟩) hkl).trans k0; have j2 := (hq.cell (p := ⟨b13, 1, none⟩) hkl).trans k1; have j3 := (hq.cell (p := ⟨b13, 2, none⟩) hkl).trans k2; have j4 := (hq.cell (p := ⟨b13, 3, none⟩) hkl).trans k3; have j5 := (hq.cell (p := ⟨g8 + 1, 0, none⟩) hzl).trans z0; have j6 := (hq.cell (p := ⟨g8 + 1, 1, none⟩) hzl).trans z1; have jn0 := World.new_ne _ _ j0; have jn1 := World.new_ne _ _ j1; have jn2 := World.new_ne _ _ j2; have jn3 := World.new_ne _ _ j3; have jn4 := World.new_ne _ _ j4; have jn5 := World.new_ne _ _ j5; have jn6 := World.new_ne _ _ j6; have hOv := Ec.own.below hq; have z := fun q => hOv.free q; obtain ⟨og, oc, oe1, orow, -, -, -, -⟩ := hOv.rows page_l; injection oe1 with oe1 oe2 oe3; clear oe2; subst oe1 oe3; obtain ⟨_, oe1, oh1, x0, x1⟩ := orow.page (k := p2) (by rw [List.length_set, cbMid_len]; exact hp2); cases oe1; rw [add0] at x0 x1; have l0 := cell_set2p (al := gp) (i := p2 * 2) (j := p2 * 2 + 1) (A := .int .i64 p.b) (B := .int .i64 (xr p.bt (roundB b))) j0 hvp; have l1 := cell_set2p (al := gp) (i := p2 * 2) (j := p2 * 2 + 1) (A := .int .i64 p.b) (B := .int .i64 (xr p.bt (roundB b))) j1 hbp; have l2 := cell_set2p (al := gp) (i := p2 * 2) (j := p2 * 2 + 1) (A := .int .i64 p.b) (B := .int .i64 (xr p.bt (roundB b))) j2 hbp; have l3 := cell_set2p (al := gp) (i := p2 * 2) (j := p2 * 2 + 1) (A := .int .i64 p.b) (B := .int .i64 (xr p.bt (roundB b))) j3 hbp; have l4 := cell_set2p (al := gp) (i := p2 * 2) (j := p2 * 2 + 1) (A := .int .i64 p.b) (B := .int .i64 (xr p.bt (roundB b))) j4 hbp; have l5 := cell_set2p (al := gp) (i := p2 * 2) (j := p2 * 2 + 1) (A := .int .i64 p.b) (B := .int .i64 (xr p.bt (roundB b))) j5 hzp; have l6 := cell_set2p (al := gp) (i := p2 * 2) (j := p2 * 2 + 1) (A := .int .i64 p.b) (B := .int .i64 (xr p.bt (roundB b))) j6 hzp)
              | (go_at_call 44; refine (backOf_any p _).mono ?_; rintro e v ⟨rfl, hbv⟩; have hq := keep_same hq hbv; have j0 := (hq.cell (p := ⟨g10, 2, none⟩) hvl).trans v2; have j1 := (hq.cell (p := ⟨b13, 0, none⟩) hkl).trans k0; have j2 := (hq.cell (p := ⟨b13, 1, none⟩) hkl).trans k1; have j3 := (hq.cell (p := ⟨b13, 2, none⟩) hkl).trans k2; have j4 := (hq.cell (p := ⟨b13, 3, none⟩) hkl).trans k3; have j5 := (hq.cell (p := ⟨g8 + 1, 0, none⟩) hzl).trans z0; have j6 := (hq.cell (p := ⟨g8 + 1, 1, none⟩) hzl).trans z1; have jn0 := World.new_ne _ _ j0; have jn1 := World.new_ne _ _ j1; have jn2 := World.new_ne _ _ j2; have jn3 := World.new_ne _ _ j3; have jn4 := World.new_ne _ _ j4; have jn5 := World.new_ne _ _ j5; have jn6 := World.new_ne _ _ j6; have hOv := Ec.own.below hq; have z := fun q => hOv.free q; obtain ⟨og, oc, oe1, orow, -, -, -, -⟩ := hOv.rows page_l; injection oe1 with oe1 oe2 oe3; clear oe2; subst oe1 oe3; obtain ⟨_, oe1, oh1, x0, x1⟩ := orow.page (k := p2) (by rw [List.length_set, cbMid_len]; exact hp2); cases oe1; rw [add0] at x0 x1; have l0 := cell_set2p (al := gp) (i := p2 * 2) (j := p2 * 2 + 1) (A := .int .i64 p.b) (B := .int .i64 (xr p.bt (roundB b))) j0 hvp; have l1 := cell_set2p (al := gp) (i := p2 * 2) (j := p2 * 2 + 1) (A := .int .i64 p.b) (B := .int .i64 (xr p.bt (roundB b))) j1 hbp; have l2 := cell_set2p (al := gp) (i := p2 * 2) (j := p2 * 2 + 1) (A := .int .i64 p.b) (B := .int .i64 (xr p.bt (roundB b))) j2 hbp; have l3 := cell_set2p (al := gp) (i := p2 * 2) (j := p2 * 2 + 1) (A := .int .i64 p.b) (B := .int .i64 (xr p.bt (roundB b))) j3 hbp; have l4 := cell_set2p (al := gp) (i := p2 * 2) (j := p2 * 2 + 1) (A := .int .i64 p.b) (B := .int .i64 (xr p.bt (roundB b))) j4 hbp; have l5 := cell_set2p (al := gp) (i := p2 * 2) (j := p2 * 2 + 1) (A := .int .i64 p.b) (B := .int .i64 (xr p.bt (roundB b))) j5 hzp; have l6 := cell_set2p (al := gp) (i := p2 * 2) (j := p2 * 2 + 1) (A := .int .i64 p.b) (B := .int .i64 (xr p.bt (roundB b))) j6 hzp)
              | (go_at_call 43; refine (turned_any ⟨p.b, p.bt⟩ (roundB b) _ HPU.out.2 (roundB_bit b)).mono ?_; rintro e v ⟨rfl, hbv⟩; have hq := keep_same hq hbv; have j0 := (hq.cell (p := ⟨g10, 2, none⟩) hvl).trans v2; have j1 := (hq.cell (p := ⟨b13, 0, none⟩) hkl).trans k0; have j2 := (hq.cell (p := ⟨b13, 1, none⟩) hkl).trans k1; have j3 := (hq.cell (p := ⟨b13, 2, none⟩) hkl).trans k2; have j4 := (hq.cell (p := ⟨b13, 3, none⟩) hkl).trans k3; have j5 := (hq.cell (p := ⟨g8 + 1, 0, none⟩) hzl).trans z0; have j6 := (hq.cell (p := ⟨g8 + 1, 1, none⟩) hzl).trans z1; have jn0 := World.new_ne _ _ j0; have jn1 := World.new_ne _ _ j1; have jn2 := World.new_ne _ _ j2; have jn3 := World.new_ne _ _ j3; have jn4 := World.new_ne _ _ j4; have jn5 := World.new_ne _ _ j5; have jn6 := World.new_ne _ _ j6; have hOv := Ec.own.below hq; have z := fun q => hOv.free q; obtain ⟨og, oc, oe1, orow, -, -, -, -⟩ := hOv.rows page_l; injection oe1 with oe1 oe2 oe3; clear oe2; subst oe1 oe3; obtain ⟨_, oe1, oh1, x0, x1⟩ := orow.page (k := p2) (by rw [List.length_set, cbMid_len]; exact hp2); cases oe1; rw [add0] at x0 x1; have l0 := cell_set2p (al := gp) (i := p2 * 2) (j := p2 * 2 + 1) (A := .int .i64 p.b) (B := .int .i64 (xr p.bt (roundB b))) j0 hvp; have l1 := cell_set2p (al := gp) (i := p2 * 2) (j := p2 * 2 + 1) (A := .int .i64 p.b) (B := .int .i64 (xr p.bt (roundB b))) j1 hbp; have l2 := cell_set2p (al := gp) (i := p2 * 2) (j := p2 * 2 + 1) (A := .int .i64 p.b) (B := .int .i64 (xr p.bt (roundB b))) j2 hbp; have l3 := cell_set2p (al := gp) (i := p2 * 2) (j := p2 * 2 + 1) (A := .int .i64 p.b) (B := .int .i64 (xr p.bt (roundB b))) j3 hbp; have l4 := cell_set2p (al := gp) (i := p2 * 2) (j := p2 * 2 + 1) (A := .int .i64 p.b) (B := .int .i64 (xr p.bt (roundB b))) j4 hbp; have l5 := cell_set2p (al := gp) (i := p2 * 2) (j := p2 * 2 + 1) (A := .int .i64 p.b) (B := .int .i64 (xr p.bt (roundB b))) j5 hzp; have l6 := cell_set2p (al := gp) (i := p2 * 2) (j := p2 * 2 + 1) (A := .int .i64 p.b) (B := .int .i64 (xr p.bt (roundB b))) j6 hzp))
          all_goals
            have E3 := (Ec.below hq).put G1 G2 G3 G4 (by rw [List.length_set, cbMid_len]; exact HN2.out) (k := p2) (by rw [List.length_set, cbMid_len]; exact hp2) ⟨p.b, xr p.bt (roundB b)⟩
            rw [HSET.out] at E3
            clear v2 hvl k0 k1 k2 k3 hkl z0 z1 hzl j0 j1 j2 j3 j4 j5 j6 l0 l1 l2 l3 l4 l5 l6
            go_wp2_with fail
            go_roundw
            case rel => exact ⟨x + 1, by omega, by go_num, E3⟩
            case measure => simp [intOf]; omega
        · have hxC : x = cn := by omega
          have hxI : ¬ (x : Int) < (cn : Int) := by omega
          rw [hxC, show y * cn + cn = (y + 1) * cn + 0 by rw [Nat.succ_mul]; rfl] at E
          clear hxC
          go_wp2_with fail
          go_roundw
          case rel => exact ⟨y + 1, by omega, by go_num, E⟩
          case measure => simp [intOf]; omega
    · have hyR : y = rn := by omega
      have hyI : ¬ (y : Int) < (rn : Int) := by omega
      rw [hyR, show rn * cn + 0 = rn * cn from rfl, cbMid_end HCR.out.1.1] at E
      clear hyR
      have r0 := E.br.cell 0; have r1 := E.br.cell 1; have r2 := E.br.cell 2
      have z := fun j => E.br.free j
      have hrl := E.br.lt
      have f0 := E.bv.cell 0; have f1 := E.bv.cell 1; have f2 := E.bv.cell 2
      simp at r0 r1 r2 f0 f1 f2
      go_wp2_with fail
      rw [HE.out, HD.out.1, HD.out.2]
      refine bodyPost_ret (v := .tuple #[.agg #[.int .i64 (cC cn b : Nat), .int .i64 (cR rn b : Nat), .slice (some ⟨gp, 0, none⟩) N2 N2], .int .i64 0]) ?_ rfl (cb_rows E.own (by omega) E.low _ _ _ (by rw [cbAll_len]; exact HN2.out) _ _ _)
      simp [results, Tryz.results14, go_sem, r0, r1, r2]
end Go.Proofs.YtgoandhlcekmiaaGreatDoor
