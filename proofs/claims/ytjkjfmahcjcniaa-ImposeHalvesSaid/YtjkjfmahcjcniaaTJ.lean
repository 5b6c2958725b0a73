/-
  Package impose: the reference's halves of a sheet.
-/
import Derived.Test.YtjkjfmahcjcniaaTI
import Derived.Test.YtjkjfmahcjcniaaI9
import Derived.BigQuiet
namespace Go.Proofs.Ytjkjfmahcjcniaa
open Go.RowKit

theorem all_at2 {L : List Cell} {k : Nat} (hk : k < L.length) (h : (L.take k).all cellPB = true) : (L.take (k + 1)).all cellPB = cellPB L[k] := by
  rw [List.take_succ_eq_append_getElem hk, List.all_append, h]; simp
theorem all_bad2 {L : List Cell} {k : Nat} (hk : k < L.length) (h : cellPB L[k] = false) : L.all cellPB = false := by
  rw [List.all_eq_false]; exact ⟨L[k], List.getElem_mem hk, by rw [h]; simp⟩
def outC (h r : Int) (k : Nat) : Array Value := if k = 0 then #[.int .i64 0, .int .i64 0, .slice none 0 0, .int .i64 0, .int .i64 0, .slice none 0 0] else if k = 1 then #[.int .i64 h, .int .i64 r, .slice none 0 0, .int .i64 0, .int .i64 0, .slice none 0 0] else #[.int .i64 h, .int .i64 r, .slice none 0 0, .int .i64 h, .int .i64 r, .slice none 0 0]
set_option maxRecDepth 100000 in
set_option maxHeartbeats 16000000 in
theorem refHalves_any (C R : Int) (a : Option Addr) (L : List Cell) (c : Nat) (b : Bool) (w : World) (hL : RowsAt 4 Cell.l w a L) (hl : L.length ≤ 1000000) :
    Calls Try.prog 54 #[.agg #[.int .i64 C, .int .i64 R, .slice a L.length c], .bool b] w (HalvesPost w (hvErr C R L b) (hvD C R L b) (hv1 C R L b) (hv2 C R L b)) := by
  obtain ⟨w2, hw2⟩ : ∃ w2, w2 = (((w.alloc (.cells #[.int .i64 C, .int .i64 R, .slice a L.length c] 43)).alloc (.cells #[.int .i64 0, .int .i64 0, .slice none 0 0, .int .i64 0, .int .i64 0, .slice none 0 0] 80)).alloc (.cells #[.int .i64 0, .int .i64 0, .slice none 0 0, .int .i64 0, .int .i64 0, .slice none 0 0] 80)).alloc (.cells #[.int .i64 0, .int .i64 0, .slice none 0 0, .int .i64 0, .int .i64 0, .slice none 0 0] 80) := ⟨_, rfl⟩
  have bx2 : BoxAt w2 w.heap.size #[.int .i64 C, .int .i64 R, .slice a L.length c] 43 := by rw [hw2]; exact (((BoxAt.new w _ _).alloc _).alloc _).alloc _
  have br2 : BoxAt w2 (w.heap.size + 1) #[.int .i64 0, .int .i64 0, .slice none 0 0, .int .i64 0, .int .i64 0, .slice none 0 0] 80 := by
    rw [hw2]
    have := ((BoxAt.new (w.alloc (.cells #[.int .i64 C, .int .i64 R, .slice a L.length c] 43)) #[.int .i64 0, .int .i64 0, .slice none 0 0, .int .i64 0, .int .i64 0, .slice none 0 0] 80).alloc (.cells #[.int .i64 0, .int .i64 0, .slice none 0 0, .int .i64 0, .int .i64 0, .slice none 0 0] 80)).alloc (.cells #[.int .i64 0, .int .i64 0, .slice none 0 0, .int .i64 0, .int .i64 0, .slice none 0 0] 80)
    simpa using this
  have bn2 : BoxAt w2 (w.heap.size + 1 + 1) #[.int .i64 0, .int .i64 0, .slice none 0 0, .int .i64 0, .int .i64 0, .slice none 0 0] 80 := by
    rw [hw2]
    have := (BoxAt.new ((w.alloc (.cells #[.int .i64 C, .int .i64 R, .slice a L.length c] 43)).alloc (.cells #[.int .i64 0, .int .i64 0, .slice none 0 0, .int .i64 0, .int .i64 0, .slice none 0 0] 80)) #[.int .i64 0, .int .i64 0, .slice none 0 0, .int .i64 0, .int .i64 0, .slice none 0 0] 80).alloc (.cells #[.int .i64 0, .int .i64 0, .slice none 0 0, .int .i64 0, .int .i64 0, .slice none 0 0] 80)
    simpa using this
  have bo2 : BoxAt w2 (w.heap.size + 1 + 1 + 1) #[.int .i64 0, .int .i64 0, .slice none 0 0, .int .i64 0, .int .i64 0, .slice none 0 0] 80 := by
    rw [hw2]
    have := BoxAt.new (((w.alloc (.cells #[.int .i64 C, .int .i64 R, .slice a L.length c] 43)).alloc (.cells #[.int .i64 0, .int .i64 0, .slice none 0 0, .int .i64 0, .int .i64 0, .slice none 0 0] 80)).alloc (.cells #[.int .i64 0, .int .i64 0, .slice none 0 0, .int .i64 0, .int .i64 0, .slice none 0 0] 80)) #[.int .i64 0, .int .i64 0, .slice none 0 0, .int .i64 0, .int .i64 0, .slice none 0 0] 80
    simpa using this
  have hB2 : Below w.heap.size w w2 := by rw [hw2]; exact ((((Below.refl w.heap.size w).alloc (Nat.le_refl _) _).alloc (by simp) _).alloc (by simp; omega) _).alloc (by simp; omega) _
  have hs2 : w2.heap.size = w.heap.size + 1 + 1 + 1 + 1 := by rw [hw2]; simp
  have W2 := Lib.hid hw2
  clear hw2
  have c0 := bx2.cell 0; have c1 := bx2.cell 1; have c2 := bx2.cell 2
  have m0 := bn2.cell 0; have m1 := bn2.cell 1; have m2 := bn2.cell 2; have m3 := bn2.cell 3; have m4 := bn2.cell 4; have m5 := bn2.cell 5
  simp at c0 c1 c2 m0 m1 m2 m3 m4 m5
  go_enter Try.func54, Try.ntmps54
  go_wp2_with fail
  rw [← W2.out]
  refine (checkSheet_any _ _ _).mono ?_
  rintro e w' ⟨rfl, rfl⟩
  by_cases h1 : sideErr C R = 0
  case neg =>
    have HE : Hid (hvErr C R L b = sideErr C R) := Lib.hid (by unfold hvErr cellsErr; rw [if_pos h1, if_pos h1])
    have heb : (sideErr C R != 0) = true := by simpa using h1
    have h1' := h1
    clear h1
    have r0 := br2.cell 0; have r1 := br2.cell 1; have r2 := br2.cell 2; have r3 := br2.cell 3; have r4 := br2.cell 4; have r5 := br2.cell 5
    have z := fun j => br2.free j
    have hrl := br2.lt
    simp at r0 r1 r2 r3 r4 r5
    have HD : Hid (hvD C R L b = (0, 0) ∧ hv1 C R L b = [] ∧ hv2 C R L b = []) := Lib.hid (by unfold hvD hv1 hv2; rw [HE.out]; exact ⟨if_neg h1', if_neg h1', if_neg h1'⟩)
    go_wp2_with fail
    rw [HE.out]
    refine bodyPost_ret (v := .tuple #[.agg #[.int .i64 0, .int .i64 0, .slice none 0 0, .int .i64 0, .int .i64 0, .slice none 0 0], .int .i64 (sideErr C R)]) ?_ rfl (hv_fail (below_set6 hB2 (Nat.le_succ _) _ _ _ _ _ _) HD.out.1 HD.out.2.1 HD.out.2.2)
    simp [results, Try.results54, go_sem, r0, r1, r2, r3, r4, r5]
  obtain ⟨sC, sR, sm⟩ := side_ok h1
  obtain ⟨cn, rfl⟩ : ∃ n : Nat, C = n := ⟨C.toNat, by omega⟩
  obtain ⟨rn, rfl⟩ : ∃ n : Nat, R = n := ⟨R.toNat, by omega⟩
  have HS := Lib.hid h1
  rw [h1]
  have hp0 : 0 ≤ (cn : Int) * rn := Int.mul_nonneg (by omega) (by omega)
  obtain ⟨N, hN⟩ : ∃ N : Nat, cn * rn = N := ⟨_, rfl⟩
  have hNI : (cn : Int) * (rn : Int) = (N : Int) := by rw [← hN, Int.natCast_mul]
  rw [hNI] at sm hp0
  have HCR : Hid ((1 ≤ cn ∧ cn ≤ 8) ∧ (1 ≤ rn ∧ rn ≤ 8)) := Lib.hid (by omega)
  clear h1 sC sR
  by_cases hln : L.length = N
  case neg =>
    have hlb : ((L.length : Int) != (N : Int)) = true := by simp; omega
    have HE : Hid (hvErr cn rn L b = 10) := Lib.hid (by
      have h2 : cellsErr cn rn L.length = 10 := by unfold cellsErr; rw [if_neg (by simp [HS.out]), if_pos (by rw [hNI]; omega)]
      unfold hvErr; rw [h2]; rfl)
    clear hln hN
    have r0 := br2.cell 0; have r1 := br2.cell 1; have r2 := br2.cell 2; have r3 := br2.cell 3; have r4 := br2.cell 4; have r5 := br2.cell 5
    have z := fun j => br2.free j
    have hrl := br2.lt
    simp at r0 r1 r2 r3 r4 r5
    have HD : Hid (hvD cn rn L b = (0, 0) ∧ hv1 cn rn L b = [] ∧ hv2 cn rn L b = []) := Lib.hid (by unfold hvD hv1 hv2; rw [HE.out]; exact ⟨if_neg (by decide), if_neg (by decide), if_neg (by decide)⟩)
    go_wp2_with fail
    rw [HE.out]
    refine bodyPost_ret (v := .tuple #[.agg #[.int .i64 0, .int .i64 0, .slice none 0 0, .int .i64 0, .int .i64 0, .slice none 0 0], .int .i64 10]) ?_ rfl (hv_fail (below_set6 hB2 (Nat.le_succ _) _ _ _ _ _ _) HD.out.1 HD.out.2.1 HD.out.2.2)
    simp [results, Try.results54, go_sem, r0, r1, r2, r3, r4, r5]
  have hlb : ((L.length : Int) != (N : Int)) = false := by simp [hln]
  have HN : Hid (L.length = cn * rn) := Lib.hid (by rw [hln, hN])
  have hl64 : L.length ≤ 64 := by omega
  have HC0 : Hid (cellsErr cn rn L.length = 0) := Lib.hid (by unfold cellsErr; rw [if_neg (by simp [HS.out]), if_neg (by simp [hNI, hln])])
  clear hln hN
  go_wp2_with fail
  go_loopw [9] (fun i wr => ∃ k : Nat, k ≤ L.length ∧ i = .int .i64 k ∧ Hid ((L.take k).all cellPB = true) ∧ Below w2.heap.size w2 wr) (fun i _ => L.length - (intOf i).toNat)
  case atStart => exact ⟨0, Nat.zero_le _, rfl, Lib.hid rfl, Below.refl _ _⟩
  case round =>
    obtain ⟨k, hk, rfl, HT, hB⟩ := hrel
    have hBr := hB2.trans (hB.mono (B' := w.heap.size) hB2.size)
    have bxr := bx2.below hB; have brr := br2.below hB; have bnr := bn2.below hB; have bor := bo2.below hB
    clear c0 c1 c2 m0 m1 m2 m3 m4 m5
    have c0 := bxr.cell 0; have c1 := bxr.cell 1; have c2 := bxr.cell 2
    have m0 := bnr.cell 0; have m1 := bnr.cell 1; have m2 := bnr.cell 2; have m3 := bnr.cell 3; have m4 := bnr.cell 4; have m5 := bnr.cell 5
    simp at c0 c1 c2 m0 m1 m2 m3 m4 m5
    by_cases hkl : k < L.length
    · have hkI : (k : Int) < (L.length : Int) := by omega
      obtain ⟨ad, rfl, had, s0, s1, s2, s3⟩ := (hL.below hBr).cell hkl
      obtain ⟨x, ex⟩ : ∃ x, x = L[k] := ⟨_, rfl⟩
      rw [← ex] at s0 s1 s2 s3
      have EX := Lib.hid ex
      clear ex
      have hBw := hB.alloc hB.size (.cells #[.int .i64 x.f, .int .i64 x.ft, .int .i64 x.b, .int .i64 x.bt] 91)
      have hBv := hBr.alloc hBr.size (.cells #[.int .i64 x.f, .int .i64 x.ft, .int .i64 x.b, .int .i64 x.bt] 91)
      have brv := brr.alloc (.cells #[.int .i64 x.f, .int .i64 x.ft, .int .i64 x.b, .int .i64 x.bt] 91)
      have hnl := bnr.lt
      have q1 : ¬ w.heap.size + 1 + 1 = wr.heap.size := by omega
      have q2 : ¬ wr.heap.size = w.heap.size + 1 + 1 := by omega
      cases hx : cellPB x
      · have HE : Hid (hvErr cn rn L b = 2) := Lib.hid (by
          have := all_bad2 hkl (by rw [← EX.out]; exact hx)
          unfold hvErr; rw [if_neg (by simp [HC0.out]), if_neg (by rw [this]; simp)])
        cases x1 : inB x.f 1 4000
        · clear hx
          have r0 := brv.cell 0; have r1 := brv.cell 1; have r2 := brv.cell 2; have r3 := brv.cell 3; have r4 := brv.cell 4; have r5 := brv.cell 5
          have z := fun j => brv.free j
          have hrl := brv.lt
          simp at r0 r1 r2 r3 r4 r5
          have HD : Hid (hvD cn rn L b = (0, 0) ∧ hv1 cn rn L b = [] ∧ hv2 cn rn L b = []) := Lib.hid (by unfold hvD hv1 hv2; rw [HE.out]; exact ⟨if_neg (by decide), if_neg (by decide), if_neg (by decide)⟩)
          go_wp2_with (first | (go_at_call 101; refine (isPage_any _ _).mono ?_; rintro e w' ⟨rfl, rfl⟩) | (go_at_call 91; refine (isTurn_any _ _).mono ?_; rintro e w' ⟨rfl, rfl⟩))
          rw [HE.out]
          refine bodyPost_ret (v := .tuple #[.agg #[.int .i64 0, .int .i64 0, .slice none 0 0, .int .i64 0, .int .i64 0, .slice none 0 0], .int .i64 2]) ?_ rfl (hv_fail (below_set6 hBv (Nat.le_succ _) _ _ _ _ _ _) HD.out.1 HD.out.2.1 HD.out.2.2)
          simp [results, Try.results54, go_sem, r0, r1, r2, r3, r4, r5]
        · cases x2 : inB x.b 1 4000
          · clear hx
            have r0 := brv.cell 0; have r1 := brv.cell 1; have r2 := brv.cell 2; have r3 := brv.cell 3; have r4 := brv.cell 4; have r5 := brv.cell 5
            have z := fun j => brv.free j
            have hrl := brv.lt
            simp at r0 r1 r2 r3 r4 r5
            have HD : Hid (hvD cn rn L b = (0, 0) ∧ hv1 cn rn L b = [] ∧ hv2 cn rn L b = []) := Lib.hid (by unfold hvD hv1 hv2; rw [HE.out]; exact ⟨if_neg (by decide), if_neg (by decide), if_neg (by decide)⟩)
            go_wp2_with (first | (go_at_call 101; refine (isPage_any _ _).mono ?_; rintro e w' ⟨rfl, rfl⟩) | (go_at_call 91; refine (isTurn_any _ _).mono ?_; rintro e w' ⟨rfl, rfl⟩))
            rw [HE.out]
            refine bodyPost_ret (v := .tuple #[.agg #[.int .i64 0, .int .i64 0, .slice none 0 0, .int .i64 0, .int .i64 0, .slice none 0 0], .int .i64 2]) ?_ rfl (hv_fail (below_set6 hBv (Nat.le_succ _) _ _ _ _ _ _) HD.out.1 HD.out.2.1 HD.out.2.2)
            simp [results, Try.results54, go_sem, r0, r1, r2, r3, r4, r5]
          · cases x3 : inB x.ft 0 1
            · clear hx
              have r0 := brv.cell 0; have r1 := brv.cell 1; have r2 := brv.cell 2; have r3 := brv.cell 3; have r4 := brv.cell 4; have r5 := brv.cell 5
              have z := fun j => brv.free j
              have hrl := brv.lt
              simp at r0 r1 r2 r3 r4 r5
              have HD : Hid (hvD cn rn L b = (0, 0) ∧ hv1 cn rn L b = [] ∧ hv2 cn rn L b = []) := Lib.hid (by unfold hvD hv1 hv2; rw [HE.out]; exact ⟨if_neg (by decide), if_neg (by decide), if_neg (by decide)⟩)
              go_wp2_with (first | (go_at_call 101; refine (isPage_any _ _).mono ?_; rintro e w' ⟨rfl, rfl⟩) | (go_at_call 91; refine (isTurn_any _ _).mono ?_; rintro e w' ⟨rfl, rfl⟩))
              rw [HE.out]
              refine bodyPost_ret (v := .tuple #[.agg #[.int .i64 0, .int .i64 0, .slice none 0 0, .int .i64 0, .int .i64 0, .slice none 0 0], .int .i64 2]) ?_ rfl (hv_fail (below_set6 hBv (Nat.le_succ _) _ _ _ _ _ _) HD.out.1 HD.out.2.1 HD.out.2.2)
              simp [results, Try.results54, go_sem, r0, r1, r2, r3, r4, r5]
            · have x4 : inB x.bt 0 1 = false := by
                unfold cellPB pageB at hx; simp only [x1, x2, x3] at hx; simpa using hx
              clear hx
              have r0 := brv.cell 0; have r1 := brv.cell 1; have r2 := brv.cell 2; have r3 := brv.cell 3; have r4 := brv.cell 4; have r5 := brv.cell 5
              have z := fun j => brv.free j
              have hrl := brv.lt
              simp at r0 r1 r2 r3 r4 r5
              have HD : Hid (hvD cn rn L b = (0, 0) ∧ hv1 cn rn L b = [] ∧ hv2 cn rn L b = []) := Lib.hid (by unfold hvD hv1 hv2; rw [HE.out]; exact ⟨if_neg (by decide), if_neg (by decide), if_neg (by decide)⟩)
              go_wp2_with (first | (go_at_call 101; refine (isPage_any _ _).mono ?_; rintro e w' ⟨rfl, rfl⟩) | (go_at_call 91; refine (isTurn_any _ _).mono ?_; rintro e w' ⟨rfl, rfl⟩))
              rw [HE.out]
              refine bodyPost_ret (v := .tuple #[.agg #[.int .i64 0, .int .i64 0, .slice none 0 0, .int .i64 0, .int .i64 0, .slice none 0 0], .int .i64 2]) ?_ rfl (hv_fail (below_set6 hBv (Nat.le_succ _) _ _ _ _ _ _) HD.out.1 HD.out.2.1 HD.out.2.2)
              simp [results, Try.results54, go_sem, r0, r1, r2, r3, r4, r5]
      · have HT2 : Hid ((L.take (k + 1)).all cellPB = true) := Lib.hid (by rw [all_at2 hkl HT.out, ← EX.out]; exact hx)
        unfold cellPB pageB at hx
        simp only [Bool.and_eq_true] at hx
        obtain ⟨⟨x1, x3⟩, x2, x4⟩ := hx
        go_wp2_with (first | (go_at_call 101; refine (isPage_any _ _).mono ?_; rintro e w' ⟨rfl, rfl⟩) | (go_at_call 91; refine (isTurn_any _ _).mono ?_; rintro e w' ⟨rfl, rfl⟩))
        go_roundw
        case rel => exact ⟨k + 1, by omega, by go_num, HT2, hBw⟩
        case measure => simp [intOf]; omega
    · have hkL : k = L.length := by omega
      have HALL : Hid (L.all cellPB = true) := Lib.hid (by have := HT.out; rw [hkL, List.take_length] at this; exact this)
      have hkI : ¬ (k : Int) < (L.length : Int) := by omega
      clear HT hkL
      have qd1 : (cn : Int).tdiv 2 = ((cn / 2 : Nat) : Int) := by rw [Int.tdiv_eq_ediv_of_nonneg (by omega)]; exact (Int.natCast_ediv cn 2).symm
      have qd2 : (rn : Int).tdiv 2 = ((rn / 2 : Nat) : Int) := by rw [Int.tdiv_eq_ediv_of_nonneg (by omega)]; exact (Int.natCast_ediv rn 2).symm
      have mm1 : (cn : Int).tmod 2 = ((cn % 2 : Nat) : Int) := by rw [Int.tmod_eq_emod_of_nonneg (by omega)]; exact (Int.natCast_emod cn 2).symm
      have mm2 : (rn : Int).tmod 2 = ((rn % 2 : Nat) : Int) := by rw [Int.tmod_eq_emod_of_nonneg (by omega)]; exact (Int.natCast_emod rn 2).symm
      have hcr8 : cn ≤ 8 ∧ rn ≤ 8 := by have := HCR.out; omega
      obtain ⟨hcn8, hrn8⟩ := hcr8
      cases b
      · obtain ⟨hc, ehc⟩ : ∃ n, cn / 2 = n := ⟨_, rfl⟩
        obtain ⟨cm, ecm⟩ : ∃ n, cn % 2 = n := ⟨_, rfl⟩
        rw [ehc] at qd1
        rw [ecm] at mm1
        have hcm : cm < 2 := by rw [← ecm]; exact Nat.mod_lt _ (by decide)
        have hc8 : hc ≤ 8 := by rw [← ehc]; omega
        have HCC : Hid (halfC cn false = hc ∧ halfR rn false = rn ∧ evenB cn rn false = (cm == 0) ∧ hc ≤ cn) := Lib.hid ⟨by unfold halfC; rw [if_neg (by simp)]; exact ehc, by unfold halfR; rw [if_neg (by simp)], by unfold evenB; rw [if_neg (by simp), ecm], by rw [← ehc]; omega⟩
        clear qd2 mm2 ehc ecm
        go_wp2_with fail
        go_quiet (fail)
        obtain ⟨wq, hwq⟩ : ∃ wq, wq = wr.drewN nq := ⟨_, rfl⟩
        have bxq := bxr.drewN nq; have brq := brr.drewN nq; have boq := bor.drewN nq; have bnq := bnr.drewN nq
        have hBq := below_drewN hBr nq
        rw [← hwq] at bxq brq boq bnq hBq
        rw [← hwq]
        clear hwq c0 c1 c2 m0 m1 m2 m3 m4 m5 bxr brr bor bnr hBr hB
        have c0 := bxq.cell 0; have c1 := bxq.cell 1; have c2 := bxq.cell 2
        have m0 := bnq.cell 0; have m1 := bnq.cell 1; have m2 := bnq.cell 2; have m3 := bnq.cell 3; have m4 := bnq.cell 4; have m5 := bnq.cell 5
        simp at c0 c1 c2 m0 m1 m2 m3 m4 m5
        by_cases hcm0 : cm = 0
        case neg =>
          have HE : Hid (hvErr cn rn L false = 25) := Lib.hid (by unfold hvErr; rw [if_neg (by simp [HC0.out]), if_pos HALL.out, Int.toNat_natCast, Int.toNat_natCast, HCC.out.2.2.1, if_neg (by simpa using hcm0)])
          have hcmb : ((cm : Int) != 0) = true := by simp; omega
          have r0 := brq.cell 0; have r1 := brq.cell 1; have r2 := brq.cell 2; have r3 := brq.cell 3; have r4 := brq.cell 4; have r5 := brq.cell 5
          have z := fun j => brq.free j
          have hrl := brq.lt
          simp at r0 r1 r2 r3 r4 r5
          have HD : Hid (hvD cn rn L false = (0, 0) ∧ hv1 cn rn L false = [] ∧ hv2 cn rn L false = []) := Lib.hid (by unfold hvD hv1 hv2; rw [HE.out]; exact ⟨if_neg (by decide), if_neg (by decide), if_neg (by decide)⟩)
          go_wp2_with fail
          rw [HE.out]
          refine bodyPost_ret (v := .tuple #[.agg #[.int .i64 0, .int .i64 0, .slice none 0 0, .int .i64 0, .int .i64 0, .slice none 0 0], .int .i64 25]) ?_ rfl (hv_fail (below_set6 hBq (Nat.le_succ _) _ _ _ _ _ _) HD.out.1 HD.out.2.1 HD.out.2.2)
          simp [results, Try.results54, go_sem, r0, r1, r2, r3, r4, r5]
        subst hcm0
        have HE : Hid (hvErr cn rn L false = 0) := Lib.hid (by unfold hvErr; rw [if_neg (by simp [HC0.out]), if_pos HALL.out, Int.toNat_natCast, Int.toNat_natCast, HCC.out.2.2.1]; rfl)
        have HD : Hid (hvD cn rn L false = ((hc : Int), (rn : Int)) ∧ hv1 cn rn L false = hOne cn hc L rn 0 ∧ hv2 cn rn L false = hTwo cn rn hc false L rn 0) := Lib.hid (by
          unfold hvD hv1 hv2; rw [HE.out, Int.toNat_natCast, Int.toNat_natCast, HCC.out.1, HCC.out.2.1]; exact ⟨rfl, rfl, rfl⟩)
        have HH : Hid (hc ≤ cn ∧ rn ≤ rn ∧ hc ≤ 8 ∧ rn ≤ 8) := Lib.hid (by have := HCC.out.2.2.2; omega)
        have hx8 : hc ≤ 8 := HH.out.2.2.1
        have hy8 : rn ≤ 8 := HH.out.2.2.2
        have hs2' := hs2
        clear m0 m1 m2 m3 m4 m5 bnq HCC
        go_wp2_with fail
        go_loopw [13] (fun i wq => ∃ k : Nat, k ≤ 2 ∧ i = .int .i64 k ∧ BoxAt wq (w.heap.size + 1 + 1 + 1) (outC (hc : Int) (rn : Int) k) 80 ∧ BoxAt wq w.heap.size #[.int .i64 cn, .int .i64 rn, .slice a L.length c] 43 ∧ BoxAt wq (w.heap.size + 1) #[.int .i64 0, .int .i64 0, .slice none 0 0, .int .i64 0, .int .i64 0, .slice none 0 0] 80 ∧ Below w.heap.size w wq) (fun i _ => 2 - (intOf i).toNat)
        case atStart => exact ⟨0, by decide, rfl, boq, bxq, brq, hBq⟩
        case round =>
          obtain ⟨k2, hk2, rfl, bo, bx, br, hBo⟩ := hrel
          clear boq bxq brq hBq c0 c1 c2
          have z := fun j => bo.free j
          have hol := bo.lt
          have j0 : w.heap.size ≠ w.heap.size + 1 + 1 + 1 := by omega
          have j1 : w.heap.size + 1 ≠ w.heap.size + 1 + 1 + 1 := by omega
          have jl : w.heap.size ≤ w.heap.size + 1 + 1 + 1 := by omega
          rcases (show k2 = 0 ∨ k2 = 1 ∨ k2 = 2 by omega) with rfl | rfl | rfl
          · change BoxAt _ _ #[.int .i64 0, .int .i64 0, .slice none 0 0, .int .i64 0, .int .i64 0, .slice none 0 0] _ at bo
            have y0 := bo.cell 0; have y1 := bo.cell 1
            simp at y0 y1
            go_wp2_with fail
            go_roundw
            case rel => exact ⟨1, by decide, rfl, (bo.set 0 _).set 1 _, (bx.set_other (p := ⟨w.heap.size + 1 + 1 + 1, 0, none⟩) j0 _).set_other (p := ⟨w.heap.size + 1 + 1 + 1, 1, none⟩) j0 _, (br.set_other (p := ⟨w.heap.size + 1 + 1 + 1, 0, none⟩) j1 _).set_other (p := ⟨w.heap.size + 1 + 1 + 1, 1, none⟩) j1 _, (hBo.setCell (p := ⟨w.heap.size + 1 + 1 + 1, 0, none⟩) jl _).setCell (p := ⟨w.heap.size + 1 + 1 + 1, 1, none⟩) jl _⟩
            case measure => simp [intOf]
          · change BoxAt _ _ #[.int .i64 hc, .int .i64 rn, .slice none 0 0, .int .i64 0, .int .i64 0, .slice none 0 0] _ at bo
            have y0 := bo.cell 3; have y1 := bo.cell 4
            simp at y0 y1
            go_wp2_with fail
            go_roundw
            case rel => exact ⟨2, by decide, rfl, (bo.set 3 _).set 4 _, (bx.set_other (p := ⟨w.heap.size + 1 + 1 + 1, 3, none⟩) j0 _).set_other (p := ⟨w.heap.size + 1 + 1 + 1, 4, none⟩) j0 _, (br.set_other (p := ⟨w.heap.size + 1 + 1 + 1, 3, none⟩) j1 _).set_other (p := ⟨w.heap.size + 1 + 1 + 1, 4, none⟩) j1 _, (hBo.setCell (p := ⟨w.heap.size + 1 + 1 + 1, 3, none⟩) jl _).setCell (p := ⟨w.heap.size + 1 + 1 + 1, 4, none⟩) jl _⟩
            case measure => simp [intOf]
          change BoxAt _ _ #[.int .i64 hc, .int .i64 rn, .slice none 0 0, .int .i64 hc, .int .i64 rn, .slice none 0 0] _ at bo
          have E0 : RvEnv w cn rn hc rn a L c (.slice none 0 0) (hOne cn hc L 0 0) (.slice none 0 0) (hTwo cn rn hc false L 0 0) wr := by
            have e1 : hOne cn hc L 0 0 = [] := by simp [hOne]
            have e2 : hTwo cn rn hc false L 0 0 = [] := by simp [hTwo]
            rw [e1, e2]
            exact ⟨bx, br, bo, OwnR.nil _ _, OwnR.nil _ _, (fun q e => by cases e), hBo⟩
          clear bx br bo hBo z hol j0 j1 jl
          go_wp2_with fail
          go_loopw [14] (fun i wq => ∃ (y : Nat) (v1 v2 : Value), y ≤ rn ∧ i = .int .i64 y ∧ RvEnv w cn rn hc rn a L c v1 (hOne cn hc L y 0) v2 (hTwo cn rn hc false L y 0) wq) (fun i _ => rn - (intOf i).toNat)
          case atStart => exact ⟨0, _, _, Nat.zero_le _, rfl, E0⟩
          case round =>
            obtain ⟨y, v1, v2, hy, rfl, E⟩ := hrel
            clear E0
            by_cases hyl : y < rn
            · have hyI : (y : Int) < (rn : Int) := by omega
              go_wp2_with fail
              go_loopw [15] (fun i wq => ∃ (x : Nat) (v1 v2 : Value), x ≤ hc ∧ i = .int .i64 x ∧ RvEnv w cn rn hc rn a L c v1 (hOne cn hc L y x) v2 (hTwo cn rn hc false L y x) wq) (fun i _ => hc - (intOf i).toNat)
              case atStart => exact ⟨0, v1, v2, Nat.zero_le _, rfl, E⟩
              case round =>
                obtain ⟨x, v1, v2, hx, rfl, E⟩ := hrel
                by_cases hxl : x < hc
                · have hxI : (x : Int) < (hc : Int) := by omega
                  have hxc : x < cn := by have := HH.out; omega
                  have hyr : y < rn := by have := HH.out; omega
                  obtain ⟨n, hn⟩ : ∃ n, y * cn + x = n := ⟨_, rfl⟩
                  have hnl : n < L.length := by rw [← hn, HN.out]; exact mul_lt hyr hxc
                  have hnI : (y : Int) * (cn : Int) + (x : Int) = (n : Int) := by rw [← hn, Int.natCast_add, Int.natCast_mul]
                  have hyc0 : 0 ≤ (y : Int) * (cn : Int) := Int.mul_nonneg (by omega) (by omega)
                  have hyc1 : (y : Int) * (cn : Int) ≤ 64 := by have := Int.mul_le_mul (show (y : Int) ≤ 8 by omega) (show (cn : Int) ≤ 8 by omega) (by omega) (by omega); omega
                  have hn64 : (n : Int) ≤ 100 := by omega
                  have q1 : IntKind.i64.wrap ((y : Int) * (cn : Int)) = (y : Int) * (cn : Int) := IntWalk.i64_in _ (by omega)
                  have q2 : IntKind.i64.wrap ((y : Int) * (cn : Int) + (x : Int)) = (n : Int) := by rw [← hnI]; exact IntWalk.i64_in _ (by omega)
                  have c0 := E.bs.cell 0; have c2 := E.bs.cell 2; have v12 := E.bo.cell 2
                  have hsl := E.bs.lt; have hgl := E.bo.lt
                  simp at c0 c2 v12
                  obtain ⟨ad, rfl, had, s0, s1, s2, s3⟩ := (hL.below E.low).cell hnl
                  obtain ⟨p, ep⟩ : ∃ p, p = L[n] := ⟨_, rfl⟩
                  rw [← ep] at s0 s1 s2 s3
                  have EP := Lib.hid ep
                  have HNN := Lib.hid hn
                  clear ep hn hnI
                  have hnlI : (n : Int) < (L.length : Int) := by omega
                  have HH1 : Hid (hOne cn hc L y x ++ [p] = hOne cn hc L y (x + 1)) := Lib.hid (by
                    rw [← hOne_succ hxl, HNN.out, getD_in default hnl, ← EP.out])
                  have HL1 : Hid ((hOne cn hc L y x).length ≤ 1000) := Lib.hid (by
                    rw [hOne_len]; have h1 : y * hc ≤ 8 * 8 := Nat.mul_le_mul (show y ≤ 8 by omega) hx8; omega)
                  have n0 := World.new_ne _ _ c2; have n1 := World.new_ne _ _ v12; have n2 := World.new_ne _ _ s0; have n3 := World.new_ne _ _ s1; have n4 := World.new_ne _ _ s2; have n5 := World.new_ne _ _ s3
                  have m1 : ¬ w.heap.size + 1 + 1 + 1 = wr.heap.size := by omega
                  have m2 : ¬ wr.heap.size = w.heap.size + 1 + 1 + 1 := by omega
                  have m4 : (wr.alloc (.cells #[.int .i64 p.f, .int .i64 p.ft, .int .i64 p.b, .int .i64 p.bt] 91)).cell? ⟨w.heap.size + 1 + 1 + 1, 2, none⟩ = some v1 := (E.bo.alloc _).cell 2
                  go_wp2_with fail
                  go_cut [15] from 120 to 189 (fun v15 wx => v15 = .int .i64 x ∧ ∃ v1', RvEnv w cn rn hc rn (some ad) L c v1' (hOne cn hc L y (x + 1)) v2 (hTwo cn rn hc false L y x) wx)
                  case first =>
                    rename_i J9 K9 hR9 hM9
                    go_region_law ((
                      refine step_appL tCell cell_l _ (by rfl) _ _ (by rfl) (w.heap.size + 1 + 1 + 1 + 1) v1 (hOne cn hc L y x) (by rfl) (E.o1.alloc _) (some ⟨wr.heap.size, 0, none⟩) [p] 1 1 rfl (by rfl) (rows_lit cell_l _ _ _ _ rfl) (fun e => by cases e) (by have := HL1.out; omega) (by simp) (by simp; omega) ?_
                      intro v6 w6 hO6 hg6 hb6 ho6
                      have bvg := (E.bo.drew.alloc (.cells #[.int .i64 p.f, .int .i64 p.ft, .int .i64 p.b, .int .i64 p.bt] 91)).grown hg6 (fun e => by have := (E.o1.lt _ e.symm).1; omega)
                      have fz := bvg.free 2; have hvg := bvg.lt; have g1 := bvg.cell 2
                      simp at g1
                      obtain ⟨a6, d6, e6, -, -, -, -, -⟩ := hO6.rows cell_l
                      obtain ⟨m6, hm6⟩ : ∃ n, n = (hOne cn hc L y x ++ [p]).length := ⟨_, rfl⟩
                      rw [← hm6] at e6
                      subst e6
                      clear hm6))
                    all_goals
                      rw [HH1.out] at hO6
                      refine hM9 _ _ ?_
                      refine Met.intro ?_
                      refine hR9 _ _ ?_
                      (repeat apply Exists.intro)
                      refine ⟨?_, rfl⟩
                    all_goals exact ⟨rfl, _, (E.below (((Below.refl wr.heap.size wr).alloc (Nat.le_refl _) _).drew)).app1 hO6 hg6 hb6 ho6⟩
                  case rest =>
                  obtain ⟨rfl, v1', E1⟩ := hcut
                  rename World => wb
                  clear c0 c2 v12 hsl hgl n0 n1 n2 n3 n4 n5 m1 m2 m4 s0 s1 s2 s3 E had q1 q2 hnlI hn64
                  obtain ⟨o1, ho1⟩ : ∃ o, y * cn + (cn - 1 - x) = o := ⟨_, rfl⟩
                  have hol : o1 < L.length := by rw [← ho1, HN.out]; exact mul_lt hyr (by omega)
                  have hoI : (y : Int) * (cn : Int) + (cn : Int) - 1 - (x : Int) = (o1 : Int) := by rw [← ho1, Int.natCast_add, Int.natCast_mul]; omega
                  have ho64 : (o1 : Int) ≤ 100 := by omega
                  have q1 : IntKind.i64.wrap ((y : Int) * (cn : Int)) = (y : Int) * (cn : Int) := IntWalk.i64_in _ (by omega)
                  have q3 : IntKind.i64.wrap ((y : Int) * (cn : Int) + (cn : Int)) = (y : Int) * (cn : Int) + (cn : Int) := IntWalk.i64_in _ (by omega)
                  have q4 : IntKind.i64.wrap ((y : Int) * (cn : Int) + (cn : Int) - 1) = (y : Int) * (cn : Int) + (cn : Int) - 1 := IntWalk.i64_in _ (by omega)
                  have q5 : IntKind.i64.wrap ((y : Int) * (cn : Int) + (cn : Int) - 1 - (x : Int)) = (o1 : Int) := by rw [← hoI]; exact IntWalk.i64_in _ (by omega)
                  have holI : (o1 : Int) < (L.length : Int) := by omega
                  have c0 := E1.bs.cell 0; have c2 := E1.bs.cell 2
                  simp at c0 c2
                  obtain ⟨_, e2, had, s0, s1, s2, s3⟩ := (hL.below E1.low).cell hol
                  cases e2
                  obtain ⟨u, eu⟩ : ∃ u, u = L[o1] := ⟨_, rfl⟩
                  rw [← eu] at s0 s1 s2 s3
                  have EU := Lib.hid eu; have HO1 := Lib.hid ho1
                  have HPU : Hid (Bit u.ft ∧ Bit u.bt) := Lib.hid (cellPB_bits (List.all_eq_true.1 HALL.out _ (by rw [eu]; exact List.getElem_mem hol)))
                  clear eu ho1 hoI ho64
                  obtain ⟨wu, hwu⟩ : ∃ wu, wu = wb.alloc (.cells #[.int .i64 u.f, .int .i64 u.ft, .int .i64 u.b, .int .i64 u.bt] 91) := ⟨_, rfl⟩
                  have hA : Below wb.heap.size wb wu := by rw [hwu]; exact (Below.refl _ _).alloc (Nat.le_refl _) _
                  have bu : BoxAt wu wb.heap.size #[.int .i64 u.f, .int .i64 u.ft, .int .i64 u.b, .int .i64 u.bt] 91 := by rw [hwu]; exact BoxAt.new wb _ _
                  obtain ⟨wv, hwv⟩ : ∃ wv, wv = wu := ⟨_, rfl⟩
                  have Eu : RvEnv w cn rn hc rn (some ad) L c v1' (hOne cn hc L y (x + 1)) v2 (hTwo cn rn hc false L y x) wv := by rw [hwv]; exact E1.below hA
                  rw [← hwv] at bu hwu
                  clear hwv
                  have HL2 : Hid ((hTwo cn rn hc false L y x).length ≤ 1000) := Lib.hid (by
                    rw [hTwo_len]; have h1 : y * hc ≤ 8 * 8 := Nat.mul_le_mul (show y ≤ 8 by omega) hx8; omega)
                  have HH2 : Hid (hTwo cn rn hc false L y x ++ [Cell.mk u.b u.bt u.f u.ft] = hTwo cn rn hc false L y (x + 1)) := Lib.hid (by
                    have e1 : xr u.ft (roundB false) = u.ft := xr_zero HPU.out.1
                    have e2 : xr u.bt (roundB false) = u.bt := xr_zero HPU.out.2
                    rw [← hTwo_succ hxl, (opp_at hxc).1, HO1.out, getD_in default hol, ← EU.out]
                    unfold ovCell; rw [e1, e2])
                  go_upto_region 34 with fail
                  rw [← hwu]
                  clear q1 q3 q4 q5 c0 c2 s0 s1 s2 s3
                  have p0 := bu.cell 0; have p1 := bu.cell 1; have p2 := bu.cell 2; have p3 := bu.cell 3
                  have v25 := Eu.bo.cell 5
                  have hpl := bu.lt; have hgl := Eu.bo.lt
                  simp at p0 p1 p2 p3 v25
                  clear hwu
                  go_wp2_with (at_builtin; refine wpList_appL tCell cell_l _ rfl _ _ rfl (w.heap.size + 1 + 1 + 1 + 1) _ (hTwo cn rn hc false L y x) rfl (Eu.o2.alloc _) (some ⟨wv.heap.size, 0, none⟩) [Cell.mk u.b u.bt u.f u.ft] 1 rfl (rows_lit cell_l _ _ _ _ rfl) (fun e => by cases e) (by have := HL2.out; omega) (by simp) (by have h1 := Eu.bo.lt; simp; omega) ?_; intro v6 w6 hO6 hg6 hb6 ho6; have bvg := (Eu.bo.alloc (.cells #[.int .i64 (Cell.mk u.b u.bt u.f u.ft).f, .int .i64 (Cell.mk u.b u.bt u.f u.ft).ft, .int .i64 (Cell.mk u.b u.bt u.f u.ft).b, .int .i64 (Cell.mk u.b u.bt u.f u.ft).bt] 91)).grown hg6 (fun e => by have := (Eu.o2.lt _ e.symm).1; omega); have fz := bvg.free 5; have hvg := bvg.lt; have g5 := bvg.cell 5; simp at g5; obtain ⟨a6, d6, e6, -, -, -, -, -⟩ := hO6.rows cell_l; obtain ⟨m6, hm6⟩ : ∃ n, n = (hTwo cn rn hc false L y x ++ [Cell.mk u.b u.bt u.f u.ft]).length := ⟨_, rfl⟩; rw [← hm6] at e6; subst e6; clear hm6)
                  rw [HH2.out] at hO6
                  have E2 := (Eu.below ((Below.refl wv.heap.size wv).alloc (Nat.le_refl _) _)).app2 hO6 hg6 hb6 ho6
                  refine ⟨?_, ?measure⟩
                  (repeat apply Exists.intro)
                  refine ⟨?rel, rfl⟩
                  case rel => exact ⟨x + 1, v1', _, by omega, by go_num, E2⟩
                  case measure => simp [intOf]; omega
                · have hxC : x = hc := by omega
                  subst hxC
                  have hxI : ¬ (x : Int) < (x : Int) := by omega
                  rw [hOne_row, hTwo_row] at E
                  go_wp2_with fail
                  go_roundw
                  case rel => exact ⟨y + 1, v1, v2, by omega, by go_num, E⟩
                  case measure => simp [intOf]; omega
            · have hyR : rn = y := by omega
              subst hyR
              have hyI : ¬ (rn : Int) < (rn : Int) := by omega
              have r0 := E.br.cell 0; have r1 := E.br.cell 1; have r2 := E.br.cell 2; have r3 := E.br.cell 3; have r4 := E.br.cell 4; have r5 := E.br.cell 5
              have z := fun j => E.br.free j
              have hrl := E.br.lt
              have f0 := E.bo.cell 0; have f1 := E.bo.cell 1; have f2 := E.bo.cell 2; have f3 := E.bo.cell 3; have f4 := E.bo.cell 4; have f5 := E.bo.cell 5
              simp at r0 r1 r2 r3 r4 r5 f0 f1 f2 f3 f4 f5
              obtain ⟨a1, d1, ev1, -, -, -, -, -⟩ := E.o1.rows cell_l
              obtain ⟨a2, d2, ev2, -, -, -, -, -⟩ := E.o2.rows cell_l
              obtain ⟨e1, he1⟩ : ∃ n, n = (hOne cn hc L rn 0).length := ⟨_, rfl⟩
              obtain ⟨e2, he2⟩ : ∃ n, n = (hTwo cn rn hc false L rn 0).length := ⟨_, rfl⟩
              rw [← he1] at ev1
              rw [← he2] at ev2
              subst ev1 ev2
              have HM1 := Lib.hid he1; have HM2 := Lib.hid he2
              clear he1 he2
              go_wp2_with fail
              rw [HE.out, HD.out.1, HD.out.2.1, HD.out.2.2]
              refine bodyPost_ret (v := .tuple #[.agg #[.int .i64 hc, .int .i64 rn, .slice a1 e1 d1, .int .i64 hc, .int .i64 rn, .slice a2 e2 d2], .int .i64 0]) ?_ rfl (rv_end E HM1.out HM2.out _ _ _ _ _ _)
              simp [results, Try.results54, go_sem, r0, r1, r2, r3, r4, r5]
      · obtain ⟨hr, ehr⟩ : ∃ n, rn / 2 = n := ⟨_, rfl⟩
        obtain ⟨cm, ecm⟩ : ∃ n, rn % 2 = n := ⟨_, rfl⟩
        rw [ehr] at qd2
        rw [ecm] at mm2
        have hcm : cm < 2 := by rw [← ecm]; exact Nat.mod_lt _ (by decide)
        have hr8 : hr ≤ 8 := by rw [← ehr]; omega
        have HCC : Hid (halfC cn true = cn ∧ halfR rn true = hr ∧ evenB cn rn true = (cm == 0) ∧ hr ≤ rn) := Lib.hid ⟨by unfold halfC; rw [if_pos rfl], by unfold halfR; rw [if_pos rfl]; exact ehr, by unfold evenB; rw [if_pos rfl, ecm], by rw [← ehr]; omega⟩
        clear qd1 mm1 ehr ecm
        go_wp2_with fail
        go_quiet (fail)
        obtain ⟨wq, hwq⟩ : ∃ wq, wq = wr.drewN nq := ⟨_, rfl⟩
        have bxq := bxr.drewN nq; have brq := brr.drewN nq; have boq := bor.drewN nq; have bnq := bnr.drewN nq
        have hBq := below_drewN hBr nq
        rw [← hwq] at bxq brq boq bnq hBq
        rw [← hwq]
        clear hwq c0 c1 c2 m0 m1 m2 m3 m4 m5 bxr brr bor bnr hBr hB
        have c0 := bxq.cell 0; have c1 := bxq.cell 1; have c2 := bxq.cell 2
        have m0 := bnq.cell 0; have m1 := bnq.cell 1; have m2 := bnq.cell 2; have m3 := bnq.cell 3; have m4 := bnq.cell 4; have m5 := bnq.cell 5
        simp at c0 c1 c2 m0 m1 m2 m3 m4 m5
        by_cases hcm0 : cm = 0
        case neg =>
          have HE : Hid (hvErr cn rn L true = 25) := Lib.hid (by unfold hvErr; rw [if_neg (by simp [HC0.out]), if_pos HALL.out, Int.toNat_natCast, Int.toNat_natCast, HCC.out.2.2.1, if_neg (by simpa using hcm0)])
          have hcmb : ((cm : Int) != 0) = true := by simp; omega
          have r0 := brq.cell 0; have r1 := brq.cell 1; have r2 := brq.cell 2; have r3 := brq.cell 3; have r4 := brq.cell 4; have r5 := brq.cell 5
          have z := fun j => brq.free j
          have hrl := brq.lt
          simp at r0 r1 r2 r3 r4 r5
          have HD : Hid (hvD cn rn L true = (0, 0) ∧ hv1 cn rn L true = [] ∧ hv2 cn rn L true = []) := Lib.hid (by unfold hvD hv1 hv2; rw [HE.out]; exact ⟨if_neg (by decide), if_neg (by decide), if_neg (by decide)⟩)
          go_wp2_with fail
          rw [HE.out]
          refine bodyPost_ret (v := .tuple #[.agg #[.int .i64 0, .int .i64 0, .slice none 0 0, .int .i64 0, .int .i64 0, .slice none 0 0], .int .i64 25]) ?_ rfl (hv_fail (below_set6 hBq (Nat.le_succ _) _ _ _ _ _ _) HD.out.1 HD.out.2.1 HD.out.2.2)
          simp [results, Try.results54, go_sem, r0, r1, r2, r3, r4, r5]
        subst hcm0
        have HE : Hid (hvErr cn rn L true = 0) := Lib.hid (by unfold hvErr; rw [if_neg (by simp [HC0.out]), if_pos HALL.out, Int.toNat_natCast, Int.toNat_natCast, HCC.out.2.2.1]; rfl)
        have HD : Hid (hvD cn rn L true = ((cn : Int), (hr : Int)) ∧ hv1 cn rn L true = hOne cn cn L hr 0 ∧ hv2 cn rn L true = hTwo cn rn cn true L hr 0) := Lib.hid (by
          unfold hvD hv1 hv2; rw [HE.out, Int.toNat_natCast, Int.toNat_natCast, HCC.out.1, HCC.out.2.1]; exact ⟨rfl, rfl, rfl⟩)
        have HH : Hid (cn ≤ cn ∧ hr ≤ rn ∧ cn ≤ 8 ∧ hr ≤ 8) := Lib.hid (by have := HCC.out.2.2.2; omega)
        have hx8 : cn ≤ 8 := HH.out.2.2.1
        have hy8 : hr ≤ 8 := HH.out.2.2.2
        have hs2' := hs2
        clear m0 m1 m2 m3 m4 m5 bnq HCC
        go_wp2_with fail
        go_loopw [13] (fun i wq => ∃ k : Nat, k ≤ 2 ∧ i = .int .i64 k ∧ BoxAt wq (w.heap.size + 1 + 1 + 1) (outC (cn : Int) (hr : Int) k) 80 ∧ BoxAt wq w.heap.size #[.int .i64 cn, .int .i64 rn, .slice a L.length c] 43 ∧ BoxAt wq (w.heap.size + 1) #[.int .i64 0, .int .i64 0, .slice none 0 0, .int .i64 0, .int .i64 0, .slice none 0 0] 80 ∧ Below w.heap.size w wq) (fun i _ => 2 - (intOf i).toNat)
        case atStart => exact ⟨0, by decide, rfl, boq, bxq, brq, hBq⟩
        case round =>
          obtain ⟨k2, hk2, rfl, bo, bx, br, hBo⟩ := hrel
          clear boq bxq brq hBq c0 c1 c2
          have z := fun j => bo.free j
          have hol := bo.lt
          have j0 : w.heap.size ≠ w.heap.size + 1 + 1 + 1 := by omega
          have j1 : w.heap.size + 1 ≠ w.heap.size + 1 + 1 + 1 := by omega
          have jl : w.heap.size ≤ w.heap.size + 1 + 1 + 1 := by omega
          rcases (show k2 = 0 ∨ k2 = 1 ∨ k2 = 2 by omega) with rfl | rfl | rfl
          · change BoxAt _ _ #[.int .i64 0, .int .i64 0, .slice none 0 0, .int .i64 0, .int .i64 0, .slice none 0 0] _ at bo
            have y0 := bo.cell 0; have y1 := bo.cell 1
            simp at y0 y1
            go_wp2_with fail
            go_roundw
            case rel => exact ⟨1, by decide, rfl, (bo.set 0 _).set 1 _, (bx.set_other (p := ⟨w.heap.size + 1 + 1 + 1, 0, none⟩) j0 _).set_other (p := ⟨w.heap.size + 1 + 1 + 1, 1, none⟩) j0 _, (br.set_other (p := ⟨w.heap.size + 1 + 1 + 1, 0, none⟩) j1 _).set_other (p := ⟨w.heap.size + 1 + 1 + 1, 1, none⟩) j1 _, (hBo.setCell (p := ⟨w.heap.size + 1 + 1 + 1, 0, none⟩) jl _).setCell (p := ⟨w.heap.size + 1 + 1 + 1, 1, none⟩) jl _⟩
            case measure => simp [intOf]
          · change BoxAt _ _ #[.int .i64 cn, .int .i64 hr, .slice none 0 0, .int .i64 0, .int .i64 0, .slice none 0 0] _ at bo
            have y0 := bo.cell 3; have y1 := bo.cell 4
            simp at y0 y1
            go_wp2_with fail
            go_roundw
            case rel => exact ⟨2, by decide, rfl, (bo.set 3 _).set 4 _, (bx.set_other (p := ⟨w.heap.size + 1 + 1 + 1, 3, none⟩) j0 _).set_other (p := ⟨w.heap.size + 1 + 1 + 1, 4, none⟩) j0 _, (br.set_other (p := ⟨w.heap.size + 1 + 1 + 1, 3, none⟩) j1 _).set_other (p := ⟨w.heap.size + 1 + 1 + 1, 4, none⟩) j1 _, (hBo.setCell (p := ⟨w.heap.size + 1 + 1 + 1, 3, none⟩) jl _).setCell (p := ⟨w.heap.size + 1 + 1 + 1, 4, none⟩) jl _⟩
            case measure => simp [intOf]
          change BoxAt _ _ #[.int .i64 cn, .int .i64 hr, .slice none 0 0, .int .i64 cn, .int .i64 hr, .slice none 0 0] _ at bo
          have E0 : RvEnv w cn rn cn hr a L c (.slice none 0 0) (hOne cn cn L 0 0) (.slice none 0 0) (hTwo cn rn cn true L 0 0) wr := by
            have e1 : hOne cn cn L 0 0 = [] := by simp [hOne]
            have e2 : hTwo cn rn cn true L 0 0 = [] := by simp [hTwo]
            rw [e1, e2]
            exact ⟨bx, br, bo, OwnR.nil _ _, OwnR.nil _ _, (fun q e => by cases e), hBo⟩
          clear bx br bo hBo z hol j0 j1 jl
          go_wp2_with fail
          go_loopw [14] (fun i wq => ∃ (y : Nat) (v1 v2 : Value), y ≤ hr ∧ i = .int .i64 y ∧ RvEnv w cn rn cn hr a L c v1 (hOne cn cn L y 0) v2 (hTwo cn rn cn true L y 0) wq) (fun i _ => hr - (intOf i).toNat)
          case atStart => exact ⟨0, _, _, Nat.zero_le _, rfl, E0⟩
          case round =>
            obtain ⟨y, v1, v2, hy, rfl, E⟩ := hrel
            clear E0
            by_cases hyl : y < hr
            · have hyI : (y : Int) < (hr : Int) := by omega
              go_wp2_with fail
              go_loopw [15] (fun i wq => ∃ (x : Nat) (v1 v2 : Value), x ≤ cn ∧ i = .int .i64 x ∧ RvEnv w cn rn cn hr a L c v1 (hOne cn cn L y x) v2 (hTwo cn rn cn true L y x) wq) (fun i _ => cn - (intOf i).toNat)
              case atStart => exact ⟨0, v1, v2, Nat.zero_le _, rfl, E⟩
              case round =>
                obtain ⟨x, v1, v2, hx, rfl, E⟩ := hrel
                by_cases hxl : x < cn
                · have hxI : (x : Int) < (cn : Int) := by omega
                  have hxc : x < cn := by have := HH.out; omega
                  have hyr : y < rn := by have := HH.out; omega
                  obtain ⟨n, hn⟩ : ∃ n, y * cn + x = n := ⟨_, rfl⟩
                  have hnl : n < L.length := by rw [← hn, HN.out]; exact mul_lt hyr hxc
                  have hnI : (y : Int) * (cn : Int) + (x : Int) = (n : Int) := by rw [← hn, Int.natCast_add, Int.natCast_mul]
                  have hyc0 : 0 ≤ (y : Int) * (cn : Int) := Int.mul_nonneg (by omega) (by omega)
                  have hyc1 : (y : Int) * (cn : Int) ≤ 64 := by have := Int.mul_le_mul (show (y : Int) ≤ 8 by omega) (show (cn : Int) ≤ 8 by omega) (by omega) (by omega); omega
                  have hn64 : (n : Int) ≤ 100 := by omega
                  have q1 : IntKind.i64.wrap ((y : Int) * (cn : Int)) = (y : Int) * (cn : Int) := IntWalk.i64_in _ (by omega)
                  have q2 : IntKind.i64.wrap ((y : Int) * (cn : Int) + (x : Int)) = (n : Int) := by rw [← hnI]; exact IntWalk.i64_in _ (by omega)
                  have c0 := E.bs.cell 0; have c2 := E.bs.cell 2; have v12 := E.bo.cell 2
                  have hsl := E.bs.lt; have hgl := E.bo.lt
                  simp at c0 c2 v12
                  obtain ⟨ad, rfl, had, s0, s1, s2, s3⟩ := (hL.below E.low).cell hnl
                  obtain ⟨p, ep⟩ : ∃ p, p = L[n] := ⟨_, rfl⟩
                  rw [← ep] at s0 s1 s2 s3
                  have EP := Lib.hid ep
                  have HNN := Lib.hid hn
                  clear ep hn hnI
                  have hnlI : (n : Int) < (L.length : Int) := by omega
                  have HH1 : Hid (hOne cn cn L y x ++ [p] = hOne cn cn L y (x + 1)) := Lib.hid (by
                    rw [← hOne_succ hxl, HNN.out, getD_in default hnl, ← EP.out])
                  have HL1 : Hid ((hOne cn cn L y x).length ≤ 1000) := Lib.hid (by
                    rw [hOne_len]; have h1 : y * cn ≤ 8 * 8 := Nat.mul_le_mul (show y ≤ 8 by omega) hx8; omega)
                  have n0 := World.new_ne _ _ c2; have n1 := World.new_ne _ _ v12; have n2 := World.new_ne _ _ s0; have n3 := World.new_ne _ _ s1; have n4 := World.new_ne _ _ s2; have n5 := World.new_ne _ _ s3
                  have m1 : ¬ w.heap.size + 1 + 1 + 1 = wr.heap.size := by omega
                  have m2 : ¬ wr.heap.size = w.heap.size + 1 + 1 + 1 := by omega
                  have m4 : (wr.alloc (.cells #[.int .i64 p.f, .int .i64 p.ft, .int .i64 p.b, .int .i64 p.bt] 91)).cell? ⟨w.heap.size + 1 + 1 + 1, 2, none⟩ = some v1 := (E.bo.alloc _).cell 2
                  go_wp2_with fail
                  go_cut [15] from 120 to 189 (fun v15 wx => v15 = .int .i64 x ∧ ∃ v1', RvEnv w cn rn cn hr (some ad) L c v1' (hOne cn cn L y (x + 1)) v2 (hTwo cn rn cn true L y x) wx)
                  case first =>
                    rename_i J9 K9 hR9 hM9
                    go_region_law ((
                      refine step_appL tCell cell_l _ (by rfl) _ _ (by rfl) (w.heap.size + 1 + 1 + 1 + 1) v1 (hOne cn cn L y x) (by rfl) (E.o1.alloc _) (some ⟨wr.heap.size, 0, none⟩) [p] 1 1 rfl (by rfl) (rows_lit cell_l _ _ _ _ rfl) (fun e => by cases e) (by have := HL1.out; omega) (by simp) (by simp; omega) ?_
                      intro v6 w6 hO6 hg6 hb6 ho6
                      have bvg := (E.bo.drew.alloc (.cells #[.int .i64 p.f, .int .i64 p.ft, .int .i64 p.b, .int .i64 p.bt] 91)).grown hg6 (fun e => by have := (E.o1.lt _ e.symm).1; omega)
                      have fz := bvg.free 2; have hvg := bvg.lt; have g1 := bvg.cell 2
                      simp at g1
                      obtain ⟨a6, d6, e6, -, -, -, -, -⟩ := hO6.rows cell_l
                      obtain ⟨m6, hm6⟩ : ∃ n, n = (hOne cn cn L y x ++ [p]).length := ⟨_, rfl⟩
                      rw [← hm6] at e6
                      subst e6
                      clear hm6))
                    all_goals
                      rw [HH1.out] at hO6
                      refine hM9 _ _ ?_
                      refine Met.intro ?_
                      refine hR9 _ _ ?_
                      (repeat apply Exists.intro)
                      refine ⟨?_, rfl⟩
                    all_goals exact ⟨rfl, _, (E.below (((Below.refl wr.heap.size wr).alloc (Nat.le_refl _) _).drew)).app1 hO6 hg6 hb6 ho6⟩
                  case rest =>
                  obtain ⟨rfl, v1', E1⟩ := hcut
                  rename World => wb
                  clear c0 c2 v12 hsl hgl n0 n1 n2 n3 n4 n5 m1 m2 m4 s0 s1 s2 s3 E had q1 q2 hnlI hn64
                  obtain ⟨o1, ho1⟩ : ∃ o, y * cn + (cn - 1 - x) = o := ⟨_, rfl⟩
                  have hol : o1 < L.length := by rw [← ho1, HN.out]; exact mul_lt hyr (by omega)
                  have hoI : (y : Int) * (cn : Int) + (cn : Int) - 1 - (x : Int) = (o1 : Int) := by rw [← ho1, Int.natCast_add, Int.natCast_mul]; omega
                  have ho64 : (o1 : Int) ≤ 100 := by omega
                  have q1 : IntKind.i64.wrap ((y : Int) * (cn : Int)) = (y : Int) * (cn : Int) := IntWalk.i64_in _ (by omega)
                  have q3 : IntKind.i64.wrap ((y : Int) * (cn : Int) + (cn : Int)) = (y : Int) * (cn : Int) + (cn : Int) := IntWalk.i64_in _ (by omega)
                  have q4 : IntKind.i64.wrap ((y : Int) * (cn : Int) + (cn : Int) - 1) = (y : Int) * (cn : Int) + (cn : Int) - 1 := IntWalk.i64_in _ (by omega)
                  have q5 : IntKind.i64.wrap ((y : Int) * (cn : Int) + (cn : Int) - 1 - (x : Int)) = (o1 : Int) := by rw [← hoI]; exact IntWalk.i64_in _ (by omega)
                  have holI : (o1 : Int) < (L.length : Int) := by omega
                  have c0 := E1.bs.cell 0; have c2 := E1.bs.cell 2
                  simp at c0 c2
                  obtain ⟨_, e2, had, s0, s1, s2, s3⟩ := (hL.below E1.low).cell hol
                  cases e2
                  obtain ⟨u, eu⟩ : ∃ u, u = L[o1] := ⟨_, rfl⟩
                  rw [← eu] at s0 s1 s2 s3
                  have EU := Lib.hid eu; have HO1 := Lib.hid ho1
                  have HPU : Hid (Bit u.ft ∧ Bit u.bt) := Lib.hid (cellPB_bits (List.all_eq_true.1 HALL.out _ (by rw [eu]; exact List.getElem_mem hol)))
                  clear eu ho1 hoI ho64
                  obtain ⟨wu, hwu⟩ : ∃ wu, wu = wb.alloc (.cells #[.int .i64 u.f, .int .i64 u.ft, .int .i64 u.b, .int .i64 u.bt] 91) := ⟨_, rfl⟩
                  have hA : Below wb.heap.size wb wu := by rw [hwu]; exact (Below.refl _ _).alloc (Nat.le_refl _) _
                  have bu : BoxAt wu wb.heap.size #[.int .i64 u.f, .int .i64 u.ft, .int .i64 u.b, .int .i64 u.bt] 91 := by rw [hwu]; exact BoxAt.new wb _ _
                  obtain ⟨o2, ho2⟩ : ∃ o2, (rn - 1 - y) * cn + x = o2 := ⟨_, rfl⟩
                  have hol2 : o2 < L.length := by rw [← ho2, HN.out]; exact mul_lt (by omega) hxc
                  have hmI : ((rn : Int) - 1 - (y : Int)) * (cn : Int) = (((rn - 1 - y) * cn : Nat) : Int) := by rw [Int.natCast_mul, Int.natCast_sub (by omega), Int.natCast_sub (by omega)]; rfl
                  have hoI2' : ((rn : Int) - 1 - (y : Int)) * (cn : Int) + (x : Int) = (o2 : Int) := by rw [hmI, ← ho2]; push_cast; rfl
                  have hm64 : (rn - 1 - y) * cn ≤ 8 * 8 := Nat.mul_le_mul (by omega) (by omega)
                  have hm0 : 0 ≤ ((rn : Int) - 1 - (y : Int)) * (cn : Int) := by rw [hmI]; omega
                  have hm1 : ((rn : Int) - 1 - (y : Int)) * (cn : Int) ≤ 64 := by rw [hmI]; omega
                  have hol2I : (o2 : Int) < (L.length : Int) := by omega
                  have HO2 := Lib.hid ho2
                  clear hmI hm64 ho2
                  have HL2 : Hid ((hTwo cn rn cn true L y x).length ≤ 1000) := Lib.hid (by
                    rw [hTwo_len]; have h1 : y * cn ≤ 8 * 8 := Nat.mul_le_mul (show y ≤ 8 by omega) hx8; omega)
                  go_upto_region 32 with fail
                  rw [← hwu]
                  clear hwu
                  clear q1 q3 q4 q5 c0 c2 s0 s1 s2 s3
                  have Ew := E1.below hA
                  have c0 := Ew.bs.cell 0; have c1 := Ew.bs.cell 1; have c2 := Ew.bs.cell 2
                  simp at c0 c1 c2
                  obtain ⟨_, e3, had3, s0, s1, s2, s3⟩ := (hL.below Ew.low).cell hol2
                  cases e3
                  obtain ⟨u2, eu2⟩ : ∃ u2, u2 = L[o2] := ⟨_, rfl⟩
                  rw [← eu2] at s0 s1 s2 s3
                  have HP2 : Hid (Bit u2.ft ∧ Bit u2.bt) := Lib.hid (cellPB_bits (List.all_eq_true.1 HALL.out _ (by rw [eu2]; exact List.getElem_mem hol2)))
                  have t0 : 0 ≤ u2.ft := by rcases HP2.out.1 with h | h <;> omega
                  have t1 : u2.ft ≤ 1 := by rcases HP2.out.1 with h | h <;> omega
                  have t2 : 0 ≤ u2.bt := by rcases HP2.out.2 with h | h <;> omega
                  have t3 : u2.bt ≤ 1 := by rcases HP2.out.2 with h | h <;> omega
                  have EU2 := Lib.hid eu2
                  clear eu2
                  have zf := fun j => bu.free j
                  have p0 := bu.cell 0; have p1 := bu.cell 1; have p2 := bu.cell 2; have p3 := bu.cell 3
                  have hpl := bu.lt
                  simp at p0 p1 p2 p3
                  have gbl := E1.bo.lt
                  obtain ⟨wv, hwv⟩ : ∃ wv, wv = (((((wu.setCell ⟨wb.heap.size, 0, none⟩ (.int .i64 u2.f)).setCell ⟨wb.heap.size, 1, none⟩ (.int .i64 u2.ft)).setCell ⟨wb.heap.size, 2, none⟩ (.int .i64 u2.b)).setCell ⟨wb.heap.size, 3, none⟩ (.int .i64 u2.bt)).setCell ⟨wb.heap.size, 1, none⟩ (.int .i64 (1 - u2.ft))).setCell ⟨wb.heap.size, 3, none⟩ (.int .i64 (1 - u2.bt)) := ⟨_, rfl⟩
                  have hb1 : v1'.ownBlock ≠ some wb.heap.size := fun e => by have := (E1.o1.lt _ e).2; omega
                  have hb2 : v2.ownBlock ≠ some wb.heap.size := fun e => by have := (E1.o2.lt _ e).2; omega
                  have Eu : RvEnv w cn rn cn hr (some ad) L c v1' (hOne cn cn L y (x + 1)) v2 (hTwo cn rn cn true L y x) wv := by
                    rw [hwv]
                    exact (((((Ew.put gbl hb1 hb2 0 _).put gbl hb1 hb2 1 _).put gbl hb1 hb2 2 _).put gbl hb1 hb2 3 _).put gbl hb1 hb2 1 _).put gbl hb1 hb2 3 _
                  have bv : BoxAt wv wb.heap.size #[.int .i64 u2.f, .int .i64 (1 - u2.ft), .int .i64 u2.b, .int .i64 (1 - u2.bt)] 91 := by
                    rw [hwv]
                    exact (((((bu.set 0 _).set 1 _).set 2 _).set 3 _).set 1 _).set 3 _
                  have HH2 : Hid (hTwo cn rn cn true L y x ++ [Cell.mk u2.b (1 - u2.bt) u2.f (1 - u2.ft)] = hTwo cn rn cn true L y (x + 1)) := Lib.hid (by
                    have e1 : xr u2.ft (roundB true) = 1 - u2.ft := by rcases HP2.out.1 with h | h <;> rw [h] <;> rfl
                    have e2 : xr u2.bt (roundB true) = 1 - u2.bt := by rcases HP2.out.2 with h | h <;> rw [h] <;> rfl
                    rw [← hTwo_succ hxl, (opp_at hxc).2, HO2.out, getD_in default hol2, ← EU2.out]
                    unfold ovCell; rw [e1, e2])
                  have HWV := Lib.hid hwv
                  clear hwv
                  go_upto_region 34 with fail
                  rw [← HWV.out]
                  clear c0 c1 c2 s0 s1 s2 s3 p0 p1 p2 p3 zf hpl bu Ew HWV
                  have p0 := bv.cell 0; have p1 := bv.cell 1; have p2 := bv.cell 2; have p3 := bv.cell 3
                  have v25 := Eu.bo.cell 5
                  have hpl := bv.lt; have hgl := Eu.bo.lt
                  simp at p0 p1 p2 p3 v25
                  go_wp2_with (at_builtin; refine wpList_appL tCell cell_l _ rfl _ _ rfl (w.heap.size + 1 + 1 + 1 + 1) _ (hTwo cn rn cn true L y x) rfl (Eu.o2.alloc _) (some ⟨wv.heap.size, 0, none⟩) [Cell.mk u2.b (1 - u2.bt) u2.f (1 - u2.ft)] 1 rfl (rows_lit cell_l _ _ _ _ rfl) (fun e => by cases e) (by have := HL2.out; omega) (by simp) (by have h1 := Eu.bo.lt; simp; omega) ?_; intro v6 w6 hO6 hg6 hb6 ho6; have bvg := (Eu.bo.alloc (.cells #[.int .i64 (Cell.mk u2.b (1 - u2.bt) u2.f (1 - u2.ft)).f, .int .i64 (Cell.mk u2.b (1 - u2.bt) u2.f (1 - u2.ft)).ft, .int .i64 (Cell.mk u2.b (1 - u2.bt) u2.f (1 - u2.ft)).b, .int .i64 (Cell.mk u2.b (1 - u2.bt) u2.f (1 - u2.ft)).bt] 91)).grown hg6 (fun e => by have := (Eu.o2.lt _ e.symm).1; omega); have fz := bvg.free 5; have hvg := bvg.lt; have g5 := bvg.cell 5; simp at g5; obtain ⟨a6, d6, e6, -, -, -, -, -⟩ := hO6.rows cell_l; obtain ⟨m6, hm6⟩ : ∃ n, n = (hTwo cn rn cn true L y x ++ [Cell.mk u2.b (1 - u2.bt) u2.f (1 - u2.ft)]).length := ⟨_, rfl⟩; rw [← hm6] at e6; subst e6; clear hm6)
                  rw [HH2.out] at hO6
                  have E2 := (Eu.below ((Below.refl wv.heap.size wv).alloc (Nat.le_refl _) _)).app2 hO6 hg6 hb6 ho6
                  refine ⟨?_, ?measure⟩
                  (repeat apply Exists.intro)
                  refine ⟨?rel, rfl⟩
                  case rel => exact ⟨x + 1, v1', _, by omega, by go_num, E2⟩
                  case measure => simp [intOf]; omega
                · have hxC : x = cn := by omega
                  subst hxC
                  have hxI : ¬ (x : Int) < (x : Int) := by omega
                  rw [hOne_row, hTwo_row] at E
                  go_wp2_with fail
                  go_roundw
                  case rel => exact ⟨y + 1, v1, v2, by omega, by go_num, E⟩
                  case measure => simp [intOf]; omega
            · have hyR : hr = y := by omega
              subst hyR
              have hyI : ¬ (hr : Int) < (hr : Int) := by omega
              have r0 := E.br.cell 0; have r1 := E.br.cell 1; have r2 := E.br.cell 2; have r3 := E.br.cell 3; have r4 := E.br.cell 4; have r5 := E.br.cell 5
              have z := fun j => E.br.free j
              have hrl := E.br.lt
              have f0 := E.bo.cell 0; have f1 := E.bo.cell 1; have f2 := E.bo.cell 2; have f3 := E.bo.cell 3; have f4 := E.bo.cell 4; have f5 := E.bo.cell 5
              simp at r0 r1 r2 r3 r4 r5 f0 f1 f2 f3 f4 f5
              obtain ⟨a1, d1, ev1, -, -, -, -, -⟩ := E.o1.rows cell_l
              obtain ⟨a2, d2, ev2, -, -, -, -, -⟩ := E.o2.rows cell_l
              obtain ⟨e1, he1⟩ : ∃ n, n = (hOne cn cn L hr 0).length := ⟨_, rfl⟩
              obtain ⟨e2, he2⟩ : ∃ n, n = (hTwo cn rn cn true L hr 0).length := ⟨_, rfl⟩
              rw [← he1] at ev1
              rw [← he2] at ev2
              subst ev1 ev2
              have HM1 := Lib.hid he1; have HM2 := Lib.hid he2
              clear he1 he2
              go_wp2_with fail
              rw [HE.out, HD.out.1, HD.out.2.1, HD.out.2.2]
              refine bodyPost_ret (v := .tuple #[.agg #[.int .i64 cn, .int .i64 hr, .slice a1 e1 d1, .int .i64 cn, .int .i64 hr, .slice a2 e2 d2], .int .i64 0]) ?_ rfl (rv_end E HM1.out HM2.out _ _ _ _ _ _)
              simp [results, Try.results54, go_sem, r0, r1, r2, r3, r4, r5]
end Go.Proofs.Ytjkjfmahcjcniaa
