/-
  Package press: the bound of a set and the check of a schedule, by the reference.
-/
import Derived.Test.YtpplcbpnojggcaaAS
import Derived.Test.YtpplcbpnojggcaaAT
namespace Go.Proofs.Ytpplcbpnojggcaa
open Go.RowKit

def rdyK (L : List Job) (J : List Int) (k : Nat) : Int := if k = 0 then 0 else rdyI L (J.take k)
set_option maxRecDepth 100000 in
set_option maxHeartbeats 8000000 in
theorem refCheckBound_any (L : List Job) (a : Option Addr) (n c : Nat) (J : List Int) (ja : Option Addr) (jn jc : Nat) (w : World) (hn : n = L.length) (hjn : jn = J.length) (hr : RowsG 4 jobV w a L) (hl1 : 1 ≤ L.length) (hl : L.length ≤ 20) (hok : JobsOk L) (hJ : RowsAt 1 intL w ja J) (hjl : J.length ≤ 1000000) :
    Calls Try.prog 66 #[.slice a n c, .slice ja jn jc] w (TwoPost (cbR L J) w) := by
  subst hn; subst hjn
  have HR := Lib.hid hr; have HJ := Lib.hid hJ; have HOK := Lib.hid hok
  have HDEF := Lib.hid (show cbR L J = if cbErr L.length J = 0 then (bdI L J, 0) else (0, cbErr L.length J) from rfl)
  obtain ⟨R, hR⟩ : ∃ R, R = cbR L J := ⟨_, rfl⟩
  rw [← hR] at HDEF ⊢
  clear hR hr hJ hok
  go_enter Try.func66, Try.ntmps66
  by_cases hj0 : J.length = 0
  · have HE := Lib.hid (show R = (0, 10) by rw [HDEF.out]; unfold cbErr; rw [if_pos hj0, if_neg (by decide)])
    have hj0' : ((J.length : Int) == 0) = true := by simp [hj0]
    clear hj0
    go_wp2_with fail
    go_ret2
    exact ⟨two_to HE.out, Below.refl _ _⟩
  have HCB := Lib.hid (show cbErr L.length J = bdF L.length (prevJ J 0) (J.drop 0) by unfold cbErr; rw [if_neg hj0]; rfl)
  have HCBE := Lib.hid (show cbErr L.length J = bdF L.length (-1) J by unfold cbErr; rw [if_neg hj0])
  have hj0' : ((J.length : Int) == 0) = false := by rw [beq_eq_false_iff_ne]; omega
  have HJ0 := Lib.hid (show 0 < J.length by omega)
  have hw1 : IntKind.i64.wrap ((L.length : Int) - 1) = (L.length : Int) - 1 := IntWalk.i64_in _ (by omega)
  clear hj0
  go_wp2_with fail
  clear hj0'
  go_loopw [6, 7, 8, 9] (fun r s d i wr => ∃ k : Nat, k ≤ J.length ∧ i = .int .i64 k ∧ r = .int .i64 (rdyK L J k) ∧ s = .int .i64 (smI L (J.take k)) ∧ d = .int .i64 (duI L (J.take k)) ∧ Hid (cbErr L.length J = bdF L.length (prevJ J k) (J.drop k)) ∧ Hid (∀ y ∈ J.take k, 0 ≤ y ∧ y < L.length) ∧ Below w.heap.size w wr) (fun _ _ _ i _ => J.length - (intOf i).toNat)
  case atStart => exact ⟨0, Nat.zero_le _, rfl, rfl, rfl, rfl, HCB, Lib.hid (fun y hy => by simp at hy), Below.refl _ _⟩
  case round =>
    obtain ⟨k, hk, rfl, rfl, rfl, rfl, HC, HJK, hB⟩ := hrel
    have HBD := Lib.hid (bd_bds HOK.out HJK.out k (by rw [List.length_take]; omega))
    rw [List.take_take, Nat.min_self] at HBD
    by_cases hlt : k < J.length
    · have HJW := Lib.hid (HJ.out.below hB)
      obtain ⟨ad, rfl, had, s0⟩ := HJW.out.int hlt
      have HAT := Lib.hid (bdF_at (n := L.length) (p := prevJ J k) hlt)
      have HPN := Lib.hid (prevJ_next hlt)
      have HN1 := Lib.hid (rdy_next (L := L) hlt); have HN2 := Lib.hid (sm_next (L := L) hlt); have HN3 := Lib.hid (du_next (L := L) hlt)
      have HTK := Lib.hid (List.take_succ_eq_append_getElem hlt)
      have HPK := Lib.hid (show ∀ p, k = p + 1 → wr.cell? (ad.add p) = some (.int .i64 (prevJ J k)) from fun p hp => by
        subst hp
        obtain ⟨ad2, e2, -, s2⟩ := HJW.out.int (show p < J.length by omega)
        injection e2 with e2; subst e2
        rw [prevJ_next (show p < J.length by omega)]; exact s2)
      have HP0 := Lib.hid (show k = 0 → prevJ J k = -1 from fun e => by subst e; rfl)
      have HRK := Lib.hid (show rdyK L J (k + 1) = rdyI L (J.take (k + 1)) by unfold rdyK; rw [if_neg (by omega)])
      have HRK0 := Lib.hid (show k ≠ 0 → rdyK L J k = rdyI L (J.take k) from fun h => by unfold rdyK; rw [if_neg h])
      have HR00 := Lib.hid (show k = 0 → rdyI L (J.take k) = 9223372036854775807 from fun e => by subst e; rfl)
      obtain ⟨y, ey⟩ : ∃ y, y = J[k] := ⟨_, rfl⟩
      obtain ⟨p, hp⟩ : ∃ p, p = prevJ J k := ⟨_, rfl⟩
      rw [← ey] at s0 HAT HPN HN1 HN2 HN3 HTK
      rw [← hp] at HAT HC HPK HP0
      obtain ⟨r, hrr⟩ : ∃ r, r = rdyK L J k := ⟨_, rfl⟩
      obtain ⟨s, hss⟩ : ∃ s, s = smI L (J.take k) := ⟨_, rfl⟩
      obtain ⟨d, hdd⟩ : ∃ d, d = duI L (J.take k) := ⟨_, rfl⟩
      obtain ⟨r', hr'⟩ : ∃ r', r' = rdyI L (J.take k) := ⟨_, rfl⟩
      rw [← hrr] at HRK0 ⊢
      rw [← hss] at HN2 HBD ⊢
      rw [← hdd] at HN3 HBD ⊢
      rw [← hr'] at HN1 HRK0 HR00 HBD
      have hkJ : (k : Int) < (J.length : Int) := by omega
      have HB := Lib.hid hB
      clear ey hp hrr hss hdd hr' hB
      cases hin : inB y 0 ((L.length : Int) - 1)
      · have HE := Lib.hid (show R = (0, 6) by
          have h9 : cbErr L.length J = 6 := by rw [HC.out, HAT.out, if_pos hin]
          rw [HDEF.out, h9, if_neg (by decide)])
        go_wp2_with (go_at_call 30; refine (within_any _ _ _ _).mono ?_; rintro e w' ⟨rfl, rfl⟩)
        go_ret2
        exact ⟨two_to HE.out, HB.out⟩
      · have HIN := Lib.hid hin
        have hy := inB_iff.1 hin
        obtain ⟨j, rfl⟩ : ∃ j : Nat, y = j := ⟨y.toNat, by omega⟩
        have hjL : j < L.length := by omega
        rw [show ((j : Int)).toNat = j by omega, job_getD hjL] at HN1 HN2 HN3
        have hJO := HOK.out _ (List.getElem_mem hjL)
        obtain ⟨ad2, rfl, hau, t0, t1, t2, t3⟩ := (HR.out.below HB.out).job hjL
        obtain ⟨x, ex⟩ : ∃ x, x = L[j] := ⟨_, rfl⟩
        rw [← ex] at t0 t1 t2 t3 HN1 HN2 HN3 hJO
        obtain ⟨xnm, xr, xm, xd⟩ := x
        dsimp only at t0 t1 t2 t3 HN1 HN2 HN3 hJO
        have hjL' : (j : Int) < (L.length : Int) := by omega
        have hbd := HBD.out
        have hw2 : IntKind.i64.wrap (s + xm) = s + xm := IntWalk.i64_in _ (by omega)
        have hw3 : IntKind.i64.wrap ((k : Int) - 1) = (k : Int) - 1 := IntWalk.i64_in _ (by omega)
        have HXR := Lib.hid (show xr ≤ 10000000 by omega)
        have HJN : Hid (∀ y ∈ J.take (k + 1), 0 ≤ y ∧ y < L.length) := Lib.hid (fun y hy => by
          rw [HTK.out] at hy
          rcases List.mem_append.1 hy with h | h
          · exact HJK.out y h
          · rw [List.mem_singleton.1 h]; omega)
        clear ex hy hin hbd hJO
        by_cases hk0 : k = 0
        · have HNX := Lib.hid (show cbErr L.length J = bdF L.length (prevJ J (k + 1)) (J.drop (k + 1)) by rw [HC.out, HAT.out, if_neg (by rw [HIN.out]; decide), if_neg (by rw [HP0.out hk0]; omega), HPN.out])
          have HRX := Lib.hid (show rdyK L J (k + 1) = xr by rw [HRK.out, HN1.out, HR00.out hk0]; have := HXR.out; omega)
          subst hk0
          have z0 : wr.cell? ad = some (.int .i64 (j : Int)) := by have h := s0; rw [show ad.add 0 = ad by unfold Addr.add; rw [if_pos rfl]] at h; exact h
          go_wp2_with (go_at_call 30; refine (within_any _ _ _ _).mono ?_; rintro e w' ⟨rfl, rfl⟩; rw [HIN.out])
          go_quiet (fail)
          obtain ⟨w9, hw9⟩ : ∃ w9, w9 = wr.drewN nq := ⟨_, rfl⟩
          have y0 : w9.cell? (ad.add 0) = some (.int .i64 (j : Int)) := by rw [hw9]; exact s0
          have y1 : w9.cell? (ad2.add (j * 4)) = some (.string xnm) := by rw [hw9]; exact t0
          have y2 : w9.cell? ⟨(ad2.add (j * 4)).block, (ad2.add (j * 4)).off + 1, none⟩ = some (.int .i64 xr) := by rw [hw9]; exact t1
          have y3 : w9.cell? ⟨(ad2.add (j * 4)).block, (ad2.add (j * 4)).off + 2, none⟩ = some (.int .i64 xm) := by rw [hw9]; exact t2
          have y4 : w9.cell? ⟨(ad2.add (j * 4)).block, (ad2.add (j * 4)).off + 3, none⟩ = some (.int .i64 xd) := by rw [hw9]; exact t3
          have hau9 : (ad2.add (j * 4)).block < w9.heap.size := by rw [hw9]; exact hau
          have z9 : w9.cell? ad = some (.int .i64 (j : Int)) := by rw [hw9]; exact z0
          have HBW9 := Lib.hid (show Below w.heap.size w w9 by rw [hw9]; exact below_drewN HB.out nq)
          rw [← hw9]
          clear hw9 s0 t0 t1 t2 t3 hau z0
          have HBJ := Lib.hid (BoxAt.new w9 #[.string xnm, .int .i64 xr, .int .i64 xm, .int .i64 xd] 136)
          have HB9 := Lib.hid (HBW9.out.alloc HBW9.out.size (.cells #[.string xnm, .int .i64 xr, .int .i64 xm, .int .i64 xd] 136))
          go_wp2_with fail
          go_region
          go_wp2
          go_roundw
          case rel => first
            | exact ⟨0 + 1, by omega, by go_num, by rw [HRX.out], by rw [HN2.out], by rw [HN3.out], HNX, HJN, HB9.out.drew⟩
            | exact ⟨0 + 1, by omega, by go_num, by rw [HRX.out], by rw [HN2.out], by rw [HN3.out], HNX, HJN, HB9.out⟩
          case measure => simp [intOf]; omega
        · obtain ⟨q, hq⟩ : ∃ q, q = k - 1 := ⟨_, rfl⟩
          have sq := HPK.out q (by omega)
          have hw4 : IntKind.i64.wrap ((k : Int) - 1) = (q : Int) := by rw [hw3]; omega
          have hqJ : (q : Int) < (J.length : Int) := by omega
          have hkn : 0 < k := by omega
          have hki : (0 : Int) < (k : Int) := by omega
          have hkd := decide_eq_true hki
          have hkz : ((k : Int) == 0) = false := by rw [beq_eq_false_iff_ne]; omega
          have HRR := Lib.hid (HRK0.out hk0)
          clear hk0 hq hw3
          by_cases hle : (j : Int) ≤ p
          · have HE := Lib.hid (show R = (0, 9) by
              have h9 : cbErr L.length J = 9 := by rw [HC.out, HAT.out, if_neg (by rw [HIN.out]; decide), if_pos hle]
              rw [HDEF.out, h9, if_neg (by decide)])
            have hle' := decide_eq_true hle
            go_wp2_with (go_at_call 30; refine (within_any _ _ _ _).mono ?_; rintro e w' ⟨rfl, rfl⟩; rw [HIN.out])
            go_quiet (fail)
            go_wp2
            go_ret2
            exact ⟨two_to HE.out, below_drewN HB.out _⟩
          · have HNX := Lib.hid (show cbErr L.length J = bdF L.length (prevJ J (k + 1)) (J.drop (k + 1)) by rw [HC.out, HAT.out, if_neg (by rw [HIN.out]; decide), if_neg hle, HPN.out])
            have hle' := decide_eq_false hle
            clear hle
            by_cases hxr : xr < r
            · have HRX := Lib.hid (show rdyK L J (k + 1) = xr by rw [HRK.out, HN1.out]; have := HRR.out; omega)
              have hxr' := decide_eq_true hxr
              go_wp2_with (go_at_call 30; refine (within_any _ _ _ _).mono ?_; rintro e w' ⟨rfl, rfl⟩; rw [HIN.out])
              go_quiet (fail)
              obtain ⟨w9, hw9⟩ : ∃ w9, w9 = wr.drewN nq := ⟨_, rfl⟩
              have y0 : w9.cell? (ad.add k) = some (.int .i64 (j : Int)) := by rw [hw9]; exact s0
              have y1 : w9.cell? (ad2.add (j * 4)) = some (.string xnm) := by rw [hw9]; exact t0
              have y2 : w9.cell? ⟨(ad2.add (j * 4)).block, (ad2.add (j * 4)).off + 1, none⟩ = some (.int .i64 xr) := by rw [hw9]; exact t1
              have y3 : w9.cell? ⟨(ad2.add (j * 4)).block, (ad2.add (j * 4)).off + 2, none⟩ = some (.int .i64 xm) := by rw [hw9]; exact t2
              have y4 : w9.cell? ⟨(ad2.add (j * 4)).block, (ad2.add (j * 4)).off + 3, none⟩ = some (.int .i64 xd) := by rw [hw9]; exact t3
              have hau9 : (ad2.add (j * 4)).block < w9.heap.size := by rw [hw9]; exact hau
              have HBW9 := Lib.hid (show Below w.heap.size w w9 by rw [hw9]; exact below_drewN HB.out nq)
              rw [← hw9]
              clear hw9 s0 t0 t1 t2 t3 hau sq
              have HBJ := Lib.hid (BoxAt.new w9 #[.string xnm, .int .i64 xr, .int .i64 xm, .int .i64 xd] 136)
              have HB9 := Lib.hid (HBW9.out.alloc HBW9.out.size (.cells #[.string xnm, .int .i64 xr, .int .i64 xm, .int .i64 xd] 136))
              go_wp2_with fail
              go_region
              go_wp2
              go_roundw
              case rel => first
                | exact ⟨k + 1, by omega, by go_num, by rw [HRX.out], by rw [HN2.out], by rw [HN3.out], HNX, HJN, HB9.out.drew⟩
                | exact ⟨k + 1, by omega, by go_num, by rw [HRX.out], by rw [HN2.out], by rw [HN3.out], HNX, HJN, HB9.out⟩
              case measure => simp [intOf]; omega
            · have HRX := Lib.hid (show rdyK L J (k + 1) = r by rw [HRK.out, HN1.out]; have := HRR.out; omega)
              have hxr' := decide_eq_false hxr
              clear hxr
              go_wp2_with (go_at_call 30; refine (within_any _ _ _ _).mono ?_; rintro e w' ⟨rfl, rfl⟩; rw [HIN.out])
              go_quiet (fail)
              obtain ⟨w9, hw9⟩ : ∃ w9, w9 = wr.drewN nq := ⟨_, rfl⟩
              have y0 : w9.cell? (ad.add k) = some (.int .i64 (j : Int)) := by rw [hw9]; exact s0
              have y1 : w9.cell? (ad2.add (j * 4)) = some (.string xnm) := by rw [hw9]; exact t0
              have y2 : w9.cell? ⟨(ad2.add (j * 4)).block, (ad2.add (j * 4)).off + 1, none⟩ = some (.int .i64 xr) := by rw [hw9]; exact t1
              have y3 : w9.cell? ⟨(ad2.add (j * 4)).block, (ad2.add (j * 4)).off + 2, none⟩ = some (.int .i64 xm) := by rw [hw9]; exact t2
              have y4 : w9.cell? ⟨(ad2.add (j * 4)).block, (ad2.add (j * 4)).off + 3, none⟩ = some (.int .i64 xd) := by rw [hw9]; exact t3
              have hau9 : (ad2.add (j * 4)).block < w9.heap.size := by rw [hw9]; exact hau
              have HBW9 := Lib.hid (show Below w.heap.size w w9 by rw [hw9]; exact below_drewN HB.out nq)
              rw [← hw9]
              clear hw9 s0 t0 t1 t2 t3 hau sq
              have HBJ := Lib.hid (BoxAt.new w9 #[.string xnm, .int .i64 xr, .int .i64 xm, .int .i64 xd] 136)
              have HB9 := Lib.hid (HBW9.out.alloc HBW9.out.size (.cells #[.string xnm, .int .i64 xr, .int .i64 xm, .int .i64 xd] 136))
              go_wp2_with fail
              go_region
              go_wp2
              go_roundw
              case rel => first
                | exact ⟨k + 1, by omega, by go_num, by rw [HRX.out], by rw [HN2.out], by rw [HN3.out], HNX, HJN, HB9.out.drew⟩
                | exact ⟨k + 1, by omega, by go_num, by rw [HRX.out], by rw [HN2.out], by rw [HN3.out], HNX, HJN, HB9.out⟩
              case measure => simp [intOf]; omega
    · obtain rfl : k = J.length := by omega
      have HE0 := Lib.hid (show cbErr L.length J = 0 by rw [HC.out, List.drop_of_length_le (Nat.le_refl _)]; rfl)
      have HRK := Lib.hid (show rdyK L J J.length = rdyI L (J.take J.length) by unfold rdyK; rw [if_neg (by have := HJ0.out; omega)])
      rw [List.take_length] at HBD HRK ⊢
      have HE := Lib.hid (show R = (rdyI L J + smI L J - duI L J, 0) by rw [HDEF.out, if_pos HE0.out]; rfl)
      rw [HRK.out]
      have hb := HBD.out
      obtain ⟨r, hr⟩ : ∃ r, r = rdyI L J := ⟨_, rfl⟩
      obtain ⟨s, hs⟩ : ∃ s, s = smI L J := ⟨_, rfl⟩
      obtain ⟨d, hd⟩ : ∃ d, d = duI L J := ⟨_, rfl⟩
      rw [← hr, ← hs, ← hd] at HE ⊢
      rw [← hr, ← hs, ← hd] at hb
      obtain ⟨hb1, hb2, hb3⟩ := hb
      have hr2 := hb1.2.1 HJ0.out
      have hw2 : IntKind.i64.wrap (r + s) = r + s := IntWalk.i64_in _ (by omega)
      have hw3 : IntKind.i64.wrap (r + s - d) = r + s - d := IntWalk.i64_in _ (by omega)
      clear hr hs hd hb1 hb2 hb3 hr2 HBD
      go_wp2
      go_ret2
      exact ⟨two_to HE.out, hB⟩
end Go.Proofs.Ytpplcbpnojggcaa
