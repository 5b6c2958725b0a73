/-
  Package press: what is wrong with a slice; the bound of a set.
-/
import Derived.BigQuiet
import Derived.Test.YtpplcbpnojggcaaAQ
import Derived.Test.YtpplcbpnojggcaaE3
namespace Go.Proofs.Ytpplcbpnojggcaa
open Go.RowKit

set_option maxRecDepth 100000 in
set_option maxHeartbeats 2000000 in
theorem errorOfSlice_any (L : List Job) (a : Option Addr) (n c : Nat) (s : Sl) (e : Int) (w : World) (hn : n = L.length) (hr : RowsG 4 jobV w a L) (hl1 : 1 ≤ L.length) (hl : L.length ≤ 20) :
    Calls Try.prog 125 #[.slice a n c, .agg #[.int .i64 s.job, .int .i64 s.from_, .int .i64 s.mins], .int .i64 e] w (CheckPost (slErr L e s) w) := by
  subst hn
  obtain ⟨sj, sf, sm⟩ := s
  dsimp only
  have bx := BoxAt.new w #[.int .i64 sj, .int .i64 sf, .int .i64 sm] 113
  have hb0 := (Below.refl w.heap.size w).alloc (Nat.le_refl _) (.cells #[.int .i64 sj, .int .i64 sf, .int .i64 sm] 113)
  have HR := Lib.hid (hr.alloc (.cells #[.int .i64 sj, .int .i64 sf, .int .i64 sm] 113))
  have HDEF := Lib.hid (show slErr L e ⟨sj, sf, sm⟩ = if inB sj 0 ((L.length : Int) - 1) = false then 6 else if okJobMin sm = false then 2 else if inB sf 0 20000000 = false then 2 else if sf < (L.getD sj.toNat noJob).ready then 19 else if sf < e then 17 else 0 from rfl)
  obtain ⟨R, hR⟩ : ∃ R, R = slErr L e ⟨sj, sf, sm⟩ := ⟨_, rfl⟩
  rw [← hR] at HDEF ⊢
  clear hR hr
  have hw1 : IntKind.i64.wrap ((L.length : Int) - 1) = (L.length : Int) - 1 := IntWalk.i64_in _ (by omega)
  go_enter Try.func125, Try.ntmps125
  go_wp2_with fail
  obtain ⟨w0, hw0⟩ : ∃ w0, w0 = w.alloc (.cells #[.int .i64 sj, .int .i64 sf, .int .i64 sm] 113) := ⟨_, rfl⟩
  rw [← hw0] at bx hb0 HR ⊢
  clear hw0
  have b0 : w0.cell? ⟨w.heap.size, 0, none⟩ = some (.int .i64 sj) := bx.cell 0
  have b1 : w0.cell? ⟨w.heap.size, 1, none⟩ = some (.int .i64 sf) := bx.cell 1
  have b2 : w0.cell? ⟨w.heap.size, 2, none⟩ = some (.int .i64 sm) := bx.cell 2
  have lx := bx.lt
  have HB := Lib.hid hb0
  clear bx hb0
  cases h1 : inB sj 0 ((L.length : Int) - 1)
  · have HE := Lib.hid (show R = 6 by rw [HDEF.out, if_pos h1])
    go_wp2_with (go_at_call 85; refine (isFrom_any _ _ _ _).mono ?_; rintro e w' ⟨rfl, rfl⟩)
    go_ret
    exact ⟨ret_int HE.out.symm, HB.out⟩
  cases h2 : okJobMin sm
  · have HE := Lib.hid (show R = 2 by rw [HDEF.out, if_neg (by rw [h1]; decide), if_pos h2])
    have H1 := Lib.hid h1
    go_wp2_with (first | (go_at_call 85; refine (isFrom_any _ _ _ _).mono ?_; rintro e w' ⟨rfl, rfl⟩; rw [H1.out]) | (go_at_call 123; refine (isJobMinutes_any _ _).mono ?_; rintro e w' ⟨rfl, rfl⟩))
    go_ret
    exact ⟨ret_int HE.out.symm, HB.out⟩
  cases h3 : inB sf 0 20000000
  · have HE := Lib.hid (show R = 2 by rw [HDEF.out, if_neg (by rw [h1]; decide), if_neg (by rw [h2]; decide), if_pos h3])
    have H1 := Lib.hid h1; have H2 := Lib.hid h2; have H3 := Lib.hid h3
    go_wp2_with (first | (go_at_call 85; refine (isFrom_any _ _ _ _).mono ?_; rintro e w' ⟨rfl, rfl⟩; (first | rw [H1.out] | rw [H3.out])) | (go_at_call 123; refine (isJobMinutes_any _ _).mono ?_; rintro e w' ⟨rfl, rfl⟩; rw [H2.out]))
    go_ret
    exact ⟨ret_int HE.out.symm, HB.out⟩
  have H1 := Lib.hid h1; have H2 := Lib.hid h2; have H3 := Lib.hid h3
  have hj := inB_iff.1 h1
  obtain ⟨j, rfl⟩ : ∃ j : Nat, sj = j := ⟨sj.toNat, by omega⟩
  have hjl : j < L.length := by omega
  obtain ⟨ad, rfl, hau, -, t1, -, -⟩ := HR.out.job hjl
  have HDF2 := Lib.hid (show R = if sf < L[j].ready then 19 else if sf < e then 17 else 0 by rw [HDEF.out, if_neg (by rw [h1]; decide), if_neg (by rw [h2]; decide), if_neg (by rw [h3]; decide), show ((j : Int)).toNat = j by omega, job_getD hjl])
  obtain ⟨rd, hrd⟩ : ∃ rd, rd = L[j].ready := ⟨_, rfl⟩
  rw [← hrd] at t1 HDF2
  have hjl' : (j : Int) < (L.length : Int) := by omega
  clear hrd h1 h2 h3 hj HDEF
  by_cases h4 : sf < rd
  · have HE := Lib.hid (show R = 19 by rw [HDF2.out, if_pos h4])
    go_wp2_with (first | (go_at_call 85; refine (isFrom_any _ _ _ _).mono ?_; rintro e w' ⟨rfl, rfl⟩; (first | rw [H1.out] | rw [H3.out])) | (go_at_call 123; refine (isJobMinutes_any _ _).mono ?_; rintro e w' ⟨rfl, rfl⟩; rw [H2.out]))
    go_quiet (fail)
    go_wp2
    go_ret
    exact ⟨ret_int HE.out.symm, below_drewN HB.out _⟩
  have h4' := decide_eq_false h4
  by_cases h5 : sf < e
  · have HE := Lib.hid (show R = 17 by rw [HDF2.out, if_neg h4, if_pos h5])
    clear h4
    go_wp2_with (first | (go_at_call 85; refine (isFrom_any _ _ _ _).mono ?_; rintro e w' ⟨rfl, rfl⟩; (first | rw [H1.out] | rw [H3.out])) | (go_at_call 123; refine (isJobMinutes_any _ _).mono ?_; rintro e w' ⟨rfl, rfl⟩; rw [H2.out]))
    go_quiet (fail)
    go_wp2
    go_ret
    exact ⟨ret_int HE.out.symm, below_drewN HB.out _⟩
  · have HE := Lib.hid (show R = 0 by rw [HDF2.out, if_neg h4, if_neg h5])
    have h5' := decide_eq_false h5
    clear h4 h5
    go_wp2_with (first | (go_at_call 85; refine (isFrom_any _ _ _ _).mono ?_; rintro e w' ⟨rfl, rfl⟩; (first | rw [H1.out] | rw [H3.out])) | (go_at_call 123; refine (isJobMinutes_any _ _).mono ?_; rintro e w' ⟨rfl, rfl⟩; rw [H2.out]))
    go_quiet (fail)
    go_wp2
    go_ret
    exact ⟨ret_int HE.out.symm, below_drewN HB.out _⟩
theorem rdy_next {L : List Job} {J : List Int} {k : Nat} (hk : k < J.length) : rdyI L (J.take (k + 1)) = min (rdyI L (J.take k)) (L.getD J[k].toNat noJob).ready := by unfold rdyI; rw [fold_step hk]
theorem sm_next {L : List Job} {J : List Int} {k : Nat} (hk : k < J.length) : smI L (J.take (k + 1)) = smI L (J.take k) + (L.getD J[k].toNat noJob).mins := by unfold smI; rw [fold_step hk]
theorem du_next {L : List Job} {J : List Int} {k : Nat} (hk : k < J.length) : duI L (J.take (k + 1)) = max (duI L (J.take k)) (L.getD J[k].toNat noJob).due := by unfold duI; rw [fold_step hk]
/-- Bounds of what a set comes to. -/
theorem bd_bds {L : List Job} (hj : JobsOk L) {J : List Int} (hJ : ∀ y ∈ J, 0 ≤ y ∧ y < L.length) : ∀ k, k ≤ J.length → (0 ≤ rdyI L (J.take k) ∧ (0 < k → rdyI L (J.take k) ≤ 10000000) ∧ rdyI L (J.take k) ≤ 9223372036854775807) ∧ (0 ≤ smI L (J.take k) ∧ smI L (J.take k) ≤ 10000 * k) ∧ (0 ≤ duI L (J.take k) ∧ duI L (J.take k) ≤ 10000000)
  | 0, _ => by simp [rdyI, smI, duI]
  | k + 1, hk => by
    have h1 := bd_bds hj hJ k (by omega)
    have hk2 : k < J.length := by omega
    have h2 := hJ _ (List.getElem_mem hk2)
    have hz : (J[k]).toNat < L.length := by omega
    have h3 := hj _ (List.getElem_mem hz)
    rw [rdy_next hk2, sm_next hk2, du_next hk2, job_getD hz]
    omega
set_option maxRecDepth 100000 in
set_option maxHeartbeats 4000000 in
theorem boundOf_any (L : List Job) (a : Option Addr) (n c : Nat) (J : List Int) (ja : Option Addr) (jn jc : Nat) (w : World) (hn : n = L.length) (hjn : jn = J.length) (hr : RowsG 4 jobV w a L) (hJ : RowsAt 1 intL w ja J) (hj0 : 0 < J.length) (hjl : J.length ≤ 1000000) (hok : JobsOk L) (hin : ∀ y ∈ J, 0 ≤ y ∧ y < L.length) :
    Calls Try.prog 124 #[.slice a n c, .slice ja jn jc] w fun e w' => e = .returned (.int .i64 (bdI L J)) ∧ w = w' := by
  subst hn; subst hjn
  have HR := Lib.hid hr; have HJ := Lib.hid hJ; have HIN := Lib.hid hin
  have HBD := Lib.hid (bd_bds hok hin)
  clear hr hJ hin hok
  go_enter Try.func124, Try.ntmps124
  go_wp2_with fail
  go_loop [5, 6, 7, 12] (fun r s d i => ∃ k : Nat, k ≤ J.length ∧ i = .int .i64 k ∧ r = .int .i64 (rdyI L (J.take k)) ∧ s = .int .i64 (smI L (J.take k)) ∧ d = .int .i64 (duI L (J.take k))) (fun _ _ _ i => J.length - (intOf i).toNat)
  case atStart => exact ⟨0, Nat.zero_le _, rfl, rfl, rfl, rfl⟩
  case round =>
    obtain ⟨k, hk, rfl, rfl, rfl, rfl⟩ := hrel
    have hb := HBD.out k hk
    by_cases hlt : k < J.length
    · obtain ⟨ad, rfl, had, s0⟩ := HJ.out.int hlt
      have hi := HIN.out _ (List.getElem_mem hlt)
      have HN1 := Lib.hid (rdy_next (L := L) hlt); have HN2 := Lib.hid (sm_next (L := L) hlt); have HN3 := Lib.hid (du_next (L := L) hlt)
      have hb2 := HBD.out (k + 1) hlt
      obtain ⟨y, ey⟩ : ∃ y, y = J[k] := ⟨_, rfl⟩
      rw [← ey] at s0 hi HN1 HN2 HN3
      obtain ⟨j, rfl⟩ : ∃ j : Nat, y = j := ⟨y.toNat, by omega⟩
      have hjL : j < L.length := by omega
      rw [show ((j : Int)).toNat = j by omega, job_getD hjL] at HN1 HN2 HN3
      obtain ⟨ad2, rfl, hau, -, t1, t2, t3⟩ := HR.out.job hjL
      obtain ⟨x, ex⟩ : ∃ x, x = L[j] := ⟨_, rfl⟩
      rw [← ex] at t1 t2 t3 HN1 HN2 HN3
      obtain ⟨xn, xr, xm, xd⟩ := x
      dsimp only at t1 t2 t3 HN1 HN2 HN3
      rw [HN2.out] at hb2
      obtain ⟨r, hr⟩ : ∃ r, r = rdyI L (J.take k) := ⟨_, rfl⟩
      obtain ⟨s, hs⟩ : ∃ s, s = smI L (J.take k) := ⟨_, rfl⟩
      obtain ⟨d, hd⟩ : ∃ d, d = duI L (J.take k) := ⟨_, rfl⟩
      rw [← hr] at HN1 hb ⊢
      rw [← hs] at HN2 hb hb2 ⊢
      rw [← hd] at HN3 hb ⊢
      have hjL' : (j : Int) < (L.length : Int) := by omega
      have hkJ : (k : Int) < (J.length : Int) := by omega
      have hw1 : IntKind.i64.wrap (s + xm) = s + xm := IntWalk.i64_in _ (by omega)
      clear ey ex hr hs hd hb hb2 hi
      go_wp2
      go_round
      case rel => exact ⟨k + 1, by omega, by go_num, by rw [HN1.out], by rw [HN2.out], by rw [HN3.out]⟩
      case measure => simp [intOf]; omega
    · obtain rfl : k = J.length := by omega
      rw [List.take_length] at hb ⊢
      have HE := Lib.hid (show bdI L J = rdyI L J + smI L J - duI L J from rfl)
      obtain ⟨r, hr⟩ : ∃ r, r = rdyI L J := ⟨_, rfl⟩
      obtain ⟨s, hs⟩ : ∃ s, s = smI L J := ⟨_, rfl⟩
      obtain ⟨d, hd⟩ : ∃ d, d = duI L J := ⟨_, rfl⟩
      rw [← hr, ← hs, ← hd] at hb HE ⊢
      obtain ⟨hb1, hb2, hb3⟩ := hb
      have hr2 := hb1.2.1 hj0
      have hw1 : IntKind.i64.wrap (r + s) = r + s := IntWalk.i64_in _ (by omega)
      have hw2 : IntKind.i64.wrap (r + s - d) = r + s - d := IntWalk.i64_in _ (by omega)
      clear hr hs hd hb1 hb2 hb3 hr2
      go_wp2
      go_ret
      exact ⟨ret_int HE.out.symm, rfl⟩
/-- What CheckBound returns. -/
def cbF (L : List Job) (J : List Int) : Int × Int := if jobsErr L ≠ 0 then (0, jobsErr L) else cbR L J
set_option maxRecDepth 100000 in
set_option maxHeartbeats 4000000 in
theorem checkBound_any (L : List Job) (a : Option Addr) (n c : Nat) (J : List Int) (ja : Option Addr) (jn jc : Nat) (w : World) (hn : n = L.length) (hjn : jn = J.length) (hr : RowsG 4 jobV w a L) (hl : L.length ≤ maxLen) (hsz : ∀ x ∈ L, x.name.size ≤ maxLen) (hJ : RowsAt 1 intL w ja J) (hjl : J.length ≤ 1000000) :
    Calls Try.prog 67 #[.slice a n c, .slice ja jn jc] w (TwoPost (cbF L J) w) := by
  subst hn; subst hjn
  have HCJ := Lib.hid (checkJobs_any L a c w hr hl hsz)
  have HR := Lib.hid hr; have HJ := Lib.hid hJ
  have HDEF := Lib.hid (show cbF L J = if jobsErr L ≠ 0 then (0, jobsErr L) else if cbErr L.length J = 0 then (bdI L J, 0) else (0, cbErr L.length J) from rfl)
  obtain ⟨R, hR⟩ : ∃ R, R = cbF L J := ⟨_, rfl⟩
  rw [← hR] at HDEF ⊢
  clear hR hr hJ hsz hl
  go_enter Try.func67, Try.ntmps67
  by_cases h0 : jobsErr L = 0
  · have HD1 := Lib.hid (show R = if cbErr L.length J = 0 then (bdI L J, 0) else (0, cbErr L.length J) by rw [HDEF.out, if_neg (by simp [h0])])
    obtain ⟨⟨hl1, hl20⟩, hok⟩ := jobs_ok h0
    have HOK : Hid (JobsOk L) := Lib.hid hok
    have H0 := Lib.hid h0
    clear h0 HDEF hok
    by_cases hj0 : J.length = 0
    · have HE := Lib.hid (show R = (0, 10) by rw [HD1.out]; unfold cbErr; rw [if_pos hj0, if_neg (by decide)])
      have hj0' : ((J.length : Int) == 0) = true := by simp [hj0]
      clear hj0
      go_wp2_with (go_at_call 63; refine HCJ.out.mono ?_; rintro e w1 ⟨rfl, hb1⟩; rw [H0.out])
      go_ret2
      exact ⟨two_to HE.out, hb1⟩
    have HCB := Lib.hid (show cbErr L.length J = bdF L.length (prevJ J 0) (J.drop 0) by unfold cbErr; rw [if_neg hj0]; rfl)
    have hj0' : ((J.length : Int) == 0) = false := by rw [beq_eq_false_iff_ne]; omega
    have HJ0 := Lib.hid (show 0 < J.length by omega)
    clear hj0
    go_wp2_with (go_at_call 63; refine HCJ.out.mono ?_; rintro e w1 ⟨rfl, hb1⟩; rw [H0.out])
    have HR1 := Lib.hid (HR.out.below hb1); have HJ1 := Lib.hid (HJ.out.below hb1); have HB1 := Lib.hid hb1
    have hw1 : IntKind.i64.wrap ((L.length : Int) - 1) = (L.length : Int) - 1 := IntWalk.i64_in _ (by omega)
    clear hb1 hj0'
    go_loop [7, 20] (fun p i => ∃ k : Nat, k ≤ J.length ∧ i = .int .i64 k ∧ p = .int .i64 (prevJ J k) ∧ Hid (cbErr L.length J = bdF L.length (prevJ J k) (J.drop k))) (fun _ i => J.length - (intOf i).toNat)
    case atStart => exact ⟨0, Nat.zero_le _, rfl, rfl, HCB⟩
    case round =>
      obtain ⟨k, hk, rfl, rfl, HC⟩ := hrel
      by_cases hlt : k < J.length
      · obtain ⟨ad, rfl, had, s0⟩ := HJ1.out.int hlt
        have HAT := Lib.hid (bdF_at (n := L.length) (p := prevJ J k) hlt)
        have HPN := Lib.hid (prevJ_next hlt)
        obtain ⟨y, ey⟩ : ∃ y, y = J[k] := ⟨_, rfl⟩
        obtain ⟨p, hp⟩ : ∃ p, p = prevJ J k := ⟨_, rfl⟩
        rw [← ey] at s0 HAT HPN
        rw [← hp] at HAT HC ⊢
        have hkJ : (k : Int) < (J.length : Int) := by omega
        clear ey hp
        cases hin : inB y 0 ((L.length : Int) - 1)
        · have HE := Lib.hid (show R = (0, 6) by
            have h9 : cbErr L.length J = 6 := by rw [HC.out, HAT.out, if_pos hin]
            rw [HD1.out, h9, if_neg (by decide)])
          go_wp2_with (go_at_call 85; refine (isFrom_any _ _ _ _).mono ?_; rintro e w' ⟨rfl, rfl⟩)
          go_ret2
          exact ⟨two_to HE.out, HB1.out⟩
        · have HIN := Lib.hid hin
          by_cases hle : y ≤ p
          · have HE := Lib.hid (show R = (0, 9) by
              have h9 : cbErr L.length J = 9 := by rw [HC.out, HAT.out, if_neg (by rw [HIN.out]; decide), if_pos hle]
              rw [HD1.out, h9, if_neg (by decide)])
            go_wp2_with (go_at_call 85; refine (isFrom_any _ _ _ _).mono ?_; rintro e w' ⟨rfl, rfl⟩; rw [HIN.out])
            go_ret2
            exact ⟨two_to HE.out, HB1.out⟩
          · have HN := Lib.hid (show cbErr L.length J = bdF L.length (prevJ J (k + 1)) (J.drop (k + 1)) by rw [HC.out, HAT.out, if_neg (by rw [HIN.out]; decide), if_neg hle, HPN.out])
            have hle' := decide_eq_false hle
            clear hin
            go_wp2_with (go_at_call 85; refine (isFrom_any _ _ _ _).mono ?_; rintro e w' ⟨rfl, rfl⟩; rw [HIN.out])
            go_round
            case rel => exact ⟨k + 1, by omega, by go_num, by rw [HPN.out], HN⟩
            case measure => simp [intOf]; omega
      · have HE0 := Lib.hid (show cbErr L.length J = 0 by rw [HC.out, List.drop_of_length_le (by omega)]; rfl)
        have HE := Lib.hid (show R = (bdI L J, 0) by rw [HD1.out, if_pos HE0.out])
        have HBO := Lib.hid (boundOf_any L a L.length c J ja J.length jc w1 rfl rfl HR1.out HJ1.out HJ0.out hjl HOK.out (by
          have h9 := HE0.out
          unfold cbErr at h9
          rw [if_neg (by have := HJ0.out; omega)] at h9
          exact fun y hy => ((bd_right h9).1 y hy).2))
        obtain ⟨B, hB⟩ : ∃ B, B = bdI L J := ⟨_, rfl⟩
        rw [← hB] at HE HBO
        clear hB
        go_wp2_with (go_at_call 124; refine HBO.out.mono ?_; rintro e w' ⟨rfl, rfl⟩)
        go_ret2
        exact ⟨two_to HE.out, HB1.out⟩
  · have HE := Lib.hid (show R = (0, jobsErr L) by rw [HDEF.out, if_pos h0])
    have h0' : (jobsErr L != 0) = true := by simpa using h0
    obtain ⟨je, hje⟩ : ∃ je, je = jobsErr L := ⟨_, rfl⟩
    rw [← hje] at HCJ HE h0'
    clear h0 HDEF hje
    go_wp2_with (go_at_call 63; refine HCJ.out.mono ?_; rintro e w1 ⟨rfl, hb1⟩)
    go_ret2
    exact ⟨two_to HE.out, hb1⟩
end Go.Proofs.Ytpplcbpnojggcaa
