/-
  TopPressBound: the walk of the law.
-/
import Derived.Test.YtpplcbpnojggcaaCZ
namespace Go.Proofs.Ytpplcbpnojggcaa
open Go.RowKit Go.Maps Go.Shelf

set_option maxRecDepth 100000 in
set_option maxHeartbeats 8000000 in
theorem top_walk (ra : Option Addr) (R : List RunR) (rc : Nat) (da : Option Addr) (D : List Int) (dc : Nat) (oa : Option Addr) (O : List Int) (oc : Nat) (w : World) (hR : RunsAt w ra R) (hrc : R.length ≤ rc) (hrm : rc ≤ maxLen) (hri : ∀ y ∈ R, RunRIn y)
    (hD : RowsAt 1 intL w da D) (hdc : D.length ≤ dc) (hdm : dc ≤ maxLen) (hO : RowsAt 1 intL w oa O) (hoc : O.length ≤ oc) (hom : oc ≤ maxLen) (hon : oa = none → oc = 0) :
    Calls Try.prog 16 #[.slice ra R.length rc, .slice da D.length dc, .slice oa O.length oc] w (AggPost (.bool true) w) := by
  have hrl := Nat.le_trans hrc hrm
  have hdl := Nat.le_trans hdc hdm
  have hol := Nat.le_trans hoc hom
  have HB0 := Lib.hid (Below.refl w.heap.size w)
  have HR := Lib.hid hR; have HD := Lib.hid hD; have HO := Lib.hid hO; have HRI := Lib.hid hri
  have HCO := Lib.hid (fun (h : R.length ≤ 5) W h2 => refCheckOrder_any oa O O.length oc R.length W rfl h2 hoc hol (by omega))
  unfold maxLen at hrl hdl hol
  clear hR hrc hrm hri hD hdc hdm hO hom
  go_enter Try.func16, Try.ntmps16
  by_cases g1 : 5 < R.length
  · have g1' : (5 : Int) < (R.length : Int) := by omega
    have g1x := decide_eq_true g1'
    clear g1
    go_wp2_with (go_at_call 76; refine (printed_any _).mono ?_; rintro e w1 ⟨rfl, hb1⟩; have HB1 := Lib.hid (HB0.out.trans (hb1.mono HB0.out.size)); clear hb1)
    go_ret
    exact ⟨rfl, HB1.out⟩
  have g1' : ¬ (5 : Int) < (R.length : Int) := by omega
  have g1x := decide_eq_false g1'
  by_cases g2 : R.length = 0
  · have g2' : ((R.length : Int) == 0) = true := by simp [g2]
    go_wp2_with (go_at_call 76; refine (printed_any _).mono ?_; rintro e w1 ⟨rfl, hb1⟩; have HB1 := Lib.hid (HB0.out.trans (hb1.mono HB0.out.size)); clear hb1)
    go_ret
    exact ⟨rfl, HB1.out⟩
  have g2' : ((R.length : Int) == 0) = false := by rw [beq_eq_false_iff_ne]; omega
  by_cases g3 : D.length = R.length
  rotate_left
  · have g3' : ((D.length : Int) != (R.length : Int)) = true := by rw [bne_iff_ne]; omega
    clear g1 g2 g3
    go_wp2_with (go_at_call 76; refine (printed_any _).mono ?_; rintro e w1 ⟨rfl, hb1⟩; have HB1 := Lib.hid (HB0.out.trans (hb1.mono HB0.out.size)); clear hb1)
    go_ret
    exact ⟨rfl, HB1.out⟩
  have g3' : ((D.length : Int) != (R.length : Int)) = false := by simp [g3]
  have HC2 := Lib.hid (HCO.out (by omega))
  clear HCO
  by_cases g4 : ordErr R.length O = 0
  rotate_left
  · have g4' : (ordErr R.length O != 0) = true := by simpa using g4
    clear g1 g2 g3 g4
    go_wp2_with (first
      | (go_at_call 76; refine (printed_any _).mono ?_; rintro e w1 ⟨rfl, hb1⟩; have HB1 := Lib.hid (HB0.out.trans (hb1.mono HB0.out.size)); clear hb1)
      | (go_at_call 50; refine (HC2.out _ (HO.out.below HB1.out)).mono ?_; rintro e w2 ⟨rfl, hb2⟩; have HB2 := Lib.hid (HB1.out.trans (hb2.mono HB1.out.size)); clear hb2))
    go_ret
    exact ⟨rfl, HB2.out⟩
  have HORD := Lib.hid g4
  have HLEN := Lib.hid (show 1 ≤ R.length ∧ R.length ≤ 5 by omega)
  have HDL := Lib.hid g3
  rw [g4] at HC2
  have hn5 : R.length ≤ 5 := by omega
  clear g1 g2 g3 g4
  go_wp2_with (first
    | (go_at_call 76; refine (printed_any _).mono ?_; rintro e w1 ⟨rfl, hb1⟩; have HB1 := Lib.hid (HB0.out.trans (hb1.mono HB0.out.size)); clear hb1)
    | (go_at_call 50; refine (HC2.out _ (HO.out.below HB1.out)).mono ?_; rintro e w2 ⟨rfl, hb2⟩; have HB2 := Lib.hid (HB1.out.trans (hb2.mono HB1.out.size)); clear hb2))
  clear g1' g1x g2' g3' HC2
  go_loopw [7, 8, 9, 10] (fun v i m e wr => ∃ (k : Nat) (J : List Job) (m0 e0 : Value), k ≤ R.length ∧ i = .int .i64 k ∧ m = m0 ∧ e = e0 ∧ Hid (MadeOf R k J) ∧ OwnG 4 136 jobV wr w.heap.size v J ∧ Below w.heap.size w wr) (fun _ i _ _ _ => R.length - (intOf i).toNat)
  case atStart => exact ⟨0, [], _, _, Nat.zero_le _, rfl, rfl, rfl, Lib.hid (MadeOf.nil R), OwnG.nil _ _, HB2.out⟩
  case round =>
    obtain ⟨k, J, m0, e0, hk, rfl, rfl, rfl, HM, hown, hB⟩ := hrel
    by_cases hlt : k < R.length
    · obtain ⟨ad, rfl, hadw, -⟩ := HR.out.row.run hlt
      obtain ⟨ad2, e2, had, s0, s1, s2, s3, s4, s5, s6⟩ := (HR.out.below hB).row.run hlt
      injection e2 with e2
      subst e2
      have HCL := Lib.hid (HR.out.cols _ (List.getElem_mem hlt))
      have HIN := Lib.hid (HRI.out _ (List.getElem_mem hlt))
      have HMO := Lib.hid (fun (he : runErr R[k].x = 0) (s : ByteArray) (hs : s.size ≤ 1) m d => HM.out.more hlt he hs m d)
      obtain ⟨y, ey⟩ : ∃ y, y = R[k] := ⟨_, rfl⟩
      rw [← ey] at s0 s1 s2 s3 s4 s5 s6 HCL HIN HMO
      obtain ⟨⟨job, day, wanted, given, cols, ready, hour⟩, a, c⟩ := y
      dsimp only at s0 s1 s2 s3 s4 s5 s6
      have HCL : Hid (RowsG 1 tx w a cols) := HCL
      have HIN : Hid (job.size ≤ maxLen ∧ cols.length ≤ c ∧ c ≤ maxLen ∧ (a = none → c = 0) ∧ (∀ s ∈ cols, s.size ≤ maxLen) ∧ OkI given) := HIN
      have HJL := Lib.hid (show J.length = k from HM.out.len)
      have hkl : (k : Int) < (R.length : Int) := by omega
      have hkd : k < D.length := by have := HDL.out; omega
      have HOW := Lib.hid hown; have HB := Lib.hid hB
      have S0 := Lib.hid s0; have S1 := Lib.hid s1; have S2 := Lib.hid s2; have S3 := Lib.hid s3; have S4 := Lib.hid s4; have S5 := Lib.hid s5; have S6 := Lib.hid s6
      obtain ⟨va, vc, ev, -⟩ := hown.rows job_l
      subst ev
      clear ey hown hB HM
      by_cases f1 : 8 < cols.length
      · have f1' : (8 : Int) < (cols.length : Int) := by omega
        have f1x := decide_eq_true f1'
        go_wp2_with fail
        go_ret
        exact ⟨rfl, HB.out⟩
      have f1' : ¬ (8 : Int) < (cols.length : Int) := by omega
      have f1x := decide_eq_false f1'
      by_cases f2 : 30 < job.size
      · have f2' : (30 : Int) < (job.size : Int) := by omega
        have f2x := decide_eq_true f2'
        go_wp2_with fail
        go_ret
        exact ⟨rfl, HB.out⟩
      have f2' : ¬ (30 : Int) < (job.size : Int) := by omega
      have f2x := decide_eq_false f2'
      have HCK : Hid (∀ W, RowsG 1 tx W a cols → Calls Try.prog 22 #[.agg #[.string job, .int .i64 day, .int .i64 wanted, .int .i64 given, .slice a cols.length c, .int .i64 ready, .int .i64 hour]] W (CheckPost (runErr ⟨job, day, wanted, given, cols, ready, hour⟩) W)) := Lib.hid (fun W h => refCheckRun_any ⟨job, day, wanted, given, cols, ready, hour⟩ a c W HIN.out.1 h HIN.out.2.1 (by show cols.length ≤ 1000000; omega) HIN.out.2.2.2.2.1)
      have HCR : Hid (∀ W, RowsG 1 tx W a cols → Calls Try.prog 20 #[.agg #[.string job, .int .i64 day, .int .i64 wanted, .int .i64 given, .slice a cols.length c, .int .i64 ready, .int .i64 hour]] W (CopyRPost ⟨job, day, wanted, given, cols, ready, hour⟩ cols.length W)) := Lib.hid (fun W h => copyRun_any ⟨job, day, wanted, given, cols, ready, hour⟩ a cols.length c W rfl h (by show cols.length ≤ 1000000; omega) HIN.out.2.2.2.1)
      have HRM : Hid (∀ a1 c1 W, RowsG 1 tx W a1 cols → Calls Try.prog 19 #[.agg #[.string job, .int .i64 day, .int .i64 wanted, .int .i64 given, .slice a1 cols.length c1, .int .i64 ready, .int .i64 hour]] W (pairPost (runMinP ⟨job, day, wanted, given, cols, ready, hour⟩) (runErr ⟨job, day, wanted, given, cols, ready, hour⟩) W)) := Lib.hid (fun a1 c1 W h => RunMinutes_any ⟨job, day, wanted, given, cols, ready, hour⟩ a1 c1 W HIN.out.1 h (by show cols.length ≤ maxLen; exact Nat.le_trans (by omega) (show 8 ≤ maxLen by decide)) HIN.out.2.2.2.2.1)
      have HMO : Hid (runErr ⟨job, day, wanted, given, cols, ready, hour⟩ = 0 → ∀ s : ByteArray, s.size ≤ 1 → ∀ m d, MadeOf R (k + 1) (J ++ [⟨⟨#[106]⟩ ++ s, 0, m, d⟩])) := HMO
      obtain ⟨rm, hrm⟩ : ∃ rm, rm = runMinP ⟨job, day, wanted, given, cols, ready, hour⟩ := ⟨_, rfl⟩
      obtain ⟨re, hre⟩ : ∃ re, re = runErr ⟨job, day, wanted, given, cols, ready, hour⟩ := ⟨_, rfl⟩
      rw [← hre] at HCK HMO
      rw [← hrm, ← hre] at HRM
      clear f1 f2 hrm hre HIN
      by_cases f3 : re = 0
      rotate_left
      · have f3' : (re != 0) = true := by simpa using f3
        clear f3
        go_wp2_with (first | (go_at_call 22; refine (HCK.out _ (HCL.out.below HB.out)).mono ?_; rintro e w3 ⟨rfl, hb3⟩; have HB3 := Lib.hid (HB.out.trans (hb3.mono HB.out.size)); clear hb3))
        go_ret
        exact ⟨rfl, HB3.out⟩
      subst f3
      have HM2 : Hid (∀ s : ByteArray, s.size ≤ 1 → ∀ m d, MadeOf R (k + 1) (J ++ [⟨⟨#[106]⟩ ++ s, 0, m, d⟩])) := Lib.hid (HMO.out rfl)
      clear HMO
      have S7 : True := trivial
      go_wp2_with (first
        | (go_at_call 22; refine (HCK.out _ (HCL.out.below HB.out)).mono ?_; rintro e w3 ⟨rfl, hb3⟩; have HW3 := Lib.hid hb3; have HB3 := Lib.hid (HB.out.trans (hb3.mono HB.out.size)); clear hb3 s0 s1 s2 s3 s4 s5 s6; have s0 : w3.cell? (ad.add (k * 7)) = some (.string job) := (HW3.out.cell (p := (ad.add (k * 7))) had).trans S0.out; have s1 : w3.cell? ⟨(ad.add (k * 7)).block, (ad.add (k * 7)).off + 1, none⟩ = some (.int .i64 day) := (HW3.out.cell (p := ⟨(ad.add (k * 7)).block, (ad.add (k * 7)).off + 1, none⟩) had).trans S1.out; have s2 : w3.cell? ⟨(ad.add (k * 7)).block, (ad.add (k * 7)).off + 2, none⟩ = some (.int .i64 wanted) := (HW3.out.cell (p := ⟨(ad.add (k * 7)).block, (ad.add (k * 7)).off + 2, none⟩) had).trans S2.out; have s3 : w3.cell? ⟨(ad.add (k * 7)).block, (ad.add (k * 7)).off + 3, none⟩ = some (.int .i64 given) := (HW3.out.cell (p := ⟨(ad.add (k * 7)).block, (ad.add (k * 7)).off + 3, none⟩) had).trans S3.out; have s4 : w3.cell? ⟨(ad.add (k * 7)).block, (ad.add (k * 7)).off + 4, none⟩ = some (.slice a cols.length c) := (HW3.out.cell (p := ⟨(ad.add (k * 7)).block, (ad.add (k * 7)).off + 4, none⟩) had).trans S4.out; have s5 : w3.cell? ⟨(ad.add (k * 7)).block, (ad.add (k * 7)).off + 5, none⟩ = some (.int .i64 ready) := (HW3.out.cell (p := ⟨(ad.add (k * 7)).block, (ad.add (k * 7)).off + 5, none⟩) had).trans S5.out; have s6 : w3.cell? ⟨(ad.add (k * 7)).block, (ad.add (k * 7)).off + 6, none⟩ = some (.int .i64 hour) := (HW3.out.cell (p := ⟨(ad.add (k * 7)).block, (ad.add (k * 7)).off + 6, none⟩) had).trans S6.out)
        | (go_at_call 20; refine (HCR.out _ (HCL.out.below HB3.out)).mono ?_; rintro e w4 ⟨a4, c4, rfl, hr4, -, hb4⟩; have HW4 := Lib.hid (HW3.out.trans (hb4.mono HW3.out.size)); have HR4 := Lib.hid hr4; clear hb4 hr4)
        | (go_at_call 19; refine (HRM.out a4 c4 _ HR4.out).mono ?_; rintro e w5 ⟨rfl, hb5⟩; have HW5 := Lib.hid (HW4.out.trans (hb5.mono HW4.out.size)); clear hb5))
      obtain ⟨dd, rfl, hdw, d0w⟩ := HD.out.int hkd
      have hBW5 : Below w.heap.size w w5 := HB.out.trans (HW5.out.mono HB.out.size)
      obtain ⟨dv, hdv⟩ : ∃ dv, dv = D[k] := ⟨_, rfl⟩
      rw [← hdv] at d0w
      have hdk : (dd.add k).block < w.heap.size := by rw [add_block]; exact hdw
      have d0 : w5.cell? (dd.add k) = some (.int .i64 dv) := (hBW5.cell hdk).trans d0w
      have hkdi : (k : Int) < (D.length : Int) := by omega
      have D0 := Lib.hid d0; have HB5 := Lib.hid hBW5
      have HK9 := Lib.hid (show k ≤ 9 by omega)
      have HJ6 := Lib.hid (show J.length ≤ 1000000 by have := HJL.out; omega)
      have HC1 := Lib.hid (fun (t : ByteArray) (h : t.size ≤ 1) => (show ¬ (9223372036854775807 < 1 + t.size) by omega))
      clear d0w hBW5 hdv S7
      go_region_held3 (fun w' => w'.cell? (dd.add k) = some (.int .i64 dv)) (first | exact d0 | go_keep)
        (first
          | (go_at_call 78; refine (decimal_any k HK9.out _).mono ?_; rintro e w6 ⟨⟨tt, rfl, htt⟩, hb6⟩; have HW6 : Hid (Below w5.heap.size w5 w6) := Lib.hid ((Below.refl _ w5).drew.trans hb6); have HTT := Lib.hid htt; have hc1 : ¬ (9223372036854775807 < 1 + tt.size) := HC1.out tt htt; have hc2 : ¬ (9223372036854775807 < (⟨#[106]⟩ : ByteArray).size + tt.size) := HC1.out tt htt; have d0 := (HW6.out.cell (p := dd.add k) (Nat.lt_of_lt_of_le hdk HB5.out.size)).trans D0.out; clear hb6 htt)
          | (refine step_appG tJob job_l job_one _ (by rfl) _ _ (by rfl) w.heap.size _ J (by rfl) (((HOW.out.below HW5.out).below HW6.out).below ((Below.refl _ _).alloc (Nat.le_refl _) _)) _ [⟨⟨#[106]⟩ ++ tt, 0, rm, dv⟩] 1 1 rfl (by rfl) (rows_made4 w6 ⟨⟨#[106]⟩ ++ tt, 0, rm, dv⟩) (fun e => by cases e) HJ6.out (show 1 ≤ 1000000 from Nat.le_of_ble_eq_true rfl) (Nat.le_trans HB5.out.size (Nat.le_trans HW6.out.size (Below.size ((Below.refl w6.heap.size w6).alloc (Nat.le_refl _) _)))) ?_; intro v3 w7 hO7 hg7 hb7 hor7; have d0 := (hb7.cell (p := dd.add k) hdk).trans (cell_alloc_keep d0)))
      have HO7 := Lib.hid hO7
      have HB7 := Lib.hid (HB5.out.trans ((HW6.out.mono HB5.out.size).trans (((Below.refl w6.heap.size w6).alloc (Nat.le_refl _) (.cells #[.string (⟨#[106]⟩ ++ tt), .int .i64 0, .int .i64 rm, .int .i64 dv] 136)).mono (Nat.le_trans HB5.out.size HW6.out.size) |>.trans hb7)))
      obtain ⟨va7, vc7, ev7, -⟩ := hO7.rows job_l
      subst ev7
      clear hO7 hg7 hb7 hor7
      go_wp2
      go_roundw
      case rel => exact ⟨k + 1, _, _, _, by omega, by go_num, rfl, rfl, Lib.hid (HM2.out tt HTT.out rm dv), HO7.out, HB7.out⟩
      case measure => simp [intOf]; omega
    · have hkR : k = R.length := by omega
      subst hkR
      obtain ⟨ja, jc, ev, hJ, hjn, -⟩ := hown.rows job_l
      subst ev
      have HJ := Lib.hid hJ; have HJN := Lib.hid hjn; have HB3 := Lib.hid hB
      have hjl : J.length = R.length := HM.out.len
      have HJL := Lib.hid hjl
      have hJ5 : J.length ≤ 5 := by omega
      have hO5 : O.length ≤ 5 := by have := (ord_right HORD.out).1; omega
      have HNM := Lib.hid (fun x (hx : x ∈ J) => Nat.le_trans (HM.out.name x hx) (show 2 ≤ maxLen by decide))
      have HON := Lib.hid (show AtOnce J from HM.out.once)
      have HRU := Lib.hid (show ∀ y ∈ R, runErr y.x = 0 from fun y hy => HM.out.run y (by rw [List.take_length]; exact hy))
      have HRJ := Lib.hid (fun W h => refCheckJobs_any J ja J.length jc W rfl h (Nat.le_trans hJ5 (by decide)) HNM.out)
      clear hjl hJ hjn hB hown hlt hk HB2 HM
      by_cases j0 : jobsErr J = 0
      rotate_left
      · have j0' : (jobsErr J != 0) = true := by simpa using j0
        clear j0
        go_wp2_with (first | (go_at_call 62; refine (HRJ.out _ HJ.out).mono ?_; rintro e w4 ⟨rfl, hb4⟩; have HB4 := Lib.hid (HB3.out.trans (hb4.mono HB3.out.size)); clear hb4))
        go_ret
        exact ⟨rfl, HB4.out⟩
      rw [j0] at HRJ
      have HOK := Lib.hid (show JobsOk J from (jobs_ok j0).2)
      have HLJ := Lib.hid (jobs_ok j0).1
      obtain ⟨so1, so2, so3⟩ := sched_once HLJ.out.1 HLJ.out.2 HOK.out HON.out
      obtain ⟨cr1, cr2, cr3⟩ := causes_right HLJ.out.1 HLJ.out.2 HOK.out
      obtain ⟨sq1, sq2⟩ := seq_right (O := O) HLJ.out.1 HLJ.out.2 HOK.out HON.out (by rw [HJL.out]; exact HORD.out)
      have HSC0 : Hid (∀ a c W, RowsG 4 jobV W a J → Calls Try.prog 60 #[.slice a J.length c] W (fun e W' => ∃ v cv, e = .returned (.tuple #[v, .int .i64 (latI J (schedI J)), cv, .int .i64 0]) ∧ OwnR 3 113 Sl.l W' W.heap.size v (schedI J) ∧ OwnR 1 3 intL W' W.heap.size cv (causI J) ∧ Below W.heap.size W W')) := Lib.hid (fun a c W h => (scheduleOf_any J a c W h (Nat.le_trans hJ5 (by decide)) HNM.out).mono fun e W' hp => by
        rcases hp with ⟨h1, -⟩ | ⟨-, v, cv, h1, h2, h3, h4⟩
        · exact absurd j0 h1
        · exact ⟨v, cv, h1, h2, h3, h4⟩)
      have HPB0 : Hid (∀ a c a2 c2 W, RowsG 4 jobV W a J → RowsAt 1 intL W a2 (causI J) → Calls Try.prog 67 #[.slice a J.length c, .slice a2 (causI J).length c2] W (TwoPost (latI J (schedI J), 0) W)) := Lib.hid (fun a c a2 c2 W h h2 => by
        have h9 := checkBound_any J a J.length c (causI J) a2 (causI J).length c2 W rfl rfl h (Nat.le_trans hJ5 (by decide)) HNM.out h2 cr3
        have e : cbF J (causI J) = (latI J (schedI J), 0) := by unfold cbF; rw [if_neg (by simp [j0])]; unfold cbR; rw [if_pos cr1, cr2]
        rw [e] at h9; exact h9)
      have HCS0 : Hid (∀ a c a2 c2 W, RowsG 4 jobV W a J → RowsAt 3 Sl.l W a2 (seqS J 0 O) → Calls Try.prog 68 #[.slice a J.length c, .slice a2 O.length c2] W (TriPost (latI J (seqS J 0 O), latJ J (seqS J 0 O), 0) W)) := Lib.hid (fun a c a2 c2 W h h2 => by
        have h9 := checkSchedule_any J a J.length c (seqS J 0 O) a2 O.length c2 W rfl (seq_len J O 0).symm h (Nat.le_trans hJ5 (by decide)) HNM.out h2 (by rw [seq_len]; exact Nat.le_trans hO5 (by decide))
        have e : csF J (seqS J 0 O) = (latI J (seqS J 0 O), latJ J (seqS J 0 O), 0) := by unfold csF; rw [if_neg (by simp [j0])]; unfold csR; rw [if_pos sq1]
        rw [e] at h9; exact h9)
      obtain ⟨S, hS⟩ : ∃ S, S = schedI J := ⟨_, rfl⟩
      obtain ⟨C, hC⟩ : ∃ C, C = causI J := ⟨_, rfl⟩
      obtain ⟨li, hli⟩ : ∃ li, li = latI J (schedI J) := ⟨_, rfl⟩
      obtain ⟨lo, hlo⟩ : ∃ lo, lo = latI J (seqS J 0 O) := ⟨_, rfl⟩
      obtain ⟨lj, hlj⟩ : ∃ lj, lj = latJ J (seqS J 0 O) := ⟨_, rfl⟩
      rw [← hlo, ← hlj] at HCS0
      rw [← hli, ← hC] at HSC0 HPB0
      rw [← hS] at HSC0 so1 so2 so3
      rw [← hlo, ← hli] at sq2
      have HSC := HSC0; have HPB := HPB0; have HCS := HCS0; have HLE := Lib.hid sq2; have HSI := Lib.hid so2; have HSP := Lib.hid so3
      have HC6 := Lib.hid cr3
      have hS5 : S.length ≤ 5 := by omega
      have x1 : ((S.length : Int) != (J.length : Int)) = false := by simp [so1]
      have x2 : (li != li) = false := by simp
      have HSJ := Lib.hid so1
      clear so1 hS hC hli hlo hlj so2 so3 cr1 cr2 cr3 sq1 sq2 HSC0 HPB0 HCS0 j0
      go_wp2_with (first
        | (go_at_call 62; refine (HRJ.out _ HJ.out).mono ?_; rintro e w4 ⟨rfl, hb4⟩; have HW4 := Lib.hid hb4; have HJ4 := Lib.hid (HJ.out.below hb4); clear hb4)
        | (at_builtin; refine wpList_appG tJob job_l job_one _ rfl _ _ rfl w4.heap.size _ [] rfl (own_empty w4) ja J J.length jc rfl rfl (HJ4.out.alloc _) HJN.out (by simp) (by omega) (by simp) ?_; intro v5 w5 hO5 hg5 hb5 ho5; obtain ⟨a5, c5, e5, hr5, hn5, -⟩ := hO5.rows job_l; rw [List.nil_append] at e5 hr5; subst e5; have HJ5 := Lib.hid hr5; have HW5 := Lib.hid (HW4.out.trans ((((Below.refl w4.heap.size w4).alloc (Nat.le_refl _) _).trans hb5).mono HW4.out.size)); clear hO5 hg5 hb5 ho5 hr5 hn5)
        | (go_at_call 60; refine (HSC.out a5 c5 _ HJ5.out).mono ?_; rintro e w6 ⟨v6, cv6, rfl, hS6, hC6, hb6⟩; obtain ⟨sa, sc, es, hs6, -⟩ := hS6.rows sl_l; subst es; obtain ⟨ca, cc, ec, hc6, -⟩ := hC6.rows int_l; subst ec; have HS6 := Lib.hid hs6; have HC6' := Lib.hid hc6; have HW6 := Lib.hid (HW5.out.trans (hb6.mono HW5.out.size)); have HJ6 := Lib.hid (HJ.out.below HW6.out); clear hS6 hC6 hs6 hc6 hb6)
        | (at_builtin; refine wpList_appG tJob job_l job_one _ rfl _ _ rfl w6.heap.size _ [] rfl (own_empty w6) ja J J.length jc rfl rfl (HJ6.out.alloc _) HJN.out (by simp) (by omega) (by simp) ?_; intro v7 w7 hO7 hg7 hb7 ho7; obtain ⟨a7, c7, e7, hr7, hn7, -⟩ := hO7.rows job_l; rw [List.nil_append] at e7 hr7; subst e7; have HJ7 := Lib.hid hr7; have HX7 := Lib.hid (((Below.refl w6.heap.size w6).alloc (Nat.le_refl _) (.cells #[] 136)).trans hb7); have HW7 := Lib.hid (HW6.out.trans (HX7.out.mono HW6.out.size)); clear hO7 hg7 hb7 ho7 hr7 hn7)
        | (go_at_call 67; refine (HPB.out a7 c7 ca cc _ HJ7.out (HC6'.out.below HX7.out)).mono ?_; rintro e w8 ⟨rfl, hb8⟩; have HX8 := Lib.hid (HX7.out.trans (hb8.mono HX7.out.size)); have HW8 := Lib.hid (HW6.out.trans (HX8.out.mono HW6.out.size)); clear hb8))
      have HS8 := Lib.hid (HS6.out.below HX8.out)
      have HJ8 := Lib.hid (HJ.out.below HW8.out)
      clear HJ4 HJ5 HJ6 HJ7 HW4 HW5 HW6 HW7 HX7 HX8 HS6 HC6' HSC HPB HRJ x1 x2
      go_loopw [17] (fun i wr => ∃ m : Nat, 1 ≤ m ∧ m ≤ S.length ∧ i = .int .i64 (m : Int) ∧ Drew w8 wr) (fun i _ => S.length - (intOf i).toNat)
      case atStart => exact ⟨1, Nat.le_refl _, by have := HSJ.out; have := HLEN.out; have := HJL.out; omega, rfl, Drew.refl _⟩
      case round =>
        obtain ⟨m, hm1, hm, rfl, hdr⟩ := hrel
        have HBQ := Lib.hid (hdr.below (Below.refl w8.heap.size w8))
        by_cases hlt : m < S.length
        · obtain ⟨q, hq⟩ : ∃ q, m = q + 1 := ⟨m - 1, by omega⟩
          have hqS : q < S.length := by omega
          obtain ⟨sd, rfl, hsd, t0, -⟩ := (HS8.out.below HBQ.out).sl3 hlt
          obtain ⟨sd2, es2, -, u0, -⟩ := (HS8.out.below HBQ.out).sl3 hqS
          injection es2 with es2
          subst es2
          obtain ⟨i1, i2⟩ := HSI.out _ (List.getElem_mem hlt)
          obtain ⟨i3, i4⟩ := HSI.out _ (List.getElem_mem hqS)
          have hdue := List.pairwise_iff_getElem.1 HSP.out q m hqS hlt (by omega)
          obtain ⟨y1, ey1⟩ : ∃ y, y = S[m].job := ⟨_, rfl⟩
          obtain ⟨y0, ey0⟩ : ∃ y, y = S[q].job := ⟨_, rfl⟩
          rw [← ey1] at t0 i1 i2 hdue
          rw [← ey0] at u0 i3 i4 hdue
          obtain ⟨j1, rfl⟩ : ∃ j : Nat, y1 = j := ⟨y1.toNat, by omega⟩
          obtain ⟨j0, rfl⟩ : ∃ j : Nat, y0 = j := ⟨y0.toNat, by omega⟩
          have hj1 : j1 < J.length := by omega
          have hj0 : j0 < J.length := by omega
          rw [show ((j1 : Int)).toNat = j1 by omega, show ((j0 : Int)).toNat = j0 by omega] at hdue
          unfold dueN at hdue
          rw [job_getD hj1, job_getD hj0] at hdue
          obtain ⟨jd, rfl, hjd, -, -, -, p3⟩ := (HJ8.out.below HBQ.out).job hj1
          obtain ⟨jd2, ej2, -, -, -, -, q3⟩ := (HJ8.out.below HBQ.out).job hj0
          injection ej2 with ej2
          subst ej2
          obtain ⟨d1, ed1⟩ : ∃ d, d = J[j1].due := ⟨_, rfl⟩
          obtain ⟨d0, ed0⟩ : ∃ d, d = J[j0].due := ⟨_, rfl⟩
          rw [← ed1] at p3 hdue
          rw [← ed0] at q3 hdue
          have hdd : ¬ d1 < d0 := by omega
          have hddx := decide_eq_false hdd
          have HWN := Lib.hid (fun (j : Nat) (hj : j < J.length) W => within_yes j J.length hj W)
          have HJ1 := Lib.hid hj1; have HJ0 := Lib.hid hj0
          have hmS : (m : Int) < (S.length : Int) := by omega
          have hw1 : IntKind.i64.wrap ((J.length : Int) - 1) = (J.length : Int) - 1 := IntWalk.i64_in _ (by omega)
          have hw2 : IntKind.i64.wrap ((m : Int) - 1) = (q : Int) := by rw [IntWalk.i64_in _ (by omega)]; omega
          have hqS' : (q : Int) < (S.length : Int) := by omega
          have hj1' : (j1 : Int) < (J.length : Int) := by omega
          have hj0' : (j0 : Int) < (J.length : Int) := by omega
          clear ey1 ey0 ed1 ed0 i1 i2 i3 i4 hdue hq hdd hj1 hj0 hqS
          go_wp2
          go_quiet ((go_at_call 30; exact Calls.quiet_of_same (flip_same (HWN.out _ (by first | exact HJ1.out | exact HJ0.out) _))))
          go_wp2
          go_roundw
          case rel => exact ⟨m + 1, by omega, by omega, by go_num, hdr.drewN _⟩
          case measure => simp [intOf]; omega
        · have hSk : S.length = m := by omega
          have hex : ¬ (m : Int) < (S.length : Int) := by omega
          obtain ⟨wq, rfl⟩ : ∃ x, x = wr := ⟨_, rfl⟩
          have HWQ := Lib.hid (HW8.out.trans (HBQ.out.mono HW8.out.size))
          have HBW := Lib.hid (HB3.out.trans (HWQ.out.mono HB3.out.size))
          have HJQ := Lib.hid (HJ.out.below HWQ.out)
          have HOQ := Lib.hid (HO.out.below HBW.out)
          obtain ⟨ro1, ro2, ro3⟩ := ord_right HORD.out
          have HOI := Lib.hid (show ∀ y ∈ O, 0 ≤ y ∧ y < J.length by rw [HJL.out]; exact ro3)
          have HBD := Lib.hid (fun k => seqT_bd HOK.out (O.take k) 0 (fun y hy => HOI.out y (List.mem_of_mem_take hy)))
          clear hdr HBQ HS8 hlt hm hm1 hSk ro1 ro2 ro3
          go_wp2_with fail
          go_loopw [18, 19, 20] (fun v t i wr => ∃ k : Nat, k ≤ O.length ∧ i = .int .i64 k ∧ t = .int .i64 (seqT J (O.take k)) ∧ OwnR 3 113 Sl.l wr wq.heap.size v (seqS J 0 (O.take k)) ∧ Below wq.heap.size wq wr) (fun _ _ i _ => O.length - (intOf i).toNat)
          case atStart => exact ⟨0, Nat.zero_le _, rfl, rfl, OwnR.nil _ _, Below.refl _ _⟩
          case round =>
            obtain ⟨k, hk, rfl, rfl, hown, hB⟩ := hrel
            obtain ⟨wx, rfl⟩ : ∃ x, x = wr := ⟨_, rfl⟩
            by_cases hlt : k < O.length
            · obtain ⟨od, rfl, hod', o0q⟩ := HOQ.out.int hlt
              have hod : (od.add k).block < wq.heap.size := by rw [add_block]; exact hod'
              have hio := HOI.out _ (List.getElem_mem hlt)
              have HSN := Lib.hid (show seqS J 0 (O.take (k + 1)) = seqS J 0 (O.take k) ++ [⟨O[k], seqT J (O.take k), (J.getD O[k].toNat noJob).mins⟩] by rw [List.take_succ_eq_append_getElem hlt, seq_snoc]; rfl)
              have HTN := Lib.hid (show seqT J (O.take (k + 1)) = seqT J (O.take k) + (J.getD O[k].toNat noJob).mins by rw [List.take_succ_eq_append_getElem hlt, seqT_snoc])
              have hbd := HBD.out k
              change 0 ≤ seqT J (O.take k) ∧ seqT J (O.take k) ≤ 0 + 10000 * ((O.take k).length : Int) at hbd
              rw [List.length_take] at hbd
              have HLS := Lib.hid (show (seqS J 0 (O.take k)).length ≤ 5 by rw [seq_len, List.length_take]; omega)
              obtain ⟨y, ey⟩ : ∃ y, y = O[k] := ⟨_, rfl⟩
              rw [← ey] at o0q hio HSN HTN
              obtain ⟨j, rfl⟩ : ∃ j : Nat, y = j := ⟨y.toNat, by omega⟩
              have hjL : j < J.length := by omega
              rw [show ((j : Int)).toNat = j by omega, job_getD hjL] at HSN HTN
              obtain ⟨jd, rfl, hjd, -, -, p2q, -⟩ := HJQ.out.job hjL
              have hmi := (HOK.out _ (List.getElem_mem hjL)).2.2
              obtain ⟨mi, emi⟩ : ∃ mi, mi = J[j].mins := ⟨_, rfl⟩
              rw [← emi] at p2q HSN HTN hmi
              obtain ⟨t, et⟩ : ∃ t, t = seqT J (O.take k) := ⟨_, rfl⟩
              rw [← et] at HSN HTN hbd ⊢
              obtain ⟨Lq, eL⟩ : ∃ Lq, Lq = seqS J 0 (O.take k) := ⟨_, rfl⟩
              rw [← eL] at HSN hown HLS
              have o0 : wx.cell? (od.add k) = some (.int .i64 (j : Int)) := (hB.cell (p := od.add k) hod).trans o0q
              have p2 : wx.cell? ⟨(jd.add (j * 4)).block, (jd.add (j * 4)).off + 2, none⟩ = some (.int .i64 mi) := (hB.cell (p := ⟨(jd.add (j * 4)).block, (jd.add (j * 4)).off + 2, none⟩) hjd).trans p2q
              have hkO : (k : Int) < (O.length : Int) := by omega
              have hjL' : (j : Int) < (J.length : Int) := by omega
              have hw1 : IntKind.i64.wrap (t + mi) = t + mi := IntWalk.i64_in _ (by omega)
              have HOWN := Lib.hid hown; have HBX := Lib.hid hB
              have OQ := Lib.hid o0q; have PQ := Lib.hid p2q
              have O0 := Lib.hid o0; have P2 := Lib.hid p2
              obtain ⟨za, zc, ez, -⟩ := hown.rows sl_l
              subst ez
              clear ey emi et eL hown hB hbd hmi hio o0q p2q
              go_wp2_with fail
              go_region_held3 (fun w' => w'.cell? (od.add k) = some (.int .i64 (j : Int)) ∧ w'.cell? ⟨(jd.add (j * 4)).block, (jd.add (j * 4)).off + 2, none⟩ = some (.int .i64 mi)) (first | exact ⟨o0, p2⟩ | go_keep)
                (first | (refine step_appL tSl sl_l _ (by rfl) _ _ (by rfl) wq.heap.size _ Lq (by rfl) (HOWN.out.drew.alloc _) _ [⟨j, t, mi⟩] 1 1 rfl (by rfl) (rows_made3 wx.drew ⟨j, t, mi⟩) (fun e => by cases e) (by have := HLS.out; omega) (by simp) (by have h1 := HBX.out.size; show wq.heap.size ≤ (wx.alloc _).heap.size; rw [World.size_alloc]; omega) ?_; intro v3 w9 hO9 hg9 hb9 hor9; have HB9 : Hid (Below wq.heap.size wq w9) := Lib.hid ((HBX.out.drew.alloc HBX.out.size _).trans hb9); have o0 := (HB9.out.cell (p := od.add k) hod).trans OQ.out; have p2 := (HB9.out.cell (p := ⟨(jd.add (j * 4)).block, (jd.add (j * 4)).off + 2, none⟩) hjd).trans PQ.out))
              have HO9 := Lib.hid hO9
              obtain ⟨za9, zc9, ez9, -⟩ := hO9.rows sl_l
              subst ez9
              clear hO9 hg9 hb9 hor9
              have o0 := (HB9.out.cell (p := od.add k) hod).trans OQ.out
              have p2 := (HB9.out.cell (p := ⟨(jd.add (j * 4)).block, (jd.add (j * 4)).off + 2, none⟩) hjd).trans PQ.out
              go_wp2
              go_roundw
              case rel => exact ⟨k + 1, by omega, by go_num, by rw [HTN.out], by rw [HSN.out]; exact HO9.out, HB9.out⟩
              case measure => simp [intOf]; omega
            · have hkO : k = O.length := by omega
              subst hkO
              rw [List.take_length] at hown
              obtain ⟨za, zc, ez, hz, -⟩ := hown.rows sl_l
              rw [seq_len] at ez
              subst ez
              have HZ := Lib.hid hz; have HBX := Lib.hid hB
              have HWX := Lib.hid (HWQ.out.trans (hB.mono HWQ.out.size))
              have HJX := Lib.hid (HJ.out.below HWX.out)
              have hle : ¬ lo < li := by have := HLE.out; omega
              have hlex := decide_eq_false hle
              clear hown hB hz hlt hk HBD HOI HJQ HOQ HLE
              go_wp2_with (first
                | (at_builtin; refine wpList_appG tJob job_l job_one _ rfl _ _ rfl wx.heap.size _ [] rfl (own_empty wx) ja J J.length jc rfl rfl (HJX.out.alloc _) HJN.out (by simp) (by omega) (by simp) ?_; intro v9 w9 hO9 hg9 hb9 ho9; obtain ⟨a9, c9, e9, hr9, hn9, -⟩ := hO9.rows job_l; rw [List.nil_append] at e9 hr9; subst e9; have HJ9 := Lib.hid hr9; have HX9 := Lib.hid (((Below.refl wx.heap.size wx).alloc (Nat.le_refl _) (.cells #[] 136)).trans hb9); have HW9 := Lib.hid (HWX.out.trans (HX9.out.mono HWX.out.size)); clear hO9 hg9 hb9 ho9 hr9 hn9)
                | (go_at_call 68; refine (HCS.out a9 c9 za zc _ HJ9.out (HZ.out.below HX9.out)).mono ?_; rintro e w10 ⟨rfl, hb10⟩; have HW10 := Lib.hid (HW9.out.trans (hb10.mono HW9.out.size)); clear hb10))
              have HB10 := Lib.hid (HB3.out.trans (HW10.out.mono HB3.out.size))
              clear HW9 HX9 HJ9 HWX HJX HZ HBX HWQ HW10 HCS HSI HSP HC6 hle hlex
              have HR10 := Lib.hid (HR.out.below HB10.out)
              have HRO := Lib.hid (fun (k : Nat) (hk : k < R.length) => run_ok (HRU.out _ (List.getElem_mem hk)))
              obtain ⟨wt, rfl⟩ : ∃ x, x = w10 := ⟨_, rfl⟩
              go_loopw [24, 25] (fun v i wr => ∃ (k : Nat) (T : List PR), k ≤ R.length ∧ i = .int .i64 k ∧ Hid (T.length = k ∧ ∀ x ∈ T, x.l.length = R.length ∧ ∀ y ∈ x.l, 0 ≤ y ∧ y ≤ 10000) ∧ OwnG 1 75 prV wr wt.heap.size v T ∧ OwnRows wr wt.heap.size T ∧ Below wt.heap.size wt wr) (fun _ i _ => R.length - (intOf i).toNat)
              case atStart => exact ⟨0, [], Nat.zero_le _, rfl, Lib.hid ⟨rfl, fun x hx => (by cases hx)⟩, OwnG.nil _ _, fun x hx => (by cases hx), Below.refl _ _⟩
              case round =>
                obtain ⟨k, T, hk, rfl, HT, hown, hrows, hB⟩ := hrel
                obtain ⟨w4, rfl⟩ : ∃ x, x = wr := ⟨_, rfl⟩
                by_cases hlt : k < R.length
                · obtain ⟨ad, rfl, hadk, -, -, -, -, k4w, -, -⟩ := HR10.out.row.run hlt
                  have HCK := Lib.hid (HR10.out.cols _ (List.getElem_mem hlt))
                  have HLK := Lib.hid (HRO.out k hlt).2.2.2.2.1.2
                  obtain ⟨y, ey⟩ : ∃ y, y = R[k] := ⟨_, rfl⟩
                  rw [← ey] at k4w HCK HLK
                  obtain ⟨⟨jobk, dayk, wantk, givk, colk, redk, houk⟩, ak, ck⟩ := y
                  dsimp only at k4w
                  have HCK : Hid (RowsG 1 tx wt ak colk) := HCK
                  have HLK : Hid (colk.length ≤ 6) := HLK
                  have K4 := Lib.hid k4w
                  have HO4 := Lib.hid hown; have HRS4 := Lib.hid hrows; have HB4 := Lib.hid hB
                  have hkl : (k : Int) < (R.length : Int) := by omega
                  obtain ⟨tva, tvc, tve, -⟩ := hown.rows prV_l
                  subst tve
                  have HTL := Lib.hid HT.out.1
                  clear ey hown hrows hB k4w
                  go_wp2_with fail
                  go_loopw [26, 27] (fun v i wr => ∃ (q : Nat) (l : List Int), q ≤ R.length ∧ i = .int .i64 q ∧ Hid (l.length = q ∧ ∀ y ∈ l, 0 ≤ y ∧ y ≤ 10000) ∧ OwnR 1 3 intL wr w4.heap.size v l ∧ Below w4.heap.size w4 wr) (fun _ i _ => R.length - (intOf i).toNat)
                  case atStart => exact ⟨0, [], Nat.zero_le _, rfl, Lib.hid ⟨rfl, fun x hx => (by cases hx)⟩, OwnR.nil _ _, Below.refl _ _⟩
                  case round =>
                    obtain ⟨q, l, hq, rfl, HLQ, hown5, hB5⟩ := hrel
                    obtain ⟨w5, rfl⟩ : ∃ x, x = wr := ⟨_, rfl⟩
                    by_cases hltq : q < R.length
                    · obtain ⟨ad2, e2, hadq, -, -, -, -, q4w, q5w, -⟩ := HR10.out.row.run hltq
                      injection e2 with e2
                      subst e2
                      have HCQ := Lib.hid (HR10.out.cols _ (List.getElem_mem hltq))
                      have hoq := HRO.out q hltq
                      obtain ⟨y, ey⟩ : ∃ y, y = R[q] := ⟨_, rfl⟩
                      rw [← ey] at q4w q5w HCQ hoq
                      obtain ⟨⟨jobq, dayq, wantq, givq, colq, redq, houq⟩, aq, cq⟩ := y
                      dsimp only at q4w q5w hoq
                      have HCQ : Hid (RowsG 1 tx wt aq colq) := HCQ
                      have hcq6 := hoq.2.2.2.2.1.2
                      have hrd := hoq.2.2.2.2.2.2.1
                      have HB5 := Lib.hid (HB4.out.trans (hB5.mono HB4.out.size))
                      have HH5 := Lib.hid hB5
                      have HRD := Lib.hid hrd
                      have q4 : w5.cell? ⟨(ad.add (q * 7)).block, (ad.add (q * 7)).off + 4, none⟩ = some (.slice aq colq.length cq) := (HB5.out.cell (p := ⟨(ad.add (q * 7)).block, (ad.add (q * 7)).off + 4, none⟩) hadq).trans q4w
                      have q5 : w5.cell? ⟨(ad.add (q * 7)).block, (ad.add (q * 7)).off + 5, none⟩ = some (.int .i64 redq) := (HB5.out.cell (p := ⟨(ad.add (q * 7)).block, (ad.add (q * 7)).off + 5, none⟩) hadq).trans q5w
                      have Q4 := Lib.hid q4; have Q5 := Lib.hid q5
                      have HO5 := Lib.hid hown5
                      have hql : (q : Int) < (R.length : Int) := by omega
                      obtain ⟨rva, rvc, rve, -⟩ := hown5.rows int_l
                      subst rve
                      clear ey hoq hown5 hB5 q4w q5w hrd
                      go_wp2_with fail
                      clear q4 q5
                      go_loopw [28, 29] (fun f c wr => ∃ (fr p : Nat), fr ≤ p ∧ p ≤ colq.length ∧ f = .int .i64 fr ∧ c = .int .i64 p ∧ Drew w5 wr) (fun _ c _ => colq.length - (intOf c).toNat)
                      case atStart => exact ⟨0, 0, Nat.le_refl _, Nat.zero_le _, rfl, rfl, Drew.refl _⟩
                      case round =>
                        obtain ⟨fr, p, hfp, hp, rfl, rfl, hdr⟩ := hrel
                        obtain ⟨w6, rfl⟩ : ∃ x, x = wr := ⟨_, rfl⟩
                        have hB6 := hdr.below (Below.refl w5.heap.size w5)
                        have hB6' : Below wt.heap.size wt w6 := HB5.out.trans (hB6.mono HB5.out.size)
                        have q4 : w6.cell? ⟨(ad.add (q * 7)).block, (ad.add (q * 7)).off + 4, none⟩ = some (.slice aq colq.length cq) := (hB6.cell (p := ⟨(ad.add (q * 7)).block, (ad.add (q * 7)).off + 4, none⟩) (Nat.lt_of_lt_of_le hadq HB5.out.size)).trans Q4.out
                        have q5 : w6.cell? ⟨(ad.add (q * 7)).block, (ad.add (q * 7)).off + 5, none⟩ = some (.int .i64 redq) := (hB6.cell (p := ⟨(ad.add (q * 7)).block, (ad.add (q * 7)).off + 5, none⟩) (Nat.lt_of_lt_of_le hadq HB5.out.size)).trans Q5.out
                        by_cases hltp : p < colq.length
                        · have hpl : (p : Int) < (colq.length : Int) := by omega
                          have hw1 : IntKind.i64.wrap ((fr : Int) + 1) = ((fr + 1 : Nat) : Int) := by rw [IntWalk.i64_in _ (by omega)]; omega
                          by_cases hkq : k = q
                          · have hkq' : ((k : Int) == (q : Int)) = true := by simp [hkq]
                            have HFP := Lib.hid hfp
                            clear hkq hfp hB6 hB6' q5
                            go_wp2
                            go_quiet (fail)
                            go_wp2
                            go_roundw
                            case rel => exact ⟨fr + 1, p + 1, by have := HFP.out; omega, by omega, by go_num, by go_num, hdr.drewN _⟩
                            case measure => simp [intOf]; omega
                          · have hkq' : ((k : Int) == (q : Int)) = false := by rw [beq_eq_false_iff_ne]; omega
                            have k4 : w6.cell? ⟨(ad.add (k * 7)).block, (ad.add (k * 7)).off + 4, none⟩ = some (.slice ak colk.length ck) := (hB6'.cell (p := ⟨(ad.add (k * 7)).block, (ad.add (k * 7)).off + 4, none⟩) hadk).trans K4.out
                            obtain ⟨xd, rfl, hxd, x0⟩ := (HCQ.out.below hB6').txt hltp
                            have HHT := Lib.hid (fun (s : ByteArray) W (h : RowsG 1 tx W ak colk) => hasText_any ak colk colk.length ck s W rfl h (by have := HLK.out; omega))
                            have HC6 := Lib.hid (HCK.out.below hB6')
                            obtain ⟨s, es⟩ : ∃ s, s = colq[p] := ⟨_, rfl⟩
                            rw [← es] at x0
                            have HHS := Lib.hid (fun W h => HHT.out s W h)
                            cases hbt : colk.any (fun x => decide (x = s))
                            · rw [hbt] at HHS
                              have HFP := Lib.hid hfp
                              clear hkq hfp hB6 hB6' q5 es hbt HHT
                              go_wp2
                              go_quiet ((go_at_call 79; exact Calls.quiet_of_same (flip_same (HHS.out _ HC6.out))))
                              go_wp2
                              go_roundw
                              case rel => exact ⟨fr + 1, p + 1, by have := HFP.out; omega, by omega, by go_num, by go_num, hdr.drewN _⟩
                              case measure => simp [intOf]; omega
                            · rw [hbt] at HHS
                              have HFP := Lib.hid hfp
                              clear hkq hfp hB6 hB6' q5 es hbt HHT
                              go_wp2
                              go_quiet ((go_at_call 79; exact Calls.quiet_of_same (flip_same (HHS.out _ HC6.out))))
                              go_wp2
                              go_roundw
                              case rel => exact ⟨fr, p + 1, by have := HFP.out; omega, by omega, rfl, by go_num, hdr.drewN _⟩
                              case measure => simp [intOf]; omega
                        · have hpq : p = colq.length := by omega
                          have hfr6 : fr ≤ 6 := by omega
                          subst hpq
                          obtain ⟨hw1, hz0, hz1⟩ := fresh_bd hfr6 HRD.out.1 HRD.out.2
                          have hq5n : l.length ≤ 5 := by have := HLQ.out.1; omega
                          have HZB := Lib.hid (And.intro hz0 hz1)
                          have HHX := Lib.hid (HH5.out.trans (hB6.mono HH5.out.size))
                          have HO6 := Lib.hid (HO5.out.below hB6)
                          clear hB6 hB6' hltp hfp hp hdr hz0 hz1 hfr6
                          go_wp2_with (first | (at_builtin; refine wpList_appX tInt int_l _ (min ((fr : Int) * redq) 10000) _ rfl rfl _ _ rfl w4.heap.size _ l rfl HO6.out rfl (by omega) HHX.out.size ?_; intro gg cg wg hOg hgg hBg))
                          have HOG := Lib.hid hOg; have HBG := Lib.hid (HHX.out.trans hBg)
                          clear hOg hgg hBg
                          go_roundw
                          case rel => exact ⟨q + 1, l ++ [min ((fr : Int) * redq) 10000], by omega, by go_num, Lib.hid ⟨by rw [List.length_append, HLQ.out.1]; rfl, fun y hy => by
                            rcases List.mem_append.1 hy with h | h
                            · exact HLQ.out.2 y h
                            · rw [List.mem_singleton.1 h]; exact HZB.out⟩, HOG.out, HBG.out⟩
                          case measure => simp [intOf]; omega
                    · have hqR : q = R.length := by omega
                      subst hqR
                      have HO5 := Lib.hid (hown5.mono (B' := wt.heap.size) HB4.out.size)
                      obtain ⟨la, lc, le, -⟩ := hown5.rows int_l
                      subst le
                      have HOT := Lib.hid (HO4.out.below hB5)
                      have HRS5 := Lib.hid (HRS4.out.below hB5)
                      have HB5 := Lib.hid (HB4.out.trans (hB5.mono HB4.out.size))
                      have hT5 : T.length ≤ 1000000 := by have := HTL.out; omega
                      clear hown5 hB5 hltq hq
                      go_wp2_with (first | (at_builtin; refine wpList_appG1 tPR prV_l prV_one w5 (⟨la, l, lc⟩ : PR) _ rfl rfl _ _ rfl wt.heap.size _ T rfl HOT.out rfl hT5 HB5.out.size ?_; intro v3 w3 hO3 hg3 hb3 hor3))
                      have hrows3 : OwnRows w3 wt.heap.size (T ++ [⟨la, l, lc⟩]) := fun y hy => by
                        rcases List.mem_append.1 hy with h | h
                        · exact (HRS5.out.grown HOT.out hg3) y h
                        · rw [List.mem_singleton.1 h]
                          exact HO5.out.grown hg3 (fun q e e' => rows_apart HO5.out HOT.out (by decide) q e e'.symm)
                      go_roundw
                      case rel => exact ⟨k + 1, T ++ [⟨la, l, lc⟩], by omega, by go_num, Lib.hid ⟨by rw [List.length_append, HTL.out]; rfl, fun x hx => by
                        rcases List.mem_append.1 hx with h | h
                        · exact HT.out.2 x h
                        · rw [List.mem_singleton.1 h]; exact HLQ.out⟩, hO3, hrows3, HB5.out.trans hb3⟩
                      case measure => simp [intOf]; omega
                · have hkR2 : k = R.length := by omega
                  subst hkR2
                  have hTL : T.length = R.length := HT.out.1
                  have hTR : TabRight T := ⟨by omega, fun x hx => by
                    obtain ⟨h1, h2⟩ := HT.out.2 x hx
                    exact ⟨by rw [h1, hTL], h2⟩⟩
                  obtain ⟨ta, tc, te, hr4, -⟩ := hown.rows prV_l
                  subst te
                  have HTA : Hid (TabAt w4 ta T) := Lib.hid ⟨hr4, fun x hx => by
                    obtain ⟨a3, c3, e3, hr3, -⟩ := (hrows x hx).rows int_l
                    injection e3 with e4
                    rw [e4]; exact hr3⟩
                  have hnil : ∀ x ∈ T, x.a = none → x.c = 0 := fun x hx => by
                    obtain ⟨a3, c3, e3, -, -, -, hn3, -⟩ := (hrows x hx).rows int_l
                    injection e3 with e4 _ e5
                    rw [e4, e5]; exact hn3
                  obtain ⟨bc, F, le, lb1, lb2, -, -, -, lb6⟩ := least_both hTR (by omega)
                  have HORT := Lib.hid (show ordErr T.length O = 0 by rw [hTL]; exact HORD.out)
                  have hle := lb6 O HORT.out
                  have h00 := right_tbl hTR
                  have HCL := Lib.hid (fun W h => copyLists_any ta T T.length tc W rfl h (by omega) (fun x hx => by rw [(HT.out.2 x hx).1]; omega) hnil)
                  have HCI := Lib.hid (fun W h => copyInts_any oa O O.length oc W rfl h (Nat.le_trans hO5 (by decide)) hon)
                  have HMK : Hid (∀ (T2 : List PR) ta2 tc2 a c W, T2.map (·.l) = T.map (·.l) → TabAt W ta2 T2 → RowsAt 1 intL W a O → Calls Try.prog 70 #[.slice ta2 T2.length tc2, .slice a O.length c] W (TwoPost (mkA T O, 0) W)) := Lib.hid (fun T2 ta2 tc2 a c W hm h h2 => by
                    have h9 := MakeReady_any T2 ta2 T2.length tc2 O a O.length c W rfl rfl h (by rw [map_len hm]; omega) h2 (Nat.le_trans hO5 (by decide))
                    rw [mrE_map hm] at h9
                    have e : mrE T O = (mkA T O, 0) := by unfold mrE; rw [if_neg (by simp [h00]), if_neg (by simp [HORT.out])]
                    rw [e] at h9; exact h9)
                  have HLM : Hid (∀ (T2 : List PR) ta2 tc2 W, T2.map (·.l) = T.map (·.l) → TabAt W ta2 T2 → Calls Try.prog 72 #[.slice ta2 T2.length tc2] W (fun e W' => ∃ a n q, e = .returned (.tuple #[.slice a n q, .int .i64 le, .int .i64 0]) ∧ Below W.heap.size W W')) := Lib.hid (fun T2 ta2 tc2 W hm h => (leastMakeReady_any T2 ta2 T2.length tc2 bc W rfl h (by rw [map_len hm]; omega) (fun _ => by rw [map_len hm]; exact lb1)).mono fun e W' hp => by
                    obtain ⟨a, n, q, hp, hb⟩ := hp
                    rcases hp with ⟨h1, -⟩ | ⟨-, -, h2, -⟩
                    · rw [tblErr_map hm] at h1; exact absurd h00 h1
                    · rw [lmF_map hm, lb2] at h2
                      exact ⟨a, n, q, h2, hb⟩)
                  have HB4 := Lib.hid (HB10.out.trans (hB.mono HB10.out.size))
                  have HO4 := Lib.hid (HO.out.below HB4.out)
                  obtain ⟨mA, hmA⟩ : ∃ mA, mA = mkA T O := ⟨_, rfl⟩
                  rw [← hmA] at HMK hle
                  have hlex := decide_eq_true hle
                  have ST1 : True := trivial
                  clear hown hrows hB hr4 hnil hTR h00 lb1 lb2 lb6 hmA hlt hk hTL HT
                  go_wp2_with (first
                    | (go_at_call 71; have ST9 := ST1; clear ST9 ST1; refine (HCL.out _ HTA.out).mono ?_; rintro e w11 ⟨a11, c11, T11, rfl, hm11, ht11, -, -, -, hb11⟩; have HM11 := Lib.hid hm11; have HT11 := Lib.hid ht11; have HB11 := Lib.hid (HB4.out.trans (hb11.mono HB4.out.size)); have HO11 := Lib.hid (HO4.out.below hb11); have HTB := Lib.hid (HTA.out.below hb11); clear hm11 ht11 hb11)
                    | (go_at_call 47; refine (HCI.out _ HO11.out).mono ?_; rintro e w12 ⟨v12, rfl, hO12, hb12⟩; obtain ⟨a12, c12, e12, hr12, -⟩ := hO12.rows int_l; subst e12; have HR12 := Lib.hid hr12; have HT12 := Lib.hid (HT11.out.below hb12); have HTC := Lib.hid (HTB.out.below hb12); have HB12 := Lib.hid (HB11.out.trans (hb12.mono HB11.out.size)); clear hO12 hr12 hb12)
                    | (go_at_call 70; refine (HMK.out T11 a11 c11 a12 c12 _ HM11.out HT12.out HR12.out).mono ?_; rintro e w13 ⟨rfl, hb13⟩; have HTD := Lib.hid (HTC.out.below hb13); have HB13 := Lib.hid (HB12.out.trans (hb13.mono HB12.out.size)); clear hb13)
                    | (go_at_call 71; refine (HCL.out _ HTD.out).mono ?_; rintro e w14 ⟨a14, c14, T14, rfl, hm14, ht14, -, -, -, hb14⟩; have HM14 := Lib.hid hm14; have HT14 := Lib.hid ht14; have HB14 := Lib.hid (HB13.out.trans (hb14.mono HB13.out.size)); clear hm14 ht14 hb14)
                    | (go_at_call 72; refine (HLM.out T14 a14 c14 _ HM14.out HT14.out).mono ?_; rintro e w15 ⟨a15, n15, q15, rfl, hb15⟩; have HB15 := Lib.hid (HB14.out.trans (hb15.mono HB14.out.size)); clear hb15))
                  go_ret
                  exact ⟨rfl, HB15.out⟩
end Go.Proofs.Ytpplcbpnojggcaa
