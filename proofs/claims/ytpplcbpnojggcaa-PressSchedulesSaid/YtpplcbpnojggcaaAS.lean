/-
  Package press: the check of a schedule.
-/
import Derived.Test.YtpplcbpnojggcaaAR
namespace Go.Proofs.Ytpplcbpnojggcaa
open Go.RowKit

/-- What CheckSchedule returns. -/
def csF (L : List Job) (S : List Sl) : Int × Int × Int := if jobsErr L ≠ 0 then (0, 0, jobsErr L) else csR L S
def TriPost (p : Int × Int × Int) (w : World) (e : Ending) (w' : World) : Prop := e = .returned (.tuple #[.int .i64 p.1, .int .i64 p.2.1, .int .i64 p.2.2]) ∧ Below w.heap.size w w'
theorem results_tri {fn : Func} {tmps : Array Value} {w : World} {P : Program} {i j k : Nat} (hf : fn.results = #[.tmp i, .tmp j, .tmp k]) : (results fn tmps).run P w = .ok (.tuple #[tmps.getD i undef, tmps.getD j undef, tmps.getD k undef]) w := by
  simp [results, hf, go_sem]
theorem tri_to {p : Int × Int × Int} {x y z : Int} (h : p = (x, y, z)) : Ending.returned (.tuple #[.int .i64 x, .int .i64 y, .int .i64 z]) = .returned (.tuple #[.int .i64 p.1, .int .i64 p.2.1, .int .i64 p.2.2]) := by rw [h]
theorem done_bd0 {L : List Job} {S : List Sl} (h : ∀ s ∈ S, 1 ≤ s.mins ∧ s.mins ≤ 10000) : ∀ y ∈ doneL L.length S, 0 ≤ y ∧ y ≤ 10000 * S.length := fun y hy => by
  have := done_bd (L := L) S (List.replicate L.length 0) 0 h (Int.le_refl _) (fun z hz => by rw [List.eq_of_mem_replicate hz]; omega) y hy
  omega
theorem doneL_len (n : Nat) (S : List Sl) : (doneL n S).length = n := by unfold doneL; rw [doneF_len, List.length_replicate]
set_option maxRecDepth 100000 in
set_option maxHeartbeats 8000000 in
theorem checkSchedule_any (L : List Job) (a : Option Addr) (n c : Nat) (S : List Sl) (sa : Option Addr) (sn sc : Nat) (w : World) (hn : n = L.length) (hsn : sn = S.length) (hr : RowsG 4 jobV w a L) (hl : L.length ≤ maxLen) (hsz : ∀ x ∈ L, x.name.size ≤ maxLen) (hS : RowsAt 3 Sl.l w sa S) (hsl : S.length ≤ 1000000) :
    Calls Try.prog 68 #[.slice a n c, .slice sa sn sc] w (TriPost (csF L S) w) := by
  subst hn; subst hsn
  have HCJ := Lib.hid (checkJobs_any L a c w hr hl hsz)
  have HR := Lib.hid hr; have HS := Lib.hid hS
  have HDEF := Lib.hid (show csF L S = if jobsErr L ≠ 0 then (0, 0, jobsErr L) else if csErr L S = 0 then (latI L S, latJ L S, 0) else (0, 0, csErr L S) from rfl)
  obtain ⟨R, hR⟩ : ∃ R, R = csF L S := ⟨_, rfl⟩
  rw [← hR] at HDEF ⊢
  clear hR hr hS hsz hl
  go_enter Try.func68, Try.ntmps68
  by_cases h0 : jobsErr L = 0
  · have HD1 := Lib.hid (show R = if csErr L S = 0 then (latI L S, latJ L S, 0) else (0, 0, csErr L S) by rw [HDEF.out, if_neg (by simp [h0])])
    obtain ⟨⟨hl1, hl20⟩, hok⟩ := jobs_ok h0
    have HOK : Hid (JobsOk L) := Lib.hid hok
    have H0 := Lib.hid h0
    clear h0 HDEF hok
    by_cases hs1 : 100 < S.length
    · have HE := Lib.hid (show R = (0, 0, 8) by
        have h9 : csErr L S = 8 := by unfold csErr; rw [if_pos hs1]
        rw [HD1.out, h9, if_neg (by decide)])
      have hs1' : (100 : Int) < (S.length : Int) := by omega
      clear hs1
      go_wp2_with (go_at_call 63; refine HCJ.out.mono ?_; rintro e w1 ⟨rfl, hb1⟩; rw [H0.out])
      (try simp only [Exit.inBlock, Exit.then]); refine bodyPost_ret (results_tri rfl) rfl ?_
      exact ⟨tri_to HE.out, hb1⟩
    have HCS := Lib.hid (show csErr L S = if schE L 0 S ≠ 0 then schE L 0 S else if DoneOk L (doneL L.length S) then 0 else 23 by unfold csErr; rw [if_neg hs1])
    have hs1' : ¬ (100 : Int) < (S.length : Int) := by omega
    have HS1 := Lib.hid hs1
    have hmk := fun W => make_int L.length (by omega) W
    clear hs1
    go_wp2_with (go_at_call 63; refine HCJ.out.mono ?_; rintro e w1 ⟨rfl, hb1⟩; rw [H0.out])
    have HR1 := Lib.hid (HR.out.below hb1); have HSS1 := Lib.hid (HS.out.below hb1); have HB1 := Lib.hid hb1
    have im := IBox.made w1 L.length
    have hB0 := (Below.refl w1.heap.size w1).alloc (Nat.le_refl _) (.cells (madeCells #[.int .i64 0] L.length) 3)
    obtain ⟨w0, hw0⟩ : ∃ w0, w0 = w1.alloc (.cells (madeCells #[.int .i64 0] L.length) 3) := ⟨_, rfl⟩
    rw [← hw0] at im hB0 ⊢
    clear hw0 hmk hb1 hs1'
    go_loopw [9, 30] (fun m i wr => ∃ k : Nat, k ≤ S.length ∧ i = .int .i64 k ∧ m = .int .i64 (endS (S.take k)) ∧ IBox wr w1.heap.size ((S.take k).foldl doneP (List.replicate L.length 0)) ∧ Hid (schE L 0 S = schE L (endS (S.take k)) (S.drop k)) ∧ Hid (∀ s ∈ S.take k, 1 ≤ s.mins ∧ s.mins ≤ 10000) ∧ Below w1.heap.size w1 wr) (fun _ i _ => S.length - (intOf i).toNat)
    case atStart => exact ⟨0, Nat.zero_le _, rfl, rfl, im, Lib.hid rfl, Lib.hid (fun s hs => by simp at hs), hB0⟩
    case round =>
      obtain ⟨k, hk, rfl, rfl, ib, HC, HMI, hB⟩ := hrel
      clear im hB0
      by_cases hlt : k < S.length
      · obtain ⟨ad, rfl, had, s0, s1, s2⟩ := (HSS1.out.below hB).sl3 hlt
        have HSTOP := Lib.hid (fun h => schE_stop (L := L) (e := endS (S.take k)) hlt h)
        have HGO := Lib.hid (fun h => schE_go (L := L) (e := endS (S.take k)) hlt h)
        have HEN := Lib.hid (endS_next hlt)
        have HST := Lib.hid (fold_step (f := doneP) (b := List.replicate L.length 0) hlt)
        have HTK := Lib.hid (List.take_succ_eq_append_getElem hlt)
        have HDB := Lib.hid (done_bd0 (L := L) HMI.out)
        obtain ⟨x, ex⟩ : ∃ x, x = S[k] := ⟨_, rfl⟩
        rw [← ex] at s0 s1 s2 HSTOP HGO HEN HST HTK
        obtain ⟨xj, xf, xn⟩ := x
        dsimp only at s0 s1 s2 HGO HEN
        obtain ⟨e0, he0⟩ : ∃ e0, e0 = endS (S.take k) := ⟨_, rfl⟩
        rw [← he0] at HSTOP HGO HC ⊢
        have HTKL := Lib.hid (show (S.take k).length ≤ 100 by have := HS1.out; rw [List.length_take]; omega)
        have HDL : Hid (((S.take k).foldl doneP (List.replicate L.length 0)).length = L.length) := Lib.hid (doneL_len _ _)
        have HDB2 : Hid (∀ y ∈ (S.take k).foldl doneP (List.replicate L.length 0), 0 ≤ y ∧ y ≤ 1000000) := Lib.hid (fun y hy => by have h1 := HDB.out y hy; have h2 := HTKL.out; omega)
        obtain ⟨D, hD⟩ : ∃ D, D = (S.take k).foldl doneP (List.replicate L.length 0) := ⟨_, rfl⟩
        rw [← hD] at ib HST HDL HDB2
        have bx := BoxAt.new wr #[.int .i64 xj, .int .i64 xf, .int .i64 xn] 113
        have ib1 := ib.alloc (.cells #[.int .i64 xj, .int .i64 xf, .int .i64 xn] 113)
        have hB1 := hB.alloc hB.size (.cells #[.int .i64 xj, .int .i64 xf, .int .i64 xn] 113)
        have hil := ib.lt
        have HER := Lib.hid (errorOfSlice_any L a L.length c ⟨xj, xf, xn⟩ e0 (wr.alloc (.cells #[.int .i64 xj, .int .i64 xf, .int .i64 xn] 113)) rfl ((HR1.out.below hB).alloc _) hl1 hl20)
        dsimp only at HER
        obtain ⟨er, her⟩ : ∃ er, er = slErr L e0 ⟨xj, xf, xn⟩ := ⟨_, rfl⟩
        have HERR := Lib.hid her
        rw [← her] at HER HSTOP HGO
        clear ex he0 hD her hB ib
        by_cases h1 : er = 0
        · obtain ⟨⟨q1, q2⟩, ⟨q3, q4⟩, ⟨q5, q6⟩, -, -⟩ := sl_right (L := L) (e := e0) (s := ⟨xj, xf, xn⟩) (by rw [← HERR.out]; exact h1)
          dsimp only at q1 q2 q3 q4 q5 q6
          obtain ⟨j, rfl⟩ : ∃ j : Nat, xj = j := ⟨xj.toNat, by omega⟩
          have hjD : j < D.length := by have := HDL.out; omega
          have HG := Lib.hid (HGO.out h1)
          have HDN := Lib.hid (show doneP D ⟨j, xf, xn⟩ = D.set j (D[j] + xn) by unfold doneP; dsimp only; rw [show ((j : Int)).toNat = j by omega, getD_eqI hjD])
          have hdb := HDB2.out _ (List.getElem_mem hjD)
          have HMN : Hid (∀ s ∈ S.take (k + 1), 1 ≤ s.mins ∧ s.mins ≤ 10000) := Lib.hid (fun s hs => by
            rw [HTK.out] at hs
            rcases List.mem_append.1 hs with h | h
            · exact HMI.out s h
            · rw [List.mem_singleton.1 h]; exact ⟨q3, q4⟩)
          have HEO := Lib.hid (fun W => endOf_any (j : Int) xf xn W q5 (by omega) (by omega) (by omega))
          subst h1
          go_wp2_with (go_at_call 125; refine HER.out.mono ?_; rintro e w3 ⟨rfl, hb3⟩; have B3 := bx.below hb3; have I3 := ib1.below hb3; have HB3 := Lib.hid (hB1.trans (hb3.mono hB1.size)); have k0 : w3.cell? ⟨wr.heap.size, 0, none⟩ = some (.int .i64 j) := B3.cell 0; have k1 : w3.cell? ⟨wr.heap.size, 1, none⟩ = some (.int .i64 xf) := B3.cell 1; have k2 : w3.cell? ⟨wr.heap.size, 2, none⟩ = some (.int .i64 xn) := B3.cell 2; have lx := B3.lt; have kd := IBox.cell I3 hjD; have fz := IBox.free I3 j; have li := IBox.lt I3; have HBX3 := Lib.hid B3; have HIB3 := Lib.hid I3; clear hb3 bx ib1 hB1 B3 I3)
          obtain ⟨d, hd⟩ : ∃ d, d = D[j] := ⟨_, rfl⟩
          rw [← hd] at kd hdb HDN
          have hw1 : IntKind.i64.wrap (d + xn) = d + xn := IntWalk.i64_in _ (by omega)
          have n1 : ¬ wr.heap.size = w1.heap.size := by omega
          have n2 : ¬ w1.heap.size = wr.heap.size := by omega
          have hjL : (j : Int) < (L.length : Int) := q2
          clear hd
          go_region
          obtain ⟨Y, hY⟩ : ∃ Y, Y = (w3.setCell ⟨w1.heap.size, j, none⟩ (.int .i64 (d + xn))).drew := ⟨_, rfl⟩
          have hBY : BoxAt Y wr.heap.size #[.int .i64 j, .int .i64 xf, .int .i64 xn] 113 := by rw [hY]; exact (HBX3.out.set_other (p := ⟨w1.heap.size, j, none⟩) n1 _).drew
          have hIY : IBox Y w1.heap.size (D.set j (d + xn)) := by rw [hY]; exact (IBox.set HIB3.out j (d + xn)).drew
          have hLY : Below w1.heap.size w1 Y := by rw [hY]; exact (HB3.out.setCell (p := ⟨w1.heap.size, j, none⟩) (Nat.le_refl _) _).drew
          rw [← hY]
          have k0 : Y.cell? ⟨wr.heap.size, 0, none⟩ = some (.int .i64 j) := hBY.cell 0
          have k1 : Y.cell? ⟨wr.heap.size, 1, none⟩ = some (.int .i64 xf) := hBY.cell 1
          have k2 : Y.cell? ⟨wr.heap.size, 2, none⟩ = some (.int .i64 xn) := hBY.cell 2
          have lY := hBY.lt
          rw [← HDN.out, ← HST.out] at hIY
          have HIY := Lib.hid hIY; have HLY := Lib.hid hLY
          clear hY hBY hIY hLY
          go_wp2_with (go_at_call 126; refine (HEO.out _).mono ?_; rintro e w4 ⟨rfl, hb4⟩; have HI4 := Lib.hid (IBox.below HIY.out hb4); have HL4 := Lib.hid (HLY.out.trans (hb4.mono HLY.out.size)); clear hb4)
          go_roundw
          case rel => exact ⟨k + 1, by omega, by go_num, by rw [HEN.out], HI4.out, Lib.hid (by rw [HC.out, HG.out, HEN.out]), HMN, HL4.out⟩
          case measure => simp [intOf]; omega
        · have HE := Lib.hid (show R = (0, 0, er) by
            have h9 : schE L 0 S = er := by rw [HC.out, HSTOP.out h1]
            have h10 : csErr L S = er := by rw [HCS.out, h9, if_pos h1]
            rw [HD1.out, h10, if_neg h1])
          have h1' : (er != 0) = true := by simpa using h1
          have HB1' := Lib.hid hB1
          clear h1 bx ib1 hB1
          go_wp2_with (go_at_call 125; refine HER.out.mono ?_; rintro e w3 ⟨rfl, hb3⟩)
          (try simp only [Exit.inBlock, Exit.then]); refine bodyPost_ret (results_tri rfl) rfl ?_
          exact ⟨tri_to HE.out, HB1.out.trans ((HB1'.out.trans (hb3.mono HB1'.out.size)).mono HB1.out.size)⟩
      · obtain rfl : k = S.length := by omega
        have HSC := Lib.hid (show schE L 0 S = 0 by rw [HC.out, List.drop_of_length_le (Nat.le_refl _)]; rfl)
        have HCS2 := Lib.hid (show csErr L S = if DoneOk L (doneL L.length S) then 0 else 23 by rw [HCS.out, if_neg (by rw [HSC.out]; decide)])
        rw [List.take_length] at ib HMI
        have HDL := Lib.hid (doneL_len L.length S)
        have hib : IBox wr w1.heap.size (doneL L.length S) := ib
        obtain ⟨D, hD⟩ : ∃ D, D = doneL L.length S := ⟨_, rfl⟩
        rw [← hD] at hib HDL HCS2
        clear ib hD
        go_wp2_with fail
        obtain ⟨wo, rfl⟩ : ∃ wo : World, wo = wr := ⟨_, rfl⟩
        go_loopw [55] (fun i wr => ∃ t : Nat, t ≤ L.length ∧ i = .int .i64 t ∧ Hid (∀ q, q < t → D.getD q 0 = (L.getD q noJob).mins) ∧ IBox wr w1.heap.size D ∧ Below w1.heap.size w1 wr) (fun i _ => L.length - (intOf i).toNat)
        case atStart => exact ⟨0, Nat.zero_le _, rfl, Lib.hid (fun q hq => by omega), hib, hB⟩
        case round =>
          obtain ⟨t, ht, rfl, HQ, ib, hB2⟩ := hrel
          clear hib hB
          by_cases hlt2 : t < L.length
          · obtain ⟨ad, rfl, hau, t0, t1, t2, t3⟩ := (HR1.out.below hB2).job hlt2
            have hgl : L.getD t noJob = L[t] := job_getD hlt2
            have HGL := Lib.hid hgl
            have htD : t < D.length := by have := HDL.out; omega
            obtain ⟨x, ex⟩ : ∃ x, x = L[t] := ⟨_, rfl⟩
            rw [← ex] at t0 t1 t2 t3 HGL
            obtain ⟨xnm, xr, xm, xd⟩ := x
            dsimp only at t0 t1 t2 t3
            have bj := BoxAt.new wr #[.string xnm, .int .i64 xr, .int .i64 xm, .int .i64 xd] 136
            have ib1 := ib.alloc (.cells #[.string xnm, .int .i64 xr, .int .i64 xm, .int .i64 xd] 136)
            have hB1 := hB2.alloc hB2.size (.cells #[.string xnm, .int .i64 xr, .int .i64 xm, .int .i64 xd] 136)
            have kd := ib1.cell htD
            have HGD := Lib.hid (show D.getD t 0 = D[t] from getD_eqI htD)
            obtain ⟨d, hd⟩ : ∃ d, d = D[t] := ⟨_, rfl⟩
            rw [← hd] at kd HGD
            have HIB := Lib.hid ib1; have HBB := Lib.hid hB1
            have htL : (t : Int) < (L.length : Int) := by omega
            have hil := ib.lt
            clear ex hd hgl ib ib1 hB1 hB2 bj
            by_cases he : d = xm
            · have he' : (d != xm) = false := by simpa using he
              have HQN : Hid (∀ q, q < t + 1 → D.getD q 0 = (L.getD q noJob).mins) := Lib.hid (fun q hq => by
                rcases Nat.lt_or_ge q t with h | h
                · exact HQ.out q h
                · obtain rfl : q = t := by omega
                  rw [HGL.out, HGD.out]; exact he)
              clear he
              go_wp2_with fail
              go_quiet (fail)
              go_wp2
              go_roundw
              case rel => exact ⟨t + 1, by omega, by go_num, HQN, HIB.out.drewN _, below_drewN HBB.out _⟩
              case measure => simp [intOf]; omega
            · have he' : (d != xm) = true := by simpa using he
              have HE := Lib.hid (show R = (0, 0, 23) by
                have h9 : csErr L S = 23 := by rw [HCS2.out, if_neg (fun h => he (by have := h t hlt2; rw [HGL.out, HGD.out] at this; exact this))]
                rw [HD1.out, h9, if_neg (by decide)])
              clear he
              go_wp2_with fail
              go_quiet (fail)
              go_wp2
              (try simp only [Exit.inBlock, Exit.then]); refine bodyPost_ret (results_tri rfl) rfl ?_
              exact ⟨tri_to HE.out, HB1.out.trans ((below_drewN HBB.out _).mono HB1.out.size)⟩
          · have HOKD : Hid (DoneOk L D) := Lib.hid (fun q hq => HQ.out q (by omega))
            have HE := Lib.hid (show R = (latI L S, latJ L S, 0) by rw [HD1.out, HCS2.out, if_pos HOKD.out, if_pos rfl])
            have HLA := Lib.hid (latenessOf_any L S a L.length c sa S.length sc wr rfl rfl (HR1.out.below hB2) (HSS1.out.below hB2) hl1 hl20 (by have := HS1.out; omega) HOK.out (fun s hs => by have h9 := sch_right HSC.out s hs; omega))
            obtain ⟨li, hli⟩ : ∃ li, li = latI L S := ⟨_, rfl⟩
            obtain ⟨lj, hlj⟩ : ∃ lj, lj = latJ L S := ⟨_, rfl⟩
            rw [← hli, ← hlj] at HE HLA
            have HB2 := Lib.hid (HB1.out.trans (hB2.mono HB1.out.size))
            clear hli hlj hB2 ib
            go_wp2_with (go_at_call 120; refine HLA.out.mono ?_; rintro e w5 ⟨rfl, hb5⟩)
            (try simp only [Exit.inBlock, Exit.then]); refine bodyPost_ret (results_tri rfl) rfl ?_
            exact ⟨tri_to HE.out, HB2.out.trans (hb5.mono HB2.out.size)⟩
  · have HE := Lib.hid (show R = (0, 0, jobsErr L) by rw [HDEF.out, if_pos h0])
    have h0' : (jobsErr L != 0) = true := by simpa using h0
    obtain ⟨je, hje⟩ : ∃ je, je = jobsErr L := ⟨_, rfl⟩
    rw [← hje] at HCJ HE h0'
    clear h0 HDEF hje
    go_wp2_with (go_at_call 63; refine HCJ.out.mono ?_; rintro e w1 ⟨rfl, hb1⟩)
    (try simp only [Exit.inBlock, Exit.then]); refine bodyPost_ret (results_tri rfl) rfl ?_
    exact ⟨tri_to HE.out, hb1⟩
end Go.Proofs.Ytpplcbpnojggcaa
