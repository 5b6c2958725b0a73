/-
  Package press: the check of a schedule, by the reference.
-/
import Derived.Test.YtpplcbpnojggcaaAU
import Derived.Deep.CutRange
namespace Go.Proofs.Ytpplcbpnojggcaa
open Go.RowKit

/-- How late each job ends, as the reference reckons it. -/
def lateM (L : List Job) (E : List Int) : List Int := (List.range L.length).map fun j => E.getD j 0 - (L.getD j noJob).due
theorem lateM_len (L : List Job) (E : List Int) : (lateM L E).length = L.length := by simp [lateM]
theorem lateM_at {L : List Job} {E : List Int} {j : Nat} (h : j < L.length) : (lateM L E).getD j 0 = E.getD j 0 - (L.getD j noJob).due := by
  unfold lateM; rw [List.getD_eq_getElem?_getD, List.getElem?_map, List.getElem?_range h]; rfl
theorem late_same {L : List Job} {S : List Sl} (hj : JobsOk L) (h1 : 1 ≤ L.length) (h : csErr L S = 0) : rlT (lateM L (endL L.length S)) L.length = (latI L S, latJ L S) := by
  have h2 := late_eq hj h
  have h3 := rlT_congr (M := lateL L S) (M' := lateM L (endL L.length S)) L.length (fun j hjl => by rw [lateM_at hjl, h2 j hjl])
  have h4 := (rlT_all (M := lateL L S) (by rw [lateL_len]; omega)).1
  rw [lateL_len] at h4
  rw [h3, h4]; rfl
theorem end_bd0 {S : List Sl} : ∀ (E : List Int), (∀ s ∈ S, (0 ≤ s.from_ ∧ s.from_ ≤ 20000000) ∧ 1 ≤ s.mins ∧ s.mins ≤ 10000) → (∀ y ∈ E, 0 ≤ y ∧ y ≤ 20010000) → ∀ y ∈ S.foldl endP E, 0 ≤ y ∧ y ≤ 20010000 := by
  induction S with
  | nil => intro E _ h y hy; exact h y hy
  | cons s S ih =>
    intro E hs h y hy
    rw [List.foldl_cons] at hy
    have h1 := hs s List.mem_cons_self
    refine ih (endP E s) (fun s' hs' => hs s' (List.mem_cons_of_mem _ hs')) (fun z hz => ?_) y hy
    unfold endP at hz
    rcases List.mem_or_eq_of_mem_set hz with hz | hz
    · exact h z hz
    · rw [hz]; omega
theorem endL_len (n : Nat) (S : List Sl) : (endL n S).length = n := by unfold endL; rw [endF_len, List.length_replicate]
set_option maxRecDepth 100000 in
set_option maxHeartbeats 8000000 in
theorem refCheckSchedule_any (L : List Job) (a : Option Addr) (n c : Nat) (S : List Sl) (sa : Option Addr) (sn sc : Nat) (w : World) (hn : n = L.length) (hsn : sn = S.length) (hr : RowsG 4 jobV w a L) (hl1 : 1 ≤ L.length) (hl : L.length ≤ 20) (hok : JobsOk L) (hS : RowsAt 3 Sl.l w sa S) (hsl : S.length ≤ 1000000) :
    Calls Try.prog 65 #[.slice a n c, .slice sa sn sc] w (TriPost (csR L S) w) := by
  subst hn; subst hsn
  have HR := Lib.hid hr; have HS := Lib.hid hS; have HOK := Lib.hid hok
  have HDEF := Lib.hid (show csR L S = if csErr L S = 0 then (latI L S, latJ L S, 0) else (0, 0, csErr L S) from rfl)
  obtain ⟨R, hR⟩ : ∃ R, R = csR L S := ⟨_, rfl⟩
  rw [← hR] at HDEF ⊢
  clear hR hr hS hok
  go_enter Try.func65, Try.ntmps65
  by_cases hs1 : 100 < S.length
  · have HE := Lib.hid (show R = (0, 0, 8) by
      have h9 : csErr L S = 8 := by unfold csErr; rw [if_pos hs1]
      rw [HDEF.out, h9, if_neg (by decide)])
    have hs1' : (100 : Int) < (S.length : Int) := by omega
    clear hs1
    go_wp2_with fail
    (try simp only [Exit.inBlock, Exit.then]); refine bodyPost_ret (results_tri rfl) rfl ?_
    exact ⟨tri_to HE.out, Below.refl _ _⟩
  have HCS := Lib.hid (show csErr L S = if schE L 0 S ≠ 0 then schE L 0 S else if DoneOk L (doneL L.length S) then 0 else 23 by unfold csErr; rw [if_neg hs1])
  have hs1' : ¬ (100 : Int) < (S.length : Int) := by omega
  have HS1 := Lib.hid hs1
  have hmk := fun W => make_int L.length (by omega) W
  have hw1 : IntKind.i64.wrap ((L.length : Int) - 1) = (L.length : Int) - 1 := IntWalk.i64_in _ (by omega)
  clear hs1
  go_upto_region 3 with fail
  go_cut [7, 8] from 18 to 23 (fun v7 v8 wx => ∃ b7 b8 : Nat, v7 = .slice (some ⟨b7, 0, none⟩) L.length L.length ∧ v8 = .slice (some ⟨b8, 0, none⟩) L.length L.length ∧ ¬ b7 = b8 ∧ IBox wx b7 (List.replicate L.length 0) ∧ IBox wx b8 (List.replicate L.length 0) ∧ w.heap.size ≤ b7 ∧ w.heap.size ≤ b8 ∧ Below w.heap.size w wx)
  case first =>
    rename_i J9 K9 hR9 hM9
    have i0 := IBox.made w L.length
    have i1 := IBox.made (w.alloc (.cells (madeCells #[.int .i64 0] L.length) 3)) L.length
    have hbb := ((Below.refl w.heap.size w).alloc (Nat.le_refl _) (.cells (madeCells #[.int .i64 0] L.length) 3)).alloc (by simp) (.cells (madeCells #[.int .i64 0] L.length) 3)
    have i2 := i0.alloc (.cells (madeCells #[.int .i64 0] L.length) 3)
    rw [World.size_alloc] at i1
    have I1 := Lib.hid i1; have I2 := Lib.hid i2; have HBB := Lib.hid hbb
    clear i0 i1 i2 hbb
    go_region
    all_goals
      refine hM9 _ _ ?_
      refine Met.intro ?_
      refine hR9 _ _ ?_
      (repeat apply Exists.intro)
      refine ⟨?_, rfl⟩
    · first
        | exact ⟨_, _, rfl, rfl, by omega, I2.out.drew, I1.out.drew, by omega, by omega, HBB.out.drew⟩
        | exact ⟨_, _, rfl, rfl, by omega, I2.out, I1.out, by omega, by omega, HBB.out⟩
    · first
        | exact ⟨_, _, rfl, rfl, by omega, I1.out.drew, I2.out.drew, by omega, by omega, HBB.out.drew⟩
        | exact ⟨_, _, rfl, rfl, by omega, I1.out, I2.out, by omega, by omega, HBB.out⟩
  case rest =>
    obtain ⟨b7, b8, rfl, rfl, hb78, i7, i8, hb7, hb8, hb0⟩ := hcut
    rename World => w0
    have hb87 : ¬ b8 = b7 := fun e => hb78 e.symm
    have HR1 := Lib.hid (HR.out.below hb0); have HSS1 := Lib.hid (HS.out.below hb0); have HB0 := Lib.hid hb0
    have hlo7 := i7.lt; have hlo8 := i8.lt
    clear hmk hs1'
    go_wp2_with fail
    go_loopw [9, 10] (fun m i wr => ∃ k : Nat, k ≤ S.length ∧ i = .int .i64 k ∧ m = .int .i64 (endS (S.take k)) ∧ IBox wr b7 ((S.take k).foldl doneP (List.replicate L.length 0)) ∧ IBox wr b8 ((S.take k).foldl endP (List.replicate L.length 0)) ∧ Hid (schE L 0 S = schE L (endS (S.take k)) (S.drop k)) ∧ Hid (∀ s ∈ S.take k, (0 ≤ s.from_ ∧ s.from_ ≤ 20000000) ∧ 1 ≤ s.mins ∧ s.mins ≤ 10000) ∧ Below w.heap.size w wr ∧ w0.heap.size ≤ wr.heap.size) (fun _ i _ => S.length - (intOf i).toNat)
    case atStart => exact ⟨0, Nat.zero_le _, rfl, rfl, i7, i8, Lib.hid rfl, Lib.hid (fun s hs => by simp at hs), hb0, Nat.le_refl _⟩
    case round =>
      obtain ⟨k, hk, rfl, rfl, j7, j8, HC, HMI, hB, hsz⟩ := hrel
      clear i7 i8 hb0
      by_cases hlt : k < S.length
      · obtain ⟨ad, rfl, had, s0, s1, s2⟩ := (HS.out.below hB).sl3 hlt
        have HSTOP := Lib.hid (fun h => schE_stop (L := L) (e := endS (S.take k)) hlt h)
        have HGO := Lib.hid (fun h => schE_go (L := L) (e := endS (S.take k)) hlt h)
        have HEN := Lib.hid (endS_next hlt)
        have HST := Lib.hid (fold_step (f := doneP) (b := List.replicate L.length 0) hlt)
        have HST2 := Lib.hid (fold_step (f := endP) (b := List.replicate L.length 0) hlt)
        have HTK := Lib.hid (List.take_succ_eq_append_getElem hlt)
        have HDB := Lib.hid (done_bd0 (L := L) (fun s hs => (HMI.out s hs).2))
        obtain ⟨x, ex⟩ : ∃ x, x = S[k] := ⟨_, rfl⟩
        rw [← ex] at s0 s1 s2 HSTOP HGO HEN HST HST2 HTK
        obtain ⟨xj, xf, xn⟩ := x
        dsimp only at s0 s1 s2 HGO HEN
        obtain ⟨e0, he0⟩ : ∃ e0, e0 = endS (S.take k) := ⟨_, rfl⟩
        rw [← he0] at HSTOP HGO HC ⊢
        have HTKL := Lib.hid (show (S.take k).length ≤ 100 by have := HS1.out; rw [List.length_take]; omega)
        have HDL : Hid (((S.take k).foldl doneP (List.replicate L.length 0)).length = L.length) := Lib.hid (doneL_len _ _)
        have HEL : Hid (((S.take k).foldl endP (List.replicate L.length 0)).length = L.length) := Lib.hid (endL_len _ _)
        have HDB2 : Hid (∀ y ∈ (S.take k).foldl doneP (List.replicate L.length 0), 0 ≤ y ∧ y ≤ 1000000) := Lib.hid (fun y hy => by have h1 := HDB.out y hy; have h2 := HTKL.out; omega)
        obtain ⟨D, hD⟩ : ∃ D, D = (S.take k).foldl doneP (List.replicate L.length 0) := ⟨_, rfl⟩
        obtain ⟨E, hE⟩ : ∃ E, E = (S.take k).foldl endP (List.replicate L.length 0) := ⟨_, rfl⟩
        rw [← hD] at j7 HST HDL HDB2
        rw [← hE] at j8 HST2 HEL
        have bx := BoxAt.new wr #[.int .i64 xj, .int .i64 xf, .int .i64 xn] 113
        have J7 := Lib.hid (j7.alloc (.cells #[.int .i64 xj, .int .i64 xf, .int .i64 xn] 113))
        have J8 := Lib.hid (j8.alloc (.cells #[.int .i64 xj, .int .i64 xf, .int .i64 xn] 113))
        have HB1 := Lib.hid (hB.alloc hB.size (.cells #[.int .i64 xj, .int .i64 xf, .int .i64 xn] 113))
        have HRW := Lib.hid ((HR.out.below hB).alloc (.cells #[.int .i64 xj, .int .i64 xf, .int .i64 xn] 113))
        have l7 := j7.lt; have l8 := j8.lt
        have HSE := Lib.hid (show slErr L e0 ⟨xj, xf, xn⟩ = if inB xj 0 ((L.length : Int) - 1) = false then 6 else if okJobMin xn = false then 2 else if inB xf 0 20000000 = false then 2 else if xf < (L.getD xj.toNat noJob).ready then 19 else if xf < e0 then 17 else 0 from rfl)
        have HERR := Lib.hid (show ∀ v, slErr L e0 ⟨xj, xf, xn⟩ = v → v ≠ 0 → R = (0, 0, v) from fun v hv h0 => by
          have h9 : schE L 0 S = v := by rw [HC.out, HSTOP.out (by rw [hv]; exact h0), hv]
          have h10 : csErr L S = v := by rw [HCS.out, h9, if_pos h0]
          rw [HDEF.out, h10, if_neg h0])
        clear ex he0 hD hE hB j7 j8
        cases h1 : inB xj 0 ((L.length : Int) - 1)
        · have HE := Lib.hid (HERR.out 6 (by rw [HSE.out, if_pos h1]) (by decide))
          have H1 := Lib.hid h1
          go_wp2_with (go_at_call 30; refine (within_any _ _ _ _).mono ?_; rintro e w' ⟨rfl, rfl⟩; rw [H1.out])
          (try simp only [Exit.inBlock, Exit.then]); refine bodyPost_ret (results_tri rfl) rfl ?_
          exact ⟨tri_to HE.out, HB1.out⟩
        have H1 := Lib.hid h1
        cases h2 : okJobMin xn
        · have HE := Lib.hid (HERR.out 2 (by rw [HSE.out, if_neg (by rw [h1]; decide), if_pos h2]) (by decide))
          have H2 : Hid (inB xn 1 10000 = false) := Lib.hid h2
          clear h1 h2
          go_wp2_with (go_at_call 30; refine (within_any _ _ _ _).mono ?_; rintro e w' ⟨rfl, rfl⟩; (first | rw [H1.out] | rw [H2.out]))
          (try simp only [Exit.inBlock, Exit.then]); refine bodyPost_ret (results_tri rfl) rfl ?_
          exact ⟨tri_to HE.out, HB1.out⟩
        have H2 : Hid (inB xn 1 10000 = true) := Lib.hid h2
        cases h3 : inB xf 0 20000000
        · have HE := Lib.hid (HERR.out 2 (by rw [HSE.out, if_neg (by rw [h1]; decide), if_neg (by rw [h2]; decide), if_pos h3]) (by decide))
          have H3 := Lib.hid h3
          clear h1 h2 h3
          go_wp2_with (go_at_call 30; refine (within_any _ _ _ _).mono ?_; rintro e w' ⟨rfl, rfl⟩; (first | rw [H1.out] | rw [H2.out] | rw [H3.out]))
          (try simp only [Exit.inBlock, Exit.then]); refine bodyPost_ret (results_tri rfl) rfl ?_
          exact ⟨tri_to HE.out, HB1.out⟩
        have H3 := Lib.hid h3
        have hj := inB_iff.1 h1
        obtain ⟨j, rfl⟩ : ∃ j : Nat, xj = j := ⟨xj.toNat, by omega⟩
        have hjl : j < L.length := by omega
        have hjD : j < D.length := by have := HDL.out; omega
        have hjE : j < E.length := by have := HEL.out; omega
        obtain ⟨ad2, rfl, hau, -, t1, -, -⟩ := HRW.out.job hjl
        have HSE2 := Lib.hid (show slErr L e0 ⟨j, xf, xn⟩ = if xf < L[j].ready then 19 else if xf < e0 then 17 else 0 by rw [HSE.out, if_neg (by rw [h1]; decide), if_neg (by rw [h2]; decide), if_neg (by rw [h3]; decide), show ((j : Int)).toNat = j by omega, job_getD hjl])
        obtain ⟨rd, hrd⟩ : ∃ rd, rd = L[j].ready := ⟨_, rfl⟩
        rw [← hrd] at t1 HSE2
        have hjl' : (j : Int) < (L.length : Int) := by omega
        have T1 := Lib.hid t1
        have HX3 := Lib.hid (inB_iff.1 h3)
        have HX2 := Lib.hid (inB_iff.1 H2.out)
        have BX := Lib.hid bx
        clear hrd h1 h2 h3 hj HSE
        by_cases h4 : xf < rd
        · have HE := Lib.hid (HERR.out 19 (by rw [HSE2.out, if_pos h4]) (by decide))
          have h4' := decide_eq_true h4
          go_wp2_with (go_at_call 30; refine (within_any _ _ _ _).mono ?_; rintro e w' ⟨rfl, rfl⟩; (first | rw [H1.out] | rw [H2.out] | rw [H3.out]))
          go_quiet (fail)
          go_wp2
          (try simp only [Exit.inBlock, Exit.then]); refine bodyPost_ret (results_tri rfl) rfl ?_
          exact ⟨tri_to HE.out, below_drewN HB1.out _⟩
        have h4' := decide_eq_false h4
        by_cases h5 : xf < e0
        · have HE := Lib.hid (HERR.out 17 (by rw [HSE2.out, if_neg h4, if_pos h5]) (by decide))
          have h5' := decide_eq_true h5
          clear h4
          go_wp2_with (go_at_call 30; refine (within_any _ _ _ _).mono ?_; rintro e w' ⟨rfl, rfl⟩; (first | rw [H1.out] | rw [H2.out] | rw [H3.out]))
          go_quiet (fail)
          go_wp2
          (try simp only [Exit.inBlock, Exit.then]); refine bodyPost_ret (results_tri rfl) rfl ?_
          exact ⟨tri_to HE.out, below_drewN HB1.out _⟩
        have h5' := decide_eq_false h5
        have HG := Lib.hid (HGO.out (by rw [HSE2.out, if_neg h4, if_neg h5]))
        have HDN := Lib.hid (show doneP D ⟨j, xf, xn⟩ = D.set j (D[j] + xn) by unfold doneP; dsimp only; rw [show ((j : Int)).toNat = j by omega, getD_eqI hjD])
        have HED := Lib.hid (show endP E ⟨j, xf, xn⟩ = E.set j (xf + xn) by unfold endP; dsimp only; rw [show ((j : Int)).toNat = j by omega])
        have hdb := HDB2.out _ (List.getElem_mem hjD)
        have hx3 := HX3.out; have hx2 := HX2.out
        have HMN : Hid (∀ s ∈ S.take (k + 1), (0 ≤ s.from_ ∧ s.from_ ≤ 20000000) ∧ 1 ≤ s.mins ∧ s.mins ≤ 10000) := Lib.hid (fun s hs => by
          rw [HTK.out] at hs
          rcases List.mem_append.1 hs with h | h
          · exact HMI.out s h
          · rw [List.mem_singleton.1 h]; exact ⟨HX3.out, HX2.out⟩)
        have HJD := Lib.hid (J7.out.cell hjD)
        obtain ⟨d, hd⟩ : ∃ d, d = D[j] := ⟨_, rfl⟩
        rw [← hd] at HJD hdb HDN
        have hw2 : IntKind.i64.wrap (d + xn) = d + xn := IntWalk.i64_in _ (by omega)
        have hw3 : IntKind.i64.wrap (xf + xn) = xf + xn := IntWalk.i64_in _ (by omega)
        have n1 : ¬ wr.heap.size = b7 := by omega
        have n2 : ¬ b7 = wr.heap.size := by omega
        have n3 : ¬ wr.heap.size = b8 := by omega
        have n4 : ¬ b8 = wr.heap.size := by omega
        clear hd h4 h5 t1
        have t1 := T1.out
        go_wp2_with (go_at_call 30; refine (within_any _ _ _ _).mono ?_; rintro e w' ⟨rfl, rfl⟩; (first | rw [H1.out] | rw [H2.out] | rw [H3.out]))
        go_quiet (fail)
        obtain ⟨Y, hY⟩ : ∃ Y, Y = (wr.alloc (.cells #[.int .i64 (j : Int), .int .i64 xf, .int .i64 xn] 113)).drewN nq := ⟨_, rfl⟩
        have hBY : BoxAt Y wr.heap.size #[.int .i64 j, .int .i64 xf, .int .i64 xn] 113 := by rw [hY]; exact BX.out.drewN _
        have h7Y : IBox Y b7 D := by rw [hY]; exact IBox.drewN J7.out _
        have h8Y : IBox Y b8 E := by rw [hY]; exact IBox.drewN J8.out _
        have hLY : Below w.heap.size w Y := by rw [hY]; exact below_drewN HB1.out _
        have hZY : w0.heap.size ≤ Y.heap.size := by rw [hY]; show w0.heap.size ≤ (wr.alloc _).heap.size; rw [World.size_alloc]; omega
        rw [← hY]
        have k0 : Y.cell? ⟨wr.heap.size, 0, none⟩ = some (.int .i64 j) := hBY.cell 0
        have k1 : Y.cell? ⟨wr.heap.size, 1, none⟩ = some (.int .i64 xf) := hBY.cell 1
        have k2 : Y.cell? ⟨wr.heap.size, 2, none⟩ = some (.int .i64 xn) := hBY.cell 2
        have k7 : Y.cell? ⟨b7, j, none⟩ = some (.int .i64 d) := by rw [hY]; exact HJD.out
        have k8 : Y.cell? ⟨b8, j, none⟩ = some (.int .i64 E[j]) := h8Y.cell hjE
        obtain ⟨ev, hev⟩ : ∃ ev, ev = E[j] := ⟨_, rfl⟩
        rw [← hev] at k8
        have f7 := h7Y.free j; have f8 := h8Y.free j
        have lY := hBY.lt; have l7Y := h7Y.lt; have l8Y := h8Y.lt
        have H7 := Lib.hid ((h7Y.set j (d + xn)).set_other (p := ⟨b8, j, none⟩) hb78 (.int .i64 (xf + xn)))
        have H8 := Lib.hid ((h8Y.set_other (p := ⟨b7, j, none⟩) hb87 (.int .i64 (d + xn))).set j (xf + xn))
        have H7' := Lib.hid ((h7Y.set_other (p := ⟨b8, j, none⟩) hb78 (.int .i64 (xf + xn))).set j (d + xn))
        have H8' := Lib.hid ((h8Y.set j (xf + xn)).set_other (p := ⟨b7, j, none⟩) hb87 (.int .i64 (d + xn)))
        have HL1 := Lib.hid ((hLY.setCell (p := ⟨b7, j, none⟩) hb7 (.int .i64 (d + xn))).setCell (p := ⟨b8, j, none⟩) hb8 (.int .i64 (xf + xn)))
        have HL2 := Lib.hid ((hLY.setCell (p := ⟨b8, j, none⟩) hb8 (.int .i64 (xf + xn))).setCell (p := ⟨b7, j, none⟩) hb7 (.int .i64 (d + xn)))
        have HZY := Lib.hid hZY
        clear hY hBY h7Y h8Y hLY hev hZY t1 s0 s1 s2 bx hau had
        go_wp2_with fail
        go_region
        all_goals go_wp2
        all_goals go_roundw
        all_goals first
          | exact ⟨k + 1, by omega, by go_num, by rw [HEN.out], by rw [HST.out, HDN.out]; exact IBox.drew H7.out, by rw [HST2.out, HED.out]; exact IBox.drew H8.out, Lib.hid (by rw [HC.out, HG.out, HEN.out]), HMN, HL1.out.drew, by simpa using HZY.out⟩
          | exact ⟨k + 1, by omega, by go_num, by rw [HEN.out], by rw [HST.out, HDN.out]; exact IBox.drew H7'.out, by rw [HST2.out, HED.out]; exact IBox.drew H8'.out, Lib.hid (by rw [HC.out, HG.out, HEN.out]), HMN, HL2.out.drew, by simpa using HZY.out⟩
          | (simp [intOf]; omega)
      · obtain rfl : k = S.length := by omega
        have HSC := Lib.hid (show schE L 0 S = 0 by rw [HC.out, List.drop_of_length_le (Nat.le_refl _)]; rfl)
        have HCS2 := Lib.hid (show csErr L S = if DoneOk L (doneL L.length S) then 0 else 23 by rw [HCS.out, if_neg (by rw [HSC.out]; decide)])
        rw [List.take_length] at j7 j8 HMI ⊢
        have HDL := Lib.hid (doneL_len L.length S)
        have HEL := Lib.hid (endL_len L.length S)
        have HEB := Lib.hid (show ∀ y ∈ endL L.length S, 0 ≤ y ∧ y ≤ 20010000 from end_bd0 _ HMI.out (fun z hz => by rw [List.eq_of_mem_replicate hz]; omega))
        have HLS := Lib.hid (fun h => late_same (S := S) HOK.out hl1 h)
        have j7 : IBox wr b7 (doneL L.length S) := j7
        have j8 : IBox wr b8 (endL L.length S) := j8
        obtain ⟨D, hD⟩ : ∃ D, D = doneL L.length S := ⟨_, rfl⟩
        obtain ⟨E, hE⟩ : ∃ E, E = endL L.length S := ⟨_, rfl⟩
        rw [← hD] at j7 HDL HCS2
        rw [← hE] at j8 HEL HEB HLS
        have J7 := Lib.hid j7; have J8 := Lib.hid j8; have HBW := Lib.hid hB
        have HRW := Lib.hid (HR.out.below hB)
        clear j7 j8 hD hE hB
        go_wp2_with fail
        obtain ⟨wo, rfl⟩ : ∃ wo : World, wo = wr := ⟨_, rfl⟩
        go_loopw [12, 13, 14] (fun la fi i wr => ∃ t : Nat, t ≤ L.length ∧ i = .int .i64 t ∧ la = .int .i64 (rlT (lateM L E) t).1 ∧ fi = .int .i64 (rlT (lateM L E) t).2 ∧ Hid (∀ q, q < t → D.getD q 0 = (L.getD q noJob).mins) ∧ Drew wo wr) (fun _ _ i _ => L.length - (intOf i).toNat)
        case atStart => exact ⟨0, Nat.zero_le _, rfl, rfl, rfl, Lib.hid (fun q hq => by omega), Drew.refl _⟩
        case round =>
          obtain ⟨t, ht, rfl, rfl, rfl, HQ, hdr2⟩ := hrel
          by_cases hlt2 : t < L.length
          · obtain ⟨ad, rfl, hau, t0, t1, t2, t3⟩ := (hdr2.rowsG HRW.out).job hlt2
            have HGL := Lib.hid (job_getD hlt2)
            have htD : t < D.length := by have := HDL.out; omega
            have htE : t < E.length := by have := HEL.out; omega
            have hjo := HOK.out _ (List.getElem_mem hlt2)
            have HMT := Lib.hid (lateM_at (L := L) (E := E) hlt2)
            have HRS := Lib.hid (show rlT (lateM L E) (t + 1) = if (rlT (lateM L E) t).2 < 0 ∨ (rlT (lateM L E) t).1 < (lateM L E).getD t 0 then ((lateM L E).getD t 0, (t : Int)) else rlT (lateM L E) t from rfl)
            rw [HMT.out, HGL.out, getD_eqI htE] at HRS
            obtain ⟨x, ex⟩ : ∃ x, x = L[t] := ⟨_, rfl⟩
            rw [← ex] at t0 t1 t2 t3 HGL HRS hjo
            obtain ⟨xnm, xr, xm, xd⟩ := x
            dsimp only at t0 t1 t2 t3 HRS hjo
            have kd : wr.cell? ⟨b7, t, none⟩ = some (.int .i64 D[t]) := hdr2.cell (J7.out.cell htD)
            have ke : wr.cell? ⟨b8, t, none⟩ = some (.int .i64 E[t]) := hdr2.cell (J8.out.cell htE)
            have heb := HEB.out _ (List.getElem_mem htE)
            have HGD := Lib.hid (show D.getD t 0 = D[t] from getD_eqI htD)
            obtain ⟨d, hd⟩ : ∃ d, d = D[t] := ⟨_, rfl⟩
            obtain ⟨ev, hev⟩ : ∃ ev, ev = E[t] := ⟨_, rfl⟩
            rw [← hd] at kd HGD
            rw [← hev] at ke HRS heb
            obtain ⟨st, hst⟩ : ∃ st, st = rlT (lateM L E) t := ⟨_, rfl⟩
            rw [← hst] at HRS ⊢
            obtain ⟨la, fi⟩ := st
            dsimp only at HRS ⊢
            have htL : (t : Int) < (L.length : Int) := by omega
            have hw2 : IntKind.i64.wrap (ev - xd) = ev - xd := IntWalk.i64_in _ (by omega)
            have KD : Hid (wo.cell? ⟨b7, t, none⟩ = some (.int .i64 d)) := Lib.hid (by rw [hd]; exact J7.out.cell htD)
            have KE : Hid (wo.cell? ⟨b8, t, none⟩ = some (.int .i64 ev)) := Lib.hid (by rw [hev]; exact J8.out.cell htE)
            have T3 : Hid (wo.cell? ⟨(ad.add (t * 4)).block, (ad.add (t * 4)).off + 3, none⟩ = some (.int .i64 xd)) := Lib.hid (by obtain ⟨ad9, e9, -, -, -, -, u3⟩ := HRW.out.job hlt2; injection e9 with e9; subst e9; rw [u3, ← ex])
            have HBX := Lib.hid (hdr2.below HBW.out)
            clear ex hd hev hst hjo heb
            by_cases he : d = xm
            · have he' : (d != xm) = false := by simpa using he
              have HQN : Hid (∀ q, q < t + 1 → D.getD q 0 = (L.getD q noJob).mins) := Lib.hid (fun q hq => by
                rcases Nat.lt_or_ge q t with h | h
                · exact HQ.out q h
                · obtain rfl : q = t := by omega
                  rw [HGL.out, HGD.out]; exact he)
              clear he
              by_cases c1 : fi < 0
              · have HS := Lib.hid (show rlT (lateM L E) (t + 1) = (ev - xd, (t : Int)) by rw [HRS.out, if_pos (Or.inl c1)])
                have c1' := decide_eq_true c1
                go_wp2_with fail
                go_quiet (fail)
                obtain ⟨X1, hX1⟩ : ∃ X1, X1 = wr.drewN nq := ⟨_, rfl⟩
                have hdX := hdr2.drewN nq
                rw [← hX1] at hdX
                rw [← hX1]
                have p1 : X1.cell? ⟨b7, t, none⟩ = some (.int .i64 d) := hdX.cell KD.out
                have p2 : X1.cell? ⟨b8, t, none⟩ = some (.int .i64 ev) := hdX.cell KE.out
                have p3 : X1.cell? ⟨(ad.add (t * 4)).block, (ad.add (t * 4)).off + 3, none⟩ = some (.int .i64 xd) := hdX.cell T3.out
                clear hX1 kd ke t0 t1 t2 t3
                go_wp2_with fail
                go_quiet (fail)
                go_wp2_with fail
                go_quiet (fail)
                go_wp2
                go_roundw
                case rel => exact ⟨t + 1, by omega, by go_num, by rw [HS.out], by rw [HS.out], HQN, by first | exact hdX.drewN _ | exact (hdX.drewN _).drewN _⟩
                case measure => simp [intOf]; omega
              · have c1' := decide_eq_false c1
                by_cases c2 : la < ev - xd
                · have HS := Lib.hid (show rlT (lateM L E) (t + 1) = (ev - xd, (t : Int)) by rw [HRS.out, if_pos (Or.inr c2)])
                  have c2' := decide_eq_true c2
                  go_wp2_with fail
                  go_quiet (fail)
                  obtain ⟨X1, hX1⟩ : ∃ X1, X1 = wr.drewN nq := ⟨_, rfl⟩
                  have hdX := hdr2.drewN nq
                  rw [← hX1] at hdX
                  rw [← hX1]
                  have p1 : X1.cell? ⟨b7, t, none⟩ = some (.int .i64 d) := hdX.cell KD.out
                  have p2 : X1.cell? ⟨b8, t, none⟩ = some (.int .i64 ev) := hdX.cell KE.out
                  have p3 : X1.cell? ⟨(ad.add (t * 4)).block, (ad.add (t * 4)).off + 3, none⟩ = some (.int .i64 xd) := hdX.cell T3.out
                  clear hX1 kd ke t0 t1 t2 t3
                  go_wp2_with fail
                  go_quiet (fail)
                  go_wp2_with fail
                  go_quiet (fail)
                  go_wp2
                  go_roundw
                  case rel => exact ⟨t + 1, by omega, by go_num, by rw [HS.out], by rw [HS.out], HQN, by first | exact hdX.drewN _ | exact (hdX.drewN _).drewN _⟩
                  case measure => simp [intOf]; omega
                · have HS := Lib.hid (show rlT (lateM L E) (t + 1) = (la, fi) by rw [HRS.out, if_neg (by rintro (h | h); exact c1 h; exact c2 h)])
                  have c2' := decide_eq_false c2
                  go_wp2_with fail
                  go_quiet (fail)
                  obtain ⟨X1, hX1⟩ : ∃ X1, X1 = wr.drewN nq := ⟨_, rfl⟩
                  have hdX := hdr2.drewN nq
                  rw [← hX1] at hdX
                  rw [← hX1]
                  have p1 : X1.cell? ⟨b7, t, none⟩ = some (.int .i64 d) := hdX.cell KD.out
                  have p2 : X1.cell? ⟨b8, t, none⟩ = some (.int .i64 ev) := hdX.cell KE.out
                  have p3 : X1.cell? ⟨(ad.add (t * 4)).block, (ad.add (t * 4)).off + 3, none⟩ = some (.int .i64 xd) := hdX.cell T3.out
                  clear hX1 kd ke t0 t1 t2 t3
                  go_wp2_with fail
                  go_quiet (fail)
                  go_wp2
                  go_roundw
                  case rel => exact ⟨t + 1, by omega, by go_num, by rw [HS.out], by rw [HS.out], HQN, hdX.drewN _⟩
                  case measure => simp [intOf]; omega
            · have he' : (d != xm) = true := by simpa using he
              have HE := Lib.hid (show R = (0, 0, 23) by
                have h9 : csErr L S = 23 := by rw [HCS2.out, if_neg (fun h => he (by have := h t hlt2; rw [HGL.out, HGD.out] at this; exact this))]
                rw [HDEF.out, h9, if_neg (by decide)])
              clear he
              go_wp2_with fail
              go_quiet (fail)
              go_wp2
              (try simp only [Exit.inBlock, Exit.then]); refine bodyPost_ret (results_tri rfl) rfl ?_
              exact ⟨tri_to HE.out, below_drewN HBX.out _⟩
          · obtain rfl : t = L.length := by omega
            have HE0 := Lib.hid (show csErr L S = 0 by rw [HCS2.out, if_pos (show DoneOk L D from fun q hq => HQ.out q hq)])
            have HE := Lib.hid (show R = (latI L S, latJ L S, 0) by rw [HDEF.out, if_pos HE0.out])
            have HL2 := Lib.hid (HLS.out HE0.out)
            rw [HL2.out]
            obtain ⟨li, hli⟩ : ∃ li, li = latI L S := ⟨_, rfl⟩
            obtain ⟨lj, hlj⟩ : ∃ lj, lj = latJ L S := ⟨_, rfl⟩
            rw [← hli, ← hlj] at HE ⊢
            have HBX := Lib.hid (hdr2.below HBW.out)
            clear hli hlj HL2
            go_wp2
            (try simp only [Exit.inBlock, Exit.then]); refine bodyPost_ret (results_tri rfl) rfl ?_
            exact ⟨tri_to HE.out, HBX.out⟩
end Go.Proofs.Ytpplcbpnojggcaa
