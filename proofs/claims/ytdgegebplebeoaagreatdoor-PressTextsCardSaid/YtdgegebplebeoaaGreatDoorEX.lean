/-
  Package press: Schedule.
-/
import Derived.Test.YtdgegebplebeoaaGreatDoorEU
namespace Go.Proofs.YtdgegebplebeoaaGreatDoor
open Go.RowKit Go.Maps Go.Shelf

theorem results_tmp4 {fn : Func} {t u v x : Tmp} (h : fn.results = #[.tmp t, .tmp u, .tmp v, .tmp x]) (tmps : Array Value) (P : Program) (w : World) :
    (Go.results fn tmps).run P w = .ok (.tuple #[tmps.getD t undef, tmps.getD u undef, tmps.getD v undef, tmps.getD x undef]) w := by
  simp [Go.results, h]
theorem foldl_max_mem : ∀ (zs : List Int) (z : Int), zs.foldl max z ∈ z :: zs
  | [], z => by simp
  | y :: zs, z => by
    rw [List.foldl_cons]
    have h := foldl_max_mem zs (max z y)
    rcases List.mem_cons.1 h with h | h
    · rw [h]
      rcases Int.le_total z y with h2 | h2
      · rw [Int.max_eq_right h2]; simp
      · rw [Int.max_eq_left h2]; simp
    · simp [h]
theorem maxOf_mem {zs : List Int} (h : 0 < zs.length) : Lib.maxOf zs ∈ zs := by
  cases zs with
  | nil => simp at h
  | cons z zs =>
    have h := foldl_max_mem (z :: zs) z
    unfold Lib.maxOf
    simp only [List.headD_cons] at h ⊢
    rcases List.mem_cons.1 h with h | h
    · rw [h]; exact List.mem_cons_self
    · exact h
theorem idxFrom_mem (x : Int) : ∀ (zs : List Int) (i : Nat), x ∈ zs → ∃ k, k < zs.length ∧ Lib.idxFrom zs x i = ((i + k : Nat) : Int) ∧ zs.getD k 0 = x
  | [], _, h => by cases h
  | z :: zs, i, h => by
    by_cases hz : z = x
    · exact ⟨0, by simp, by simp [Lib.idxFrom, hz], by simp [hz]⟩
    · rcases List.mem_cons.1 h with h | h
      · exact absurd h.symm hz
      · obtain ⟨k, h1, h2, h3⟩ := idxFrom_mem x zs (i + 1) h
        refine ⟨k + 1, by simpa using h1, ?_, by simpa using h3⟩
        unfold Lib.idxFrom
        rw [if_neg hz, h2]
        congr 1; omega
theorem lateP_bd (L : List Job) (lo hi : Int) (hlo : lo ≤ 0) (hhi : 0 ≤ hi) : ∀ (S : List Sl) (M : List Int), (∀ s ∈ S, lo ≤ s.from_ + s.mins - (L.getD s.job.toNat noJob).due ∧ s.from_ + s.mins - (L.getD s.job.toNat noJob).due ≤ hi) → (∀ y ∈ M, lo ≤ y ∧ y ≤ hi) → ∀ y ∈ S.foldl (lateP L) M, lo ≤ y ∧ y ≤ hi
  | [], M, _, h => h
  | s :: S, M, hs, h => by
    rw [List.foldl_cons]
    refine lateP_bd L lo hi hlo hhi S _ (fun x hx => hs x (List.mem_cons_of_mem _ hx)) (fun y hy => ?_)
    unfold lateP at hy
    rcases List.mem_or_eq_of_mem_set hy with hy | hy
    · exact h y hy
    · rw [hy]; exact hs s List.mem_cons_self
theorem late_bd {L : List Job} {S : List Sl} (hl : 0 < L.length) (hok : JobsOk L) (hso : SlOk L.length S) : -10000000000 ≤ latI L S ∧ latI L S ≤ 10000000000 := by
  have h1 := maxOf_mem (zs := lateL L S) (by rw [lateL_len]; exact hl)
  refine lateP_bd L (-10000000000) 10000000000 (by omega) (by omega) S (List.replicate L.length 0) (fun s hs => ?_) (fun y hy => ?_) _ h1
  · obtain ⟨⟨j0, j1⟩, ⟨f0, f1⟩, n0, n1⟩ := hso s hs
    have hj : s.job.toNat < L.length := by omega
    rw [job_getD hj]
    have := (hok _ (List.getElem_mem hj)).2.1
    omega
  · rw [List.eq_of_mem_replicate hy]; omega
theorem latJ_lt {L : List Job} {S : List Sl} (hl : 0 < L.length) : ∃ k, k < L.length ∧ latJ L S = (k : Int) := by
  obtain ⟨k, h1, h2, -⟩ := idxFrom_mem (latI L S) (lateL L S) 0 (maxOf_mem (by rw [lateL_len]; exact hl))
  rw [lateL_len] at h1
  exact ⟨k, h1, by unfold latJ Lib.idxOf; rw [h2]; congr 1; omega⟩
theorem run_ok_s {L : List Job} (hl : 0 < L.length) (hr : ∀ x ∈ L, 0 ≤ x.ready ∧ x.ready ≤ 10000000) : ∀ (n : Nat) (s : SSt), SOk L 200000 s → SOk L 200000 (runS L n s)
  | 0, _, h => h
  | n + 1, s, h => by
    unfold runS
    split
    · rename_i hs
      exact run_ok_s hl hr n _ (step_ok h (by omega) hl hr hs).1
    · exact h
theorem sched_ok {L : List Job} (h1 : 1 ≤ L.length) (hl : L.length ≤ 20) (hok : JobsOk L) : SlOk L.length (schedI L) ∧ (schedI L).length ≤ 400000 := by
  have h := run_ok_s (by omega) (fun x hx => (hok x hx).1) 300000 _ (start_ok hl (fun x hx => (hok x hx).2.2)).1
  have h2 := h.num
  exact ⟨fun x hx => ⟨h.job x hx, h.sch x hx⟩, by unfold schedI; omega⟩
/-- The causes that Schedule returns. -/
def causI (L : List Job) : List Int := causesI L (schedI L) (L.getD (latJ L (schedI L)).toNat noJob).due (latI L (schedI L))
def SchedPost (L : List Job) (w : World) (e : Ending) (w' : World) : Prop :=
  (jobsErr L ≠ 0 ∧ e = .returned (.tuple #[.slice none 0 0, .int .i64 0, .slice none 0 0, .int .i64 (jobsErr L)]) ∧ Below w.heap.size w w') ∨
  (jobsErr L = 0 ∧ ∃ v cv, e = .returned (.tuple #[v, .int .i64 (latI L (schedI L)), cv, .int .i64 0]) ∧ OwnR 3 134 Sl.l w' w.heap.size v (schedI L) ∧ OwnR 1 3 intL w' w.heap.size cv (causI L) ∧ Below w.heap.size w w')
set_option maxRecDepth 100000 in
set_option maxHeartbeats 4000000 in
theorem scheduleOf_any (L : List Job) (a : Option Addr) (c : Nat) (w : World) (hr : RowsG 4 jobV w a L) (hl : L.length ≤ maxLen) (hc : ∀ x ∈ L, x.name.size ≤ maxLen) :
    Calls Tryz.prog 18 #[.slice a L.length c] w (SchedPost L w) := by
  have HCJ := Lib.hid (checkJobs_any L a c w hr hl hc)
  clear hc hl
  go_enter Tryz.func18, Tryz.ntmps18
  by_cases h0 : jobsErr L = 0
  · obtain ⟨⟨l1, l2⟩, hok⟩ := jobs_ok h0
    have hJ : JobsOk L := hok
    have HSO := Lib.hid (sched_ok l1 l2 hJ)
    have HLB := Lib.hid (late_bd (by omega) hJ (sched_ok l1 l2 hJ).1)
    obtain ⟨j, hj, ej⟩ := latJ_lt (L := L) (S := schedI L) (by omega)
    have HDU := Lib.hid (show (L.getD (latJ L (schedI L)).toNat noJob).due = L[j].due by rw [ej]; rw [show ((j : Int)).toNat = j by omega, job_getD hj])
    have HDB := Lib.hid (hJ _ (List.getElem_mem hj)).2.1
    have HJ := Lib.hid hJ; have HR := Lib.hid hr; have HEJ := Lib.hid ej; have H0 := Lib.hid h0
    clear hok hJ hr ej h0
    obtain ⟨S, hS⟩ : ∃ S, S = schedI L := ⟨_, rfl⟩
    have HSE := Lib.hid hS
    rw [← hS] at HSO HLB HEJ HDU
    obtain ⟨lt, hlt⟩ : ∃ lt, lt = latI L S := ⟨_, rfl⟩
    have HLT := Lib.hid hlt
    rw [← hlt] at HLB
    obtain ⟨d, hd⟩ : ∃ d, d = L[j].due := ⟨_, rfl⟩
    have HD := Lib.hid hd
    rw [← hd] at HDB HDU
    have hj' : (j : Int) < (L.length : Int) := by omega
    clear hS hlt hd
    go_wp2_with (go_at_call 47; refine HCJ.out.mono ?_; rintro e w1 ⟨rfl, hb1⟩; rw [H0.out])
    refine (schedule_any L a L.length c w1 rfl (HR.out.below hb1) l1 l2 HJ.out).mono ?_
    rintro e w2 ⟨v, rfl, hO, hb2⟩
    rw [← HSE.out] at hO
    obtain ⟨sa, sc, ev, hRS, -⟩ := hO.rows sl_l
    subst ev
    have hb12 := hb1.trans (hb2.mono hb1.size)
    have HO := Lib.hid hO; have HRS := Lib.hid hRS
    clear hO hRS
    obtain ⟨ad, ea, -⟩ := HR.out.job hj
    subst ea
    go_wp2_with (first | (go_at_call 49; refine (latenessOf_any L S (some ad) L.length c sa S.length sc w2 rfl rfl (HR.out.below hb12) HRS.out l1 l2 HSO.out.2 HJ.out HSO.out.1).mono ?_; rintro e w3 ⟨rfl, hb3⟩; rw [HEJ.out, ← HLT.out]; have hb13 := hb12.trans (hb3.mono hb12.size); obtain ⟨ad2, ea, hau, -, -, -, t3⟩ := (HR.out.below hb13).job hj; injection ea with ea; subst ea; rw [← HD.out] at t3; have HCA := Lib.hid (causes_any L S (some ad) L.length c sa S.length sc lt d w3 rfl rfl (HR.out.below hb13) (HRS.out.below hb3) HSO.out.2 HJ.out HSO.out.1 HLB.out HDB.out)) | (go_at_call 50; refine HCA.out.mono ?_; rintro e w4 ⟨cv, rfl, hOc, hb4⟩))
    (try simp only [Exit.inBlock, Exit.then]); refine bodyPost_ret (results_tmp4 rfl _ _ _) rfl ?_
    refine Or.inr ⟨H0.out, .slice sa S.length sc, cv, ?_, ?_, ?_, ?_⟩
    · rw [← HSE.out, ← HLT.out]; rfl
    · rw [← HSE.out]; exact ((HO.out.below (hb3.trans (hb4.mono hb3.size))).mono hb1.size)
    · unfold causI
      rw [← HSE.out, HDU.out, ← HLT.out]
      exact hOc.mono hb13.size
    · exact hb13.trans (hb4.mono hb13.size)
  · have HJ := Lib.hid h0
    have h0' : (jobsErr L == 0) = false := by simpa using h0
    clear h0 hr
    go_wp2_with (go_at_call 47; refine HCJ.out.mono ?_; rintro e w1 ⟨rfl, hb1⟩)
    (try simp only [Exit.inBlock, Exit.then]); refine bodyPost_ret (results_tmp4 rfl _ _ _) rfl ?_
    exact Or.inl ⟨HJ.out, rfl, hb1⟩
end Go.Proofs.YtdgegebplebeoaaGreatDoor
