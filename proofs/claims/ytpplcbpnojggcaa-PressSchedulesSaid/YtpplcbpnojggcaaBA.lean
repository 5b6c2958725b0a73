/-
  Package press: the schedule by dues is a right schedule, and what its rule keeps, as maths.
-/
import Derived.Test.YtpplcbpnojggcaaAQ
import Derived.Test.YtpplcbpnojggcaaEX
namespace Go.Proofs.Ytpplcbpnojggcaa
open Go.RowKit

def rdyN (L : List Job) (k : Nat) : Int := (L.getD k noJob).ready
def dueN (L : List Job) (k : Nat) : Int := (L.getD k noJob).due
def slE (s : Sl) : Int := s.from_ + s.mins
/-- The end of the last slice of a schedule, the last one first. -/
def endR : List Sl → Int
  | [] => 0
  | z :: _ => slE z
/-- Right slices, the last one first. -/
def SR (L : List Job) : List Sl → Prop
  | [] => True
  | z :: T => slErr L (endR T) z = 0 ∧ SR L T
/-- What the rule keeps, the last slice first; P tells which jobs go on later. -/
def RR (L : List Job) : (Nat → Prop) → List Sl → Prop
  | _, [] => True
  | P, z :: T => (∀ k, P k → rdyN L k < slE z → dueN L z.job.toNat ≤ dueN L k) ∧ ((T = [] ∨ endR T < z.from_) → ∀ k, P k ∨ k = z.job.toNat → z.from_ ≤ rdyN L k) ∧ RR L (fun k => P k ∨ k = z.job.toNat) T
theorem RR.mono {L : List Job} : ∀ {T : List Sl} {P Q : Nat → Prop}, (∀ k, Q k → P k) → RR L P T → RR L Q T
  | [], _, _, _, _ => trivial
  | _ :: _, _, _, h, ⟨h1, h2, h3⟩ => ⟨fun k hk => h1 k (h k hk), fun hg k hk => h2 hg k (hk.imp (h k) id), RR.mono (fun k hk => hk.imp (h k) id) h3⟩
theorem urg_min {L : List Job} {F : List Int} {m : Int} : ∀ k, k ≤ L.length → (urgTo L F m k).2 = true → ∀ i, i < k → 0 < F.getD i 0 → (L.getD i noJob).ready ≤ m → (L.getD (urgTo L F m k).1 noJob).due ≤ (L.getD i noJob).due
  | 0, _, _, i, hi, _, _ => by omega
  | k + 1, hk, h, i, hi, h1, h2 => by
    rw [urgTo] at h ⊢
    unfold urgP at h ⊢
    split
    · rename_i hc
      rcases Nat.lt_succ_iff_lt_or_eq.1 hi with h3 | rfl
      · rcases hc.2.2 with h4 | h4
        · exact absurd ⟨h1, h2⟩ (urg_none k (by omega) h4 i h3)
        · cases hu : (urgTo L F m k).2
          · exact absurd ⟨h1, h2⟩ (urg_none k (by omega) hu i h3)
          · have := urg_min k (by omega) hu i h3 h1 h2
            dsimp only; omega
      · exact Int.le_refl _
    · rename_i hc
      rw [if_neg hc] at h
      rcases Nat.lt_succ_iff_lt_or_eq.1 hi with h3 | rfl
      · exact urg_min k (by omega) h i h3 h1 h2
      · rcases Int.lt_or_le (L.getD i noJob).due (L.getD (urgTo L F m i).1 noJob).due with h5 | h5
        · exact absurd ⟨h1, h2, Or.inr h5⟩ hc
        · exact h5
def wslR (T : List Sl) (x : Sl) : List Sl :=
  match T with
  | [] => [x]
  | y :: T0 => if y.job = x.job ∧ slE y = x.from_ then ⟨y.job, y.from_, y.mins + x.mins⟩ :: T0 else x :: y :: T0
theorem wsl_rev (S : List Sl) (x : Sl) : (wsl S x).reverse = wslR S.reverse x := by
  rcases hS : S.reverse with _ | ⟨y, T⟩
  · have : S = [] := by simpa using hS
    subst this
    simp [wsl, wslR]
  · have hS2 : S = T.reverse ++ [y] := by rw [← List.reverse_reverse S, hS]; simp
    subst hS2
    have hg : (T.reverse ++ [y]).getD ((T.reverse ++ [y]).length - 1) noSl = y := by
      rw [List.getD_eq_getElem?_getD]; simp
    unfold wsl
    rw [hg]
    show _ = (if y.job = x.job ∧ y.from_ + y.mins = x.from_ then (⟨y.job, y.from_, y.mins + x.mins⟩ :: T : List Sl) else (x :: y :: T))
    have hl : 0 < (T.reverse ++ [y]).length := by simp
    by_cases hc : y.job = x.job ∧ y.from_ + y.mins = x.from_
    · rw [if_pos ⟨hl, hc.1, hc.2⟩, if_pos hc]
      simp
    · rw [if_neg (fun h => hc h.2), if_neg hc]
      simp
theorem schE_snoc {L : List Job} : ∀ (S : List Sl) (e : Int) (z : Sl), schE L e (S ++ [z]) = 0 ↔ (schE L e S = 0 ∧ slErr L (S.foldl (fun _ s => s.from_ + s.mins) e) z = 0)
  | [], e, z => by
    by_cases h : slErr L e z = 0
    · simp [schE, h]
    · simp [schE, h]
  | s :: S, e, z => by
    show (if slErr L e s ≠ 0 then slErr L e s else schE L (s.from_ + s.mins) (S ++ [z])) = 0 ↔ ((if slErr L e s ≠ 0 then slErr L e s else schE L (s.from_ + s.mins) S) = 0 ∧ _)
    by_cases h : slErr L e s = 0
    · rw [if_neg (by simp [h]), if_neg (by simp [h])]
      exact schE_snoc S _ z
    · rw [if_pos h, if_pos h]; simp [h]
theorem endS_rev : ∀ T : List Sl, endS T.reverse = endR T
  | [] => rfl
  | z :: T => by unfold endS; rw [List.reverse_cons, List.foldl_append]; rfl
theorem sr_sch {L : List Job} : ∀ T : List Sl, SR L T ↔ schE L 0 T.reverse = 0
  | [] => by simp [SR, schE]
  | z :: T => by
    rw [List.reverse_cons, schE_snoc, ← sr_sch T]
    have := endS_rev T
    unfold endS at this
    rw [this]
    exact And.comm
theorem doneL_snoc (n : Nat) (S : List Sl) (z : Sl) : doneL n (S ++ [z]) = doneP (doneL n S) z := by unfold doneL; rw [List.foldl_append]; rfl
/-- How many jobs are not done. -/
def cntL (F : List Int) : Nat := (F.filter fun x => decide (0 < x)).length
theorem cntL_set : ∀ {F : List Int} {i : Nat} {v : Int}, i < F.length → 0 < F.getD i 0 → cntL (F.set i v) + 1 = cntL F + (if 0 < v then 1 else 0)
  | [], _, _, h, _ => by cases h
  | x :: F, 0, v, _, hp => by
    have hx : 0 < x := by simpa using hp
    unfold cntL
    rw [List.set_cons_zero, List.filter_cons, List.filter_cons, if_pos (show decide (0 < x) = true by simpa using hx)]
    by_cases hv : 0 < v
    · rw [if_pos (show decide (0 < v) = true by simpa using hv), if_pos hv]; simp
    · rw [if_neg (show ¬ decide (0 < v) = true by simpa using hv), if_neg hv]; simp
  | x :: F, i + 1, v, h, hp => by
    have ih := cntL_set (F := F) (i := i) (v := v) (by simpa using h) (by simpa using hp)
    unfold cntL at ih ⊢
    rw [List.set_cons_succ, List.filter_cons, List.filter_cons]
    by_cases hx : decide (0 < x) = true
    · rw [if_pos hx, if_pos hx, List.length_cons, List.length_cons]; omega
    · rw [if_neg hx, if_neg hx]; exact ih
theorem cntL_le (F : List Int) : cntL F ≤ F.length := List.length_filter_le _ _
structure RI (L : List Job) (s : SSt) : Prop where
  ok : SOk L 200000 s
  rr : RR L (fun k => 0 < s.left.getD k 0) s.sch.reverse
  sr : SR L s.sch.reverse
  en : endR s.sch.reverse ≤ s.now
  dn : ∀ k, k < L.length → (doneL L.length s.sch).getD k 0 + s.left.getD k 0 = (L.getD k noJob).mins
  gap : (s.sch.reverse = [] ∨ endR s.sch.reverse < s.now) → ∀ k, 0 < s.left.getD k 0 → s.now ≤ rdyN L k
  num : s.sch.length + (cntL s.left + late L s.now) ≤ 2 * L.length
theorem left_lt {L : List Job} {F : List Int} {k : Nat} (hlen : F.length = L.length) (h : 0 < F.getD k 0) : k < L.length := by
  rcases Nat.lt_or_ge k F.length with h1 | h1
  · omega
  · rw [List.getD_eq_getElem?_getD, List.getElem?_eq_none h1] at h; exact absurd h (Int.lt_irrefl _)
/-- A slice of a right schedule is not longer than what is done of its job. -/
theorem mins_done {n : Nat} : ∀ (S : List Sl) (D : List Int), D.length = n → (∀ s ∈ S, (0 ≤ s.job ∧ s.job < n) ∧ 0 ≤ s.mins) → (∀ j, j < n → 0 ≤ D.getD j 0) → ∀ j, j < n → D.getD j 0 ≤ (S.foldl doneP D).getD j 0 ∧ ∀ s ∈ S, s.job.toNat = j → s.mins ≤ (S.foldl doneP D).getD j 0
  | [], D, _, _, h, j, hj => ⟨Int.le_refl _, fun s hs => by cases hs⟩
  | x :: S, D, hD, hs, h, j, hj => by
    have hx := hs x List.mem_cons_self
    have hi : x.job.toNat < n := by omega
    have hd : ∀ i, i < n → 0 ≤ (doneP D x).getD i 0 := fun i hin => by
      unfold doneP; rw [set_getD (by omega)]
      split
      · have := h x.job.toNat hi; omega
      · exact h i hin
    have hle : D.getD j 0 ≤ (doneP D x).getD j 0 := by
      unfold doneP; rw [set_getD (by omega)]
      split
      · rename_i e; subst e; omega
      · exact Int.le_refl _
    obtain ⟨h1, h2⟩ := mins_done S (doneP D x) (by unfold doneP; rw [List.length_set, hD]) (fun s hs' => hs s (List.mem_cons_of_mem _ hs')) hd j hj
    rw [List.foldl_cons]
    refine ⟨by omega, fun s hs' e => ?_⟩
    rcases List.mem_cons.1 hs' with rfl | hs'
    · have h3 : s.mins ≤ (doneP D s).getD j 0 := by
        unfold doneP; rw [set_getD (by omega), if_pos e]
        have := h s.job.toNat hi; omega
      omega
    · exact h2 s hs' e
theorem start_ri {L : List Job} (hl : L.length ≤ 20) (hok : JobsOk L) : RI L (startS L) := by
  refine ⟨(start_ok hl (fun x hx => (hok x hx).2.2)).1, trivial, trivial, Int.le_refl _, fun k hk => ?_, fun _ k hk => ?_, ?_⟩
  · show (List.replicate L.length 0).getD k 0 + (L.map (·.mins)).getD k 0 = _
    rw [List.getD_eq_getElem?_getD, List.getD_eq_getElem?_getD, List.getElem?_map, List.getElem?_replicate, if_pos hk, List.getD_eq_getElem?_getD, List.getElem?_eq_getElem hk]
    simp
  · have hkl := left_lt (L := L) (F := L.map (·.mins)) (by simp) (show 0 < (L.map (·.mins)).getD k 0 from hk)
    show 0 ≤ rdyN L k
    unfold rdyN
    rw [List.getD_eq_getElem?_getD, List.getElem?_eq_getElem hkl]
    exact (hok _ (List.getElem_mem hkl)).1.1
  · show 0 + (cntL (L.map (·.mins)) + late L 0) ≤ 2 * L.length
    have h1 := cntL_le (L.map (·.mins))
    have h2 := late_len L 0
    simp at h1; omega
theorem slErr_ok {L : List Job} {e : Int} {s : Sl} (h1 : 0 ≤ s.job ∧ s.job < L.length) (h2 : 1 ≤ s.mins ∧ s.mins ≤ 10000) (h3 : 0 ≤ s.from_ ∧ s.from_ ≤ 20000000) (h4 : (L.getD s.job.toNat noJob).ready ≤ s.from_) (h5 : e ≤ s.from_) : slErr L e s = 0 := by
  unfold slErr
  have hm : okJobMin s.mins = true := inB_yes h2
  rw [if_neg (by rw [inB_yes (by omega)]; decide), if_neg (by rw [hm]; decide), if_neg (by rw [inB_yes h3]; decide), if_neg (by omega), if_neg (by omega)]
theorem step_ri {L : List Job} {s : SSt} (hl : 0 < L.length) (hok : JobsOk L) (hs : 0 < sumI s.left) (h : RI L s) : RI L (stepS L s) := by
  have hr : ∀ x ∈ L, 0 ≤ x.ready ∧ x.ready ≤ 10000000 := fun x hx => (hok x hx).1
  obtain ⟨hk, hrr, hsr, hen, hdn, hgap, hnum⟩ := h
  have hok2 := (step_ok hk (by omega) hl hr hs).1
  have hlen := hk.len
  have h0 := hk.left0
  have hbd := hk.bd
  have htot := hk.tot
  have hnow : s.now ≤ 10200000 := by have := (sumI_nonneg h0); omega
  have hgt := next_gt (m := s.now) (L := L) (by omega)
  cases hu : (urgI L s.left s.now).2
  · have hst : stepS L s = ⟨s.left, s.sch, nextI s.now L⟩ := by unfold stepS; rw [if_pos hu]
    rw [hst] at hok2 ⊢
    have hall : ∀ k, 0 < s.left.getD k 0 → nextI s.now L ≤ rdyN L k := fun k hp => by
      have hkl := left_lt hlen hp
      have hno := urg_none L.length (Nat.le_refl _) hu k hkl
      unfold rdyN
      rw [job_getD hkl] at hno ⊢
      exact nextF_mem s.now L _ _ (List.getElem_mem hkl) (by
        rcases Int.lt_or_le s.now L[k].ready with h | h
        · exact h
        · exact absurd ⟨hp, h⟩ hno)
    obtain ⟨i, hi, hpos⟩ := sumI_pos h0 hs
    have hlate : late L (nextI s.now L) < late L s.now := by
      apply late_less (by omega)
      rcases nextF_or s.now L 9223372036854775807 with h | ⟨x, hx, h1, h2⟩
      · have h3 := hall i hpos
        have h4 : nextI s.now L = 9223372036854775807 := h
        have hi2 : i < L.length := by omega
        unfold rdyN at h3
        rw [job_getD hi2] at h3
        have := (hr _ (List.getElem_mem hi2)).2
        omega
      · exact ⟨x, hx, h1, by have : nextI s.now L = x.ready := h2; omega⟩
    exact ⟨hok2, hrr, hsr, by show endR s.sch.reverse ≤ nextI s.now L; omega, hdn, fun _ k hp => hall k hp, by show s.sch.length + (cntL s.left + late L (nextI s.now L)) ≤ _; omega⟩
  · obtain ⟨u, hu1⟩ : ∃ u, u = (urgI L s.left s.now).1 := ⟨_, rfl⟩
    obtain ⟨hpos, hrd⟩ := urg_is L.length (Nat.le_refl _) hu
    have hmin := urg_min L.length (Nat.le_refl _) hu
    change 0 < s.left.getD (urgI L s.left s.now).1 0 at hpos
    change (L.getD (urgI L s.left s.now).1 noJob).ready ≤ s.now at hrd
    change ∀ i, i < L.length → 0 < s.left.getD i 0 → (L.getD i noJob).ready ≤ s.now → (L.getD (urgI L s.left s.now).1 noJob).due ≤ (L.getD i noJob).due at hmin
    rw [← hu1] at hpos hrd hmin
    have hul : u < L.length := left_lt hlen hpos
    obtain ⟨n, hn⟩ : ∃ n, n = min (s.left.getD u 0) (nextI s.now L - s.now) := ⟨_, rfl⟩
    have hst : stepS L s = ⟨s.left.set u (s.left.getD u 0 - n), wsl s.sch ⟨u, s.now, n⟩, s.now + n⟩ := by unfold stepS; rw [if_neg (by simp [hu]), ← hu1, ← hn]
    rw [hst] at hok2 ⊢
    have hn1 : 1 ≤ n ∧ n ≤ s.left.getD u 0 ∧ s.now + n ≤ nextI s.now L := by omega
    have hut : ((u : Int)).toNat = u := by omega
    have hsub : ∀ k, 0 < (s.left.set u (s.left.getD u 0 - n)).getD k 0 → 0 < s.left.getD k 0 := fun k hp => by
      rw [set_getD (by omega)] at hp
      split at hp
      · rename_i e; subst e; exact hpos
      · exact hp
    -- the rule at the new end
    have hrule : ∀ k, 0 < (s.left.set u (s.left.getD u 0 - n)).getD k 0 → rdyN L k < s.now + n → dueN L u ≤ dueN L k := fun k hp hrk => by
      have hp2 := hsub k hp
      have hkl := left_lt hlen hp2
      refine hmin k hkl hp2 ?_
      rcases Int.lt_or_le s.now (L.getD k noJob).ready with h | h
      · have h3 : nextI s.now L ≤ L[k].ready := nextF_mem s.now L _ _ (List.getElem_mem hkl) (by rw [job_getD hkl] at h; exact h)
        unfold rdyN at hrk
        rw [job_getD hkl] at hrk
        omega
      · exact h
    have hud := hdn u hul
    have hum : (L.getD u noJob).mins ≤ 10000 := by rw [job_getD hul]; exact (hok _ (List.getElem_mem hul)).2.2.2
    have hDl : (doneL L.length s.sch).length = L.length := by unfold doneL; rw [doneF_len, List.length_replicate]
    have hmd := mins_done (n := L.length) s.sch (List.replicate L.length 0) (by simp) (fun x hx => ⟨hk.job x hx, (hk.sch x hx).2.1⟩) (fun j hj => by rw [List.getD_eq_getElem?_getD, List.getElem?_replicate, if_pos hj]; exact Int.le_refl _) u hul
    change (List.replicate L.length 0).getD u 0 ≤ (doneL L.length s.sch).getD u 0 ∧ ∀ s' ∈ s.sch, s'.job.toNat = u → s'.mins ≤ (doneL L.length s.sch).getD u 0 at hmd
    have hd0 : 0 ≤ (doneL L.length s.sch).getD u 0 := by
      have h9 := hmd.1
      rw [List.getD_eq_getElem?_getD, List.getElem?_replicate, if_pos hul] at h9
      exact h9
    have hdn2 : ∀ S' : List Sl, doneL L.length S' = doneP (doneL L.length s.sch) ⟨u, s.now, n⟩ → ∀ k, k < L.length → (doneL L.length S').getD k 0 + (s.left.set u (s.left.getD u 0 - n)).getD k 0 = (L.getD k noJob).mins := fun S' hS' k hkl => by
      rw [hS']
      unfold doneP
      dsimp only
      rw [hut, set_getD (by omega), set_getD (by omega)]
      have := hdn k hkl
      split
      · rename_i e; subst e; omega
      · exact this
    have hsum := cntL_set (F := s.left) (i := u) (v := s.left.getD u 0 - n) (by omega) hpos
    have hlm := late_mono (L := L) (show s.now ≤ s.now + n by omega)
    have hcnt : cntL (s.left.set u (s.left.getD u 0 - n)) + late L (s.now + n) + 1 ≤ cntL s.left + late L s.now := by
      by_cases hc : 0 < s.left.getD u 0 - n
      · rw [if_pos hc] at hsum
        have hnx : s.now + n = nextI s.now L := by omega
        have : late L (s.now + n) < late L s.now := by
          apply late_less (by omega)
          rcases nextF_or s.now L 9223372036854775807 with h | ⟨x, hx, h1, h2⟩
          · have h4 : nextI s.now L = 9223372036854775807 := h
            have := sumI_ge h0 u
            omega
          · exact ⟨x, hx, h1, by have : nextI s.now L = x.ready := h2; omega⟩
        omega
      · rw [if_neg hc] at hsum; omega
    have hwl := wsl_len s.sch ⟨u, s.now, n⟩
    have hgap2 : ∀ T' : List Sl, endR T' = s.now + n → T' ≠ [] → (T' = [] ∨ endR T' < s.now + n) → ∀ k, 0 < (s.left.set u (s.left.getD u 0 - n)).getD k 0 → s.now + n ≤ rdyN L k := fun T' he hne hg => by
      rcases hg with hg | hg
      · exact absurd hg hne
      · omega
    have hW := wsl_rev s.sch ⟨u, s.now, n⟩
    rcases hT : s.sch.reverse with _ | ⟨y, T0⟩
    · rw [hT] at hW hrr hsr hen hgap
      have hW2 : (wsl s.sch ⟨u, s.now, n⟩).reverse = [⟨u, s.now, n⟩] := hW
      have hS0 : s.sch = [] := by simpa using hT
      refine ⟨hok2, ?_, ?_, ?_, ?_, ?_, ?_⟩
      · rw [hW2]
        refine ⟨fun k hp hrk => ?_, fun _ k hp => ?_, trivial⟩
        · show dueN L ((u : Int)).toNat ≤ _; rw [hut]; exact hrule k hp hrk
        · rcases hp with hp | hp
          · exact hgap (Or.inl rfl) k (hsub k hp)
          · have hp : k = ((u : Int)).toNat := hp
            rw [hp, hut]; exact hgap (Or.inl rfl) u hpos
      · rw [hW2]
        exact ⟨slErr_ok (by show (0 : Int) ≤ u ∧ (u : Int) < _; omega) (by show 1 ≤ n ∧ n ≤ 10000; omega) (by show 0 ≤ s.now ∧ s.now ≤ _; have := hk.now0; omega) (by show (L.getD ((u : Int)).toNat noJob).ready ≤ s.now; rw [hut]; exact hrd) (by show (0 : Int) ≤ s.now; exact hk.now0), trivial⟩
      · rw [hW2]; exact Int.le_refl _
      · exact hdn2 _ (by rw [hS0]; rfl)
      · rw [hW2]; exact hgap2 [⟨u, s.now, n⟩] rfl (by simp)
      · show (wsl s.sch ⟨u, s.now, n⟩).length + (cntL (s.left.set u (s.left.getD u 0 - n)) + late L (s.now + n)) ≤ 2 * L.length; omega
    · rw [hT] at hW hrr hsr hen hgap
      have hS2 : s.sch = T0.reverse ++ [y] := by rw [← List.reverse_reverse s.sch, hT]; simp
      obtain ⟨r1, r2, r3⟩ := hrr
      obtain ⟨q1, q2⟩ := hsr
      by_cases hc : y.job = (u : Int) ∧ slE y = s.now
      · have hW2 : (wsl s.sch ⟨u, s.now, n⟩).reverse = ⟨y.job, y.from_, y.mins + n⟩ :: T0 := by rw [hW]; unfold wslR; exact if_pos hc
        have hW3 : wsl s.sch ⟨u, s.now, n⟩ = T0.reverse ++ [⟨y.job, y.from_, y.mins + n⟩] := by rw [← List.reverse_reverse (wsl s.sch _), hW2]; simp
        have hyu : y.job.toNat = u := by rw [hc.1]; exact hut
        have hsl := sl_right q1
        have hym := hmd.2 y (by rw [hS2]; simp) hyu
        have hse : slE ⟨y.job, y.from_, y.mins + n⟩ = s.now + n := by have := hc.2; unfold slE at this ⊢; dsimp only; omega
        refine ⟨hok2, ?_, ?_, ?_, ?_, ?_, ?_⟩
        · rw [hW2]
          refine ⟨fun k hp hrk => ?_, fun hg k hp => ?_, ?_⟩
          · show dueN L y.job.toNat ≤ _; rw [hyu]; rw [hse] at hrk; exact hrule k hp hrk
          · exact r2 hg k (hp.imp (hsub k) id)
          · exact RR.mono (fun k hp => hp.imp (hsub k) id) r3
        · rw [hW2]
          refine ⟨slErr_ok hsl.1 ?_ hsl.2.2.1 hsl.2.2.2.1 hsl.2.2.2.2, q2⟩
          show 1 ≤ y.mins + n ∧ y.mins + n ≤ 10000
          have := hsl.2.1
          omega
        · rw [hW2]; show slE _ ≤ s.now + n; rw [hse]; exact Int.le_refl _
        · refine hdn2 _ ?_
          rw [hW3, hS2, doneL_snoc, doneL_snoc]
          unfold doneP
          dsimp only
          have hlT : u < (doneL L.length T0.reverse).length := by unfold doneL; rw [doneF_len, List.length_replicate]; exact hul
          rw [hyu, hut, set_getD hlT, if_pos rfl, List.set_set, Int.add_assoc]
        · rw [hW2]; exact hgap2 _ hse (by simp)
        · have hll : (wsl s.sch ⟨u, s.now, n⟩).length = s.sch.length := by rw [hW3, hS2]; simp
          show (wsl s.sch ⟨u, s.now, n⟩).length + (cntL (s.left.set u (s.left.getD u 0 - n)) + late L (s.now + n)) ≤ 2 * L.length; omega
      · have hW2 : (wsl s.sch ⟨u, s.now, n⟩).reverse = ⟨u, s.now, n⟩ :: y :: T0 := by rw [hW]; unfold wslR; exact if_neg hc
        have hW3 : wsl s.sch ⟨u, s.now, n⟩ = s.sch ++ [⟨u, s.now, n⟩] := by rw [← List.reverse_reverse (wsl s.sch _), hW2, hS2]; simp
        refine ⟨hok2, ?_, ?_, ?_, ?_, ?_, ?_⟩
        · rw [hW2]
          refine ⟨fun k hp hrk => ?_, fun hg k hp => ?_, ?_⟩
          · show dueN L ((u : Int)).toNat ≤ _; rw [hut]; exact hrule k hp hrk
          · have hg2 : endR (y :: T0) < s.now := by
              rcases hg with hg | hg
              · cases hg
              · exact hg
            rcases hp with hp | hp
            · exact hgap (Or.inr hg2) k (hsub k hp)
            · have hp : k = ((u : Int)).toNat := hp
              rw [hp, hut]; exact hgap (Or.inr hg2) u hpos
          · refine RR.mono (P := fun k => 0 < s.left.getD k 0) (fun k hp => ?_) ⟨r1, r2, r3⟩
            rcases hp with hp | hp
            · exact hsub k hp
            · have hp : k = ((u : Int)).toNat := hp
              rw [hp, hut]; exact hpos
        · rw [hW2]
          exact ⟨slErr_ok (by show (0 : Int) ≤ u ∧ (u : Int) < _; omega) (by show 1 ≤ n ∧ n ≤ 10000; omega) (by show 0 ≤ s.now ∧ s.now ≤ _; have := hk.now0; omega) (by show (L.getD ((u : Int)).toNat noJob).ready ≤ s.now; rw [hut]; exact hrd) hen, q1, q2⟩
        · rw [hW2]; exact Int.le_refl _
        · exact hdn2 _ (by rw [hW3, doneL_snoc])
        · rw [hW2]; exact hgap2 _ rfl (by simp)
        · show (wsl s.sch ⟨u, s.now, n⟩).length + (cntL (s.left.set u (s.left.getD u 0 - n)) + late L (s.now + n)) ≤ 2 * L.length; omega
theorem run_ri {L : List Job} (hl : 0 < L.length) (hok : JobsOk L) : ∀ (n : Nat) (s : SSt), RI L s → measS L s ≤ n → RI L (runS L n s) ∧ ¬ 0 < sumI (runS L n s).left
  | 0, s, h, hm => ⟨h, fun hs => by
    have hp : 0 < sumI s.left := hs
    unfold measS at hm; omega⟩
  | n + 1, s, h, hm => by
    unfold runS
    by_cases hs : 0 < sumI s.left
    · rw [if_pos hs]
      have hd := (step_ok h.ok (by omega) hl (fun x hx => (hok x hx).1) hs).2
      exact run_ri hl hok n _ (step_ri hl hok hs h) (by omega)
    · rw [if_neg hs]; exact ⟨h, hs⟩
/-- The schedule by dues: right, and by its rule. -/
theorem sched_right {L : List Job} (h1 : 1 ≤ L.length) (hl : L.length ≤ 20) (hok : JobsOk L) : csErr L (schedI L) = 0 ∧ SR L (schedI L).reverse ∧ RR L (fun _ => False) (schedI L).reverse := by
  obtain ⟨h, hs⟩ := run_ri (by omega) hok 300000 _ (start_ri hl hok) (start_ok hl (fun x hx => (hok x hx).2.2)).2
  have hz : ∀ k, (runS L 300000 (startS L)).left.getD k 0 = 0 := fun k => by
    have h2 := sumI_ge h.ok.left0 k
    have h3 := getD_nonneg h.ok.left0 k
    omega
  refine ⟨?_, h.sr, RR.mono (fun k hk => hk.elim) h.rr⟩
  have hsc : schE L 0 (schedI L) = 0 := by
    have h4 := (sr_sch _).1 h.sr
    rw [List.reverse_reverse] at h4; exact h4
  have hdo : DoneOk L (doneL L.length (schedI L)) := fun i hi => by
    have h4 := h.dn i hi
    rw [hz i, Int.add_zero] at h4
    exact h4
  have hnum := h.num
  unfold csErr
  rw [if_neg (by show ¬ 100 < (runS L 300000 (startS L)).sch.length; omega), if_neg (by rw [hsc]; decide), if_pos hdo]
end Go.Proofs.Ytpplcbpnojggcaa
