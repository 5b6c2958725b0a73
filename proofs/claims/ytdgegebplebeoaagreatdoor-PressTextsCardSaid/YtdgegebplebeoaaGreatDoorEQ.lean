/-
  Package press: the schedule by dues, as maths: one step, all steps.
-/
import Derived.Test.YtdgegebplebeoaaGreatDoorEP
namespace Go.Proofs.YtdgegebplebeoaaGreatDoor
open Go.RowKit

structure SSt where
  left : List Int
  sch : List Sl
  now : Int
/-- One step of the schedule by dues. -/
def stepS (L : List Job) (s : SSt) : SSt :=
  if (urgI L s.left s.now).2 = false then ⟨s.left, s.sch, nextI s.now L⟩
  else ⟨s.left.set (urgI L s.left s.now).1 (s.left.getD (urgI L s.left s.now).1 0 - min (s.left.getD (urgI L s.left s.now).1 0) (nextI s.now L - s.now)),
    wsl s.sch ⟨(urgI L s.left s.now).1, s.now, min (s.left.getD (urgI L s.left s.now).1 0) (nextI s.now L - s.now)⟩, s.now + min (s.left.getD (urgI L s.left s.now).1 0) (nextI s.now L - s.now)⟩
def runS (L : List Job) : Nat → SSt → SSt
  | 0, s => s
  | n + 1, s => if 0 < sumI s.left then runS L n (stepS L s) else s
def startS (L : List Job) : SSt := ⟨L.map (·.mins), [], 0⟩
def schedI (L : List Job) : List Sl := (runS L 300000 (startS L)).sch
theorem runS_go {L : List Job} {n : Nat} {s : SSt} (h : 0 < sumI s.left) : runS L (n + 1) s = runS L n (stepS L s) := by
  show (if _ then _ else _) = _; rw [if_pos h]
theorem runS_stop {L : List Job} {n : Nat} {s : SSt} (h : ¬ 0 < sumI s.left) : runS L n s = s := by
  cases n with
  | zero => rfl
  | succ n => show (if _ then _ else _) = _; rw [if_neg h]
/-- How many jobs are not ready yet. -/
def late (L : List Job) (m : Int) : Nat := (L.filter fun x => decide (m < x.ready)).length
theorem nextF_le (m : Int) : ∀ (L : List Job) (a : Int), L.foldl (nextP m) a ≤ a
  | [], a => Int.le_refl _
  | x :: L, a => by
    rw [List.foldl_cons]
    refine Int.le_trans (nextF_le m L _) ?_
    unfold nextP; split <;> omega
theorem nextF_mem (m : Int) : ∀ (L : List Job) (a : Int), ∀ x ∈ L, m < x.ready → L.foldl (nextP m) a ≤ x.ready
  | [], _, x, hx, _ => by cases hx
  | y :: L, a, x, hx, h => by
    rw [List.foldl_cons]
    rcases List.mem_cons.1 hx with rfl | hx
    · refine Int.le_trans (nextF_le m L _) ?_
      unfold nextP; rw [if_pos h]; omega
    · exact nextF_mem m L _ x hx h
theorem nextF_or (m : Int) : ∀ (L : List Job) (a : Int), L.foldl (nextP m) a = a ∨ ∃ x ∈ L, m < x.ready ∧ L.foldl (nextP m) a = x.ready
  | [], a => Or.inl rfl
  | y :: L, a => by
    rw [List.foldl_cons]
    rcases nextF_or m L (nextP m a y) with h | ⟨x, hx, h1, h2⟩
    · rw [h]
      unfold nextP
      split
      · rename_i hy
        rcases Int.le_total a y.ready with h3 | h3
        · left; omega
        · right; exact ⟨y, by simp, hy, by omega⟩
      · left; rfl
    · exact Or.inr ⟨x, by simp [hx], h1, h2⟩
theorem next_gt {m : Int} {L : List Job} (hm : m < 9223372036854775807) : m < nextI m L := by
  unfold nextI
  rcases nextF_or m L 9223372036854775807 with h | ⟨x, _, h1, h2⟩
  · rw [h]; exact hm
  · rw [h2]; exact h1
/-- The most urgent job is one that is ready and not done. -/
theorem urg_is {L : List Job} {F : List Int} {m : Int} : ∀ k, k ≤ L.length → (urgTo L F m k).2 = true → 0 < F.getD (urgTo L F m k).1 0 ∧ (L.getD (urgTo L F m k).1 noJob).ready ≤ m
  | 0, _, h => by simp [urgTo] at h
  | k + 1, hk, h => by
    rw [urgTo] at h ⊢
    unfold urgP at h ⊢
    split
    · rename_i h1; exact ⟨h1.1, h1.2.1⟩
    · rename_i h1
      rw [if_neg h1] at h
      exact urg_is k (by omega) h
theorem urg_none {L : List Job} {F : List Int} {m : Int} : ∀ k, k ≤ L.length → (urgTo L F m k).2 = false → ∀ i, i < k → ¬ (0 < F.getD i 0 ∧ (L.getD i noJob).ready ≤ m)
  | 0, _, _, i, hi => by omega
  | k + 1, hk, h, i, hi => by
    rw [urgTo] at h
    unfold urgP at h
    split at h
    · cases h
    · rename_i h1
      rcases Nat.lt_succ_iff_lt_or_eq.1 hi with h2 | rfl
      · exact urg_none k (by omega) h i h2
      · intro h3
        exact h1 ⟨h3.1, h3.2, Or.inl h⟩
theorem sumI_pos {L : List Int} (h0 : ∀ x ∈ L, 0 ≤ x) (h : 0 < sumI L) : ∃ i, i < L.length ∧ 0 < L.getD i 0 := by
  induction L with
  | nil => simp [sumI] at h
  | cons x L ih =>
    rcases Int.lt_or_le 0 x with hx | hx
    · exact ⟨0, by simp, hx⟩
    · have h1 := h0 x (by simp)
      obtain ⟨i, hi, h2⟩ := ih (fun y hy => h0 y (by simp [hy])) (by unfold sumI at h; omega)
      exact ⟨i + 1, by simpa using hi, by simpa using h2⟩
theorem sumI_set : ∀ {L : List Int} {i : Nat} (_ : i < L.length) (v : Int), sumI (L.set i v) = sumI L - L.getD i 0 + v
  | [], _, h, _ => by cases h
  | x :: L, 0, _, v => by simp [sumI]; omega
  | x :: L, i + 1, h, v => by
    rw [List.set_cons_succ, sumI, sumI, sumI_set (by simpa using h) v, List.getD_cons_succ]; omega
theorem getD_nonneg {L : List Int} (h0 : ∀ x ∈ L, 0 ≤ x) (i : Nat) : 0 ≤ L.getD i 0 := by
  rw [List.getD_eq_getElem?_getD]
  rcases Nat.lt_or_ge i L.length with h | h
  · rw [List.getElem?_eq_getElem h]; exact h0 _ (List.getElem_mem h)
  · rw [List.getElem?_eq_none h]; exact Int.le_refl _
theorem sumI_ge {L : List Int} (h0 : ∀ x ∈ L, 0 ≤ x) (i : Nat) : L.getD i 0 ≤ sumI L := by
  rcases Nat.lt_or_ge i L.length with h | h
  · have h1 := sumI_step h
    have h2 := sumI_take_le h0 (i + 1)
    have h3 := (sumI_take_le h0 i).1
    rw [getD_eqI h]; omega
  · rw [List.getD_eq_getElem?_getD, List.getElem?_eq_none h]; exact sumI_nonneg h0
theorem late_mono {L : List Job} {m n : Int} (h : m ≤ n) : late L n ≤ late L m := by
  unfold late
  induction L with
  | nil => exact Nat.le_refl _
  | cons x L ih =>
    rw [List.filter_cons, List.filter_cons]
    by_cases h1 : n < x.ready
    · rw [if_pos (by simpa using h1), if_pos (by simp; omega)]; simpa using ih
    · rw [if_neg (by simpa using h1)]
      split
      · simp only [List.length_cons]; omega
      · exact ih
theorem late_less {L : List Job} {m n : Int} (h : m ≤ n) (hx : ∃ x ∈ L, m < x.ready ∧ x.ready ≤ n) : late L n < late L m := by
  unfold late
  induction L with
  | nil => obtain ⟨x, hx, _⟩ := hx; cases hx
  | cons y L ih =>
    rw [List.filter_cons, List.filter_cons]
    obtain ⟨x, hx, h1, h2⟩ := hx
    have hm := late_mono (L := L) h
    unfold late at hm
    rcases List.mem_cons.1 hx with rfl | hx
    · rw [if_neg (by simp; omega), if_pos (by simpa using h1)]
      simp only [List.length_cons]; omega
    · have ih := ih ⟨x, hx, h1, h2⟩
      by_cases h3 : n < y.ready
      · rw [if_pos (by simpa using h3), if_pos (by simp; omega)]; simp only [List.length_cons]; omega
      · rw [if_neg (by simpa using h3)]
        split
        · simp only [List.length_cons]; omega
        · exact ih
def measS (L : List Job) (s : SSt) : Nat := (sumI s.left).toNat + late L s.now
/-- What holds of a schedule under way. -/
structure SOk (L : List Job) (T : Int) (s : SSt) : Prop where
  len : s.left.length = L.length
  left0 : ∀ x ∈ s.left, 0 ≤ x
  now0 : 0 ≤ s.now
  tot : sumI s.left ≤ T
  bd : s.now + sumI s.left ≤ 10000000 + T
  sch : ∀ x ∈ s.sch, (0 ≤ x.from_ ∧ x.from_ ≤ 1000000000) ∧ (0 ≤ x.mins ∧ x.mins ≤ 1000000000)
  job : ∀ x ∈ s.sch, 0 ≤ x.job ∧ x.job < L.length
  e2 : ∀ x ∈ s.sch, x.from_ + x.mins ≤ s.now
  num : s.sch.length + measS L s ≤ 300000
theorem wsl_mem {S : List Sl} {s x : Sl} (h : x ∈ wsl S s) : x = s ∨ x ∈ S ∨ (∃ y ∈ S, y.from_ + y.mins = s.from_ ∧ x = ⟨y.job, y.from_, y.mins + s.mins⟩) := by
  unfold wsl at h
  split at h
  · rename_i h1
    have hq : S.length - 1 < S.length := by omega
    rcases List.mem_or_eq_of_mem_set h with h | h
    · exact Or.inr (Or.inl h)
    · refine Or.inr (Or.inr ⟨S.getD (S.length - 1) noSl, ?_, h1.2.2, h⟩)
      rw [sl_getD hq]; exact List.getElem_mem hq
  · rcases List.mem_append.1 h with h | h
    · exact Or.inr (Or.inl h)
    · exact Or.inl (List.mem_singleton.1 h)
theorem wsl_len (S : List Sl) (s : Sl) : (wsl S s).length ≤ S.length + 1 := by
  unfold wsl; split
  · rw [List.length_set]; omega
  · simp
theorem step_ok {L : List Job} {T : Int} {s : SSt} (h : SOk L T s) (hT : T ≤ 1000000) (hl : 0 < L.length) (hr : ∀ x ∈ L, 0 ≤ x.ready ∧ x.ready ≤ 10000000) (hs : 0 < sumI s.left) : SOk L T (stepS L s) ∧ measS L (stepS L s) < measS L s := by
  obtain ⟨hlen, h0, hn0, htot, hbd, hsch, hjob, he2, hnum⟩ := h
  have hnow : s.now ≤ 10000000 + T := by omega
  have hgt := next_gt (m := s.now) (L := L) (by omega)
  have hulen := urg_lt L s.left s.now L.length (Nat.le_refl _) hl
  cases hu : (urgI L s.left s.now).2
  · have hst : stepS L s = ⟨s.left, s.sch, nextI s.now L⟩ := by unfold stepS; rw [if_pos hu]
    obtain ⟨i, hi, hpos⟩ := sumI_pos h0 hs
    have hi2 : i < L.length := by omega
    have hno := urg_none L.length (Nat.le_refl _) hu i hi2
    rw [job_getD hi2] at hno
    have hri : s.now < L[i].ready := by
      rcases Int.lt_or_le s.now L[i].ready with h | h
      · exact h
      · exact absurd ⟨hpos, h⟩ hno
    have hle : nextI s.now L ≤ L[i].ready := nextF_mem s.now L _ _ (List.getElem_mem hi2) hri
    have hri2 := (hr _ (List.getElem_mem hi2)).2
    have hlate : late L (nextI s.now L) < late L s.now := by
      apply late_less (by omega)
      rcases nextF_or s.now L 9223372036854775807 with h | ⟨x, hx, h1, h2⟩
      · have : nextI s.now L = 9223372036854775807 := h
        omega
      · exact ⟨x, hx, h1, by have : nextI s.now L = x.ready := h2; omega⟩
    rw [hst]
    refine ⟨⟨hlen, h0, by show 0 ≤ nextI s.now L; omega, htot, by show nextI s.now L + sumI s.left ≤ _; omega, hsch, hjob, fun x hx => by have := he2 x hx; show _ ≤ nextI s.now L; omega, ?_⟩, ?_⟩
    · unfold measS at hnum ⊢; dsimp only at hnum ⊢; omega
    · unfold measS; dsimp only; omega
  · obtain ⟨u, hu1⟩ : ∃ u, u = (urgI L s.left s.now).1 := ⟨_, rfl⟩
    obtain ⟨hpos, hrd⟩ := urg_is L.length (Nat.le_refl _) hu
    change (urgI L s.left s.now).1 < L.length at hulen
    change 0 < s.left.getD (urgI L s.left s.now).1 0 at hpos
    rw [← hu1] at hulen hpos
    obtain ⟨n, hn⟩ : ∃ n, n = min (s.left.getD u 0) (nextI s.now L - s.now) := ⟨_, rfl⟩
    have hst : stepS L s = ⟨s.left.set u (s.left.getD u 0 - n), wsl s.sch ⟨u, s.now, n⟩, s.now + n⟩ := by unfold stepS; rw [if_neg (by simp [hu]), ← hu1, ← hn]
    have hn1 : 1 ≤ n ∧ n ≤ s.left.getD u 0 := by omega
    have hge := sumI_ge h0 u
    have hsum : sumI (s.left.set u (s.left.getD u 0 - n)) = sumI s.left - n := by rw [sumI_set (by omega)]; omega
    have hml := late_mono (L := L) (show s.now ≤ s.now + n by omega)
    have hwl := wsl_len s.sch ⟨u, s.now, n⟩
    rw [hst]
    refine ⟨⟨by show (s.left.set u _).length = _; rw [List.length_set]; exact hlen, fun x hx => ?_, by show 0 ≤ s.now + n; omega, by show sumI (s.left.set u _) ≤ T; rw [hsum]; omega, by show s.now + n + sumI (s.left.set u _) ≤ _; rw [hsum]; omega, fun x hx => ?_, fun x hx => ?_, fun x hx => ?_, ?_⟩, ?_⟩
    · rcases List.mem_or_eq_of_mem_set hx with h | h
      · exact h0 x h
      · rw [h]; omega
    · rcases wsl_mem hx with rfl | h | ⟨y, hy, h1, rfl⟩
      · exact ⟨⟨hn0, by show s.now ≤ _; omega⟩, by show 0 ≤ n; omega, by show n ≤ _; omega⟩
      · exact hsch x h
      · have := hsch y hy
        dsimp only at h1 ⊢
        exact ⟨this.1, by omega, by omega⟩
    · rcases wsl_mem hx with rfl | h | ⟨y, hy, h1, rfl⟩
      · exact ⟨by show (0 : Int) ≤ u; omega, by show (u : Int) < _; omega⟩
      · exact hjob x h
      · exact hjob y hy
    · rcases wsl_mem hx with rfl | h | ⟨y, hy, h1, rfl⟩
      · show s.now + n ≤ s.now + n; omega
      · have := he2 x h; show _ ≤ s.now + n; omega
      · dsimp only at h1 ⊢; omega
    · unfold measS at hnum ⊢; dsimp only at hnum ⊢; rw [hsum]; omega
    · unfold measS; dsimp only; rw [hsum]; omega
theorem sum_mins {L : List Job} (h : ∀ x ∈ L, 1 ≤ x.mins ∧ x.mins ≤ 10000) : 0 ≤ sumI (L.map (·.mins)) ∧ sumI (L.map (·.mins)) ≤ 10000 * L.length := by
  induction L with
  | nil => simp [sumI]
  | cons x L ih =>
    have h1 := h x (by simp)
    have h2 := ih fun y hy => h y (by simp [hy])
    simp only [List.map_cons, sumI, List.length_cons]
    omega
theorem late_len (L : List Job) (m : Int) : late L m ≤ L.length := List.length_filter_le _ _
theorem start_ok {L : List Job} (hl : L.length ≤ 20) (h : ∀ x ∈ L, 1 ≤ x.mins ∧ x.mins ≤ 10000) : SOk L 200000 (startS L) ∧ measS L (startS L) ≤ 300000 := by
  have h1 := sum_mins h
  have h2 := late_len L 0
  unfold startS
  refine ⟨⟨by simp, fun x hx => ?_, Int.le_refl _, ?_, ?_, (fun x hx => by cases hx), (fun x hx => by cases hx), (fun x hx => by cases hx), ?_⟩, ?_⟩
  · obtain ⟨y, hy, rfl⟩ := List.mem_map.1 hx
    have := h y hy; omega
  · show sumI (L.map (·.mins)) ≤ 200000; omega
  · show 0 + sumI (L.map (·.mins)) ≤ _; omega
  · unfold measS; dsimp only; simp; omega
  · unfold measS; dsimp only; omega
end Go.Proofs.YtdgegebplebeoaaGreatDoor
