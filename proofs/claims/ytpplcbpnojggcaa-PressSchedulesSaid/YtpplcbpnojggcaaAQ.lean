/-
  Package press: the check of a schedule and of a set, as maths: no schedule has less lateness than the bound of a set.
-/
import Derived.Test.YtpplcbpnojggcaaES
namespace Go.Proofs.Ytpplcbpnojggcaa
open Go.RowKit

def slErr (L : List Job) (e : Int) (s : Sl) : Int :=
  if inB s.job 0 ((L.length : Int) - 1) = false then 6 else if okJobMin s.mins = false then 2 else if inB s.from_ 0 20000000 = false then 2 else if s.from_ < (L.getD s.job.toNat noJob).ready then 19 else if s.from_ < e then 17 else 0
def schE (L : List Job) : Int → List Sl → Int
  | _, [] => 0
  | e, s :: S => if slErr L e s ≠ 0 then slErr L e s else schE L (s.from_ + s.mins) S
def endS (S : List Sl) : Int := S.foldl (fun _ s => s.from_ + s.mins) 0
def doneP (D : List Int) (s : Sl) : List Int := D.set s.job.toNat (D.getD s.job.toNat 0 + s.mins)
def doneL (n : Nat) (S : List Sl) : List Int := S.foldl doneP (List.replicate n 0)
def endP (E : List Int) (s : Sl) : List Int := E.set s.job.toNat (s.from_ + s.mins)
def endL (n : Nat) (S : List Sl) : List Int := S.foldl endP (List.replicate n 0)
def DoneOk (L : List Job) (D : List Int) : Prop := ∀ i, i < L.length → D.getD i 0 = (L.getD i noJob).mins
instance (L : List Job) (D : List Int) : Decidable (DoneOk L D) := inferInstanceAs (Decidable (∀ i, i < L.length → D.getD i 0 = (L.getD i noJob).mins))
/-- What is wrong with a schedule. -/
def csErr (L : List Job) (S : List Sl) : Int := if 100 < S.length then 8 else if schE L 0 S ≠ 0 then schE L 0 S else if DoneOk L (doneL L.length S) then 0 else 23
def csR (L : List Job) (S : List Sl) : Int × Int × Int := if csErr L S = 0 then (latI L S, latJ L S, 0) else (0, 0, csErr L S)
theorem schE_stop {L : List Job} {S : List Sl} {k : Nat} {e : Int} (hk : k < S.length) (h : slErr L e S[k] ≠ 0) : schE L e (S.drop k) = slErr L e S[k] := by
  rw [List.drop_eq_getElem_cons hk]; unfold schE; rw [if_pos h]
theorem schE_go {L : List Job} {S : List Sl} {k : Nat} {e : Int} (hk : k < S.length) (h : slErr L e S[k] = 0) : schE L e (S.drop k) = schE L (S[k].from_ + S[k].mins) (S.drop (k + 1)) := by
  rw [List.drop_eq_getElem_cons hk]; conv => lhs; unfold schE; rw [if_neg (by simp [h])]
theorem endS_next {S : List Sl} {k : Nat} (hk : k < S.length) : endS (S.take (k + 1)) = S[k].from_ + S[k].mins := by
  unfold endS; rw [fold_step hk]
theorem sl_right {L : List Job} {e : Int} {s : Sl} (h : slErr L e s = 0) : (0 ≤ s.job ∧ s.job < L.length) ∧ (1 ≤ s.mins ∧ s.mins ≤ 10000) ∧ (0 ≤ s.from_ ∧ s.from_ ≤ 20000000) ∧ (L.getD s.job.toNat noJob).ready ≤ s.from_ ∧ e ≤ s.from_ := by
  unfold slErr at h
  split at h
  · cases h
  rename_i h1
  split at h
  · cases h
  rename_i h2
  split at h
  · cases h
  rename_i h3
  split at h
  · cases h
  split at h
  · cases h
  have h1 := inB_iff.1 (by simpa using h1)
  have h2 := inB_iff.1 (show inB s.mins 1 10000 = true by simpa [okJobMin] using h2)
  have h3 := inB_iff.1 (by simpa using h3)
  omega
theorem sch_right {L : List Job} : ∀ {S : List Sl} {e : Int}, schE L e S = 0 → ∀ s ∈ S, (0 ≤ s.job ∧ s.job < L.length) ∧ (1 ≤ s.mins ∧ s.mins ≤ 10000) ∧ (0 ≤ s.from_ ∧ s.from_ ≤ 20000000)
  | [], _, _, s, hs => by cases hs
  | x :: S, e, h, s, hs => by
    unfold schE at h
    split at h
    · exact absurd h ‹_›
    rename_i h1
    rcases List.mem_cons.1 hs with rfl | hs
    · have := sl_right (by simpa using h1); exact ⟨this.1, this.2.1, this.2.2.1⟩
    · exact sch_right h s hs
theorem cs_right {L : List Job} {S : List Sl} (h : csErr L S = 0) : S.length ≤ 100 ∧ schE L 0 S = 0 ∧ DoneOk L (doneL L.length S) := by
  unfold csErr at h
  split at h
  · cases h
  split at h
  · exact absurd h ‹_›
  rename_i h1
  split at h
  · rename_i h2; exact ⟨by omega, by simpa using h1, h2⟩
  · cases h
theorem doneF_len : ∀ (S : List Sl) (D : List Int), (S.foldl doneP D).length = D.length
  | [], _ => rfl
  | s :: S, D => by rw [List.foldl_cons, doneF_len S]; unfold doneP; rw [List.length_set]
theorem endF_len : ∀ (S : List Sl) (D : List Int), (S.foldl endP D).length = D.length
  | [], _ => rfl
  | s :: S, D => by rw [List.foldl_cons, endF_len S]; unfold endP; rw [List.length_set]
theorem set_getD {M : List Int} {i j : Nat} {v : Int} (hi : i < M.length) : (M.set i v).getD j 0 = if i = j then v else M.getD j 0 := by
  rw [List.getD_eq_getElem?_getD, List.getElem?_set]
  split
  · rename_i e; subst e; first | rfl | (rw [if_pos hi]; rfl)
  · rw [← List.getD_eq_getElem?_getD]
/-- Bounds of what is done. -/
theorem done_bd {L : List Job} : ∀ (S : List Sl) (D : List Int) (B : Int), (∀ s ∈ S, 1 ≤ s.mins ∧ s.mins ≤ 10000) → 0 ≤ B → (∀ y ∈ D, 0 ≤ y ∧ y ≤ B) → ∀ y ∈ S.foldl doneP D, 0 ≤ y ∧ y ≤ B + 10000 * S.length
  | [], D, B, _, _, h, y, hy => by have := h y hy; simp; omega
  | s :: S, D, B, hs, hB, h, y, hy => by
    have h1 := hs s List.mem_cons_self
    have h2 := done_bd (L := L) S (doneP D s) (B + 10000) (fun s hs' => hs s (List.mem_cons_of_mem _ hs')) (by omega) (fun z hz => by
      unfold doneP at hz
      have h3 := getD_bdI h hB s.job.toNat
      rcases List.mem_or_eq_of_mem_set hz with hz | hz
      · have := h z hz; omega
      · rw [hz]; omega) y hy
    rw [List.length_cons]
    have : ((S.length + 1 : Nat) : Int) = (S.length : Int) + 1 := by omega
    omega
where
  getD_bdI {D : List Int} {B : Int} (h : ∀ y ∈ D, 0 ≤ y ∧ y ≤ B) (hB : 0 ≤ B) (k : Nat) : 0 ≤ D.getD k 0 ∧ D.getD k 0 ≤ B := by
    rcases Nat.lt_or_ge k D.length with hk | hk
    · rw [getD_eqI hk]; exact h _ (List.getElem_mem hk)
    · rw [List.getD_eq_getElem?_getD, List.getElem?_eq_none hk]; exact ⟨Int.le_refl _, hB⟩
/-- Ends and lateness agree where something is done. -/
theorem late_ends {L : List Job} : ∀ (S : List Sl) (e : Int) (D M E : List Int), schE L e S = 0 → D.length = L.length → M.length = L.length → E.length = L.length →
    (∀ j, j < L.length → 0 ≤ D.getD j 0 ∧ (D.getD j 0 = 0 ∨ M.getD j 0 = E.getD j 0 - (L.getD j noJob).due)) →
    ∀ j, j < L.length → 0 ≤ (S.foldl doneP D).getD j 0 ∧ ((S.foldl doneP D).getD j 0 = 0 ∨ (S.foldl (lateP L) M).getD j 0 = (S.foldl endP E).getD j 0 - (L.getD j noJob).due)
  | [], _, _, _, _, _, _, _, _, h, j, hj => h j hj
  | s :: S, e, D, M, E, h0, hD, hM, hE, h, j, hj => by
    unfold schE at h0
    split at h0
    · exact absurd h0 ‹_›
    rename_i h1
    obtain ⟨⟨q1, q2⟩, ⟨q3, q4⟩, q5, q6, q7⟩ := sl_right (by simpa using h1 : slErr L e s = 0)
    rw [List.foldl_cons, List.foldl_cons, List.foldl_cons]
    have hi : s.job.toNat < L.length := by omega
    refine late_ends S _ (doneP D s) (lateP L M s) (endP E s) h0 (by unfold doneP; rw [List.length_set, hD]) (by unfold lateP; rw [List.length_set, hM]) (by unfold endP; rw [List.length_set, hE]) (fun i hii => ?_) j hj
    unfold doneP lateP endP
    rw [set_getD (by omega), set_getD (by omega), set_getD (by omega)]
    by_cases hij : s.job.toNat = i
    · subst hij
      rw [if_pos rfl, if_pos rfl, if_pos rfl]
      have := (h _ hii).1
      exact ⟨by omega, Or.inr rfl⟩
    · rw [if_neg hij, if_neg hij, if_neg hij]; exact h i hii
theorem late_eq {L : List Job} {S : List Sl} (hj : JobsOk L) (h : csErr L S = 0) : ∀ j, j < L.length → (lateL L S).getD j 0 = (endL L.length S).getD j 0 - (L.getD j noJob).due := fun j hjl => by
  obtain ⟨-, h1, h2⟩ := cs_right h
  have h3 := late_ends S 0 (List.replicate L.length 0) (List.replicate L.length 0) (List.replicate L.length 0) h1 (by simp) (by simp) (by simp) (fun j hj => by
    rw [List.getD_eq_getElem?_getD, List.getElem?_replicate]
    split <;> exact ⟨by simp, Or.inl (by simp)⟩) j hjl
  have h4 := h2 j hjl
  unfold doneL at h4
  have h5 : 1 ≤ (L.getD j noJob).mins := by
    rw [List.getD_eq_getElem?_getD, List.getElem?_eq_getElem hjl]; exact (hj _ (List.getElem_mem hjl)).2.2.1
  rcases h3.2 with h6 | h6
  · omega
  · exact h6
/-- The first one of the greatest ones, one after another. -/
def rlT (M : List Int) : Nat → Int × Int
  | 0 => (0, -1)
  | k + 1 => if (rlT M k).2 < 0 ∨ (rlT M k).1 < M.getD k 0 then (M.getD k 0, (k : Int)) else rlT M k
theorem rlT_is (M : List Int) : ∀ k, 0 < k → k ≤ M.length → ∃ p : Nat, (rlT M k).2 = p ∧ p < k ∧ (rlT M k).1 = Lib.maxOf (M.take k) ∧ M.getD p 0 = Lib.maxOf (M.take k) ∧ ∀ j, j < k → M.getD j 0 ≤ Lib.maxOf (M.take k) ∧ (j < p → M.getD j 0 ≠ Lib.maxOf (M.take k))
  | 0, h, _ => by omega
  | 1, _, h => by
    refine ⟨0, ?_, by omega, ?_, ?_, fun j hj => ?_⟩
    · show (if (rlT M 0).2 < 0 ∨ (rlT M 0).1 < M.getD 0 0 then (M.getD 0 0, ((0 : Nat) : Int)) else rlT M 0).2 = _
      rw [if_pos (Or.inl (by show (-1 : Int) < 0; decide))]
    · show (if (rlT M 0).2 < 0 ∨ (rlT M 0).1 < M.getD 0 0 then (M.getD 0 0, ((0 : Nat) : Int)) else rlT M 0).1 = _
      rw [if_pos (Or.inl (by show (-1 : Int) < 0; decide)), Lib.maxOf_one]
    · rw [Lib.maxOf_one]
    · obtain rfl : j = 0 := by omega
      rw [Lib.maxOf_one]; exact ⟨Int.le_refl _, fun h => by omega⟩
  | k + 2, _, h => by
    obtain ⟨p, h1, h2, h3, h4, h5⟩ := rlT_is M (k + 1) (by omega) (by omega)
    have hst := Lib.maxOf_step M (k + 1) (by omega) (by omega)
    have hr : rlT M (k + 2) = if (rlT M (k + 1)).2 < 0 ∨ (rlT M (k + 1)).1 < M.getD (k + 1) 0 then (M.getD (k + 1) 0, ((k + 1 : Nat) : Int)) else rlT M (k + 1) := rfl
    by_cases hlt : (rlT M (k + 1)).1 < M.getD (k + 1) 0
    · rw [hr, if_pos (Or.inr hlt)]
      have hm : Lib.maxOf (M.take (k + 2)) = M.getD (k + 1) 0 := by rw [hst]; rw [h3] at hlt; omega
      refine ⟨k + 1, rfl, by omega, hm.symm, hm.symm, fun j hj => ?_⟩
      rw [hm]
      rcases Nat.lt_or_ge j (k + 1) with hj2 | hj2
      · have := (h5 j hj2).1
        rw [h3] at hlt
        exact ⟨by omega, fun _ => by omega⟩
      · obtain rfl : j = k + 1 := by omega
        exact ⟨Int.le_refl _, fun h => by omega⟩
    · rw [hr, if_neg (by rintro (h | h); omega; exact hlt h)]
      have hm : Lib.maxOf (M.take (k + 2)) = Lib.maxOf (M.take (k + 1)) := by rw [hst]; rw [h3] at hlt; omega
      rw [hm]
      refine ⟨p, h1, by omega, h3, h4, fun j hj => ?_⟩
      rcases Nat.lt_or_ge j (k + 1) with hj2 | hj2
      · exact h5 j hj2
      · obtain rfl : j = k + 1 := by omega
        rw [h3] at hlt
        exact ⟨by omega, fun h => by omega⟩
theorem rlT_all {M : List Int} (h : 0 < M.length) : rlT M M.length = (Lib.maxOf M, Lib.idxOf M (Lib.maxOf M)) ∧ ∀ j, j < M.length → M.getD j 0 ≤ Lib.maxOf M := by
  obtain ⟨p, h1, h2, h3, h4, h5⟩ := rlT_is M M.length h (Nat.le_refl _)
  rw [List.take_length] at h3 h4 h5
  have h6 := Lib.idxOf_hit M M.length p (Lib.maxOf M) h2 (Nat.le_refl _) h4 (fun j hj => (h5 j (by omega)).2 hj)
  rw [List.take_length] at h6
  exact ⟨Prod.ext h3 (h1.trans h6.symm), fun j hj => (h5 j hj).1⟩
theorem rlT_congr {M M' : List Int} : ∀ k, (∀ j, j < k → M'.getD j 0 = M.getD j 0) → rlT M' k = rlT M k
  | 0, _ => rfl
  | k + 1, h => by unfold rlT; rw [rlT_congr k (fun j hj => h j (by omega)), h k (by omega)]
/-- What is wrong with a set of n jobs. -/
def bdF (n : Nat) : Int → List Int → Int
  | _, [] => 0
  | p, y :: J => if inB y 0 ((n : Int) - 1) = false then 6 else if y ≤ p then 9 else bdF n y J
def cbErr (n : Nat) (J : List Int) : Int := if J.length = 0 then 10 else bdF n (-1) J
def prevJ (J : List Int) (k : Nat) : Int := (J.take k).foldl (fun _ y => y) (-1)
theorem prevJ_next {J : List Int} {k : Nat} (hk : k < J.length) : prevJ J (k + 1) = J[k] := by
  unfold prevJ; rw [fold_step hk]
theorem bdF_at {n : Nat} {J : List Int} {k : Nat} {p : Int} (hk : k < J.length) : bdF n p (J.drop k) = if inB J[k] 0 ((n : Int) - 1) = false then 6 else if J[k] ≤ p then 9 else bdF n J[k] (J.drop (k + 1)) := by
  rw [List.drop_eq_getElem_cons hk]; rfl
theorem bd_right {n : Nat} : ∀ {J : List Int} {p : Int}, bdF n p J = 0 → (∀ y ∈ J, p < y ∧ 0 ≤ y ∧ y < n) ∧ J.Nodup
  | [], _, _ => ⟨fun y hy => (by cases hy), List.nodup_nil⟩
  | x :: J, p, h => by
    unfold bdF at h
    split at h
    · cases h
    rename_i h1
    split at h
    · cases h
    rename_i h2
    have h1 := inB_iff.1 (by simpa using h1)
    obtain ⟨h3, h4⟩ := bd_right h
    refine ⟨fun y hy => ?_, List.nodup_cons.2 ⟨fun hm => by have := (h3 x hm).1; omega, h4⟩⟩
    rcases List.mem_cons.1 hy with rfl | hy
    · omega
    · have := h3 y hy; omega
def rdyI (L : List Job) (J : List Int) : Int := J.foldl (fun a y => min a (L.getD y.toNat noJob).ready) 9223372036854775807
def smI (L : List Job) (J : List Int) : Int := J.foldl (fun a y => a + (L.getD y.toNat noJob).mins) 0
def duI (L : List Job) (J : List Int) : Int := J.foldl (fun a y => max a (L.getD y.toNat noJob).due) 0
def bdI (L : List Job) (J : List Int) : Int := rdyI L J + smI L J - duI L J
def cbR (L : List Job) (J : List Int) : Int × Int := if cbErr L.length J = 0 then (bdI L J, 0) else (0, cbErr L.length J)
theorem min_fold {α : Type} (f : α → Int) : ∀ (J : List α) (a : Int), J.foldl (fun a y => min a (f y)) a ≤ a ∧ ∀ y ∈ J, J.foldl (fun a y => min a (f y)) a ≤ f y
  | [], a => ⟨Int.le_refl _, fun y hy => by cases hy⟩
  | x :: J, a => by
    obtain ⟨h1, h2⟩ := min_fold f J (min a (f x))
    rw [List.foldl_cons]
    refine ⟨by omega, fun y hy => ?_⟩
    rcases List.mem_cons.1 hy with rfl | hy
    · omega
    · exact h2 y hy
theorem max_fold {α : Type} (f : α → Int) : ∀ (J : List α) (a : Int), a ≤ J.foldl (fun a y => max a (f y)) a ∧ ∀ y ∈ J, f y ≤ J.foldl (fun a y => max a (f y)) a
  | [], a => ⟨Int.le_refl _, fun y hy => by cases hy⟩
  | x :: J, a => by
    obtain ⟨h1, h2⟩ := max_fold f J (max a (f x))
    rw [List.foldl_cons]
    refine ⟨by omega, fun y hy => ?_⟩
    rcases List.mem_cons.1 hy with rfl | hy
    · omega
    · exact h2 y hy
theorem sum_fold {α : Type} (f : α → Int) : ∀ (J : List α) (a : Int), J.foldl (fun a y => a + f y) a = a + (J.map f).sum
  | [], a => by simp
  | x :: J, a => by rw [List.foldl_cons, sum_fold f J]; simp; omega
/-- What is done of a set. -/
def totJ (J : List Int) (D : List Int) : Int := (J.map fun y => D.getD y.toNat 0).sum
theorem totJ_set {J : List Int} {D : List Int} {i : Nat} {v : Int} (hi : i < D.length) (hnd : J.Nodup) (h0 : ∀ y ∈ J, 0 ≤ y) : totJ J (D.set i v) = totJ J D + if (i : Int) ∈ J then v - D.getD i 0 else 0 := by
  induction J with
  | nil => simp [totJ]
  | cons x J ih =>
    obtain ⟨hx, hnd⟩ := List.nodup_cons.1 hnd
    have ih := ih hnd (fun y hy => h0 y (List.mem_cons_of_mem _ hy))
    unfold totJ at ih ⊢
    rw [List.map_cons, List.map_cons, List.sum_cons, List.sum_cons, ih, set_getD hi]
    have hx0 := h0 x List.mem_cons_self
    by_cases e : i = x.toNat
    · have e2 : (i : Int) = x := by omega
      rw [if_pos e, if_neg (by rw [e2]; exact hx), if_pos (by rw [e2]; exact List.mem_cons_self), e]; omega
    · have e2 : (i : Int) ≠ x := by omega
      rw [if_neg e]
      by_cases hm : (i : Int) ∈ J
      · rw [if_pos hm, if_pos (List.mem_cons_of_mem _ hm)]; omega
      · rw [if_neg hm, if_neg (fun h => by rcases List.mem_cons.1 h with h | h; exact e2 h; exact hm h)]; omega
theorem late_run {L : List Job} {J : List Int} {R : Int} (hnd : J.Nodup) (hJ : ∀ y ∈ J, 0 ≤ y ∧ y < L.length) (hR : ∀ y ∈ J, R ≤ (L.getD y.toNat noJob).ready) : ∀ (S : List Sl) (e : Int) (D M : List Int), schE L e S = 0 → D.length = L.length → M.length = L.length →
    (totJ J D = 0 ∨ ∃ j ∈ J, totJ J D ≤ M.getD j.toNat 0 + (L.getD j.toNat noJob).due - R ∧ M.getD j.toNat 0 + (L.getD j.toNat noJob).due ≤ e) →
    totJ J (S.foldl doneP D) = 0 ∨ ∃ j ∈ J, totJ J (S.foldl doneP D) ≤ (S.foldl (lateP L) M).getD j.toNat 0 + (L.getD j.toNat noJob).due - R
  | [], _, _, _, _, _, _, h => by
    rcases h with h | ⟨j, hj, h1, h2⟩
    · exact Or.inl h
    · exact Or.inr ⟨j, hj, h1⟩
  | s :: S, e, D, M, h0, hD, hM, h => by
    unfold schE at h0
    split at h0
    · exact absurd h0 ‹_›
    rename_i h1
    obtain ⟨⟨q1, q2⟩, ⟨q3, q4⟩, q5, q6, q7⟩ := sl_right (by simpa using h1 : slErr L e s = 0)
    rw [List.foldl_cons, List.foldl_cons]
    have hi : s.job.toNat < L.length := by omega
    have hii : ((s.job.toNat : Nat) : Int) = s.job := by omega
    refine late_run hnd hJ hR S _ (doneP D s) (lateP L M s) h0 (by unfold doneP; rw [List.length_set, hD]) (by unfold lateP; rw [List.length_set, hM]) ?_
    have ht : totJ J (doneP D s) = totJ J D + if s.job ∈ J then s.mins else 0 := by
      unfold doneP
      rw [totJ_set (by omega) hnd (fun y hy => (hJ y hy).1), hii]
      by_cases hm : s.job ∈ J
      · rw [if_pos hm, if_pos hm]; omega
      · rw [if_neg hm, if_neg hm]
    rw [ht]
    by_cases hm : s.job ∈ J
    · rw [if_pos hm]
      have hRs := hR _ hm
      refine Or.inr ⟨s.job, hm, ?_⟩
      unfold lateP
      rw [set_getD (by omega), if_pos rfl]
      rcases h with h | ⟨j, hj, h2, h3⟩
      · rw [h]; omega
      · omega
    · rw [if_neg hm, Int.add_zero]
      rcases h with h | ⟨j, hj, h2, h3⟩
      · exact Or.inl h
      · refine Or.inr ⟨j, hj, ?_⟩
        unfold lateP
        have hne : s.job.toNat ≠ j.toNat := fun e => hm (by have := (hJ j hj).1; rw [show s.job = j by omega]; exact hj)
        rw [set_getD (by omega), if_neg hne]
        omega
/-- No schedule has less lateness than the bound of a set. -/
theorem bound_le {L : List Job} {S : List Sl} {J : List Int} (hj : JobsOk L) (hs : csErr L S = 0) (hb : cbErr L.length J = 0) : bdI L J ≤ latI L S := by
  obtain ⟨-, h1, h2⟩ := cs_right hs
  unfold cbErr at hb
  split at hb
  · cases hb
  rename_i hJ0
  obtain ⟨h3, hnd⟩ := bd_right hb
  have hJ : ∀ y ∈ J, 0 ≤ y ∧ y < L.length := fun y hy => (h3 y hy).2
  have hR := (min_fold (fun y : Int => (L.getD y.toNat noJob).ready) J 9223372036854775807).2
  have hU := (max_fold (fun y : Int => (L.getD y.toNat noJob).due) J 0).2
  have hS := sum_fold (fun y : Int => (L.getD y.toNat noJob).mins) J 0
  have hrun := late_run hnd hJ hR S 0 (List.replicate L.length 0) (List.replicate L.length 0) h1 (by simp) (by simp) (Or.inl (by
    unfold totJ
    have : ∀ J : List Int, (J.map fun y => (List.replicate L.length (0 : Int)).getD y.toNat 0).sum = 0 := by
      intro J
      induction J with
      | nil => rfl
      | cons y J ih =>
        rw [List.map_cons, List.sum_cons, ih, List.getD_eq_getElem?_getD, List.getElem?_replicate]
        split <;> rfl
    exact this J))
  have hD : totJ J (S.foldl doneP (List.replicate L.length 0)) = (J.map fun y => (L.getD y.toNat noJob).mins).sum := by
    unfold totJ
    congr 1
    refine List.map_congr_left (fun y hy => ?_)
    exact h2 y.toNat (by have := hJ y hy; omega)
  have hpos : 0 < (J.map fun y => (L.getD y.toNat noJob).mins).sum := by
    rcases J with _ | ⟨y, J⟩
    · simp at hJ0
    · have h4 : ∀ K : List Int, (∀ y ∈ K, 0 ≤ y ∧ y < L.length) → 0 ≤ (K.map fun y => (L.getD y.toNat noJob).mins).sum := by
        intro K
        induction K with
        | nil => intro _; simp
        | cons z K ih =>
          intro hK
          have h5 := hK z List.mem_cons_self
          have h6 : 1 ≤ (L.getD z.toNat noJob).mins := by
            have hz : z.toNat < L.length := by omega
            rw [List.getD_eq_getElem?_getD, List.getElem?_eq_getElem hz]; exact (hj _ (List.getElem_mem hz)).2.2.1
          have h7 := ih (fun y hy => hK y (List.mem_cons_of_mem _ hy))
          rw [List.map_cons, List.sum_cons]; omega
      have h5 := hJ y List.mem_cons_self
      have h6 : 1 ≤ (L.getD y.toNat noJob).mins := by
        have hz : y.toNat < L.length := by omega
        rw [List.getD_eq_getElem?_getD, List.getElem?_eq_getElem hz]; exact (hj _ (List.getElem_mem hz)).2.2.1
      have h7 := h4 J (fun z hz => hJ z (List.mem_cons_of_mem _ hz))
      rw [List.map_cons, List.sum_cons]; omega
  rw [hD] at hrun
  rcases hrun with h | ⟨j, hjJ, h⟩
  · omega
  · have h8 := hU j hjJ
    have h9 := hJ j hjJ
    have hlen := lateL_len L S
    have h10 := (rlT_all (M := lateL L S) (by omega)).2 j.toNat (by omega)
    unfold bdI rdyI smI duI latI
    rw [hS]
    unfold lateL at h10 ⊢
    omega
end Go.Proofs.Ytpplcbpnojggcaa
