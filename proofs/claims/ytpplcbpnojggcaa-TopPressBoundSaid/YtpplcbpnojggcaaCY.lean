/-
  Package press: the check of a schedule and of a set, as maths: no schedule has less lateness than the bound of a set.
-/
import Derived.Test.YtpplcbpnojggcaaES
import Derived.BigQuiet
import Derived.Test.YtpplcbpnojggcaaE3
import Derived.Test.YtpplcbpnojggcaaGW
import Derived.Test.YtpplcbpnojggcaaEX
import Derived.Test.YtpplcbpnojggcaaAM
import Derived.Test.YtpplcbpnojggcaaEL
import Derived.Test.YtpplcbpnojggcaaEC
import Derived.Test.YtpplcbpnojggcaaEF
import Derived.Lib.SlBytesRow
import Derived.Laws.Rows

namespace Go.Proofs.Ytpplcbpnojggcaa
open Go.RowKit

def slErr (L : List Job) (e : Int) (s : Sl) : Int :=
  if inB s.job 0 ((L.length : Int) - 1) = false then 6 else if okJobMin s.mins = false then 2 else if inB s.from_ 0 20000000 = false then 2 else if s.from_ < (L.getD s.job.toNat noJob).ready then 19 else if s.from_ < e then 17 else 0
def schE (L : List Job) : Int → List Sl → Int
  | _, [] => 0
  | e, s :: S => if slErr L e s ≠ 0 then slErr L e s else schE L (s.from_ + s.mins) S
def endS (S : List Sl) : Int := S.foldl (fun _ s => s.from_ + s.mins) 0
def doneP (D : List Int) (s : Sl) : List Int := D.set s.job.toNat (D.getD s.job.toNat 0 + s.mins)
def doneL (n : Nat) (S : List Sl) : List Int := S.foldl doneP (List.replicate n 0)
def endP (E : List Int) (s : Sl) : List Int := E.set s.job.toNat (s.from_ + s.mins)
def endL (n : Nat) (S : List Sl) : List Int := S.foldl endP (List.replicate n 0)
def DoneOk (L : List Job) (D : List Int) : Prop := ∀ i, i < L.length → D.getD i 0 = (L.getD i noJob).mins
instance (L : List Job) (D : List Int) : Decidable (DoneOk L D) := inferInstanceAs (Decidable (∀ i, i < L.length → D.getD i 0 = (L.getD i noJob).mins))
/-- What is wrong with a schedule. -/
def csErr (L : List Job) (S : List Sl) : Int := if 100 < S.length then 8 else if schE L 0 S ≠ 0 then schE L 0 S else if DoneOk L (doneL L.length S) then 0 else 23
def csR (L : List Job) (S : List Sl) : Int × Int × Int := if csErr L S = 0 then (latI L S, latJ L S, 0) else (0, 0, csErr L S)
theorem schE_stop {L : List Job} {S : List Sl} {k : Nat} {e : Int} (hk : k < S.length) (h : slErr L e S[k] ≠ 0) : schE L e (S.drop k) = slErr L e S[k] := by
  rw [List.drop_eq_getElem_cons hk]; unfold schE; rw [if_pos h]
theorem schE_go {L : List Job} {S : List Sl} {k : Nat} {e : Int} (hk : k < S.length) (h : slErr L e S[k] = 0) : schE L e (S.drop k) = schE L (S[k].from_ + S[k].mins) (S.drop (k + 1)) := by
  rw [List.drop_eq_getElem_cons hk]; conv => lhs; unfold schE; rw [if_neg (by simp [h])]
theorem endS_next {S : List Sl} {k : Nat} (hk : k < S.length) : endS (S.take (k + 1)) = S[k].from_ + S[k].mins := by
  unfold endS; rw [fold_step hk]
theorem sl_right {L : List Job} {e : Int} {s : Sl} (h : slErr L e s = 0) : (0 ≤ s.job ∧ s.job < L.length) ∧ (1 ≤ s.mins ∧ s.mins ≤ 10000) ∧ (0 ≤ s.from_ ∧ s.from_ ≤ 20000000) ∧ (L.getD s.job.toNat noJob).ready ≤ s.from_ ∧ e ≤ s.from_ := by
  unfold slErr at h
  split at h
  · cases h
  rename_i h1
  split at h
  · cases h
  rename_i h2
  split at h
  · cases h
  rename_i h3
  split at h
  · cases h
  split at h
  · cases h
  have h1 := inB_iff.1 (by simpa using h1)
  have h2 := inB_iff.1 (show inB s.mins 1 10000 = true by simpa [okJobMin] using h2)
  have h3 := inB_iff.1 (by simpa using h3)
  omega
theorem sch_right {L : List Job} : ∀ {S : List Sl} {e : Int}, schE L e S = 0 → ∀ s ∈ S, (0 ≤ s.job ∧ s.job < L.length) ∧ (1 ≤ s.mins ∧ s.mins ≤ 10000) ∧ (0 ≤ s.from_ ∧ s.from_ ≤ 20000000)
  | [], _, _, s, hs => by cases hs
  | x :: S, e, h, s, hs => by
    unfold schE at h
    split at h
    · exact absurd h ‹_›
    rename_i h1
    rcases List.mem_cons.1 hs with rfl | hs
    · have := sl_right (by simpa using h1); exact ⟨this.1, this.2.1, this.2.2.1⟩
    · exact sch_right h s hs
theorem cs_right {L : List Job} {S : List Sl} (h : csErr L S = 0) : S.length ≤ 100 ∧ schE L 0 S = 0 ∧ DoneOk L (doneL L.length S) := by
  unfold csErr at h
  split at h
  · cases h
  split at h
  · exact absurd h ‹_›
  rename_i h1
  split at h
  · rename_i h2; exact ⟨by omega, by simpa using h1, h2⟩
  · cases h
theorem doneF_len : ∀ (S : List Sl) (D : List Int), (S.foldl doneP D).length = D.length
  | [], _ => rfl
  | s :: S, D => by rw [List.foldl_cons, doneF_len S]; unfold doneP; rw [List.length_set]
theorem endF_len : ∀ (S : List Sl) (D : List Int), (S.foldl endP D).length = D.length
  | [], _ => rfl
  | s :: S, D => by rw [List.foldl_cons, endF_len S]; unfold endP; rw [List.length_set]
theorem set_getD {M : List Int} {i j : Nat} {v : Int} (hi : i < M.length) : (M.set i v).getD j 0 = if i = j then v else M.getD j 0 := by
  rw [List.getD_eq_getElem?_getD, List.getElem?_set]
  split
  · rename_i e; subst e; first | rfl | (rw [if_pos hi]; rfl)
  · rw [← List.getD_eq_getElem?_getD]
/-- Bounds of what is done. -/
theorem done_bd {L : List Job} : ∀ (S : List Sl) (D : List Int) (B : Int), (∀ s ∈ S, 1 ≤ s.mins ∧ s.mins ≤ 10000) → 0 ≤ B → (∀ y ∈ D, 0 ≤ y ∧ y ≤ B) → ∀ y ∈ S.foldl doneP D, 0 ≤ y ∧ y ≤ B + 10000 * S.length
  | [], D, B, _, _, h, y, hy => by have := h y hy; simp; omega
  | s :: S, D, B, hs, hB, h, y, hy => by
    have h1 := hs s List.mem_cons_self
    have h2 := done_bd (L := L) S (doneP D s) (B + 10000) (fun s hs' => hs s (List.mem_cons_of_mem _ hs')) (by omega) (fun z hz => by
      unfold doneP at hz
      have h3 := getD_bdI h hB s.job.toNat
      rcases List.mem_or_eq_of_mem_set hz with hz | hz
      · have := h z hz; omega
      · rw [hz]; omega) y hy
    rw [List.length_cons]
    have : ((S.length + 1 : Nat) : Int) = (S.length : Int) + 1 := by omega
    omega
where
  getD_bdI {D : List Int} {B : Int} (h : ∀ y ∈ D, 0 ≤ y ∧ y ≤ B) (hB : 0 ≤ B) (k : Nat) : 0 ≤ D.getD k 0 ∧ D.getD k 0 ≤ B := by
    rcases Nat.lt_or_ge k D.length with hk | hk
    · rw [getD_eqI hk]; exact h _ (List.getElem_mem hk)
    · rw [List.getD_eq_getElem?_getD, List.getElem?_eq_none hk]; exact ⟨Int.le_refl _, hB⟩
/-- Ends and lateness agree where something is done. -/
theorem late_ends {L : List Job} : ∀ (S : List Sl) (e : Int) (D M E : List Int), schE L e S = 0 → D.length = L.length → M.length = L.length → E.length = L.length →
    (∀ j, j < L.length → 0 ≤ D.getD j 0 ∧ (D.getD j 0 = 0 ∨ M.getD j 0 = E.getD j 0 - (L.getD j noJob).due)) →
    ∀ j, j < L.length → 0 ≤ (S.foldl doneP D).getD j 0 ∧ ((S.foldl doneP D).getD j 0 = 0 ∨ (S.foldl (lateP L) M).getD j 0 = (S.foldl endP E).getD j 0 - (L.getD j noJob).due)
  | [], _, _, _, _, _, _, _, _, h, j, hj => h j hj
  | s :: S, e, D, M, E, h0, hD, hM, hE, h, j, hj => by
    unfold schE at h0
    split at h0
    · exact absurd h0 ‹_›
    rename_i h1
    obtain ⟨⟨q1, q2⟩, ⟨q3, q4⟩, q5, q6, q7⟩ := sl_right (by simpa using h1 : slErr L e s = 0)
    rw [List.foldl_cons, List.foldl_cons, List.foldl_cons]
    have hi : s.job.toNat < L.length := by omega
    refine late_ends S _ (doneP D s) (lateP L M s) (endP E s) h0 (by unfold doneP; rw [List.length_set, hD]) (by unfold lateP; rw [List.length_set, hM]) (by unfold endP; rw [List.length_set, hE]) (fun i hii => ?_) j hj
    unfold doneP lateP endP
    rw [set_getD (by omega), set_getD (by omega), set_getD (by omega)]
    by_cases hij : s.job.toNat = i
    · subst hij
      rw [if_pos rfl, if_pos rfl, if_pos rfl]
      have := (h _ hii).1
      exact ⟨by omega, Or.inr rfl⟩
    · rw [if_neg hij, if_neg hij, if_neg hij]; exact h i hii
theorem late_eq {L : List Job} {S : List Sl} (hj : JobsOk L) (h : csErr L S = 0) : ∀ j, j < L.length → (lateL L S).getD j 0 = (endL L.length S).getD j 0 - (L.getD j noJob).due := fun j hjl => by
  obtain ⟨-, h1, h2⟩ := cs_right h
  have h3 := late_ends S 0 (List.replicate L.length 0) (List.replicate L.length 0) (List.replicate L.length 0) h1 (by simp) (by simp) (by simp) (fun j hj => by
    rw [List.getD_eq_getElem?_getD, List.getElem?_replicate]
    split <;> exact ⟨by simp, Or.inl (by simp)⟩) j hjl
  have h4 := h2 j hjl
  unfold doneL at h4
  have h5 : 1 ≤ (L.getD j noJob).mins := by
    rw [List.getD_eq_getElem?_getD, List.getElem?_eq_getElem hjl]; exact (hj _ (List.getElem_mem hjl)).2.2.1
  rcases h3.2 with h6 | h6
  · omega
  · exact h6
/-- The first one of the greatest ones, one after another. -/
def rlT (M : List Int) : Nat → Int × Int
  | 0 => (0, -1)
  | k + 1 => if (rlT M k).2 < 0 ∨ (rlT M k).1 < M.getD k 0 then (M.getD k 0, (k : Int)) else rlT M k
theorem rlT_is (M : List Int) : ∀ k, 0 < k → k ≤ M.length → ∃ p : Nat, (rlT M k).2 = p ∧ p < k ∧ (rlT M k).1 = Lib.maxOf (M.take k) ∧ M.getD p 0 = Lib.maxOf (M.take k) ∧ ∀ j, j < k → M.getD j 0 ≤ Lib.maxOf (M.take k) ∧ (j < p → M.getD j 0 ≠ Lib.maxOf (M.take k))
  | 0, h, _ => by omega
  | 1, _, h => by
    refine ⟨0, ?_, by omega, ?_, ?_, fun j hj => ?_⟩
    · show (if (rlT M 0).2 < 0 ∨ (rlT M 0).1 < M.getD 0 0 then (M.getD 0 0, ((0 : Nat) : Int)) else rlT M 0).2 = _
      rw [if_pos (Or.inl (by show (-1 : Int) < 0; decide))]
    · show (if (rlT M 0).2 < 0 ∨ (rlT M 0).1 < M.getD 0 0 then (M.getD 0 0, ((0 : Nat) : Int)) else rlT M 0).1 = _
      rw [if_pos (Or.inl (by show (-1 : Int) < 0; decide)), Lib.maxOf_one]
    · rw [Lib.maxOf_one]
    · obtain rfl : j = 0 := by omega
      rw [Lib.maxOf_one]; exact ⟨Int.le_refl _, fun h => by omega⟩
  | k + 2, _, h => by
    obtain ⟨p, h1, h2, h3, h4, h5⟩ := rlT_is M (k + 1) (by omega) (by omega)
    have hst := Lib.maxOf_step M (k + 1) (by omega) (by omega)
    have hr : rlT M (k + 2) = if (rlT M (k + 1)).2 < 0 ∨ (rlT M (k + 1)).1 < M.getD (k + 1) 0 then (M.getD (k + 1) 0, ((k + 1 : Nat) : Int)) else rlT M (k + 1) := rfl
    by_cases hlt : (rlT M (k + 1)).1 < M.getD (k + 1) 0
    · rw [hr, if_pos (Or.inr hlt)]
      have hm : Lib.maxOf (M.take (k + 2)) = M.getD (k + 1) 0 := by rw [hst]; rw [h3] at hlt; omega
      refine ⟨k + 1, rfl, by omega, hm.symm, hm.symm, fun j hj => ?_⟩
      rw [hm]
      rcases Nat.lt_or_ge j (k + 1) with hj2 | hj2
      · have := (h5 j hj2).1
        rw [h3] at hlt
        exact ⟨by omega, fun _ => by omega⟩
      · obtain rfl : j = k + 1 := by omega
        exact ⟨Int.le_refl _, fun h => by omega⟩
    · rw [hr, if_neg (by rintro (h | h); omega; exact hlt h)]
      have hm : Lib.maxOf (M.take (k + 2)) = Lib.maxOf (M.take (k + 1)) := by rw [hst]; rw [h3] at hlt; omega
      rw [hm]
      refine ⟨p, h1, by omega, h3, h4, fun j hj => ?_⟩
      rcases Nat.lt_or_ge j (k + 1) with hj2 | hj2
      · exact h5 j hj2
      · obtain rfl : j = k + 1 := by omega
        rw [h3] at hlt
        exact ⟨by omega, fun h => by omega⟩
theorem rlT_all {M : List Int} (h : 0 < M.length) : rlT M M.length = (Lib.maxOf M, Lib.idxOf M (Lib.maxOf M)) ∧ ∀ j, j < M.length → M.getD j 0 ≤ Lib.maxOf M := by
  obtain ⟨p, h1, h2, h3, h4, h5⟩ := rlT_is M M.length h (Nat.le_refl _)
  rw [List.take_length] at h3 h4 h5
  have h6 := Lib.idxOf_hit M M.length p (Lib.maxOf M) h2 (Nat.le_refl _) h4 (fun j hj => (h5 j (by omega)).2 hj)
  rw [List.take_length] at h6
  exact ⟨Prod.ext h3 (h1.trans h6.symm), fun j hj => (h5 j hj).1⟩
theorem rlT_congr {M M' : List Int} : ∀ k, (∀ j, j < k → M'.getD j 0 = M.getD j 0) → rlT M' k = rlT M k
  | 0, _ => rfl
  | k + 1, h => by unfold rlT; rw [rlT_congr k (fun j hj => h j (by omega)), h k (by omega)]
/-- What is wrong with a set of n jobs. -/
def bdF (n : Nat) : Int → List Int → Int
  | _, [] => 0
  | p, y :: J => if inB y 0 ((n : Int) - 1) = false then 6 else if y ≤ p then 9 else bdF n y J
def cbErr (n : Nat) (J : List Int) : Int := if J.length = 0 then 10 else bdF n (-1) J
def prevJ (J : List Int) (k : Nat) : Int := (J.take k).foldl (fun _ y => y) (-1)
theorem prevJ_next {J : List Int} {k : Nat} (hk : k < J.length) : prevJ J (k + 1) = J[k] := by
  unfold prevJ; rw [fold_step hk]
theorem bdF_at {n : Nat} {J : List Int} {k : Nat} {p : Int} (hk : k < J.length) : bdF n p (J.drop k) = if inB J[k] 0 ((n : Int) - 1) = false then 6 else if J[k] ≤ p then 9 else bdF n J[k] (J.drop (k + 1)) := by
  rw [List.drop_eq_getElem_cons hk]; rfl
theorem bd_right {n : Nat} : ∀ {J : List Int} {p : Int}, bdF n p J = 0 → (∀ y ∈ J, p < y ∧ 0 ≤ y ∧ y < n) ∧ J.Nodup
  | [], _, _ => ⟨fun y hy => (by cases hy), List.nodup_nil⟩
  | x :: J, p, h => by
    unfold bdF at h
    split at h
    · cases h
    rename_i h1
    split at h
    · cases h
    rename_i h2
    have h1 := inB_iff.1 (by simpa using h1)
    obtain ⟨h3, h4⟩ := bd_right h
    refine ⟨fun y hy => ?_, List.nodup_cons.2 ⟨fun hm => by have := (h3 x hm).1; omega, h4⟩⟩
    rcases List.mem_cons.1 hy with rfl | hy
    · omega
    · have := h3 y hy; omega
def rdyI (L : List Job) (J : List Int) : Int := J.foldl (fun a y => min a (L.getD y.toNat noJob).ready) 9223372036854775807
def smI (L : List Job) (J : List Int) : Int := J.foldl (fun a y => a + (L.getD y.toNat noJob).mins) 0
def duI (L : List Job) (J : List Int) : Int := J.foldl (fun a y => max a (L.getD y.toNat noJob).due) 0
def bdI (L : List Job) (J : List Int) : Int := rdyI L J + smI L J - duI L J
def cbR (L : List Job) (J : List Int) : Int × Int := if cbErr L.length J = 0 then (bdI L J, 0) else (0, cbErr L.length J)
theorem min_fold {α : Type} (f : α → Int) : ∀ (J : List α) (a : Int), J.foldl (fun a y => min a (f y)) a ≤ a ∧ ∀ y ∈ J, J.foldl (fun a y => min a (f y)) a ≤ f y
  | [], a => ⟨Int.le_refl _, fun y hy => by cases hy⟩
  | x :: J, a => by
    obtain ⟨h1, h2⟩ := min_fold f J (min a (f x))
    rw [List.foldl_cons]
    refine ⟨by omega, fun y hy => ?_⟩
    rcases List.mem_cons.1 hy with rfl | hy
    · omega
    · exact h2 y hy
theorem max_fold {α : Type} (f : α → Int) : ∀ (J : List α) (a : Int), a ≤ J.foldl (fun a y => max a (f y)) a ∧ ∀ y ∈ J, f y ≤ J.foldl (fun a y => max a (f y)) a
  | [], a => ⟨Int.le_refl _, fun y hy => by cases hy⟩
  | x :: J, a => by
    obtain ⟨h1, h2⟩ := max_fold f J (max a (f x))
    rw [List.foldl_cons]
    refine ⟨by omega, fun y hy => ?_⟩
    rcases List.mem_cons.1 hy with rfl | hy
    · omega
    · exact h2 y hy
theorem sum_fold {α : Type} (f : α → Int) : ∀ (J : List α) (a : Int), J.foldl (fun a y => a + f y) a = a + (J.map f).sum
  | [], a => by simp
  | x :: J, a => by rw [List.foldl_cons, sum_fold f J]; simp; omega
/-- What is done of a set. -/
def totJ (J : List Int) (D : List Int) : Int := (J.map fun y => D.getD y.toNat 0).sum
theorem totJ_set {J : List Int} {D : List Int} {i : Nat} {v : Int} (hi : i < D.length) (hnd : J.Nodup) (h0 : ∀ y ∈ J, 0 ≤ y) : totJ J (D.set i v) = totJ J D + if (i : Int) ∈ J then v - D.getD i 0 else 0 := by
  induction J with
  | nil => simp [totJ]
  | cons x J ih =>
    obtain ⟨hx, hnd⟩ := List.nodup_cons.1 hnd
    have ih := ih hnd (fun y hy => h0 y (List.mem_cons_of_mem _ hy))
    unfold totJ at ih ⊢
    rw [List.map_cons, List.map_cons, List.sum_cons, List.sum_cons, ih, set_getD hi]
    have hx0 := h0 x List.mem_cons_self
    by_cases e : i = x.toNat
    · have e2 : (i : Int) = x := by omega
      rw [if_pos e, if_neg (by rw [e2]; exact hx), if_pos (by rw [e2]; exact List.mem_cons_self), e]; omega
    · have e2 : (i : Int) ≠ x := by omega
      rw [if_neg e]
      by_cases hm : (i : Int) ∈ J
      · rw [if_pos hm, if_pos (List.mem_cons_of_mem _ hm)]; omega
      · rw [if_neg hm, if_neg (fun h => by rcases List.mem_cons.1 h with h | h; exact e2 h; exact hm h)]; omega
theorem late_run {L : List Job} {J : List Int} {R : Int} (hnd : J.Nodup) (hJ : ∀ y ∈ J, 0 ≤ y ∧ y < L.length) (hR : ∀ y ∈ J, R ≤ (L.getD y.toNat noJob).ready) : ∀ (S : List Sl) (e : Int) (D M : List Int), schE L e S = 0 → D.length = L.length → M.length = L.length →
    (totJ J D = 0 ∨ ∃ j ∈ J, totJ J D ≤ M.getD j.toNat 0 + (L.getD j.toNat noJob).due - R ∧ M.getD j.toNat 0 + (L.getD j.toNat noJob).due ≤ e) →
    totJ J (S.foldl doneP D) = 0 ∨ ∃ j ∈ J, totJ J (S.foldl doneP D) ≤ (S.foldl (lateP L) M).getD j.toNat 0 + (L.getD j.toNat noJob).due - R
  | [], _, _, _, _, _, _, h => by
    rcases h with h | ⟨j, hj, h1, h2⟩
    · exact Or.inl h
    · exact Or.inr ⟨j, hj, h1⟩
  | s :: S, e, D, M, h0, hD, hM, h => by
    unfold schE at h0
    split at h0
    · exact absurd h0 ‹_›
    rename_i h1
    obtain ⟨⟨q1, q2⟩, ⟨q3, q4⟩, q5, q6, q7⟩ := sl_right (by simpa using h1 : slErr L e s = 0)
    rw [List.foldl_cons, List.foldl_cons]
    have hi : s.job.toNat < L.length := by omega
    have hii : ((s.job.toNat : Nat) : Int) = s.job := by omega
    refine late_run hnd hJ hR S _ (doneP D s) (lateP L M s) h0 (by unfold doneP; rw [List.length_set, hD]) (by unfold lateP; rw [List.length_set, hM]) ?_
    have ht : totJ J (doneP D s) = totJ J D + if s.job ∈ J then s.mins else 0 := by
      unfold doneP
      rw [totJ_set (by omega) hnd (fun y hy => (hJ y hy).1), hii]
      by_cases hm : s.job ∈ J
      · rw [if_pos hm, if_pos hm]; omega
      · rw [if_neg hm, if_neg hm]
    rw [ht]
    by_cases hm : s.job ∈ J
    · rw [if_pos hm]
      have hRs := hR _ hm
      refine Or.inr ⟨s.job, hm, ?_⟩
      unfold lateP
      rw [set_getD (by omega), if_pos rfl]
      rcases h with h | ⟨j, hj, h2, h3⟩
      · rw [h]; omega
      · omega
    · rw [if_neg hm, Int.add_zero]
      rcases h with h | ⟨j, hj, h2, h3⟩
      · exact Or.inl h
      · refine Or.inr ⟨j, hj, ?_⟩
        unfold lateP
        have hne : s.job.toNat ≠ j.toNat := fun e => hm (by have := (hJ j hj).1; rw [show s.job = j by omega]; exact hj)
        rw [set_getD (by omega), if_neg hne]
        omega
/-- No schedule has less lateness than the bound of a set. -/
theorem bound_le {L : List Job} {S : List Sl} {J : List Int} (hj : JobsOk L) (hs : csErr L S = 0) (hb : cbErr L.length J = 0) : bdI L J ≤ latI L S := by
  obtain ⟨-, h1, h2⟩ := cs_right hs
  unfold cbErr at hb
  split at hb
  · cases hb
  rename_i hJ0
  obtain ⟨h3, hnd⟩ := bd_right hb
  have hJ : ∀ y ∈ J, 0 ≤ y ∧ y < L.length := fun y hy => (h3 y hy).2
  have hR := (min_fold (fun y : Int => (L.getD y.toNat noJob).ready) J 9223372036854775807).2
  have hU := (max_fold (fun y : Int => (L.getD y.toNat noJob).due) J 0).2
  have hS := sum_fold (fun y : Int => (L.getD y.toNat noJob).mins) J 0
  have hrun := late_run hnd hJ hR S 0 (List.replicate L.length 0) (List.replicate L.length 0) h1 (by simp) (by simp) (Or.inl (by
    unfold totJ
    have : ∀ J : List Int, (J.map fun y => (List.replicate L.length (0 : Int)).getD y.toNat 0).sum = 0 := by
      intro J
      induction J with
      | nil => rfl
      | cons y J ih =>
        rw [List.map_cons, List.sum_cons, ih, List.getD_eq_getElem?_getD, List.getElem?_replicate]
        split <;> rfl
    exact this J))
  have hD : totJ J (S.foldl doneP (List.replicate L.length 0)) = (J.map fun y => (L.getD y.toNat noJob).mins).sum := by
    unfold totJ
    congr 1
    refine List.map_congr_left (fun y hy => ?_)
    exact h2 y.toNat (by have := hJ y hy; omega)
  have hpos : 0 < (J.map fun y => (L.getD y.toNat noJob).mins).sum := by
    rcases J with _ | ⟨y, J⟩
    · simp at hJ0
    · have h4 : ∀ K : List Int, (∀ y ∈ K, 0 ≤ y ∧ y < L.length) → 0 ≤ (K.map fun y => (L.getD y.toNat noJob).mins).sum := by
        intro K
        induction K with
        | nil => intro _; simp
        | cons z K ih =>
          intro hK
          have h5 := hK z List.mem_cons_self
          have h6 : 1 ≤ (L.getD z.toNat noJob).mins := by
            have hz : z.toNat < L.length := by omega
            rw [List.getD_eq_getElem?_getD, List.getElem?_eq_getElem hz]; exact (hj _ (List.getElem_mem hz)).2.2.1
          have h7 := ih (fun y hy => hK y (List.mem_cons_of_mem _ hy))
          rw [List.map_cons, List.sum_cons]; omega
      have h5 := hJ y List.mem_cons_self
      have h6 : 1 ≤ (L.getD y.toNat noJob).mins := by
        have hz : y.toNat < L.length := by omega
        rw [List.getD_eq_getElem?_getD, List.getElem?_eq_getElem hz]; exact (hj _ (List.getElem_mem hz)).2.2.1
      have h7 := h4 J (fun z hz => hJ z (List.mem_cons_of_mem _ hz))
      rw [List.map_cons, List.sum_cons]; omega
  rw [hD] at hrun
  rcases hrun with h | ⟨j, hjJ, h⟩
  · omega
  · have h8 := hU j hjJ
    have h9 := hJ j hjJ
    have hlen := lateL_len L S
    have h10 := (rlT_all (M := lateL L S) (by omega)).2 j.toNat (by omega)
    unfold bdI rdyI smI duI latI
    rw [hS]
    unfold lateL at h10 ⊢
    omega
end Go.Proofs.Ytpplcbpnojggcaa

namespace Go.Proofs.Ytpplcbpnojggcaa
open Go.RowKit

set_option maxRecDepth 100000 in
set_option maxHeartbeats 2000000 in
theorem errorOfSlice_any (L : List Job) (a : Option Addr) (n c : Nat) (s : Sl) (e : Int) (w : World) (hn : n = L.length) (hr : RowsG 4 jobV w a L) (hl1 : 1 ≤ L.length) (hl : L.length ≤ 20) :
    Calls Try.prog 125 #[.slice a n c, .agg #[.int .i64 s.job, .int .i64 s.from_, .int .i64 s.mins], .int .i64 e] w (CheckPost (slErr L e s) w) := by
  subst hn
  obtain ⟨sj, sf, sm⟩ := s
  dsimp only
  have bx := BoxAt.new w #[.int .i64 sj, .int .i64 sf, .int .i64 sm] 113
  have hb0 := (Below.refl w.heap.size w).alloc (Nat.le_refl _) (.cells #[.int .i64 sj, .int .i64 sf, .int .i64 sm] 113)
  have HR := Lib.hid (hr.alloc (.cells #[.int .i64 sj, .int .i64 sf, .int .i64 sm] 113))
  have HDEF := Lib.hid (show slErr L e ⟨sj, sf, sm⟩ = if inB sj 0 ((L.length : Int) - 1) = false then 6 else if okJobMin sm = false then 2 else if inB sf 0 20000000 = false then 2 else if sf < (L.getD sj.toNat noJob).ready then 19 else if sf < e then 17 else 0 from rfl)
  obtain ⟨R, hR⟩ : ∃ R, R = slErr L e ⟨sj, sf, sm⟩ := ⟨_, rfl⟩
  rw [← hR] at HDEF ⊢
  clear hR hr
  have hw1 : IntKind.i64.wrap ((L.length : Int) - 1) = (L.length : Int) - 1 := IntWalk.i64_in _ (by omega)
  go_enter Try.func125, Try.ntmps125
  go_wp2_with fail
  obtain ⟨w0, hw0⟩ : ∃ w0, w0 = w.alloc (.cells #[.int .i64 sj, .int .i64 sf, .int .i64 sm] 113) := ⟨_, rfl⟩
  rw [← hw0] at bx hb0 HR ⊢
  clear hw0
  have b0 : w0.cell? ⟨w.heap.size, 0, none⟩ = some (.int .i64 sj) := bx.cell 0
  have b1 : w0.cell? ⟨w.heap.size, 1, none⟩ = some (.int .i64 sf) := bx.cell 1
  have b2 : w0.cell? ⟨w.heap.size, 2, none⟩ = some (.int .i64 sm) := bx.cell 2
  have lx := bx.lt
  have HB := Lib.hid hb0
  clear bx hb0
  cases h1 : inB sj 0 ((L.length : Int) - 1)
  · have HE := Lib.hid (show R = 6 by rw [HDEF.out, if_pos h1])
    go_wp2_with (go_at_call 85; refine (isFrom_any _ _ _ _).mono ?_; rintro e w' ⟨rfl, rfl⟩)
    go_ret
    exact ⟨ret_int HE.out.symm, HB.out⟩
  cases h2 : okJobMin sm
  · have HE := Lib.hid (show R = 2 by rw [HDEF.out, if_neg (by rw [h1]; decide), if_pos h2])
    have H1 := Lib.hid h1
    go_wp2_with (first | (go_at_call 85; refine (isFrom_any _ _ _ _).mono ?_; rintro e w' ⟨rfl, rfl⟩; rw [H1.out]) | (go_at_call 123; refine (isJobMinutes_any _ _).mono ?_; rintro e w' ⟨rfl, rfl⟩))
    go_ret
    exact ⟨ret_int HE.out.symm, HB.out⟩
  cases h3 : inB sf 0 20000000
  · have HE := Lib.hid (show R = 2 by rw [HDEF.out, if_neg (by rw [h1]; decide), if_neg (by rw [h2]; decide), if_pos h3])
    have H1 := Lib.hid h1; have H2 := Lib.hid h2; have H3 := Lib.hid h3
    go_wp2_with (first | (go_at_call 85; refine (isFrom_any _ _ _ _).mono ?_; rintro e w' ⟨rfl, rfl⟩; (first | rw [H1.out] | rw [H3.out])) | (go_at_call 123; refine (isJobMinutes_any _ _).mono ?_; rintro e w' ⟨rfl, rfl⟩; rw [H2.out]))
    go_ret
    exact ⟨ret_int HE.out.symm, HB.out⟩
  have H1 := Lib.hid h1; have H2 := Lib.hid h2; have H3 := Lib.hid h3
  have hj := inB_iff.1 h1
  obtain ⟨j, rfl⟩ : ∃ j : Nat, sj = j := ⟨sj.toNat, by omega⟩
  have hjl : j < L.length := by omega
  obtain ⟨ad, rfl, hau, -, t1, -, -⟩ := HR.out.job hjl
  have HDF2 := Lib.hid (show R = if sf < L[j].ready then 19 else if sf < e then 17 else 0 by rw [HDEF.out, if_neg (by rw [h1]; decide), if_neg (by rw [h2]; decide), if_neg (by rw [h3]; decide), show ((j : Int)).toNat = j by omega, job_getD hjl])
  obtain ⟨rd, hrd⟩ : ∃ rd, rd = L[j].ready := ⟨_, rfl⟩
  rw [← hrd] at t1 HDF2
  have hjl' : (j : Int) < (L.length : Int) := by omega
  clear hrd h1 h2 h3 hj HDEF
  by_cases h4 : sf < rd
  · have HE := Lib.hid (show R = 19 by rw [HDF2.out, if_pos h4])
    go_wp2_with (first | (go_at_call 85; refine (isFrom_any _ _ _ _).mono ?_; rintro e w' ⟨rfl, rfl⟩; (first | rw [H1.out] | rw [H3.out])) | (go_at_call 123; refine (isJobMinutes_any _ _).mono ?_; rintro e w' ⟨rfl, rfl⟩; rw [H2.out]))
    go_quiet (fail)
    go_wp2
    go_ret
    exact ⟨ret_int HE.out.symm, below_drewN HB.out _⟩
  have h4' := decide_eq_false h4
  by_cases h5 : sf < e
  · have HE := Lib.hid (show R = 17 by rw [HDF2.out, if_neg h4, if_pos h5])
    clear h4
    go_wp2_with (first | (go_at_call 85; refine (isFrom_any _ _ _ _).mono ?_; rintro e w' ⟨rfl, rfl⟩; (first | rw [H1.out] | rw [H3.out])) | (go_at_call 123; refine (isJobMinutes_any _ _).mono ?_; rintro e w' ⟨rfl, rfl⟩; rw [H2.out]))
    go_quiet (fail)
    go_wp2
    go_ret
    exact ⟨ret_int HE.out.symm, below_drewN HB.out _⟩
  · have HE := Lib.hid (show R = 0 by rw [HDF2.out, if_neg h4, if_neg h5])
    have h5' := decide_eq_false h5
    clear h4 h5
    go_wp2_with (first | (go_at_call 85; refine (isFrom_any _ _ _ _).mono ?_; rintro e w' ⟨rfl, rfl⟩; (first | rw [H1.out] | rw [H3.out])) | (go_at_call 123; refine (isJobMinutes_any _ _).mono ?_; rintro e w' ⟨rfl, rfl⟩; rw [H2.out]))
    go_quiet (fail)
    go_wp2
    go_ret
    exact ⟨ret_int HE.out.symm, below_drewN HB.out _⟩
theorem rdy_next {L : List Job} {J : List Int} {k : Nat} (hk : k < J.length) : rdyI L (J.take (k + 1)) = min (rdyI L (J.take k)) (L.getD J[k].toNat noJob).ready := by unfold rdyI; rw [fold_step hk]
theorem sm_next {L : List Job} {J : List Int} {k : Nat} (hk : k < J.length) : smI L (J.take (k + 1)) = smI L (J.take k) + (L.getD J[k].toNat noJob).mins := by unfold smI; rw [fold_step hk]
theorem du_next {L : List Job} {J : List Int} {k : Nat} (hk : k < J.length) : duI L (J.take (k + 1)) = max (duI L (J.take k)) (L.getD J[k].toNat noJob).due := by unfold duI; rw [fold_step hk]
/-- Bounds of what a set comes to. -/
theorem bd_bds {L : List Job} (hj : JobsOk L) {J : List Int} (hJ : ∀ y ∈ J, 0 ≤ y ∧ y < L.length) : ∀ k, k ≤ J.length → (0 ≤ rdyI L (J.take k) ∧ (0 < k → rdyI L (J.take k) ≤ 10000000) ∧ rdyI L (J.take k) ≤ 9223372036854775807) ∧ (0 ≤ smI L (J.take k) ∧ smI L (J.take k) ≤ 10000 * k) ∧ (0 ≤ duI L (J.take k) ∧ duI L (J.take k) ≤ 10000000)
  | 0, _ => by simp [rdyI, smI, duI]
  | k + 1, hk => by
    have h1 := bd_bds hj hJ k (by omega)
    have hk2 : k < J.length := by omega
    have h2 := hJ _ (List.getElem_mem hk2)
    have hz : (J[k]).toNat < L.length := by omega
    have h3 := hj _ (List.getElem_mem hz)
    rw [rdy_next hk2, sm_next hk2, du_next hk2, job_getD hz]
    omega
set_option maxRecDepth 100000 in
set_option maxHeartbeats 4000000 in
theorem boundOf_any (L : List Job) (a : Option Addr) (n c : Nat) (J : List Int) (ja : Option Addr) (jn jc : Nat) (w : World) (hn : n = L.length) (hjn : jn = J.length) (hr : RowsG 4 jobV w a L) (hJ : RowsAt 1 intL w ja J) (hj0 : 0 < J.length) (hjl : J.length ≤ 1000000) (hok : JobsOk L) (hin : ∀ y ∈ J, 0 ≤ y ∧ y < L.length) :
    Calls Try.prog 124 #[.slice a n c, .slice ja jn jc] w fun e w' => e = .returned (.int .i64 (bdI L J)) ∧ w = w' := by
  subst hn; subst hjn
  have HR := Lib.hid hr; have HJ := Lib.hid hJ; have HIN := Lib.hid hin
  have HBD := Lib.hid (bd_bds hok hin)
  clear hr hJ hin hok
  go_enter Try.func124, Try.ntmps124
  go_wp2_with fail
  go_loop [5, 6, 7, 12] (fun r s d i => ∃ k : Nat, k ≤ J.length ∧ i = .int .i64 k ∧ r = .int .i64 (rdyI L (J.take k)) ∧ s = .int .i64 (smI L (J.take k)) ∧ d = .int .i64 (duI L (J.take k))) (fun _ _ _ i => J.length - (intOf i).toNat)
  case atStart => exact ⟨0, Nat.zero_le _, rfl, rfl, rfl, rfl⟩
  case round =>
    obtain ⟨k, hk, rfl, rfl, rfl, rfl⟩ := hrel
    have hb := HBD.out k hk
    by_cases hlt : k < J.length
    · obtain ⟨ad, rfl, had, s0⟩ := HJ.out.int hlt
      have hi := HIN.out _ (List.getElem_mem hlt)
      have HN1 := Lib.hid (rdy_next (L := L) hlt); have HN2 := Lib.hid (sm_next (L := L) hlt); have HN3 := Lib.hid (du_next (L := L) hlt)
      have hb2 := HBD.out (k + 1) hlt
      obtain ⟨y, ey⟩ : ∃ y, y = J[k] := ⟨_, rfl⟩
      rw [← ey] at s0 hi HN1 HN2 HN3
      obtain ⟨j, rfl⟩ : ∃ j : Nat, y = j := ⟨y.toNat, by omega⟩
      have hjL : j < L.length := by omega
      rw [show ((j : Int)).toNat = j by omega, job_getD hjL] at HN1 HN2 HN3
      obtain ⟨ad2, rfl, hau, -, t1, t2, t3⟩ := HR.out.job hjL
      obtain ⟨x, ex⟩ : ∃ x, x = L[j] := ⟨_, rfl⟩
      rw [← ex] at t1 t2 t3 HN1 HN2 HN3
      obtain ⟨xn, xr, xm, xd⟩ := x
      dsimp only at t1 t2 t3 HN1 HN2 HN3
      rw [HN2.out] at hb2
      obtain ⟨r, hr⟩ : ∃ r, r = rdyI L (J.take k) := ⟨_, rfl⟩
      obtain ⟨s, hs⟩ : ∃ s, s = smI L (J.take k) := ⟨_, rfl⟩
      obtain ⟨d, hd⟩ : ∃ d, d = duI L (J.take k) := ⟨_, rfl⟩
      rw [← hr] at HN1 hb ⊢
      rw [← hs] at HN2 hb hb2 ⊢
      rw [← hd] at HN3 hb ⊢
      have hjL' : (j : Int) < (L.length : Int) := by omega
      have hkJ : (k : Int) < (J.length : Int) := by omega
      have hw1 : IntKind.i64.wrap (s + xm) = s + xm := IntWalk.i64_in _ (by omega)
      clear ey ex hr hs hd hb hb2 hi
      go_wp2
      go_round
      case rel => exact ⟨k + 1, by omega, by go_num, by rw [HN1.out], by rw [HN2.out], by rw [HN3.out]⟩
      case measure => simp [intOf]; omega
    · obtain rfl : k = J.length := by omega
      rw [List.take_length] at hb ⊢
      have HE := Lib.hid (show bdI L J = rdyI L J + smI L J - duI L J from rfl)
      obtain ⟨r, hr⟩ : ∃ r, r = rdyI L J := ⟨_, rfl⟩
      obtain ⟨s, hs⟩ : ∃ s, s = smI L J := ⟨_, rfl⟩
      obtain ⟨d, hd⟩ : ∃ d, d = duI L J := ⟨_, rfl⟩
      rw [← hr, ← hs, ← hd] at hb HE ⊢
      obtain ⟨hb1, hb2, hb3⟩ := hb
      have hr2 := hb1.2.1 hj0
      have hw1 : IntKind.i64.wrap (r + s) = r + s := IntWalk.i64_in _ (by omega)
      have hw2 : IntKind.i64.wrap (r + s - d) = r + s - d := IntWalk.i64_in _ (by omega)
      clear hr hs hd hb1 hb2 hb3 hr2
      go_wp2
      go_ret
      exact ⟨ret_int HE.out.symm, rfl⟩
/-- What CheckBound returns. -/
def cbF (L : List Job) (J : List Int) : Int × Int := if jobsErr L ≠ 0 then (0, jobsErr L) else cbR L J
set_option maxRecDepth 100000 in
set_option maxHeartbeats 4000000 in
theorem checkBound_any (L : List Job) (a : Option Addr) (n c : Nat) (J : List Int) (ja : Option Addr) (jn jc : Nat) (w : World) (hn : n = L.length) (hjn : jn = J.length) (hr : RowsG 4 jobV w a L) (hl : L.length ≤ maxLen) (hsz : ∀ x ∈ L, x.name.size ≤ maxLen) (hJ : RowsAt 1 intL w ja J) (hjl : J.length ≤ 1000000) :
    Calls Try.prog 67 #[.slice a n c, .slice ja jn jc] w (TwoPost (cbF L J) w) := by
  subst hn; subst hjn
  have HCJ := Lib.hid (checkJobs_any L a c w hr hl hsz)
  have HR := Lib.hid hr; have HJ := Lib.hid hJ
  have HDEF := Lib.hid (show cbF L J = if jobsErr L ≠ 0 then (0, jobsErr L) else if cbErr L.length J = 0 then (bdI L J, 0) else (0, cbErr L.length J) from rfl)
  obtain ⟨R, hR⟩ : ∃ R, R = cbF L J := ⟨_, rfl⟩
  rw [← hR] at HDEF ⊢
  clear hR hr hJ hsz hl
  go_enter Try.func67, Try.ntmps67
  by_cases h0 : jobsErr L = 0
  · have HD1 := Lib.hid (show R = if cbErr L.length J = 0 then (bdI L J, 0) else (0, cbErr L.length J) by rw [HDEF.out, if_neg (by simp [h0])])
    obtain ⟨⟨hl1, hl20⟩, hok⟩ := jobs_ok h0
    have HOK : Hid (JobsOk L) := Lib.hid hok
    have H0 := Lib.hid h0
    clear h0 HDEF hok
    by_cases hj0 : J.length = 0
    · have HE := Lib.hid (show R = (0, 10) by rw [HD1.out]; unfold cbErr; rw [if_pos hj0, if_neg (by decide)])
      have hj0' : ((J.length : Int) == 0) = true := by simp [hj0]
      clear hj0
      go_wp2_with (go_at_call 63; refine HCJ.out.mono ?_; rintro e w1 ⟨rfl, hb1⟩; rw [H0.out])
      go_ret2
      exact ⟨two_to HE.out, hb1⟩
    have HCB := Lib.hid (show cbErr L.length J = bdF L.length (prevJ J 0) (J.drop 0) by unfold cbErr; rw [if_neg hj0]; rfl)
    have hj0' : ((J.length : Int) == 0) = false := by rw [beq_eq_false_iff_ne]; omega
    have HJ0 := Lib.hid (show 0 < J.length by omega)
    clear hj0
    go_wp2_with (go_at_call 63; refine HCJ.out.mono ?_; rintro e w1 ⟨rfl, hb1⟩; rw [H0.out])
    have HR1 := Lib.hid (HR.out.below hb1); have HJ1 := Lib.hid (HJ.out.below hb1); have HB1 := Lib.hid hb1
    have hw1 : IntKind.i64.wrap ((L.length : Int) - 1) = (L.length : Int) - 1 := IntWalk.i64_in _ (by omega)
    clear hb1 hj0'
    go_loop [7, 20] (fun p i => ∃ k : Nat, k ≤ J.length ∧ i = .int .i64 k ∧ p = .int .i64 (prevJ J k) ∧ Hid (cbErr L.length J = bdF L.length (prevJ J k) (J.drop k))) (fun _ i => J.length - (intOf i).toNat)
    case atStart => exact ⟨0, Nat.zero_le _, rfl, rfl, HCB⟩
    case round =>
      obtain ⟨k, hk, rfl, rfl, HC⟩ := hrel
      by_cases hlt : k < J.length
      · obtain ⟨ad, rfl, had, s0⟩ := HJ1.out.int hlt
        have HAT := Lib.hid (bdF_at (n := L.length) (p := prevJ J k) hlt)
        have HPN := Lib.hid (prevJ_next hlt)
        obtain ⟨y, ey⟩ : ∃ y, y = J[k] := ⟨_, rfl⟩
        obtain ⟨p, hp⟩ : ∃ p, p = prevJ J k := ⟨_, rfl⟩
        rw [← ey] at s0 HAT HPN
        rw [← hp] at HAT HC ⊢
        have hkJ : (k : Int) < (J.length : Int) := by omega
        clear ey hp
        cases hin : inB y 0 ((L.length : Int) - 1)
        · have HE := Lib.hid (show R = (0, 6) by
            have h9 : cbErr L.length J = 6 := by rw [HC.out, HAT.out, if_pos hin]
            rw [HD1.out, h9, if_neg (by decide)])
          go_wp2_with (go_at_call 85; refine (isFrom_any _ _ _ _).mono ?_; rintro e w' ⟨rfl, rfl⟩)
          go_ret2
          exact ⟨two_to HE.out, HB1.out⟩
        · have HIN := Lib.hid hin
          by_cases hle : y ≤ p
          · have HE := Lib.hid (show R = (0, 9) by
              have h9 : cbErr L.length J = 9 := by rw [HC.out, HAT.out, if_neg (by rw [HIN.out]; decide), if_pos hle]
              rw [HD1.out, h9, if_neg (by decide)])
            go_wp2_with (go_at_call 85; refine (isFrom_any _ _ _ _).mono ?_; rintro e w' ⟨rfl, rfl⟩; rw [HIN.out])
            go_ret2
            exact ⟨two_to HE.out, HB1.out⟩
          · have HN := Lib.hid (show cbErr L.length J = bdF L.length (prevJ J (k + 1)) (J.drop (k + 1)) by rw [HC.out, HAT.out, if_neg (by rw [HIN.out]; decide), if_neg hle, HPN.out])
            have hle' := decide_eq_false hle
            clear hin
            go_wp2_with (go_at_call 85; refine (isFrom_any _ _ _ _).mono ?_; rintro e w' ⟨rfl, rfl⟩; rw [HIN.out])
            go_round
            case rel => exact ⟨k + 1, by omega, by go_num, by rw [HPN.out], HN⟩
            case measure => simp [intOf]; omega
      · have HE0 := Lib.hid (show cbErr L.length J = 0 by rw [HC.out, List.drop_of_length_le (by omega)]; rfl)
        have HE := Lib.hid (show R = (bdI L J, 0) by rw [HD1.out, if_pos HE0.out])
        have HBO := Lib.hid (boundOf_any L a L.length c J ja J.length jc w1 rfl rfl HR1.out HJ1.out HJ0.out hjl HOK.out (by
          have h9 := HE0.out
          unfold cbErr at h9
          rw [if_neg (by have := HJ0.out; omega)] at h9
          exact fun y hy => ((bd_right h9).1 y hy).2))
        obtain ⟨B, hB⟩ : ∃ B, B = bdI L J := ⟨_, rfl⟩
        rw [← hB] at HE HBO
        clear hB
        go_wp2_with (go_at_call 124; refine HBO.out.mono ?_; rintro e w' ⟨rfl, rfl⟩)
        go_ret2
        exact ⟨two_to HE.out, HB1.out⟩
  · have HE := Lib.hid (show R = (0, jobsErr L) by rw [HDEF.out, if_pos h0])
    have h0' : (jobsErr L != 0) = true := by simpa using h0
    obtain ⟨je, hje⟩ : ∃ je, je = jobsErr L := ⟨_, rfl⟩
    rw [← hje] at HCJ HE h0'
    clear h0 HDEF hje
    go_wp2_with (go_at_call 63; refine HCJ.out.mono ?_; rintro e w1 ⟨rfl, hb1⟩)
    go_ret2
    exact ⟨two_to HE.out, hb1⟩
end Go.Proofs.Ytpplcbpnojggcaa

namespace Go.Proofs.Ytpplcbpnojggcaa
open Go.RowKit

/-- What CheckSchedule returns. -/
def csF (L : List Job) (S : List Sl) : Int × Int × Int := if jobsErr L ≠ 0 then (0, 0, jobsErr L) else csR L S
def TriPost (p : Int × Int × Int) (w : World) (e : Ending) (w' : World) : Prop := e = .returned (.tuple #[.int .i64 p.1, .int .i64 p.2.1, .int .i64 p.2.2]) ∧ Below w.heap.size w w'
theorem results_tri {fn : Func} {tmps : Array Value} {w : World} {P : Program} {i j k : Nat} (hf : fn.results = #[.tmp i, .tmp j, .tmp k]) : (results fn tmps).run P w = .ok (.tuple #[tmps.getD i undef, tmps.getD j undef, tmps.getD k undef]) w := by
  simp [results, hf, go_sem]
theorem tri_to {p : Int × Int × Int} {x y z : Int} (h : p = (x, y, z)) : Ending.returned (.tuple #[.int .i64 x, .int .i64 y, .int .i64 z]) = .returned (.tuple #[.int .i64 p.1, .int .i64 p.2.1, .int .i64 p.2.2]) := by rw [h]
theorem done_bd0 {L : List Job} {S : List Sl} (h : ∀ s ∈ S, 1 ≤ s.mins ∧ s.mins ≤ 10000) : ∀ y ∈ doneL L.length S, 0 ≤ y ∧ y ≤ 10000 * S.length := fun y hy => by
  have := done_bd (L := L) S (List.replicate L.length 0) 0 h (Int.le_refl _) (fun z hz => by rw [List.eq_of_mem_replicate hz]; omega) y hy
  omega
theorem doneL_len (n : Nat) (S : List Sl) : (doneL n S).length = n := by unfold doneL; rw [doneF_len, List.length_replicate]
set_option maxRecDepth 100000 in
set_option maxHeartbeats 8000000 in
theorem checkSchedule_any (L : List Job) (a : Option Addr) (n c : Nat) (S : List Sl) (sa : Option Addr) (sn sc : Nat) (w : World) (hn : n = L.length) (hsn : sn = S.length) (hr : RowsG 4 jobV w a L) (hl : L.length ≤ maxLen) (hsz : ∀ x ∈ L, x.name.size ≤ maxLen) (hS : RowsAt 3 Sl.l w sa S) (hsl : S.length ≤ 1000000) :
    Calls Try.prog 68 #[.slice a n c, .slice sa sn sc] w (TriPost (csF L S) w) := by
  subst hn; subst hsn
  have HCJ := Lib.hid (checkJobs_any L a c w hr hl hsz)
  have HR := Lib.hid hr; have HS := Lib.hid hS
  have HDEF := Lib.hid (show csF L S = if jobsErr L ≠ 0 then (0, 0, jobsErr L) else if csErr L S = 0 then (latI L S, latJ L S, 0) else (0, 0, csErr L S) from rfl)
  obtain ⟨R, hR⟩ : ∃ R, R = csF L S := ⟨_, rfl⟩
  rw [← hR] at HDEF ⊢
  clear hR hr hS hsz hl
  go_enter Try.func68, Try.ntmps68
  by_cases h0 : jobsErr L = 0
  · have HD1 := Lib.hid (show R = if csErr L S = 0 then (latI L S, latJ L S, 0) else (0, 0, csErr L S) by rw [HDEF.out, if_neg (by simp [h0])])
    obtain ⟨⟨hl1, hl20⟩, hok⟩ := jobs_ok h0
    have HOK : Hid (JobsOk L) := Lib.hid hok
    have H0 := Lib.hid h0
    clear h0 HDEF hok
    by_cases hs1 : 100 < S.length
    · have HE := Lib.hid (show R = (0, 0, 8) by
        have h9 : csErr L S = 8 := by unfold csErr; rw [if_pos hs1]
        rw [HD1.out, h9, if_neg (by decide)])
      have hs1' : (100 : Int) < (S.length : Int) := by omega
      clear hs1
      go_wp2_with (go_at_call 63; refine HCJ.out.mono ?_; rintro e w1 ⟨rfl, hb1⟩; rw [H0.out])
      (try simp only [Exit.inBlock, Exit.then]); refine bodyPost_ret (results_tri rfl) rfl ?_
      exact ⟨tri_to HE.out, hb1⟩
    have HCS := Lib.hid (show csErr L S = if schE L 0 S ≠ 0 then schE L 0 S else if DoneOk L (doneL L.length S) then 0 else 23 by unfold csErr; rw [if_neg hs1])
    have hs1' : ¬ (100 : Int) < (S.length : Int) := by omega
    have HS1 := Lib.hid hs1
    have hmk := fun W => make_int L.length (by omega) W
    clear hs1
    go_wp2_with (go_at_call 63; refine HCJ.out.mono ?_; rintro e w1 ⟨rfl, hb1⟩; rw [H0.out])
    have HR1 := Lib.hid (HR.out.below hb1); have HSS1 := Lib.hid (HS.out.below hb1); have HB1 := Lib.hid hb1
    have im := IBox.made w1 L.length
    have hB0 := (Below.refl w1.heap.size w1).alloc (Nat.le_refl _) (.cells (madeCells #[.int .i64 0] L.length) 3)
    obtain ⟨w0, hw0⟩ : ∃ w0, w0 = w1.alloc (.cells (madeCells #[.int .i64 0] L.length) 3) := ⟨_, rfl⟩
    rw [← hw0] at im hB0 ⊢
    clear hw0 hmk hb1 hs1'
    go_loopw [9, 30] (fun m i wr => ∃ k : Nat, k ≤ S.length ∧ i = .int .i64 k ∧ m = .int .i64 (endS (S.take k)) ∧ IBox wr w1.heap.size ((S.take k).foldl doneP (List.replicate L.length 0)) ∧ Hid (schE L 0 S = schE L (endS (S.take k)) (S.drop k)) ∧ Hid (∀ s ∈ S.take k, 1 ≤ s.mins ∧ s.mins ≤ 10000) ∧ Below w1.heap.size w1 wr) (fun _ i _ => S.length - (intOf i).toNat)
    case atStart => exact ⟨0, Nat.zero_le _, rfl, rfl, im, Lib.hid rfl, Lib.hid (fun s hs => by simp at hs), hB0⟩
    case round =>
      obtain ⟨k, hk, rfl, rfl, ib, HC, HMI, hB⟩ := hrel
      clear im hB0
      by_cases hlt : k < S.length
      · obtain ⟨ad, rfl, had, s0, s1, s2⟩ := (HSS1.out.below hB).sl3 hlt
        have HSTOP := Lib.hid (fun h => schE_stop (L := L) (e := endS (S.take k)) hlt h)
        have HGO := Lib.hid (fun h => schE_go (L := L) (e := endS (S.take k)) hlt h)
        have HEN := Lib.hid (endS_next hlt)
        have HST := Lib.hid (fold_step (f := doneP) (b := List.replicate L.length 0) hlt)
        have HTK := Lib.hid (List.take_succ_eq_append_getElem hlt)
        have HDB := Lib.hid (done_bd0 (L := L) HMI.out)
        obtain ⟨x, ex⟩ : ∃ x, x = S[k] := ⟨_, rfl⟩
        rw [← ex] at s0 s1 s2 HSTOP HGO HEN HST HTK
        obtain ⟨xj, xf, xn⟩ := x
        dsimp only at s0 s1 s2 HGO HEN
        obtain ⟨e0, he0⟩ : ∃ e0, e0 = endS (S.take k) := ⟨_, rfl⟩
        rw [← he0] at HSTOP HGO HC ⊢
        have HTKL := Lib.hid (show (S.take k).length ≤ 100 by have := HS1.out; rw [List.length_take]; omega)
        have HDL : Hid (((S.take k).foldl doneP (List.replicate L.length 0)).length = L.length) := Lib.hid (doneL_len _ _)
        have HDB2 : Hid (∀ y ∈ (S.take k).foldl doneP (List.replicate L.length 0), 0 ≤ y ∧ y ≤ 1000000) := Lib.hid (fun y hy => by have h1 := HDB.out y hy; have h2 := HTKL.out; omega)
        obtain ⟨D, hD⟩ : ∃ D, D = (S.take k).foldl doneP (List.replicate L.length 0) := ⟨_, rfl⟩
        rw [← hD] at ib HST HDL HDB2
        have bx := BoxAt.new wr #[.int .i64 xj, .int .i64 xf, .int .i64 xn] 113
        have ib1 := ib.alloc (.cells #[.int .i64 xj, .int .i64 xf, .int .i64 xn] 113)
        have hB1 := hB.alloc hB.size (.cells #[.int .i64 xj, .int .i64 xf, .int .i64 xn] 113)
        have hil := ib.lt
        have HER := Lib.hid (errorOfSlice_any L a L.length c ⟨xj, xf, xn⟩ e0 (wr.alloc (.cells #[.int .i64 xj, .int .i64 xf, .int .i64 xn] 113)) rfl ((HR1.out.below hB).alloc _) hl1 hl20)
        dsimp only at HER
        obtain ⟨er, her⟩ : ∃ er, er = slErr L e0 ⟨xj, xf, xn⟩ := ⟨_, rfl⟩
        have HERR := Lib.hid her
        rw [← her] at HER HSTOP HGO
        clear ex he0 hD her hB ib
        by_cases h1 : er = 0
        · obtain ⟨⟨q1, q2⟩, ⟨q3, q4⟩, ⟨q5, q6⟩, -, -⟩ := sl_right (L := L) (e := e0) (s := ⟨xj, xf, xn⟩) (by rw [← HERR.out]; exact h1)
          dsimp only at q1 q2 q3 q4 q5 q6
          obtain ⟨j, rfl⟩ : ∃ j : Nat, xj = j := ⟨xj.toNat, by omega⟩
          have hjD : j < D.length := by have := HDL.out; omega
          have HG := Lib.hid (HGO.out h1)
          have HDN := Lib.hid (show doneP D ⟨j, xf, xn⟩ = D.set j (D[j] + xn) by unfold doneP; dsimp only; rw [show ((j : Int)).toNat = j by omega, getD_eqI hjD])
          have hdb := HDB2.out _ (List.getElem_mem hjD)
          have HMN : Hid (∀ s ∈ S.take (k + 1), 1 ≤ s.mins ∧ s.mins ≤ 10000) := Lib.hid (fun s hs => by
            rw [HTK.out] at hs
            rcases List.mem_append.1 hs with h | h
            · exact HMI.out s h
            · rw [List.mem_singleton.1 h]; exact ⟨q3, q4⟩)
          have HEO := Lib.hid (fun W => endOf_any (j : Int) xf xn W q5 (by omega) (by omega) (by omega))
          subst h1
          go_wp2_with (go_at_call 125; refine HER.out.mono ?_; rintro e w3 ⟨rfl, hb3⟩; have B3 := bx.below hb3; have I3 := ib1.below hb3; have HB3 := Lib.hid (hB1.trans (hb3.mono hB1.size)); have k0 : w3.cell? ⟨wr.heap.size, 0, none⟩ = some (.int .i64 j) := B3.cell 0; have k1 : w3.cell? ⟨wr.heap.size, 1, none⟩ = some (.int .i64 xf) := B3.cell 1; have k2 : w3.cell? ⟨wr.heap.size, 2, none⟩ = some (.int .i64 xn) := B3.cell 2; have lx := B3.lt; have kd := IBox.cell I3 hjD; have fz := IBox.free I3 j; have li := IBox.lt I3; have HBX3 := Lib.hid B3; have HIB3 := Lib.hid I3; clear hb3 bx ib1 hB1 B3 I3)
          obtain ⟨d, hd⟩ : ∃ d, d = D[j] := ⟨_, rfl⟩
          rw [← hd] at kd hdb HDN
          have hw1 : IntKind.i64.wrap (d + xn) = d + xn := IntWalk.i64_in _ (by omega)
          have n1 : ¬ wr.heap.size = w1.heap.size := by omega
          have n2 : ¬ w1.heap.size = wr.heap.size := by omega
          have hjL : (j : Int) < (L.length : Int) := q2
          clear hd
          go_region
          obtain ⟨Y, hY⟩ : ∃ Y, Y = (w3.setCell ⟨w1.heap.size, j, none⟩ (.int .i64 (d + xn))).drew := ⟨_, rfl⟩
          have hBY : BoxAt Y wr.heap.size #[.int .i64 j, .int .i64 xf, .int .i64 xn] 113 := by rw [hY]; exact (HBX3.out.set_other (p := ⟨w1.heap.size, j, none⟩) n1 _).drew
          have hIY : IBox Y w1.heap.size (D.set j (d + xn)) := by rw [hY]; exact (IBox.set HIB3.out j (d + xn)).drew
          have hLY : Below w1.heap.size w1 Y := by rw [hY]; exact (HB3.out.setCell (p := ⟨w1.heap.size, j, none⟩) (Nat.le_refl _) _).drew
          rw [← hY]
          have k0 : Y.cell? ⟨wr.heap.size, 0, none⟩ = some (.int .i64 j) := hBY.cell 0
          have k1 : Y.cell? ⟨wr.heap.size, 1, none⟩ = some (.int .i64 xf) := hBY.cell 1
          have k2 : Y.cell? ⟨wr.heap.size, 2, none⟩ = some (.int .i64 xn) := hBY.cell 2
          have lY := hBY.lt
          rw [← HDN.out, ← HST.out] at hIY
          have HIY := Lib.hid hIY; have HLY := Lib.hid hLY
          clear hY hBY hIY hLY
          go_wp2_with (go_at_call 126; refine (HEO.out _).mono ?_; rintro e w4 ⟨rfl, hb4⟩; have HI4 := Lib.hid (IBox.below HIY.out hb4); have HL4 := Lib.hid (HLY.out.trans (hb4.mono HLY.out.size)); clear hb4)
          go_roundw
          case rel => exact ⟨k + 1, by omega, by go_num, by rw [HEN.out], HI4.out, Lib.hid (by rw [HC.out, HG.out, HEN.out]), HMN, HL4.out⟩
          case measure => simp [intOf]; omega
        · have HE := Lib.hid (show R = (0, 0, er) by
            have h9 : schE L 0 S = er := by rw [HC.out, HSTOP.out h1]
            have h10 : csErr L S = er := by rw [HCS.out, h9, if_pos h1]
            rw [HD1.out, h10, if_neg h1])
          have h1' : (er != 0) = true := by simpa using h1
          have HB1' := Lib.hid hB1
          clear h1 bx ib1 hB1
          go_wp2_with (go_at_call 125; refine HER.out.mono ?_; rintro e w3 ⟨rfl, hb3⟩)
          (try simp only [Exit.inBlock, Exit.then]); refine bodyPost_ret (results_tri rfl) rfl ?_
          exact ⟨tri_to HE.out, HB1.out.trans ((HB1'.out.trans (hb3.mono HB1'.out.size)).mono HB1.out.size)⟩
      · obtain rfl : k = S.length := by omega
        have HSC := Lib.hid (show schE L 0 S = 0 by rw [HC.out, List.drop_of_length_le (Nat.le_refl _)]; rfl)
        have HCS2 := Lib.hid (show csErr L S = if DoneOk L (doneL L.length S) then 0 else 23 by rw [HCS.out, if_neg (by rw [HSC.out]; decide)])
        rw [List.take_length] at ib HMI
        have HDL := Lib.hid (doneL_len L.length S)
        have hib : IBox wr w1.heap.size (doneL L.length S) := ib
        obtain ⟨D, hD⟩ : ∃ D, D = doneL L.length S := ⟨_, rfl⟩
        rw [← hD] at hib HDL HCS2
        clear ib hD
        go_wp2_with fail
        obtain ⟨wo, rfl⟩ : ∃ wo : World, wo = wr := ⟨_, rfl⟩
        go_loopw [55] (fun i wr => ∃ t : Nat, t ≤ L.length ∧ i = .int .i64 t ∧ Hid (∀ q, q < t → D.getD q 0 = (L.getD q noJob).mins) ∧ IBox wr w1.heap.size D ∧ Below w1.heap.size w1 wr) (fun i _ => L.length - (intOf i).toNat)
        case atStart => exact ⟨0, Nat.zero_le _, rfl, Lib.hid (fun q hq => by omega), hib, hB⟩
        case round =>
          obtain ⟨t, ht, rfl, HQ, ib, hB2⟩ := hrel
          clear hib hB
          by_cases hlt2 : t < L.length
          · obtain ⟨ad, rfl, hau, t0, t1, t2, t3⟩ := (HR1.out.below hB2).job hlt2
            have hgl : L.getD t noJob = L[t] := job_getD hlt2
            have HGL := Lib.hid hgl
            have htD : t < D.length := by have := HDL.out; omega
            obtain ⟨x, ex⟩ : ∃ x, x = L[t] := ⟨_, rfl⟩
            rw [← ex] at t0 t1 t2 t3 HGL
            obtain ⟨xnm, xr, xm, xd⟩ := x
            dsimp only at t0 t1 t2 t3
            have bj := BoxAt.new wr #[.string xnm, .int .i64 xr, .int .i64 xm, .int .i64 xd] 136
            have ib1 := ib.alloc (.cells #[.string xnm, .int .i64 xr, .int .i64 xm, .int .i64 xd] 136)
            have hB1 := hB2.alloc hB2.size (.cells #[.string xnm, .int .i64 xr, .int .i64 xm, .int .i64 xd] 136)
            have kd := ib1.cell htD
            have HGD := Lib.hid (show D.getD t 0 = D[t] from getD_eqI htD)
            obtain ⟨d, hd⟩ : ∃ d, d = D[t] := ⟨_, rfl⟩
            rw [← hd] at kd HGD
            have HIB := Lib.hid ib1; have HBB := Lib.hid hB1
            have htL : (t : Int) < (L.length : Int) := by omega
            have hil := ib.lt
            clear ex hd hgl ib ib1 hB1 hB2 bj
            by_cases he : d = xm
            · have he' : (d != xm) = false := by simpa using he
              have HQN : Hid (∀ q, q < t + 1 → D.getD q 0 = (L.getD q noJob).mins) := Lib.hid (fun q hq => by
                rcases Nat.lt_or_ge q t with h | h
                · exact HQ.out q h
                · obtain rfl : q = t := by omega
                  rw [HGL.out, HGD.out]; exact he)
              clear he
              go_wp2_with fail
              go_quiet (fail)
              go_wp2
              go_roundw
              case rel => exact ⟨t + 1, by omega, by go_num, HQN, HIB.out.drewN _, below_drewN HBB.out _⟩
              case measure => simp [intOf]; omega
            · have he' : (d != xm) = true := by simpa using he
              have HE := Lib.hid (show R = (0, 0, 23) by
                have h9 : csErr L S = 23 := by rw [HCS2.out, if_neg (fun h => he (by have := h t hlt2; rw [HGL.out, HGD.out] at this; exact this))]
                rw [HD1.out, h9, if_neg (by decide)])
              clear he
              go_wp2_with fail
              go_quiet (fail)
              go_wp2
              (try simp only [Exit.inBlock, Exit.then]); refine bodyPost_ret (results_tri rfl) rfl ?_
              exact ⟨tri_to HE.out, HB1.out.trans ((below_drewN HBB.out _).mono HB1.out.size)⟩
          · have HOKD : Hid (DoneOk L D) := Lib.hid (fun q hq => HQ.out q (by omega))
            have HE := Lib.hid (show R = (latI L S, latJ L S, 0) by rw [HD1.out, HCS2.out, if_pos HOKD.out, if_pos rfl])
            have HLA := Lib.hid (latenessOf_any L S a L.length c sa S.length sc wr rfl rfl (HR1.out.below hB2) (HSS1.out.below hB2) hl1 hl20 (by have := HS1.out; omega) HOK.out (fun s hs => by have h9 := sch_right HSC.out s hs; omega))
            obtain ⟨li, hli⟩ : ∃ li, li = latI L S := ⟨_, rfl⟩
            obtain ⟨lj, hlj⟩ : ∃ lj, lj = latJ L S := ⟨_, rfl⟩
            rw [← hli, ← hlj] at HE HLA
            have HB2 := Lib.hid (HB1.out.trans (hB2.mono HB1.out.size))
            clear hli hlj hB2 ib
            go_wp2_with (go_at_call 120; refine HLA.out.mono ?_; rintro e w5 ⟨rfl, hb5⟩)
            (try simp only [Exit.inBlock, Exit.then]); refine bodyPost_ret (results_tri rfl) rfl ?_
            exact ⟨tri_to HE.out, HB2.out.trans (hb5.mono HB2.out.size)⟩
  · have HE := Lib.hid (show R = (0, 0, jobsErr L) by rw [HDEF.out, if_pos h0])
    have h0' : (jobsErr L != 0) = true := by simpa using h0
    obtain ⟨je, hje⟩ : ∃ je, je = jobsErr L := ⟨_, rfl⟩
    rw [← hje] at HCJ HE h0'
    clear h0 HDEF hje
    go_wp2_with (go_at_call 63; refine HCJ.out.mono ?_; rintro e w1 ⟨rfl, hb1⟩)
    (try simp only [Exit.inBlock, Exit.then]); refine bodyPost_ret (results_tri rfl) rfl ?_
    exact ⟨tri_to HE.out, hb1⟩
end Go.Proofs.Ytpplcbpnojggcaa

namespace Go.Proofs.Ytpplcbpnojggcaa
open Go.RowKit Go.Maps

theorem eq_bytes (x s : ByteArray) : (x.toList == s.toList) = decide (x = s) := eq_tx x s
set_option maxRecDepth 100000 in
set_option maxHeartbeats 8000000 in
theorem refCheckJobs_any (L : List Job) (a : Option Addr) (n c : Nat) (w : World) (hn : n = L.length) (hr : RowsG 4 jobV w a L) (hl : L.length ≤ maxLen) (hsz : ∀ x ∈ L, x.name.size ≤ maxLen) :
    Calls Try.prog 62 #[.slice a n c] w (CheckPost (jobsErr L) w) := by
  unfold maxLen at hl
  subst hn
  have HR := Lib.hid hr; have HSZ := Lib.hid hsz
  clear hr hsz
  go_enter Try.func62, Try.ntmps62
  by_cases h5 : L.length = 0
  · have HE := Lib.hid (show jobsErr L = 10 by unfold jobsErr; rw [if_pos h5])
    have h5' : ((L.length : Int) == 0) = true := by simpa using h5
    clear h5
    go_wp2_with fail
    go_ret
    exact ⟨ret_int HE.out.symm, Below.refl _ _⟩
  have h5' : ((L.length : Int) == 0) = false := by simpa using h5
  by_cases h6 : 20 < L.length
  · have HE := Lib.hid (show jobsErr L = 8 by unfold jobsErr; rw [if_neg h5, if_pos h6])
    have h6' : (20 : Int) < (L.length : Int) := by omega
    clear h5 h6
    go_wp2_with fail
    go_ret
    exact ⟨ret_int HE.out.symm, Below.refl _ _⟩
  have HE0 := Lib.hid (show jobsErr L = jobsE ((names L).take 0) (L.drop 0) by unfold jobsErr; rw [if_neg h5, if_neg h6]; rfl)
  have h6' : ¬ (20 : Int) < (L.length : Int) := by omega
  clear h5 h6
  go_wp2_with fail
  clear h5' h6'
  go_loopw [3] (fun i wr => ∃ k : Nat, k ≤ L.length ∧ i = .int .i64 k ∧ Hid (jobsErr L = jobsE ((names L).take k) (L.drop k)) ∧ Drew w wr) (fun i _ => L.length - (intOf i).toNat)
  case atStart => exact ⟨0, Nat.zero_le _, rfl, HE0, Drew.refl _⟩
  case round =>
    obtain ⟨k, hk, rfl, HC, hdr⟩ := hrel
    have HBW := Lib.hid (hdr.below (Below.refl w.heap.size w))
    by_cases hlt : k < L.length
    · have HRW := Lib.hid (hdr.rowsG HR.out)
      obtain ⟨ad, rfl, hau, s0, s1, s2, s3⟩ := HRW.out.job hlt
      have HST := Lib.hid (fun h => jobsE_stop (L := L) hlt h)
      have HGO := Lib.hid (fun h => jobsE_go (L := L) hlt h)
      have hnz : L[k].name.size ≤ maxLen := HSZ.out _ (List.getElem_mem hlt)
      have hkl : (k : Int) < (L.length : Int) := by omega
      obtain ⟨x, ex⟩ : ∃ x, x = L[k] := ⟨_, rfl⟩
      rw [← ex] at s0 s1 s2 s3 hnz HST HGO
      obtain ⟨nm, rd, mn, du⟩ := x
      dsimp only at s0 s1 s2 s3 hnz
      have HJE := Lib.hid (show jobErr ((names L).take k) ⟨nm, rd, mn, du⟩ = if nmErr ((names L).take k) nm ≠ 0 then nmErr ((names L).take k) nm else rngErr ⟨nm, rd, mn, du⟩ from rfl)
      have HNE := Lib.hid (show nmErr ((names L).take k) nm = if isNameB nm = false then 4 else if (((names L).take k).any fun x => decide (x = nm)) = true then 5 else 0 from rfl)
      have HRG := Lib.hid (show rngErr ⟨nm, rd, mn, du⟩ = if okMin rd = false then 2 else if okMin du = false then 2 else if okJobMin mn = false then 2 else 0 from rfl)
      have HSN := Lib.hid s0; have HS1 := Lib.hid s1; have HS2 := Lib.hid s2; have HS3 := Lib.hid s3
      clear ex
      cases hnb : isNameB nm
      · have HE := Lib.hid (show jobsErr L = 4 by
          have h9 : nmErr ((names L).take k) nm = 4 := by rw [HNE.out, if_pos hnb]
          have h10 : jobErr ((names L).take k) ⟨nm, rd, mn, du⟩ = 4 := by rw [HJE.out, h9, if_pos (by decide)]
          rw [HC.out, HST.out (by rw [h10]; decide), h10])
        go_wp2_with (go_at_call 87; refine (refIsName_any _ _ hnz).mono ?_; rintro e w' ⟨rfl, rfl⟩)
        go_ret
        exact ⟨ret_int HE.out.symm, HBW.out⟩
      have HNB := Lib.hid hnb
      go_wp2_with (go_at_call 87; refine (refIsName_any _ _ hnz).mono ?_; rintro e w' ⟨rfl, rfl⟩; rw [HNB.out])
      clear hnb
      obtain ⟨wo, rfl⟩ : ∃ wo : World, wo = wr := ⟨_, rfl⟩
      go_loopw [4] (fun i wr => ∃ q : Nat, q ≤ k ∧ i = .int .i64 q ∧ Hid ((((names L).take k).any fun x => decide (x = nm)) = ((((names L).take k).drop q).any fun x => decide (x = nm))) ∧ Drew wo wr) (fun i _ => k - (intOf i).toNat)
      case atStart => exact ⟨0, Nat.zero_le _, rfl, Lib.hid rfl, Drew.refl _⟩
      case round =>
        obtain ⟨q, hq, rfl, HA, hdr2⟩ := hrel
        have HBW2 := Lib.hid (hdr2.below HBW.out)
        by_cases hqk : q < k
        · have hql : q < L.length := by omega
          obtain ⟨ad', ea, hau2, u0, -, -, -⟩ := (hdr2.rowsG HRW.out).job hql
          injection ea with ea
          subst ea
          have hqn : q < ((names L).take k).length := by rw [List.length_take]; unfold names; simp; omega
          have HAS := Lib.hid (any_step (p := fun x => decide (x = nm)) hqn)
          have HQN := Lib.hid (show ((names L).take k)[q] = L[q].name by rw [List.getElem_take]; exact List.getElem_map (fun x : Job => x.name))
          rw [HQN.out] at HAS
          obtain ⟨z, ez⟩ : ∃ z, z = L[q].name := ⟨_, rfl⟩
          rw [← ez] at u0 HAS
          have hz := eq_bytes z nm
          have v0 : wr.cell? (ad.add (k * 4)) = some (.string nm) := hdr2.cell HSN.out
          have hql' : (q : Int) < (L.length : Int) := by omega
          have hqk' : (q : Int) < (k : Int) := by omega
          clear ez HQN s0 s1 s2 s3
          by_cases e : z = nm
          · have hz' : (z.toList == nm.toList) = true := by rw [hz]; exact decide_eq_true e
            have HE := Lib.hid (show jobsErr L = 5 by
              have h9 : nmErr ((names L).take k) nm = 5 := by rw [HNE.out, if_neg (by rw [HNB.out]; decide), if_pos (by rw [HA.out, HAS.out]; simp [e])]
              have h10 : jobErr ((names L).take k) ⟨nm, rd, mn, du⟩ = 5 := by rw [HJE.out, h9, if_pos (by decide)]
              rw [HC.out, HST.out (by rw [h10]; decide), h10])
            clear e hz
            go_wp2_with fail
            go_quiet (fail)
            go_wp2
            go_ret
            exact ⟨ret_int HE.out.symm, below_drewN HBW2.out _⟩
          · have hz' : (z.toList == nm.toList) = false := by rw [hz]; exact decide_eq_false e
            have HAN := Lib.hid (show (((names L).take k).any fun x => decide (x = nm)) = ((((names L).take k).drop (q + 1)).any fun x => decide (x = nm)) by rw [HA.out, HAS.out]; simp [e])
            clear e hz
            go_wp2_with fail
            go_quiet (fail)
            go_wp2
            go_roundw
            case rel => exact ⟨q + 1, by omega, by go_num, HAN, hdr2.drewN _⟩
            case measure => simp [intOf]; omega
        · obtain rfl : q = k := by omega
          have HN0 := Lib.hid (show nmErr ((names L).take q) nm = 0 by
            have h9 : (((names L).take q).any fun x => decide (x = nm)) = false := by rw [HA.out]; exact any_stop (by rw [List.length_take]; omega)
            rw [HNE.out, if_neg (by rw [HNB.out]; decide), if_neg (by rw [h9]; decide)])
          have HJ2 := Lib.hid (show jobErr ((names L).take q) ⟨nm, rd, mn, du⟩ = rngErr ⟨nm, rd, mn, du⟩ by rw [HJE.out, HN0.out, if_neg (by decide)])
          have v1 : wr.cell? ⟨(ad.add (q * 4)).block, (ad.add (q * 4)).off + 1, none⟩ = some (.int .i64 rd) := hdr2.cell HS1.out
          have v2 : wr.cell? ⟨(ad.add (q * 4)).block, (ad.add (q * 4)).off + 2, none⟩ = some (.int .i64 mn) := hdr2.cell HS2.out
          have v3 : wr.cell? ⟨(ad.add (q * 4)).block, (ad.add (q * 4)).off + 3, none⟩ = some (.int .i64 du) := hdr2.cell HS3.out
          have hdr3 := Lib.hid (show Drew w wr by obtain ⟨m1, e1⟩ := hdr; obtain ⟨m2, e2⟩ := hdr2; exact ⟨m1 + m2, by rw [e2, e1, World.drewN_drewN]⟩)
          clear s0 s1 s2 s3 hdr2
          have HERR := Lib.hid (show ∀ v, rngErr ⟨nm, rd, mn, du⟩ = v → v ≠ 0 → jobsErr L = v from fun v hv h0 => by rw [HC.out, HST.out (by rw [HJ2.out, hv]; exact h0), HJ2.out, hv])
          cases h1 : okMin rd
          · have HE := Lib.hid (HERR.out 2 (by rw [HRG.out, if_pos h1]) (by decide))
            have h1x : inB rd 0 10000000 = false := h1
            have H1 := Lib.hid h1x
            clear h1 h1x
            go_wp2_with (go_at_call 30; refine (within_any _ _ _ _).mono ?_; rintro e w' ⟨rfl, rfl⟩; rw [H1.out])
            go_ret
            exact ⟨ret_int HE.out.symm, HBW2.out⟩
          have H1 : Hid (inB rd 0 10000000 = true) := Lib.hid h1
          cases h2 : okMin du
          · have HE := Lib.hid (HERR.out 2 (by rw [HRG.out, if_neg (by rw [h1]; decide), if_pos h2]) (by decide))
            have H2 : Hid (inB du 0 10000000 = false) := Lib.hid h2
            clear h1 h2
            go_wp2_with (go_at_call 30; refine (within_any _ _ _ _).mono ?_; rintro e w' ⟨rfl, rfl⟩; (first | rw [H1.out] | rw [H2.out]))
            go_ret
            exact ⟨ret_int HE.out.symm, HBW2.out⟩
          have H2 : Hid (inB du 0 10000000 = true) := Lib.hid h2
          cases h3 : okJobMin mn
          · have HE := Lib.hid (HERR.out 2 (by rw [HRG.out, if_neg (by rw [h1]; decide), if_neg (by rw [h2]; decide), if_pos h3]) (by decide))
            have H3 : Hid (inB mn 1 10000 = false) := Lib.hid h3
            clear h1 h2 h3
            go_wp2_with (go_at_call 30; refine (within_any _ _ _ _).mono ?_; rintro e w' ⟨rfl, rfl⟩; (first | rw [H1.out] | rw [H2.out] | rw [H3.out]))
            go_ret
            exact ⟨ret_int HE.out.symm, HBW2.out⟩
          have H3 : Hid (inB mn 1 10000 = true) := Lib.hid h3
          have HN := Lib.hid (show jobsErr L = jobsE ((names L).take (q + 1)) (L.drop (q + 1)) by
            rw [HC.out, HGO.out (by rw [HJ2.out, HRG.out, if_neg (by rw [h1]; decide), if_neg (by rw [h2]; decide), if_neg (by rw [h3]; decide)])])
          clear h1 h2 h3
          go_wp2_with (go_at_call 30; refine (within_any _ _ _ _).mono ?_; rintro e w' ⟨rfl, rfl⟩; (first | rw [H1.out] | rw [H2.out] | rw [H3.out]))
          go_roundw
          case rel => exact ⟨q + 1, by omega, by go_num, HN, hdr3.out⟩
          case measure => simp [intOf]; omega
    · have HE := Lib.hid (show jobsErr L = 0 by rw [HC.out, jobsE_end hlt])
      go_wp2
      go_ret
      exact ⟨ret_int HE.out.symm, HBW.out⟩
def LightPost (P : Prop) (w : World) (e : Ending) (w' : World) : Prop := (∃ b, e = .returned (.bool b) ∧ (b = true → P)) ∧ w = w'
set_option maxRecDepth 100000 in
set_option maxHeartbeats 2000000 in
theorem light_any (L : List Job) (a : Option Addr) (n c : Nat) (w : World) (hn : n = L.length) (hr : RowsG 4 jobV w a L) (hl : L.length ≤ maxLen) (hsz : ∀ x ∈ L, x.name.size ≤ maxLen) :
    Calls Try.prog 59 #[.slice a n c] w (LightPost (L.length ≤ 22) w) := by
  unfold maxLen at hl
  subst hn
  have HR := Lib.hid hr; have HSZ := Lib.hid hsz
  clear hr hsz
  go_enter Try.func59, Try.ntmps59
  have HCASE : (6 < L.length ∧ L.length ≤ 20) ∨ 22 < L.length ∨ L.length ≤ 6 ∨ (20 < L.length ∧ L.length ≤ 22) := by omega
  rcases HCASE with ⟨h1, h2⟩ | h1 | h1 | ⟨h1, h2⟩
  · have g1 : (6 : Int) < (L.length : Int) := by omega
    have g2 : (L.length : Int) ≤ 20 := by omega
    clear h1 h2
    go_wp2_with fail
    go_ret
    exact ⟨⟨_, rfl, fun h => by cases h⟩, rfl⟩
  · have g1 : (6 : Int) < (L.length : Int) := by omega
    have g2 := decide_eq_false (show ¬ (L.length : Int) ≤ 20 by omega)
    have g2' : ¬ (L.length : Int) ≤ 20 := by omega
    have g3 : (22 : Int) < (L.length : Int) := by omega
    clear h1
    go_wp2_with fail
    go_ret
    exact ⟨⟨_, rfl, fun h => by cases h⟩, rfl⟩
  · have H22 := Lib.hid (show L.length ≤ 22 by omega)
    have g1 := decide_eq_false (show ¬ (6 : Int) < (L.length : Int) by omega)
    have g1' : ¬ (6 : Int) < (L.length : Int) := by omega
    have g3 := decide_eq_false (show ¬ (22 : Int) < (L.length : Int) by omega)
    have g3' : ¬ (22 : Int) < (L.length : Int) := by omega
    clear h1
    go_wp2_with fail
    go_loop [3] (fun i => ∃ k : Nat, k ≤ L.length ∧ i = .int .i64 k) (fun i => L.length - (intOf i).toNat)
    case atStart => exact ⟨0, Nat.zero_le _, rfl⟩
    case round =>
      obtain ⟨k, hk, rfl⟩ := hrel
      by_cases hlt : k < L.length
      · obtain ⟨ad, rfl, hau, s0, -, -, -⟩ := HR.out.job hlt
        have hnz : L[k].name.size ≤ maxLen := HSZ.out _ (List.getElem_mem hlt)
        have hkl : (k : Int) < (L.length : Int) := by omega
        obtain ⟨nm, en⟩ : ∃ nm, nm = L[k].name := ⟨_, rfl⟩
        rw [← en] at s0 hnz
        unfold maxLen at hnz
        clear en
        by_cases h30 : (30 : Int) < (nm.size : Int)
        · go_wp2_with fail
          go_ret
          exact ⟨⟨_, rfl, fun h => by cases h⟩, rfl⟩
        · have h30' := decide_eq_false h30
          clear h30
          go_wp2_with fail
          go_round
          case rel => exact ⟨k + 1, by omega, by go_num⟩
          case measure => simp [intOf]; omega
      · go_wp2
        go_ret
        exact ⟨⟨_, rfl, fun _ => H22.out⟩, rfl⟩
  · have H22 := Lib.hid (show L.length ≤ 22 by omega)
    have g1 : (6 : Int) < (L.length : Int) := by omega
    have g2 := decide_eq_false (show ¬ (L.length : Int) ≤ 20 by omega)
    have g2' : ¬ (L.length : Int) ≤ 20 := by omega
    have g3 := decide_eq_false (show ¬ (22 : Int) < (L.length : Int) by omega)
    have g3' : ¬ (22 : Int) < (L.length : Int) := by omega
    clear h1 h2
    go_wp2_with fail
    go_loop [3] (fun i => ∃ k : Nat, k ≤ L.length ∧ i = .int .i64 k) (fun i => L.length - (intOf i).toNat)
    case atStart => exact ⟨0, Nat.zero_le _, rfl⟩
    case round =>
      obtain ⟨k, hk, rfl⟩ := hrel
      by_cases hlt : k < L.length
      · obtain ⟨ad, rfl, hau, s0, -, -, -⟩ := HR.out.job hlt
        have hnz : L[k].name.size ≤ maxLen := HSZ.out _ (List.getElem_mem hlt)
        have hkl : (k : Int) < (L.length : Int) := by omega
        obtain ⟨nm, en⟩ : ∃ nm, nm = L[k].name := ⟨_, rfl⟩
        rw [← en] at s0 hnz
        unfold maxLen at hnz
        clear en
        by_cases h30 : (30 : Int) < (nm.size : Int)
        · go_wp2_with fail
          go_ret
          exact ⟨⟨_, rfl, fun h => by cases h⟩, rfl⟩
        · have h30' := decide_eq_false h30
          clear h30
          go_wp2_with fail
          go_round
          case rel => exact ⟨k + 1, by omega, by go_num⟩
          case measure => simp [intOf]; omega
      · go_wp2
        go_ret
        exact ⟨⟨_, rfl, fun _ => H22.out⟩, rfl⟩
set_option maxHeartbeats 1000000 in
theorem jobs_any (L : List Job) (a : Option Addr) (n c : Nat) (w : World) (hn : n = L.length) (hX : RowsG 4 jobV w a L) (hl : L.length ≤ 1000000) (hd : a = none → c = 0) :
    Calls Try.prog 61 #[.slice a n c] w fun e w' => ∃ a' c', e = .returned (.slice a' L.length c') ∧ RowsG 4 jobV w' a' L ∧ (a' = none → c' = 0) ∧ Below w.heap.size w w' := by
  have hown : OwnG 4 136 jobV (w.alloc (.cells #[] 136)) w.heap.size (.slice (some ⟨w.heap.size, 0, none⟩) 0 0) [] :=
    World.ownsRow_made (e := 136) (size := 4) (base := w.heap.size) w #[] 0 (Nat.le_refl _) (Nat.zero_le _) rfl
  have hB := (Below.refl w.heap.size w).alloc (Nat.le_refl _) (.cells #[] 136)
  have HX := Lib.hid (hX.alloc (.cells #[] 136))
  have HN := Lib.hid hn; have HL := Lib.hid hl
  clear hX hn hl
  go_enter Try.func61, Try.ntmps61
  go_wp2_with (at_builtin; refine wpList_appG tJob job_l job_one _ rfl _ _ rfl w.heap.size _ [] rfl hown a L n c HN.out rfl HX.out hd (by simp) HL.out (by simp) ?_; intro v2 w2 hO2 hg2 hb2 ho2; obtain ⟨a2, c2, e2, hr2, hn2, -⟩ := hO2.rows job_l; rw [List.nil_append] at e2 hr2; subst e2)
  go_ret
  exact ⟨a2, c2, rfl, hr2, hn2, hB.trans hb2⟩
set_option maxHeartbeats 1000000 in
theorem slices_any (S : List Sl) (a : Option Addr) (n c : Nat) (w : World) (hn : n = S.length) (hX : RowsAt 3 Sl.l w a S) (hl : S.length ≤ 1000000) (hd : a = none → c = 0) :
    Calls Try.prog 69 #[.slice a n c] w fun e w' => ∃ a' c', e = .returned (.slice a' S.length c') ∧ RowsAt 3 Sl.l w' a' S ∧ (a' = none → c' = 0) ∧ Below w.heap.size w w' := by
  subst hn
  have hown : OwnR 3 113 Sl.l (w.alloc (.cells #[] 113)) w.heap.size (.slice (some ⟨w.heap.size, 0, none⟩) 0 0) [] :=
    World.ownsRow_made (e := 113) (size := 3) (base := w.heap.size) w #[] 0 (Nat.le_refl _) (Nat.zero_le _) rfl
  have hB := (Below.refl w.heap.size w).alloc (Nat.le_refl _) (.cells #[] 113)
  have HX := Lib.hid (hX.alloc (.cells #[] 113))
  clear hX
  go_enter Try.func69, Try.ntmps69
  go_wp2_with (at_builtin; refine wpList_appL tSl sl_l _ rfl _ _ rfl w.heap.size _ [] rfl hown a S c rfl HX.out hd (by simp) hl (by simp) ?_; intro v2 w2 hO2 hg2 hb2 ho2; obtain ⟨a2, c2, e2, hr2, -, -, hn2, -⟩ := hO2.rows sl_l; rw [List.nil_append] at e2 hr2; subst e2)
  go_ret
  exact ⟨a2, c2, rfl, hr2, hn2, hB.trans hb2⟩
end Go.Proofs.Ytpplcbpnojggcaa

namespace Go.Proofs.Ytpplcbpnojggcaa
open Go.RowKit

def rdyN (L : List Job) (k : Nat) : Int := (L.getD k noJob).ready
def dueN (L : List Job) (k : Nat) : Int := (L.getD k noJob).due
def slE (s : Sl) : Int := s.from_ + s.mins
/-- The end of the last slice of a schedule, the last one first. -/
def endR : List Sl → Int
  | [] => 0
  | z :: _ => slE z
/-- Right slices, the last one first. -/
def SR (L : List Job) : List Sl → Prop
  | [] => True
  | z :: T => slErr L (endR T) z = 0 ∧ SR L T
/-- What the rule keeps, the last slice first; P tells which jobs go on later. -/
def RR (L : List Job) : (Nat → Prop) → List Sl → Prop
  | _, [] => True
  | P, z :: T => (∀ k, P k → rdyN L k < slE z → dueN L z.job.toNat ≤ dueN L k) ∧ ((T = [] ∨ endR T < z.from_) → ∀ k, P k ∨ k = z.job.toNat → z.from_ ≤ rdyN L k) ∧ RR L (fun k => P k ∨ k = z.job.toNat) T
theorem RR.mono {L : List Job} : ∀ {T : List Sl} {P Q : Nat → Prop}, (∀ k, Q k → P k) → RR L P T → RR L Q T
  | [], _, _, _, _ => trivial
  | _ :: _, _, _, h, ⟨h1, h2, h3⟩ => ⟨fun k hk => h1 k (h k hk), fun hg k hk => h2 hg k (hk.imp (h k) id), RR.mono (fun k hk => hk.imp (h k) id) h3⟩
theorem urg_min {L : List Job} {F : List Int} {m : Int} : ∀ k, k ≤ L.length → (urgTo L F m k).2 = true → ∀ i, i < k → 0 < F.getD i 0 → (L.getD i noJob).ready ≤ m → (L.getD (urgTo L F m k).1 noJob).due ≤ (L.getD i noJob).due
  | 0, _, _, i, hi, _, _ => by omega
  | k + 1, hk, h, i, hi, h1, h2 => by
    rw [urgTo] at h ⊢
    unfold urgP at h ⊢
    split
    · rename_i hc
      rcases Nat.lt_succ_iff_lt_or_eq.1 hi with h3 | rfl
      · rcases hc.2.2 with h4 | h4
        · exact absurd ⟨h1, h2⟩ (urg_none k (by omega) h4 i h3)
        · cases hu : (urgTo L F m k).2
          · exact absurd ⟨h1, h2⟩ (urg_none k (by omega) hu i h3)
          · have := urg_min k (by omega) hu i h3 h1 h2
            dsimp only; omega
      · exact Int.le_refl _
    · rename_i hc
      rw [if_neg hc] at h
      rcases Nat.lt_succ_iff_lt_or_eq.1 hi with h3 | rfl
      · exact urg_min k (by omega) h i h3 h1 h2
      · rcases Int.lt_or_le (L.getD i noJob).due (L.getD (urgTo L F m i).1 noJob).due with h5 | h5
        · exact absurd ⟨h1, h2, Or.inr h5⟩ hc
        · exact h5
def wslR (T : List Sl) (x : Sl) : List Sl :=
  match T with
  | [] => [x]
  | y :: T0 => if y.job = x.job ∧ slE y = x.from_ then ⟨y.job, y.from_, y.mins + x.mins⟩ :: T0 else x :: y :: T0
theorem wsl_rev (S : List Sl) (x : Sl) : (wsl S x).reverse = wslR S.reverse x := by
  rcases hS : S.reverse with _ | ⟨y, T⟩
  · have : S = [] := by simpa using hS
    subst this
    simp [wsl, wslR]
  · have hS2 : S = T.reverse ++ [y] := by rw [← List.reverse_reverse S, hS]; simp
    subst hS2
    have hg : (T.reverse ++ [y]).getD ((T.reverse ++ [y]).length - 1) noSl = y := by
      rw [List.getD_eq_getElem?_getD]; simp
    unfold wsl
    rw [hg]
    show _ = (if y.job = x.job ∧ y.from_ + y.mins = x.from_ then (⟨y.job, y.from_, y.mins + x.mins⟩ :: T : List Sl) else (x :: y :: T))
    have hl : 0 < (T.reverse ++ [y]).length := by simp
    by_cases hc : y.job = x.job ∧ y.from_ + y.mins = x.from_
    · rw [if_pos ⟨hl, hc.1, hc.2⟩, if_pos hc]
      simp
    · rw [if_neg (fun h => hc h.2), if_neg hc]
      simp
theorem schE_snoc {L : List Job} : ∀ (S : List Sl) (e : Int) (z : Sl), schE L e (S ++ [z]) = 0 ↔ (schE L e S = 0 ∧ slErr L (S.foldl (fun _ s => s.from_ + s.mins) e) z = 0)
  | [], e, z => by
    by_cases h : slErr L e z = 0
    · simp [schE, h]
    · simp [schE, h]
  | s :: S, e, z => by
    show (if slErr L e s ≠ 0 then slErr L e s else schE L (s.from_ + s.mins) (S ++ [z])) = 0 ↔ ((if slErr L e s ≠ 0 then slErr L e s else schE L (s.from_ + s.mins) S) = 0 ∧ _)
    by_cases h : slErr L e s = 0
    · rw [if_neg (by simp [h]), if_neg (by simp [h])]
      exact schE_snoc S _ z
    · rw [if_pos h, if_pos h]; simp [h]
theorem endS_rev : ∀ T : List Sl, endS T.reverse = endR T
  | [] => rfl
  | z :: T => by unfold endS; rw [List.reverse_cons, List.foldl_append]; rfl
theorem sr_sch {L : List Job} : ∀ T : List Sl, SR L T ↔ schE L 0 T.reverse = 0
  | [] => by simp [SR, schE]
  | z :: T => by
    rw [List.reverse_cons, schE_snoc, ← sr_sch T]
    have := endS_rev T
    unfold endS at this
    rw [this]
    exact And.comm
theorem doneL_snoc (n : Nat) (S : List Sl) (z : Sl) : doneL n (S ++ [z]) = doneP (doneL n S) z := by unfold doneL; rw [List.foldl_append]; rfl
/-- How many jobs are not done. -/
def cntL (F : List Int) : Nat := (F.filter fun x => decide (0 < x)).length
theorem cntL_set : ∀ {F : List Int} {i : Nat} {v : Int}, i < F.length → 0 < F.getD i 0 → cntL (F.set i v) + 1 = cntL F + (if 0 < v then 1 else 0)
  | [], _, _, h, _ => by cases h
  | x :: F, 0, v, _, hp => by
    have hx : 0 < x := by simpa using hp
    unfold cntL
    rw [List.set_cons_zero, List.filter_cons, List.filter_cons, if_pos (show decide (0 < x) = true by simpa using hx)]
    by_cases hv : 0 < v
    · rw [if_pos (show decide (0 < v) = true by simpa using hv), if_pos hv]; simp
    · rw [if_neg (show ¬ decide (0 < v) = true by simpa using hv), if_neg hv]; simp
  | x :: F, i + 1, v, h, hp => by
    have ih := cntL_set (F := F) (i := i) (v := v) (by simpa using h) (by simpa using hp)
    unfold cntL at ih ⊢
    rw [List.set_cons_succ, List.filter_cons, List.filter_cons]
    by_cases hx : decide (0 < x) = true
    · rw [if_pos hx, if_pos hx, List.length_cons, List.length_cons]; omega
    · rw [if_neg hx, if_neg hx]; exact ih
theorem cntL_le (F : List Int) : cntL F ≤ F.length := List.length_filter_le _ _
structure RI (L : List Job) (s : SSt) : Prop where
  ok : SOk L 200000 s
  rr : RR L (fun k => 0 < s.left.getD k 0) s.sch.reverse
  sr : SR L s.sch.reverse
  en : endR s.sch.reverse ≤ s.now
  dn : ∀ k, k < L.length → (doneL L.length s.sch).getD k 0 + s.left.getD k 0 = (L.getD k noJob).mins
  gap : (s.sch.reverse = [] ∨ endR s.sch.reverse < s.now) → ∀ k, 0 < s.left.getD k 0 → s.now ≤ rdyN L k
  num : s.sch.length + (cntL s.left + late L s.now) ≤ 2 * L.length
theorem left_lt {L : List Job} {F : List Int} {k : Nat} (hlen : F.length = L.length) (h : 0 < F.getD k 0) : k < L.length := by
  rcases Nat.lt_or_ge k F.length with h1 | h1
  · omega
  · rw [List.getD_eq_getElem?_getD, List.getElem?_eq_none h1] at h; exact absurd h (Int.lt_irrefl _)
/-- A slice of a right schedule is not longer than what is done of its job. -/
theorem mins_done {n : Nat} : ∀ (S : List Sl) (D : List Int), D.length = n → (∀ s ∈ S, (0 ≤ s.job ∧ s.job < n) ∧ 0 ≤ s.mins) → (∀ j, j < n → 0 ≤ D.getD j 0) → ∀ j, j < n → D.getD j 0 ≤ (S.foldl doneP D).getD j 0 ∧ ∀ s ∈ S, s.job.toNat = j → s.mins ≤ (S.foldl doneP D).getD j 0
  | [], D, _, _, h, j, hj => ⟨Int.le_refl _, fun s hs => by cases hs⟩
  | x :: S, D, hD, hs, h, j, hj => by
    have hx := hs x List.mem_cons_self
    have hi : x.job.toNat < n := by omega
    have hd : ∀ i, i < n → 0 ≤ (doneP D x).getD i 0 := fun i hin => by
      unfold doneP; rw [set_getD (by omega)]
      split
      · have := h x.job.toNat hi; omega
      · exact h i hin
    have hle : D.getD j 0 ≤ (doneP D x).getD j 0 := by
      unfold doneP; rw [set_getD (by omega)]
      split
      · rename_i e; subst e; omega
      · exact Int.le_refl _
    obtain ⟨h1, h2⟩ := mins_done S (doneP D x) (by unfold doneP; rw [List.length_set, hD]) (fun s hs' => hs s (List.mem_cons_of_mem _ hs')) hd j hj
    rw [List.foldl_cons]
    refine ⟨by omega, fun s hs' e => ?_⟩
    rcases List.mem_cons.1 hs' with rfl | hs'
    · have h3 : s.mins ≤ (doneP D s).getD j 0 := by
        unfold doneP; rw [set_getD (by omega), if_pos e]
        have := h s.job.toNat hi; omega
      omega
    · exact h2 s hs' e
theorem start_ri {L : List Job} (hl : L.length ≤ 20) (hok : JobsOk L) : RI L (startS L) := by
  refine ⟨(start_ok hl (fun x hx => (hok x hx).2.2)).1, trivial, trivial, Int.le_refl _, fun k hk => ?_, fun _ k hk => ?_, ?_⟩
  · show (List.replicate L.length 0).getD k 0 + (L.map (·.mins)).getD k 0 = _
    rw [List.getD_eq_getElem?_getD, List.getD_eq_getElem?_getD, List.getElem?_map, List.getElem?_replicate, if_pos hk, List.getD_eq_getElem?_getD, List.getElem?_eq_getElem hk]
    simp
  · have hkl := left_lt (L := L) (F := L.map (·.mins)) (by simp) (show 0 < (L.map (·.mins)).getD k 0 from hk)
    show 0 ≤ rdyN L k
    unfold rdyN
    rw [List.getD_eq_getElem?_getD, List.getElem?_eq_getElem hkl]
    exact (hok _ (List.getElem_mem hkl)).1.1
  · show 0 + (cntL (L.map (·.mins)) + late L 0) ≤ 2 * L.length
    have h1 := cntL_le (L.map (·.mins))
    have h2 := late_len L 0
    simp at h1; omega
theorem slErr_ok {L : List Job} {e : Int} {s : Sl} (h1 : 0 ≤ s.job ∧ s.job < L.length) (h2 : 1 ≤ s.mins ∧ s.mins ≤ 10000) (h3 : 0 ≤ s.from_ ∧ s.from_ ≤ 20000000) (h4 : (L.getD s.job.toNat noJob).ready ≤ s.from_) (h5 : e ≤ s.from_) : slErr L e s = 0 := by
  unfold slErr
  have hm : okJobMin s.mins = true := inB_yes h2
  rw [if_neg (by rw [inB_yes (by omega)]; decide), if_neg (by rw [hm]; decide), if_neg (by rw [inB_yes h3]; decide), if_neg (by omega), if_neg (by omega)]
theorem step_ri {L : List Job} {s : SSt} (hl : 0 < L.length) (hok : JobsOk L) (hs : 0 < sumI s.left) (h : RI L s) : RI L (stepS L s) := by
  have hr : ∀ x ∈ L, 0 ≤ x.ready ∧ x.ready ≤ 10000000 := fun x hx => (hok x hx).1
  obtain ⟨hk, hrr, hsr, hen, hdn, hgap, hnum⟩ := h
  have hok2 := (step_ok hk (by omega) hl hr hs).1
  have hlen := hk.len
  have h0 := hk.left0
  have hbd := hk.bd
  have htot := hk.tot
  have hnow : s.now ≤ 10200000 := by have := (sumI_nonneg h0); omega
  have hgt := next_gt (m := s.now) (L := L) (by omega)
  cases hu : (urgI L s.left s.now).2
  · have hst : stepS L s = ⟨s.left, s.sch, nextI s.now L⟩ := by unfold stepS; rw [if_pos hu]
    rw [hst] at hok2 ⊢
    have hall : ∀ k, 0 < s.left.getD k 0 → nextI s.now L ≤ rdyN L k := fun k hp => by
      have hkl := left_lt hlen hp
      have hno := urg_none L.length (Nat.le_refl _) hu k hkl
      unfold rdyN
      rw [job_getD hkl] at hno ⊢
      exact nextF_mem s.now L _ _ (List.getElem_mem hkl) (by
        rcases Int.lt_or_le s.now L[k].ready with h | h
        · exact h
        · exact absurd ⟨hp, h⟩ hno)
    obtain ⟨i, hi, hpos⟩ := sumI_pos h0 hs
    have hlate : late L (nextI s.now L) < late L s.now := by
      apply late_less (by omega)
      rcases nextF_or s.now L 9223372036854775807 with h | ⟨x, hx, h1, h2⟩
      · have h3 := hall i hpos
        have h4 : nextI s.now L = 9223372036854775807 := h
        have hi2 : i < L.length := by omega
        unfold rdyN at h3
        rw [job_getD hi2] at h3
        have := (hr _ (List.getElem_mem hi2)).2
        omega
      · exact ⟨x, hx, h1, by have : nextI s.now L = x.ready := h2; omega⟩
    exact ⟨hok2, hrr, hsr, by show endR s.sch.reverse ≤ nextI s.now L; omega, hdn, fun _ k hp => hall k hp, by show s.sch.length + (cntL s.left + late L (nextI s.now L)) ≤ _; omega⟩
  · obtain ⟨u, hu1⟩ : ∃ u, u = (urgI L s.left s.now).1 := ⟨_, rfl⟩
    obtain ⟨hpos, hrd⟩ := urg_is L.length (Nat.le_refl _) hu
    have hmin := urg_min L.length (Nat.le_refl _) hu
    change 0 < s.left.getD (urgI L s.left s.now).1 0 at hpos
    change (L.getD (urgI L s.left s.now).1 noJob).ready ≤ s.now at hrd
    change ∀ i, i < L.length → 0 < s.left.getD i 0 → (L.getD i noJob).ready ≤ s.now → (L.getD (urgI L s.left s.now).1 noJob).due ≤ (L.getD i noJob).due at hmin
    rw [← hu1] at hpos hrd hmin
    have hul : u < L.length := left_lt hlen hpos
    obtain ⟨n, hn⟩ : ∃ n, n = min (s.left.getD u 0) (nextI s.now L - s.now) := ⟨_, rfl⟩
    have hst : stepS L s = ⟨s.left.set u (s.left.getD u 0 - n), wsl s.sch ⟨u, s.now, n⟩, s.now + n⟩ := by unfold stepS; rw [if_neg (by simp [hu]), ← hu1, ← hn]
    rw [hst] at hok2 ⊢
    have hn1 : 1 ≤ n ∧ n ≤ s.left.getD u 0 ∧ s.now + n ≤ nextI s.now L := by omega
    have hut : ((u : Int)).toNat = u := by omega
    have hsub : ∀ k, 0 < (s.left.set u (s.left.getD u 0 - n)).getD k 0 → 0 < s.left.getD k 0 := fun k hp => by
      rw [set_getD (by omega)] at hp
      split at hp
      · rename_i e; subst e; exact hpos
      · exact hp
    -- the rule at the new end
    have hrule : ∀ k, 0 < (s.left.set u (s.left.getD u 0 - n)).getD k 0 → rdyN L k < s.now + n → dueN L u ≤ dueN L k := fun k hp hrk => by
      have hp2 := hsub k hp
      have hkl := left_lt hlen hp2
      refine hmin k hkl hp2 ?_
      rcases Int.lt_or_le s.now (L.getD k noJob).ready with h | h
      · have h3 : nextI s.now L ≤ L[k].ready := nextF_mem s.now L _ _ (List.getElem_mem hkl) (by rw [job_getD hkl] at h; exact h)
        unfold rdyN at hrk
        rw [job_getD hkl] at hrk
        omega
      · exact h
    have hud := hdn u hul
    have hum : (L.getD u noJob).mins ≤ 10000 := by rw [job_getD hul]; exact (hok _ (List.getElem_mem hul)).2.2.2
    have hDl : (doneL L.length s.sch).length = L.length := by unfold doneL; rw [doneF_len, List.length_replicate]
    have hmd := mins_done (n := L.length) s.sch (List.replicate L.length 0) (by simp) (fun x hx => ⟨hk.job x hx, (hk.sch x hx).2.1⟩) (fun j hj => by rw [List.getD_eq_getElem?_getD, List.getElem?_replicate, if_pos hj]; exact Int.le_refl _) u hul
    change (List.replicate L.length 0).getD u 0 ≤ (doneL L.length s.sch).getD u 0 ∧ ∀ s' ∈ s.sch, s'.job.toNat = u → s'.mins ≤ (doneL L.length s.sch).getD u 0 at hmd
    have hd0 : 0 ≤ (doneL L.length s.sch).getD u 0 := by
      have h9 := hmd.1
      rw [List.getD_eq_getElem?_getD, List.getElem?_replicate, if_pos hul] at h9
      exact h9
    have hdn2 : ∀ S' : List Sl, doneL L.length S' = doneP (doneL L.length s.sch) ⟨u, s.now, n⟩ → ∀ k, k < L.length → (doneL L.length S').getD k 0 + (s.left.set u (s.left.getD u 0 - n)).getD k 0 = (L.getD k noJob).mins := fun S' hS' k hkl => by
      rw [hS']
      unfold doneP
      dsimp only
      rw [hut, set_getD (by omega), set_getD (by omega)]
      have := hdn k hkl
      split
      · rename_i e; subst e; omega
      · exact this
    have hsum := cntL_set (F := s.left) (i := u) (v := s.left.getD u 0 - n) (by omega) hpos
    have hlm := late_mono (L := L) (show s.now ≤ s.now + n by omega)
    have hcnt : cntL (s.left.set u (s.left.getD u 0 - n)) + late L (s.now + n) + 1 ≤ cntL s.left + late L s.now := by
      by_cases hc : 0 < s.left.getD u 0 - n
      · rw [if_pos hc] at hsum
        have hnx : s.now + n = nextI s.now L := by omega
        have : late L (s.now + n) < late L s.now := by
          apply late_less (by omega)
          rcases nextF_or s.now L 9223372036854775807 with h | ⟨x, hx, h1, h2⟩
          · have h4 : nextI s.now L = 9223372036854775807 := h
            have := sumI_ge h0 u
            omega
          · exact ⟨x, hx, h1, by have : nextI s.now L = x.ready := h2; omega⟩
        omega
      · rw [if_neg hc] at hsum; omega
    have hwl := wsl_len s.sch ⟨u, s.now, n⟩
    have hgap2 : ∀ T' : List Sl, endR T' = s.now + n → T' ≠ [] → (T' = [] ∨ endR T' < s.now + n) → ∀ k, 0 < (s.left.set u (s.left.getD u 0 - n)).getD k 0 → s.now + n ≤ rdyN L k := fun T' he hne hg => by
      rcases hg with hg | hg
      · exact absurd hg hne
      · omega
    have hW := wsl_rev s.sch ⟨u, s.now, n⟩
    rcases hT : s.sch.reverse with _ | ⟨y, T0⟩
    · rw [hT] at hW hrr hsr hen hgap
      have hW2 : (wsl s.sch ⟨u, s.now, n⟩).reverse = [⟨u, s.now, n⟩] := hW
      have hS0 : s.sch = [] := by simpa using hT
      refine ⟨hok2, ?_, ?_, ?_, ?_, ?_, ?_⟩
      · rw [hW2]
        refine ⟨fun k hp hrk => ?_, fun _ k hp => ?_, trivial⟩
        · show dueN L ((u : Int)).toNat ≤ _; rw [hut]; exact hrule k hp hrk
        · rcases hp with hp | hp
          · exact hgap (Or.inl rfl) k (hsub k hp)
          · have hp : k = ((u : Int)).toNat := hp
            rw [hp, hut]; exact hgap (Or.inl rfl) u hpos
      · rw [hW2]
        exact ⟨slErr_ok (by show (0 : Int) ≤ u ∧ (u : Int) < _; omega) (by show 1 ≤ n ∧ n ≤ 10000; omega) (by show 0 ≤ s.now ∧ s.now ≤ _; have := hk.now0; omega) (by show (L.getD ((u : Int)).toNat noJob).ready ≤ s.now; rw [hut]; exact hrd) (by show (0 : Int) ≤ s.now; exact hk.now0), trivial⟩
      · rw [hW2]; exact Int.le_refl _
      · exact hdn2 _ (by rw [hS0]; rfl)
      · rw [hW2]; exact hgap2 [⟨u, s.now, n⟩] rfl (by simp)
      · show (wsl s.sch ⟨u, s.now, n⟩).length + (cntL (s.left.set u (s.left.getD u 0 - n)) + late L (s.now + n)) ≤ 2 * L.length; omega
    · rw [hT] at hW hrr hsr hen hgap
      have hS2 : s.sch = T0.reverse ++ [y] := by rw [← List.reverse_reverse s.sch, hT]; simp
      obtain ⟨r1, r2, r3⟩ := hrr
      obtain ⟨q1, q2⟩ := hsr
      by_cases hc : y.job = (u : Int) ∧ slE y = s.now
      · have hW2 : (wsl s.sch ⟨u, s.now, n⟩).reverse = ⟨y.job, y.from_, y.mins + n⟩ :: T0 := by rw [hW]; unfold wslR; exact if_pos hc
        have hW3 : wsl s.sch ⟨u, s.now, n⟩ = T0.reverse ++ [⟨y.job, y.from_, y.mins + n⟩] := by rw [← List.reverse_reverse (wsl s.sch _), hW2]; simp
        have hyu : y.job.toNat = u := by rw [hc.1]; exact hut
        have hsl := sl_right q1
        have hym := hmd.2 y (by rw [hS2]; simp) hyu
        have hse : slE ⟨y.job, y.from_, y.mins + n⟩ = s.now + n := by have := hc.2; unfold slE at this ⊢; dsimp only; omega
        refine ⟨hok2, ?_, ?_, ?_, ?_, ?_, ?_⟩
        · rw [hW2]
          refine ⟨fun k hp hrk => ?_, fun hg k hp => ?_, ?_⟩
          · show dueN L y.job.toNat ≤ _; rw [hyu]; rw [hse] at hrk; exact hrule k hp hrk
          · exact r2 hg k (hp.imp (hsub k) id)
          · exact RR.mono (fun k hp => hp.imp (hsub k) id) r3
        · rw [hW2]
          refine ⟨slErr_ok hsl.1 ?_ hsl.2.2.1 hsl.2.2.2.1 hsl.2.2.2.2, q2⟩
          show 1 ≤ y.mins + n ∧ y.mins + n ≤ 10000
          have := hsl.2.1
          omega
        · rw [hW2]; show slE _ ≤ s.now + n; rw [hse]; exact Int.le_refl _
        · refine hdn2 _ ?_
          rw [hW3, hS2, doneL_snoc, doneL_snoc]
          unfold doneP
          dsimp only
          have hlT : u < (doneL L.length T0.reverse).length := by unfold doneL; rw [doneF_len, List.length_replicate]; exact hul
          rw [hyu, hut, set_getD hlT, if_pos rfl, List.set_set, Int.add_assoc]
        · rw [hW2]; exact hgap2 _ hse (by simp)
        · have hll : (wsl s.sch ⟨u, s.now, n⟩).length = s.sch.length := by rw [hW3, hS2]; simp
          show (wsl s.sch ⟨u, s.now, n⟩).length + (cntL (s.left.set u (s.left.getD u 0 - n)) + late L (s.now + n)) ≤ 2 * L.length; omega
      · have hW2 : (wsl s.sch ⟨u, s.now, n⟩).reverse = ⟨u, s.now, n⟩ :: y :: T0 := by rw [hW]; unfold wslR; exact if_neg hc
        have hW3 : wsl s.sch ⟨u, s.now, n⟩ = s.sch ++ [⟨u, s.now, n⟩] := by rw [← List.reverse_reverse (wsl s.sch _), hW2, hS2]; simp
        refine ⟨hok2, ?_, ?_, ?_, ?_, ?_, ?_⟩
        · rw [hW2]
          refine ⟨fun k hp hrk => ?_, fun hg k hp => ?_, ?_⟩
          · show dueN L ((u : Int)).toNat ≤ _; rw [hut]; exact hrule k hp hrk
          · have hg2 : endR (y :: T0) < s.now := by
              rcases hg with hg | hg
              · cases hg
              · exact hg
            rcases hp with hp | hp
            · exact hgap (Or.inr hg2) k (hsub k hp)
            · have hp : k = ((u : Int)).toNat := hp
              rw [hp, hut]; exact hgap (Or.inr hg2) u hpos
          · refine RR.mono (P := fun k => 0 < s.left.getD k 0) (fun k hp => ?_) ⟨r1, r2, r3⟩
            rcases hp with hp | hp
            · exact hsub k hp
            · have hp : k = ((u : Int)).toNat := hp
              rw [hp, hut]; exact hpos
        · rw [hW2]
          exact ⟨slErr_ok (by show (0 : Int) ≤ u ∧ (u : Int) < _; omega) (by show 1 ≤ n ∧ n ≤ 10000; omega) (by show 0 ≤ s.now ∧ s.now ≤ _; have := hk.now0; omega) (by show (L.getD ((u : Int)).toNat noJob).ready ≤ s.now; rw [hut]; exact hrd) hen, q1, q2⟩
        · rw [hW2]; exact Int.le_refl _
        · exact hdn2 _ (by rw [hW3, doneL_snoc])
        · rw [hW2]; exact hgap2 _ rfl (by simp)
        · show (wsl s.sch ⟨u, s.now, n⟩).length + (cntL (s.left.set u (s.left.getD u 0 - n)) + late L (s.now + n)) ≤ 2 * L.length; omega
theorem run_ri {L : List Job} (hl : 0 < L.length) (hok : JobsOk L) : ∀ (n : Nat) (s : SSt), RI L s → measS L s ≤ n → RI L (runS L n s) ∧ ¬ 0 < sumI (runS L n s).left
  | 0, s, h, hm => ⟨h, fun hs => by
    have hp : 0 < sumI s.left := hs
    unfold measS at hm; omega⟩
  | n + 1, s, h, hm => by
    unfold runS
    by_cases hs : 0 < sumI s.left
    · rw [if_pos hs]
      have hd := (step_ok h.ok (by omega) hl (fun x hx => (hok x hx).1) hs).2
      exact run_ri hl hok n _ (step_ri hl hok hs h) (by omega)
    · rw [if_neg hs]; exact ⟨h, hs⟩
/-- The schedule by dues: right, and by its rule. -/
theorem sched_right {L : List Job} (h1 : 1 ≤ L.length) (hl : L.length ≤ 20) (hok : JobsOk L) : csErr L (schedI L) = 0 ∧ SR L (schedI L).reverse ∧ RR L (fun _ => False) (schedI L).reverse := by
  obtain ⟨h, hs⟩ := run_ri (by omega) hok 300000 _ (start_ri hl hok) (start_ok hl (fun x hx => (hok x hx).2.2)).2
  have hz : ∀ k, (runS L 300000 (startS L)).left.getD k 0 = 0 := fun k => by
    have h2 := sumI_ge h.ok.left0 k
    have h3 := getD_nonneg h.ok.left0 k
    omega
  refine ⟨?_, h.sr, RR.mono (fun k hk => hk.elim) h.rr⟩
  have hsc : schE L 0 (schedI L) = 0 := by
    have h4 := (sr_sch _).1 h.sr
    rw [List.reverse_reverse] at h4; exact h4
  have hdo : DoneOk L (doneL L.length (schedI L)) := fun i hi => by
    have h4 := h.dn i hi
    rw [hz i, Int.add_zero] at h4
    exact h4
  have hnum := h.num
  unfold csErr
  rw [if_neg (by show ¬ 100 < (runS L 300000 (startS L)).sch.length; omega), if_neg (by rw [hsc]; decide), if_pos hdo]
end Go.Proofs.Ytpplcbpnojggcaa

namespace Go.Proofs.Ytpplcbpnojggcaa
open Go.RowKit

theorem ends_back {L : List Job} : ∀ {T : List Sl}, SR L T → ∀ {x : Sl} {e : Int}, slErr L e x = 0 → e = endR T → ∀ z ∈ T, slE z < slE x
  | [], _, _, _, _, _, z, hz => by cases hz
  | y :: T, ⟨h1, h2⟩, x, e, hx, he, z, hz => by
    have h3 := sl_right hx
    have h4 := sl_right h1
    have h5 : e = slE y := he
    unfold slE at h5 ⊢
    rcases List.mem_cons.1 hz with rfl | hz
    · omega
    · have h6 := ends_back h2 h1 rfl z hz
      unfold slE at h6
      omega
/-- What is of a set in slices. -/
def wJ (J : List Int) (s : Sl) : Int := if s.job ∈ J then s.mins else 0
theorem wJ_nonneg {L : List Job} {J : List Int} : ∀ {T : List Sl}, SR L T → 0 ≤ (T.map (wJ J)).sum
  | [], _ => Int.le_refl _
  | z :: T, ⟨h1, h2⟩ => by
    have h3 := sl_right h1
    have h4 := wJ_nonneg (J := J) h2
    rw [List.map_cons, List.sum_cons]
    have : 0 ≤ wJ J z := by unfold wJ; split <;> omega
    omega
theorem fold_stays {L : List Job} {due t : Int} {A : List Int} : ∀ {T : List Sl}, (∀ z ∈ T, ¬ (slE z = t ∧ (L.getD z.job.toNat noJob).due ≤ due)) → T.foldl (cauP L due) (A, t) = (A, t)
  | [], _ => rfl
  | z :: T, h => by
    have h1 : cauP L due (A, t) z = (A, t) := by
      unfold cauP
      exact if_neg (h z List.mem_cons_self)
    rw [List.foldl_cons, h1]
    exact fold_stays (fun y hy => h y (List.mem_cons_of_mem _ hy))
/-- A chain of slices, one behind the other, back to where it begins. -/
theorem chain {L : List Job} {due : Int} : ∀ (T : List Sl) (A : List Int) (t : Int) (P : Nat → Prop), SR L T → RR L P T → endR T ≤ t → ((T = [] ∨ endR T < t) → ∀ k, P k → t ≤ rdyN L k) →
    (∀ y ∈ A, P y.toNat ∧ dueN L y.toNat ≤ due) →
    ∃ (A' : List Int) (t' : Int), T.foldl (cauP L due) (A, t) = (A', t') ∧ (∀ y ∈ A, y ∈ A') ∧ (∀ y ∈ A', (y ∈ A ∨ (0 ≤ y ∧ y < L.length)) ∧ dueN L y.toNat ≤ due ∧ t' ≤ rdyN L y.toNat) ∧
      ∀ J : List Int, (∀ y ∈ A', y ∈ J) → t - t' ≤ (T.map (wJ J)).sum
  | [], A, t, P, _, _, _, hg, hA => ⟨A, t, rfl, fun y hy => hy, fun y hy => ⟨Or.inl hy, (hA y hy).2, hg (Or.inl rfl) _ (hA y hy).1⟩, fun J _ => by simp⟩
  | z :: T, A, t, P, ⟨s1, s2⟩, ⟨r1, r2, r3⟩, he, hg, hA => by
    have hz := sl_right s1
    have he : slE z ≤ t := he
    by_cases hm : slE z = t ∧ (L.getD z.job.toNat noJob).due ≤ due
    · have hst : cauP L due (A, t) z = (A ++ [z.job], z.from_) := by unfold cauP; exact if_pos hm
      rw [List.foldl_cons, hst]
      obtain ⟨A', t', h1, h2, h3, h4⟩ := chain T (A ++ [z.job]) z.from_ _ s2 r3 hz.2.2.2.2 r2 (fun y hy => by
        rcases List.mem_append.1 hy with h | h
        · exact ⟨Or.inl (hA y h).1, (hA y h).2⟩
        · rw [List.mem_singleton.1 h]; exact ⟨Or.inr rfl, hm.2⟩)
      refine ⟨A', t', h1, fun y hy => h2 y (List.mem_append.2 (Or.inl hy)), fun y hy => ?_, fun J hJ => ?_⟩
      · obtain ⟨h5, h6⟩ := h3 y hy
        refine ⟨?_, h6⟩
        rcases h5 with h5 | h5
        · rcases List.mem_append.1 h5 with h5 | h5
          · exact Or.inl h5
          · rw [List.mem_singleton.1 h5]; exact Or.inr hz.1
        · exact Or.inr h5
      · have h5 := h4 J hJ
        rw [List.map_cons, List.sum_cons]
        have h6 : wJ J z = z.mins := by unfold wJ; exact if_pos (hJ _ (h2 _ (List.mem_append.2 (Or.inr (List.mem_singleton.2 rfl)))))
        have h7 := hm.1
        unfold slE at h7
        omega
    · have hfs : (z :: T).foldl (cauP L due) (A, t) = (A, t) := by
        refine fold_stays (fun y hy => ?_)
        rcases List.mem_cons.1 hy with rfl | hy
        · exact hm
        · have := ends_back s2 s1 rfl y hy
          rintro ⟨h, -⟩; omega
      refine ⟨A, t, hfs, fun y hy => hy, fun y hy => ⟨Or.inl hy, (hA y hy).2, ?_⟩, fun J _ => by have := wJ_nonneg (L := L) (J := J) (T := z :: T) ⟨s1, s2⟩; omega⟩
      rcases Int.lt_or_le (slE z) t with h | h
      · exact hg (Or.inr h) _ (hA y hy).1
      · have hd : due < (L.getD z.job.toNat noJob).due := by
          rcases Int.lt_or_le due (L.getD z.job.toNat noJob).due with h9 | h9
          · exact h9
          · exact absurd ⟨by omega, h9⟩ hm
        rcases Int.lt_or_le (rdyN L y.toNat) (slE z) with h2 | h2
        · have h3 := r1 _ (hA y hy).1 h2
          have h4 := (hA y hy).2
          unfold dueN at h3 h4
          omega
        · omega
theorem chain0 {L : List Job} {due fr : Int} : ∀ (T : List Sl) (P : Nat → Prop), SR L T → RR L P T → (∃ z ∈ T, slE z = fr ∧ dueN L z.job.toNat = due) →
    ∃ (A' : List Int) (t' : Int), T.foldl (cauP L due) ([], fr) = (A', t') ∧ A' ≠ [] ∧ (∀ y ∈ A', (0 ≤ y ∧ y < L.length) ∧ dueN L y.toNat ≤ due ∧ t' ≤ rdyN L y.toNat) ∧
      ∀ J : List Int, (∀ y ∈ A', y ∈ J) → fr - t' ≤ (T.map (wJ J)).sum
  | [], _, _, _, ⟨z, hz, _⟩ => by cases hz
  | x :: T, P, ⟨s1, s2⟩, ⟨r1, r2, r3⟩, ⟨z, hz, hze, hzd⟩ => by
    have hx := sl_right s1
    rcases List.mem_cons.1 hz with rfl | hzT
    · have hst : cauP L due ([], fr) z = ([] ++ [z.job], z.from_) := by unfold cauP; exact if_pos ⟨hze, by unfold dueN at hzd; omega⟩
      rw [List.foldl_cons, hst]
      obtain ⟨A', t', h1, h2, h3, h4⟩ := chain (due := due) T ([] ++ [z.job]) z.from_ _ s2 r3 hx.2.2.2.2 r2 (fun y hy => by
        rw [List.mem_singleton.1 hy]; exact ⟨Or.inr rfl, by omega⟩)
      refine ⟨A', t', h1, fun e => ?_, fun y hy => ?_, fun J hJ => ?_⟩
      · have := h2 z.job (List.mem_singleton.2 rfl)
        rw [e] at this; cases this
      · obtain ⟨h5, h6⟩ := h3 y hy
        refine ⟨?_, h6⟩
        rcases h5 with h5 | h5
        · rw [List.mem_singleton.1 h5]; exact hx.1
        · exact h5
      · have h5 := h4 J hJ
        rw [List.map_cons, List.sum_cons]
        have h6 : wJ J z = z.mins := by unfold wJ; exact if_pos (hJ _ (h2 _ (List.mem_singleton.2 rfl)))
        unfold slE at hze
        omega
    · have hlt := ends_back s2 s1 rfl z hzT
      have hst : cauP L due ([], fr) x = ([], fr) := by unfold cauP; exact if_neg (fun h => by have h9 := h.1; unfold slE at hlt hze; dsimp only at h9; omega)
      rw [List.foldl_cons, hst]
      obtain ⟨A', t', h1, h2, h3, h4⟩ := chain0 (due := due) (fr := fr) T _ s2 r3 ⟨z, hzT, hze, hzd⟩
      refine ⟨A', t', h1, h2, h3, fun J hJ => ?_⟩
      have h5 := h4 J hJ
      rw [List.map_cons, List.sum_cons]
      have : 0 ≤ wJ J x := by unfold wJ; split <;> omega
      omega
theorem backs_rev (S : List Sl) : ∀ k, k ≤ S.length → (backs S.length k).map (fun x => S.getD x.1 noSl) = (S.drop (S.length - k)).reverse
  | 0, _ => by simp [backs]
  | k + 1, hk => by
    have h : S.length - (k + 1) < S.length := by omega
    unfold backs
    rw [dif_pos h, List.map_append, backs_rev S k (by omega), List.drop_eq_getElem_cons h, List.reverse_cons, show S.length - (k + 1) + 1 = S.length - k by omega]
    simp only [List.map_cons, List.map_nil]
    rw [sl_getD h]
theorem cauF_rev (L : List Job) (S : List Sl) (due fr : Int) : cauF L S due fr (backs S.length S.length) = S.reverse.foldl (cauP L due) ([], fr) := by
  have h := backs_rev S S.length (Nat.le_refl _)
  rw [Nat.sub_self, List.drop_zero] at h
  unfold cauF
  rw [← h, List.foldl_map]
theorem end_none {j : Nat} : ∀ (S : List Sl) (E : List Int), (∀ s ∈ S, s.job.toNat ≠ j) → (S.foldl endP E).getD j 0 = E.getD j 0 ∧ (S.foldl doneP E).getD j 0 = E.getD j 0
  | [], _, _ => ⟨rfl, rfl⟩
  | s :: S, E, h => by
    have h1 := h s List.mem_cons_self
    have hs : ∀ v, (E.set s.job.toNat v).getD j 0 = E.getD j 0 := fun v => by
      rw [List.getD_eq_getElem?_getD, List.getElem?_set, if_neg h1, ← List.getD_eq_getElem?_getD]
    have h2 := end_none S (endP E s) (fun y hy => h y (List.mem_cons_of_mem _ hy))
    have h3 := end_none S (doneP E s) (fun y hy => h y (List.mem_cons_of_mem _ hy))
    exact ⟨by rw [List.foldl_cons, h2.1]; exact hs _, by rw [List.foldl_cons, h3.2]; exact hs _⟩
theorem end_some {n j : Nat} : ∀ (S : List Sl) (E : List Int), E.length = n → (∀ s ∈ S, 0 ≤ s.job ∧ s.job < n) → (∃ s ∈ S, s.job.toNat = j) → ∃ s ∈ S, s.job.toNat = j ∧ (S.foldl endP E).getD j 0 = slE s
  | [], _, _, _, ⟨s, hs, _⟩ => by cases hs
  | x :: S, E, hE, hj, ⟨s, hs, e⟩ => by
    by_cases h : ∃ s ∈ S, s.job.toNat = j
    · obtain ⟨z, hz, h1, h2⟩ := end_some S (endP E x) (by unfold endP; rw [List.length_set, hE]) (fun s hs => hj s (List.mem_cons_of_mem _ hs)) h
      exact ⟨z, List.mem_cons_of_mem _ hz, h1, h2⟩
    · have hx : s = x := by
        rcases List.mem_cons.1 hs with h2 | h2
        · exact h2
        · exact absurd ⟨s, h2, e⟩ h
      subst hx
      have h2 := (end_none (j := j) S (endP E s) (fun y hy e2 => h ⟨y, hy, e2⟩)).1
      have h3 := hj s List.mem_cons_self
      refine ⟨s, List.mem_cons_self, e, ?_⟩
      rw [List.foldl_cons, h2]
      unfold endP
      rw [set_getD (by omega), if_pos e]; rfl
/-- The compact form of a list in order. -/
theorem compact_sorted {zs : List Int} (h : zs.Pairwise (· ≤ ·)) : (Lib.compact zs).Pairwise (· < ·) ∧ ∀ y, y ∈ Lib.compact zs ↔ y ∈ zs := by
  have hle : ∀ i j (hi : i < zs.length) (hj : j < zs.length), i ≤ j → zs[i] ≤ zs[j] := fun i j hi hj hij => by
    rcases Nat.lt_or_ge i j with h1 | h1
    · exact List.pairwise_iff_getElem.1 h i j hi hj h1
    · obtain rfl : i = j := by omega
      exact Int.le_refl _
  have hat : ∀ j, (hj : j < zs.length) → zs.toArray[j]! = zs[j] := fun j hj => by simp [hj]
  constructor
  · unfold Lib.compact Lib.compactUpTo
    rw [List.pairwise_map]
    have h1 : ((List.range zs.length).filter (Lib.keeps zs.toArray)).Pairwise (· < ·) := List.Pairwise.filter _ List.pairwise_lt_range
    refine List.Pairwise.imp_of_mem (fun {i j} hi hj hij => ?_) h1
    have hj2 := List.mem_filter.1 hj
    have hi2 := List.mem_filter.1 hi
    have hjl := List.mem_range.1 hj2.1
    have hil := List.mem_range.1 hi2.1
    have hk := hj2.2
    unfold Lib.keeps at hk
    rw [decide_eq_true_eq] at hk
    rcases hk with hk | hk
    · omega
    · rw [hat j hjl, hat (j - 1) (by omega)] at hk
      rw [hat i hil, hat j hjl]
      have h2 := hle i (j - 1) hil (by omega) (by omega)
      have h3 := hle (j - 1) j (by omega) hjl (by omega)
      omega
  · intro y
    unfold Lib.compact Lib.compactUpTo
    rw [List.mem_map]
    constructor
    · rintro ⟨j, hj, rfl⟩
      have hjl := List.mem_range.1 (List.mem_filter.1 hj).1
      rw [hat j hjl]; exact List.getElem_mem hjl
    · intro hy
      obtain ⟨i, hi, e⟩ := List.getElem_of_mem hy
      have hex : ∃ m, ∃ hm : m < zs.length, zs[m] = y ∧ ∀ q, q < m → ∀ hq : q < zs.length, zs[q] ≠ y := by
        have : ∀ n (hn : n < zs.length), zs[n] = y → ∃ m, ∃ hm : m < zs.length, zs[m] = y ∧ ∀ q, q < m → ∀ hq : q < zs.length, zs[q] ≠ y := by
          intro n
          induction n using Nat.strongRecOn with
          | ind n ih =>
            intro hn he
            by_cases hc : ∃ q, q < n ∧ ∃ hq : q < zs.length, zs[q] = y
            · obtain ⟨q, h1, h2, h3⟩ := hc
              exact ih q h1 h2 h3
            · exact ⟨n, hn, he, fun q hq hq2 e2 => hc ⟨q, hq, hq2, e2⟩⟩
        exact this i hi e
      obtain ⟨m, hm, h1, h2⟩ := hex
      refine ⟨m, List.mem_filter.2 ⟨List.mem_range.2 hm, ?_⟩, by rw [hat m hm, h1]⟩
      unfold Lib.keeps
      rw [decide_eq_true_eq]
      rcases Nat.eq_zero_or_pos m with h0 | h0
      · exact Or.inl h0
      · right
        rw [hat m hm, hat (m - 1) (by omega), h1]
        exact fun e2 => h2 (m - 1) (by omega) (by omega) e2.symm
theorem bdF_of {n : Nat} : ∀ {J : List Int} {p : Int}, J.Pairwise (· < ·) → (∀ y ∈ J, p < y ∧ 0 ≤ y ∧ y < n) → bdF n p J = 0
  | [], _, _, _ => rfl
  | y :: J, p, h, hr => by
    have h1 := hr y List.mem_cons_self
    obtain ⟨h2, h3⟩ := List.pairwise_cons.1 h
    unfold bdF
    rw [if_neg (by rw [inB_yes (by omega)]; decide), if_neg (by omega)]
    exact bdF_of h3 (fun z hz => ⟨h2 z hz, (hr z (List.mem_cons_of_mem _ hz)).2⟩)
theorem totJ_fold {L : List Job} {J : List Int} (hnd : J.Nodup) (hJ : ∀ y ∈ J, 0 ≤ y) : ∀ (S : List Sl) (e : Int) (D : List Int), schE L e S = 0 → D.length = L.length → totJ J (S.foldl doneP D) = totJ J D + (S.map (wJ J)).sum
  | [], _, _, _, _ => by simp
  | s :: S, e, D, h0, hD => by
    unfold schE at h0
    split at h0
    · exact absurd h0 ‹_›
    rename_i h1
    obtain ⟨⟨q1, q2⟩, -⟩ := sl_right (by simpa using h1 : slErr L e s = 0)
    have hii : ((s.job.toNat : Nat) : Int) = s.job := by omega
    rw [List.foldl_cons, totJ_fold hnd hJ S _ (doneP D s) h0 (by unfold doneP; rw [List.length_set, hD])]
    unfold doneP
    rw [totJ_set (by omega) hnd hJ, hii, List.map_cons, List.sum_cons]
    unfold wJ
    by_cases hm : s.job ∈ J
    · rw [if_pos hm, if_pos hm]; omega
    · rw [if_neg hm, if_neg hm]; omega
theorem min_ge {α : Type} (f : α → Int) (b : Int) : ∀ (J : List α) (a : Int), b ≤ a → (∀ y ∈ J, b ≤ f y) → b ≤ J.foldl (fun a y => min a (f y)) a
  | [], _, h, _ => h
  | x :: J, a, h, hf => by
    rw [List.foldl_cons]
    have := hf x List.mem_cons_self
    exact min_ge f b J _ (by omega) (fun y hy => hf y (List.mem_cons_of_mem _ hy))
theorem max_le {α : Type} (f : α → Int) (b : Int) : ∀ (J : List α) (a : Int), a ≤ b → (∀ y ∈ J, f y ≤ b) → J.foldl (fun a y => max a (f y)) a ≤ b
  | [], _, h, _ => h
  | x :: J, a, h, hf => by
    rw [List.foldl_cons]
    have := hf x List.mem_cons_self
    exact max_le f b J _ (by omega) (fun y hy => hf y (List.mem_cons_of_mem _ hy))
/-- The causes are a right set, and their bound is the lateness. -/
theorem causes_right {L : List Job} (h1 : 1 ≤ L.length) (hl : L.length ≤ 20) (hok : JobsOk L) : cbErr L.length (causI L) = 0 ∧ bdI L (causI L) = latI L (schedI L) ∧ (causI L).length ≤ 1000000 := by
  obtain ⟨hcs, hsr, hrr⟩ := sched_right h1 hl hok
  obtain ⟨hS100, hsch, hdone⟩ := cs_right hcs
  obtain ⟨k, hk1, hk2, hk3⟩ := idxFrom_mem (latI L (schedI L)) (lateL L (schedI L)) 0 (maxOf_mem (by rw [lateL_len]; omega))
  rw [lateL_len] at hk1
  have hkJ : latJ L (schedI L) = (k : Int) := by unfold latJ Lib.idxOf; rw [hk2]; congr 1; omega
  have hk3 : (lateL L (schedI L)).getD k 0 = latI L (schedI L) := hk3
  obtain ⟨S, hS⟩ : ∃ S, S = schedI L := ⟨_, rfl⟩
  have hcI : causI L = causesI L S (dueN L k) (latI L S) := by unfold causI; rw [hkJ, hS]; rfl
  rw [hcI, ← hS]
  rw [← hS] at hcs hsr hrr hS100 hsch hdone hk3
  obtain ⟨fr, hfr⟩ : ∃ fr, fr = dueN L k + latI L S := ⟨_, rfl⟩
  have hle := late_eq hok hcs k hk1
  have hex : ∃ s ∈ S, s.job.toNat = k := by
    refine Classical.byContradiction (fun hno => ?_)
    have h9 := (end_none (j := k) S (List.replicate L.length 0) (fun s hs e => hno ⟨s, hs, e⟩)).2
    have h10 := hdone k hk1
    unfold doneL at h10
    rw [h9, List.getD_eq_getElem?_getD, List.getElem?_replicate, if_pos hk1, job_getD hk1] at h10
    have := (hok _ (List.getElem_mem hk1)).2.2.1
    simp at h10; omega
  obtain ⟨z, hz, hzj, hze⟩ := end_some (n := L.length) (j := k) S (List.replicate L.length 0) (by simp) (fun s hs => (sch_right hsch s hs).1) hex
  have hzf : slE z = fr := by
    unfold endL at hle
    rw [hze] at hle
    unfold dueN at hfr
    omega
  obtain ⟨A, t, h2, h3, h4, h5⟩ := chain0 (due := dueN L k) (fr := fr) S.reverse (fun _ => False) hsr hrr ⟨z, List.mem_reverse.2 hz, hzf, by rw [hzj]⟩
  have hcL : causeL L S (dueN L k) (latI L S) = A := by
    unfold causeL
    rw [cauF_rev, ← hfr, h2]
  obtain ⟨B, hB⟩ : ∃ B, B = A.mergeSort fun x y => decide (x ≤ y) := ⟨_, rfl⟩
  have hJ : causesI L S (dueN L k) (latI L S) = Lib.compact B := by unfold causesI; rw [hcL, hB]
  have hBs : B.Pairwise (· ≤ ·) := by
    have := List.pairwise_mergeSort (le := fun x y : Int => decide (x ≤ y)) (fun a b c h1 h2 => by simp at h1 h2 ⊢; omega) (fun a b => by simp; omega) A
    rw [← hB] at this
    exact this.imp (fun h => by simpa using h)
  have hBm : ∀ y, y ∈ B ↔ y ∈ A := fun y => by rw [hB]; exact List.mem_mergeSort
  obtain ⟨c1, c2⟩ := compact_sorted hBs
  rw [hJ]
  obtain ⟨J, hJe⟩ : ∃ J, J = Lib.compact B := ⟨_, rfl⟩
  rw [← hJe] at c1 c2 ⊢
  have hJA : ∀ y, y ∈ J ↔ y ∈ A := fun y => (c2 y).trans (hBm y)
  have hJr : ∀ y ∈ J, 0 ≤ y ∧ y < L.length := fun y hy => (h4 y ((hJA y).1 hy)).1
  have hJne : J.length ≠ 0 := fun e => h3 (by
    rcases A with _ | ⟨a, A⟩
    · rfl
    · have := (hJA a).2 List.mem_cons_self
      rw [List.eq_nil_of_length_eq_zero e] at this; cases this)
  have hcb : cbErr L.length J = 0 := by
    unfold cbErr
    rw [if_neg hJne]
    exact bdF_of c1 (fun y hy => by have := hJr y hy; omega)
  have hnd : J.Nodup := c1.imp (fun h e => by omega)
  have hlen : J.length ≤ 1000000 := by
    have h9 : ∀ (n : Nat) (J : List Int) (p : Int), J.Pairwise (· < ·) → (∀ y ∈ J, p < y ∧ y < n) → (J.length : Int) ≤ n - p - 1 ∨ J = [] := by
      intro n J
      induction J with
      | nil => intro p _ _; exact Or.inr rfl
      | cons y J ih =>
        intro p hp hr
        obtain ⟨q1, q2⟩ := List.pairwise_cons.1 hp
        have q3 := hr y List.mem_cons_self
        rcases ih y q2 (fun z hz => ⟨q1 z hz, (hr z (List.mem_cons_of_mem _ hz)).2⟩) with h | h
        · left; rw [List.length_cons]; omega
        · left; subst h; simp; omega
    rcases h9 L.length J (-1) c1 (fun y hy => by have := hJr y hy; omega) with h | h
    · omega
    · rw [h]; decide
  refine ⟨hcb, Int.le_antisymm (bound_le hok hcs hcb) ?_, hlen⟩
  have hsum := h5 J (fun y hy => (hJA y).2 hy)
  rw [show (S.reverse.map (wJ J)).sum = (S.map (wJ J)).sum by rw [List.map_reverse, List.sum_reverse]] at hsum
  have htot := totJ_fold hnd (fun y hy => (hJr y hy).1) S 0 (List.replicate L.length 0) hsch (by simp)
  have ht0 : totJ J (List.replicate L.length 0) = 0 := by
    unfold totJ
    have : ∀ J : List Int, (J.map fun y => (List.replicate L.length (0 : Int)).getD y.toNat 0).sum = 0 := by
      intro J
      induction J with
      | nil => rfl
      | cons y J ih =>
        rw [List.map_cons, List.sum_cons, ih, List.getD_eq_getElem?_getD, List.getElem?_replicate]
        split <;> rfl
    exact this J
  have hD : totJ J (S.foldl doneP (List.replicate L.length 0)) = (J.map fun y => (L.getD y.toNat noJob).mins).sum := by
    unfold totJ
    congr 1
    refine List.map_congr_left (fun y hy => ?_)
    exact hdone y.toNat (by have := hJr y hy; omega)
  have hsm := sum_fold (fun y : Int => (L.getD y.toNat noJob).mins) J 0
  have hrd : t ≤ rdyI L J := min_ge (fun y : Int => (L.getD y.toNat noJob).ready) t J _ (by
    rcases A with _ | ⟨a, A⟩
    · exact absurd rfl h3
    · have h9 := (h4 a List.mem_cons_self)
      have hal : a.toNat < L.length := by omega
      have h10 := h9.2.2
      unfold rdyN at h10
      rw [job_getD hal] at h10
      have := (hok _ (List.getElem_mem hal)).1.2
      omega) (fun y hy => (h4 y ((hJA y).1 hy)).2.2)
  have hdu : duI L J ≤ dueN L k := max_le (fun y : Int => (L.getD y.toNat noJob).due) (dueN L k) J _ (by unfold dueN; rw [job_getD hk1]; exact (hok _ (List.getElem_mem hk1)).2.1.1) (fun y hy => (h4 y ((hJA y).1 hy)).2.1)
  unfold bdI smI
  rw [hsm]
  omega
end Go.Proofs.Ytpplcbpnojggcaa

namespace Go.Proofs.Ytpplcbpnojggcaa
open Go.RowKit

def AtOnce (L : List Job) : Prop := ∀ x ∈ L, x.ready = 0
theorem next_max {L : List Job} (h0 : AtOnce L) {m : Int} (hm : 0 ≤ m) : nextI m L = 9223372036854775807 := by
  rcases nextF_or m L 9223372036854775807 with h | ⟨x, hx, h1, -⟩
  · exact h
  · have := h0 x hx; omega
/-- What holds of a schedule under way, all runs ready at once. -/
structure ZI (L : List Job) (s : SSt) : Prop where
  ok : SOk L 200000 s
  num : s.sch.length + cntL s.left = L.length
  gone : ∀ x ∈ s.sch, s.left.getD x.job.toNat 0 = 0
  ord : s.sch.Pairwise (fun x y => dueN L x.job.toNat ≤ dueN L y.job.toNat)
  dues : ∀ x ∈ s.sch, ∀ k, 0 < s.left.getD k 0 → dueN L x.job.toNat ≤ dueN L k
theorem cnt_all : ∀ {F : List Int}, (∀ x ∈ F, 0 < x) → cntL F = F.length
  | [], _ => rfl
  | x :: F, h => by
    have ih := cnt_all (F := F) fun y hy => h y (List.mem_cons_of_mem _ hy)
    unfold cntL at ih ⊢
    rw [List.filter_cons, if_pos (by simpa using h x List.mem_cons_self), List.length_cons, List.length_cons, ih]
theorem cnt_none : ∀ {F : List Int}, (∀ x ∈ F, x ≤ 0) → cntL F = 0
  | [], _ => rfl
  | x :: F, h => by
    have ih := cnt_none (F := F) fun y hy => h y (List.mem_cons_of_mem _ hy)
    unfold cntL at ih ⊢
    rw [List.filter_cons, if_neg (by have := h x List.mem_cons_self; simpa using this), ih]
theorem start_zi {L : List Job} (hl : L.length ≤ 20) (hok : JobsOk L) : ZI L (startS L) := by
  refine ⟨(start_ok hl (fun x hx => (hok x hx).2.2)).1, ?_, (fun x hx => by cases hx), List.Pairwise.nil, (fun x hx => by cases hx)⟩
  show 0 + cntL (L.map (·.mins)) = L.length
  rw [cnt_all (F := L.map (·.mins)) (fun y hy => by
    obtain ⟨x, hx, rfl⟩ := List.mem_map.1 hy
    have := (hok x hx).2.2; omega)]
  simp
theorem step_zi {L : List Job} {s : SSt} (hl : 0 < L.length) (hok : JobsOk L) (h0 : AtOnce L) (hs : 0 < sumI s.left) (h : ZI L s) : ZI L (stepS L s) := by
  obtain ⟨hk, hnum, hgone, hord, hdues⟩ := h
  have hok2 := (step_ok hk (by omega) hl (fun x hx => (hok x hx).1) hs).1
  have hlen := hk.len
  have hbd := hk.bd
  have hnow0 := hk.now0
  have hsum0 := sumI_nonneg hk.left0
  have hnx := next_max h0 hnow0
  obtain ⟨i, hi, hpos⟩ := sumI_pos hk.left0 hs
  have hi2 : i < L.length := by omega
  cases hu : (urgI L s.left s.now).2
  · have hno := urg_none L.length (Nat.le_refl _) hu i hi2
    rw [job_getD hi2] at hno
    have := h0 _ (List.getElem_mem hi2)
    exact absurd ⟨hpos, by omega⟩ hno
  · obtain ⟨hp, hrd⟩ := urg_is L.length (Nat.le_refl _) hu
    have hmin := urg_min L.length (Nat.le_refl _) hu
    change 0 < s.left.getD (urgI L s.left s.now).1 0 at hp
    change ∀ i, i < L.length → 0 < s.left.getD i 0 → (L.getD i noJob).ready ≤ s.now → (L.getD (urgI L s.left s.now).1 noJob).due ≤ (L.getD i noJob).due at hmin
    have hge := sumI_ge hk.left0 (urgI L s.left s.now).1
    have hst : stepS L s = ⟨s.left.set (urgI L s.left s.now).1 0, wsl s.sch ⟨(urgI L s.left s.now).1, s.now, s.left.getD (urgI L s.left s.now).1 0⟩, s.now + s.left.getD (urgI L s.left s.now).1 0⟩ := by
      unfold stepS
      rw [if_neg (by simp [hu]), hnx, Int.min_eq_left (by omega), Int.sub_self]
    obtain ⟨u, hu1⟩ : ∃ u, u = (urgI L s.left s.now).1 := ⟨_, rfl⟩
    rw [← hu1] at hp hmin hst hge
    have hul : u < L.length := left_lt hlen hp
    have hW : wsl s.sch ⟨u, s.now, s.left.getD u 0⟩ = s.sch ++ [⟨u, s.now, s.left.getD u 0⟩] := by
      unfold wsl
      rw [if_neg]
      rintro ⟨h1, h2, -⟩
      have hq : s.sch.length - 1 < s.sch.length := by omega
      have h3 := hgone _ (List.getElem_mem hq)
      rw [sl_getD hq] at h2
      have h2 : (s.sch[s.sch.length - 1]).job = (u : Int) := h2
      rw [h2] at h3
      have h3 : s.left.getD u 0 = 0 := by simpa using h3
      omega
    rw [hW] at hst
    rw [hst] at hok2 ⊢
    have hsub : ∀ k, 0 < (s.left.set u 0).getD k 0 → k ≠ u ∧ 0 < s.left.getD k 0 := fun k hk' => by
      rw [set_getD (by omega)] at hk'
      split at hk'
      · omega
      · rename_i e; exact ⟨fun e' => e e'.symm, hk'⟩
    have hut : ((u : Int)).toNat = u := by omega
    refine ⟨hok2, ?_, ?_, ?_, ?_⟩
    · have h1 := cntL_set (F := s.left) (i := u) (v := 0) (by omega) hp
      rw [if_neg (by omega)] at h1
      show (s.sch ++ [_]).length + cntL (s.left.set u 0) = _
      rw [List.length_append, List.length_singleton]
      omega
    · intro x hx
      show (s.left.set u 0).getD x.job.toNat 0 = 0
      rw [set_getD (by omega)]
      split
      · rfl
      · rename_i e
        rcases List.mem_append.1 hx with h | h
        · exact hgone x h
        · rw [List.mem_singleton.1 h] at e
          exact absurd hut.symm e
    · refine List.pairwise_append.2 ⟨hord, List.pairwise_singleton _ _, fun x hx y hy => ?_⟩
      rw [List.mem_singleton.1 hy]
      show dueN L x.job.toNat ≤ dueN L ((u : Int)).toNat
      rw [hut]; exact hdues x hx u hp
    · intro x hx k hk'
      obtain ⟨-, h2⟩ := hsub k hk'
      rcases List.mem_append.1 hx with h | h
      · exact hdues x h k h2
      · rw [List.mem_singleton.1 h]
        show dueN L ((u : Int)).toNat ≤ dueN L k
        rw [hut]
        have hkl := left_lt hlen h2
        exact hmin k hkl h2 (by rw [job_getD hkl]; have := h0 _ (List.getElem_mem hkl); omega)
theorem run_zi {L : List Job} (hl : 0 < L.length) (hok : JobsOk L) (h0 : AtOnce L) : ∀ (n : Nat) (s : SSt), ZI L s → measS L s ≤ n → ZI L (runS L n s) ∧ ¬ 0 < sumI (runS L n s).left
  | 0, s, h, hm => ⟨h, fun hs => by
    have hp : 0 < sumI s.left := hs
    unfold measS at hm; omega⟩
  | n + 1, s, h, hm => by
    unfold runS
    by_cases hs : 0 < sumI s.left
    · rw [if_pos hs]
      have hd := (step_ok h.ok (by omega) hl (fun x hx => (hok x hx).1) hs).2
      exact run_zi hl hok h0 n _ (step_zi hl hok h0 hs h) (by omega)
    · rw [if_neg hs]; exact ⟨h, hs⟩
/-- Runs all ready at once: one slice a run, by dues. -/
theorem sched_once {L : List Job} (h1 : 1 ≤ L.length) (hl : L.length ≤ 20) (hok : JobsOk L) (h0 : AtOnce L) : (schedI L).length = L.length ∧ (∀ x ∈ schedI L, 0 ≤ x.job ∧ x.job < L.length) ∧ (schedI L).Pairwise (fun x y => dueN L x.job.toNat ≤ dueN L y.job.toNat) := by
  obtain ⟨h, hs⟩ := run_zi (by omega) hok h0 300000 _ (start_zi hl hok) (start_ok hl (fun x hx => (hok x hx).2.2)).2
  have hc : cntL (runS L 300000 (startS L)).left = 0 := cnt_none fun x hx => by
    obtain ⟨i, hi, rfl⟩ := List.getElem_of_mem hx
    have h2 := sumI_ge h.ok.left0 i
    rw [getD_eqI hi] at h2
    omega
  have hn := h.num
  rw [hc] at hn
  exact ⟨hn, h.ok.job, h.ord⟩
/-- One run behind the other. -/
def seqS (L : List Job) : Int → List Int → List Sl
  | _, [] => []
  | t, o :: O => ⟨o, t, (L.getD o.toNat noJob).mins⟩ :: seqS L (t + (L.getD o.toNat noJob).mins) O
def seqT (L : List Job) (O : List Int) : Int := O.foldl (fun t o => t + (L.getD o.toNat noJob).mins) 0
theorem seq_len (L : List Job) : ∀ (O : List Int) (t : Int), (seqS L t O).length = O.length
  | [], _ => rfl
  | o :: O, t => by show (seqS L _ O).length + 1 = O.length + 1; rw [seq_len L O]
theorem seq_snoc (L : List Job) (o : Int) : ∀ (O : List Int) (t : Int), seqS L t (O ++ [o]) = seqS L t O ++ [⟨o, O.foldl (fun t o => t + (L.getD o.toNat noJob).mins) t, (L.getD o.toNat noJob).mins⟩]
  | [], t => rfl
  | x :: O, t => by
    show _ :: seqS L _ (O ++ [o]) = _ :: seqS L _ O ++ [_]
    rw [seq_snoc L o O]; rfl
theorem seqT_snoc (L : List Job) (O : List Int) (o : Int) : seqT L (O ++ [o]) = seqT L O + (L.getD o.toNat noJob).mins := by unfold seqT; rw [List.foldl_append]; rfl
theorem seqT_bd {L : List Job} (hok : JobsOk L) : ∀ (O : List Int) (t : Int), (∀ y ∈ O, 0 ≤ y ∧ y < L.length) → t ≤ O.foldl (fun t o => t + (L.getD o.toNat noJob).mins) t ∧ O.foldl (fun t o => t + (L.getD o.toNat noJob).mins) t ≤ t + 10000 * O.length
  | [], t, _ => ⟨Int.le_refl _, by simp⟩
  | o :: O, t, h => by
    have ho := h o List.mem_cons_self
    have hol : o.toNat < L.length := by omega
    have hm := (hok _ (List.getElem_mem hol)).2.2
    have ih := seqT_bd hok O (t + (L.getD o.toNat noJob).mins) fun y hy => h y (List.mem_cons_of_mem _ hy)
    rw [List.foldl_cons, List.length_cons]
    rw [job_getD hol] at ih ⊢
    omega
theorem seq_sch {L : List Job} (hok : JobsOk L) (h0 : AtOnce L) : ∀ (O : List Int) (e t : Int), (∀ y ∈ O, 0 ≤ y ∧ y < L.length) → e ≤ t → 0 ≤ t → t + 10000 * O.length ≤ 20000000 → schE L e (seqS L t O) = 0
  | [], _, _, _, _, _, _ => rfl
  | o :: O, e, t, h, h1, h2, h3 => by
    have ho := h o List.mem_cons_self
    have hol : o.toNat < L.length := by omega
    have hm := (hok _ (List.getElem_mem hol)).2.2
    have hr := h0 _ (List.getElem_mem hol)
    rw [List.length_cons] at h3
    have hs : slErr L e ⟨o, t, (L.getD o.toNat noJob).mins⟩ = 0 := slErr_ok ho (by show 1 ≤ (L.getD o.toNat noJob).mins ∧ _; rw [job_getD hol]; exact hm) (by show 0 ≤ t ∧ t ≤ 20000000; omega) (by show (L.getD o.toNat noJob).ready ≤ t; rw [job_getD hol]; omega) h1
    show (if slErr L e ⟨o, t, (L.getD o.toNat noJob).mins⟩ ≠ 0 then _ else schE L (t + (L.getD o.toNat noJob).mins) (seqS L (t + (L.getD o.toNat noJob).mins) O)) = 0
    rw [if_neg (fun h => h hs)]
    rw [job_getD hol]
    exact seq_sch hok h0 O _ _ (fun y hy => h y (List.mem_cons_of_mem _ hy)) (Int.le_refl _) (by omega) (by omega)
theorem seq_done {L : List Job} : ∀ (O : List Int) (t : Int) (D : List Int), D.length = L.length → O.Nodup → (∀ y ∈ O, 0 ≤ y ∧ y < L.length) → ∀ i, i < L.length → ((seqS L t O).foldl doneP D).getD i 0 = D.getD i 0 + if (i : Int) ∈ O then (L.getD i noJob).mins else 0
  | [], _, D, _, _, _, i, _ => by simp [seqS]
  | o :: O, t, D, hD, hnd, h, i, hi => by
    have ho := h o List.mem_cons_self
    obtain ⟨h1, h2⟩ := List.nodup_cons.1 hnd
    have ih := seq_done O (t + (L.getD o.toNat noJob).mins) (doneP D ⟨o, t, (L.getD o.toNat noJob).mins⟩) (by unfold doneP; rw [List.length_set, hD]) h2 (fun y hy => h y (List.mem_cons_of_mem _ hy)) i hi
    show ((seqS L _ O).foldl doneP (doneP D ⟨o, t, (L.getD o.toNat noJob).mins⟩)).getD i 0 = _
    rw [ih]
    have hd : (doneP D ⟨o, t, (L.getD o.toNat noJob).mins⟩).getD i 0 = D.getD i 0 + if (i : Int) = o then (L.getD i noJob).mins else 0 := by
      unfold doneP
      dsimp only
      rw [set_getD (by omega)]
      by_cases e : o.toNat = i
      · rw [if_pos e, if_pos (by omega), e]
      · rw [if_neg e, if_neg (by omega)]; omega
    rw [hd]
    by_cases e : (i : Int) = o
    · rw [if_pos e, if_neg (by rw [e]; exact h1), if_pos (by rw [e]; exact List.mem_cons_self)]; omega
    · rw [if_neg e]
      by_cases e2 : (i : Int) ∈ O
      · rw [if_pos e2, if_pos (List.mem_cons_of_mem _ e2)]; omega
      · rw [if_neg e2, if_neg (fun h => by rcases List.mem_cons.1 h with h | h; exact e h; exact e2 h)]; omega
/-- All things stand in an order without repetition that is long enough. -/
theorem ord_all {n : Nat} {O : List Int} (hl : O.length = n) (hnd : O.Nodup) (h : ∀ y ∈ O, 0 ≤ y ∧ y < n) (i : Nat) (hi : i < n) : (i : Int) ∈ O := by
  have key : ∀ (n : Nat) (O : List Int), O.length = n → O.Nodup → (∀ y ∈ O, 0 ≤ y ∧ y < n) → ∀ i, i < n → (i : Int) ∈ O := by
    intro n
    induction n with
    | zero => intro O _ _ _ i hi; omega
    | succ n ih =>
      intro O hl hnd h i hi
      by_cases hm : (n : Int) ∈ O
      · rcases Nat.lt_succ_iff_lt_or_eq.1 hi with h1 | rfl
        · have h2 := ih (O.erase n) (by rw [List.length_erase_of_mem hm, hl]; rfl) (hnd.erase _) (fun y hy => by
            have h3 := h y (List.mem_of_mem_erase hy)
            have h4 : y ≠ n := fun e => by rw [e] at hy; exact (List.Nodup.not_mem_erase hnd) hy
            omega) i h1
          exact List.mem_of_mem_erase h2
        · exact hm
      · exfalso
        cases O with
        | nil => simp at hl
        | cons y O =>
          have hq : ∀ z ∈ O, 0 ≤ z ∧ z < n := fun z hz => by
            have h3 := h z (List.mem_cons_of_mem _ hz)
            have h4 : z ≠ n := fun e => hm (by rw [← e]; exact List.mem_cons_of_mem _ hz)
            omega
          obtain ⟨h5, h6⟩ := List.nodup_cons.1 hnd
          have hy := h y List.mem_cons_self
          have h7 : y ≠ n := fun e => hm (by rw [← e]; exact List.mem_cons_self)
          have h8 := ih O (by simpa using hl) h6 hq y.toNat (by omega)
          rw [show ((y.toNat : Nat) : Int) = y by omega] at h8
          exact h5 h8
  exact key n O hl hnd h i hi
/-- Runs one behind the other, in a right order: a right schedule, no less late than the schedule by dues. -/
theorem seq_right {L : List Job} {O : List Int} (h1 : 1 ≤ L.length) (hl : L.length ≤ 20) (hok : JobsOk L) (h0 : AtOnce L) (ho : ordErr L.length O = 0) : csErr L (seqS L 0 O) = 0 ∧ latI L (schedI L) ≤ latI L (seqS L 0 O) := by
  obtain ⟨hol, hnd, hin⟩ := ord_right ho
  have hc : csErr L (seqS L 0 O) = 0 := by
    unfold csErr
    rw [if_neg (by rw [seq_len]; omega), if_neg (by rw [seq_sch hok h0 O 0 0 hin (Int.le_refl _) (Int.le_refl _) (by omega)]; decide), if_pos]
    intro i hi
    unfold doneL
    rw [seq_done O 0 _ (by simp) hnd hin i hi, if_pos (ord_all hol hnd hin i hi), List.getD_eq_getElem?_getD, List.getElem?_replicate, if_pos hi]
    show 0 + _ = _
    omega
  obtain ⟨q1, q2, -⟩ := causes_right h1 hl hok
  have := bound_le hok hc q1
  exact ⟨hc, by omega⟩
end Go.Proofs.Ytpplcbpnojggcaa

namespace Go.Proofs.Ytpplcbpnojggcaa
open Go.ChangeShapes Go.WideShapes Go.Deep Go.Joins Go.RowKit

theorem cellsStr9 : Try.prog.cellsOf 9 = 1 := by kernel_rfl
theorem cellsTxs9 : Try.prog.cellsOf 22 = 1 := by kernel_rfl
theorem cellsRun9 : Try.prog.cellsOf 24 = 7 := by kernel_rfl
theorem cellsPrices9 : Try.prog.cellsOf 26 = 3 := by kernel_rfl
set_option maxRecDepth 100000
section
variable {H : Type} {enc : TypeId × Value → H} {w : World}
theorem open_strs {n : Nat} {v : Value} {x : DataW H × List MemPlace} (h : DataW.trod enc Try.prog w 0 (fun _ => true) true n 22 [v] = some x) :
    ∃ (a : Option Addr) (c : Nat) (l : List ByteArray), v = .slice a l.length c ∧ l.length ≤ c ∧ c ≤ maxLen ∧ RowsG 1 tx w a l ∧ (a = none → c = 0) ∧ ∀ s ∈ l, s.size ≤ maxLen := by
  rcases open_slice1 Try.underlying22 cellsStr9 h with ⟨e, _⟩ | ⟨a, len, cap, m, k, V, D, Pl, e, _, hl, hm, hmm, _, hi⟩
  · simp only [List.cons.injEq, and_true] at e
    exact ⟨none, 0, [], e, Nat.le_refl _, Nat.zero_le _, (fun k hk => absurd hk (Nat.not_lt_zero _)), fun _ => rfl, fun y hy => by cases hy⟩
  · simp only [List.cons.injEq, and_true] at e
    have hmc : m = cap := by simpa using hmm
    subst hmc
    have hex : ∀ i, i < m → ∃ y : ByteArray, w.cell? (a.add i) = some (.string y) ∧ y.size ≤ maxLen := fun i him => by
      obtain ⟨hc', ht'⟩ := hi i him
      obtain ⟨y, ey, _, hz⟩ := DataW.trod_string Try.underlying9 ht'
      simp only [List.cons.injEq, and_true] at ey
      exact ⟨y, by rw [hc', ey], hz⟩
    obtain ⟨X, hX⟩ := choose_lt hex
    refine ⟨some a, m, (List.range len).map X, by simpa using e, by simpa using hl, hm, fun k hk => ?_, fun e => (by cases e), fun y hy => ?_⟩
    · have hk' : k < len := by simpa using hk
      rw [range_get len X hk]
      have h1 := (hX k (by omega)).1
      refine ⟨a, rfl, by have := cell_lt h1; rwa [add_block] at this, fun j hj => ?_⟩
      have hj0 : j = 0 := by omega
      subst hj0
      rw [Nat.mul_one]; exact h1
    · obtain ⟨i, hi', rfl⟩ := List.mem_map.1 hy
      exact (hX i (by have := List.mem_range.1 hi'; omega)).2
theorem str_read {n : Nat} {c : Value} {y : DataW H × List MemPlace} (h : DataW.trod enc Try.prog w 0 (fun _ => true) true n 9 [c] = some y) : ∃ s : ByteArray, c = .string s ∧ s.size ≤ maxLen := by
  obtain ⟨s, e, _, hz⟩ := DataW.trod_string Try.underlying9 h
  simp only [List.cons.injEq, and_true] at e
  exact ⟨s, e, hz⟩
theorem open_run {r : Reach} {b0 : Nat} {v : Value} {d : DataW H} {p : List MemPlace} (hv : Value.okWide Try.prog w r b0 24 v) (h : DataW.Trod enc Try.prog w 0 (fun _ => true) true 24 v d p) :
    ∃ (X : Run) (a : Option Addr) (c : Nat), v = .agg #[.string X.job, .int .i64 X.day, .int .i64 X.wanted, .int .i64 X.given, .slice a X.cols.length c, .int .i64 X.ready, .int .i64 X.hour] ∧
      X.job.size ≤ maxLen ∧ X.cols.length ≤ c ∧ c ≤ maxLen ∧ RowsG 1 tx w a X.cols ∧ (a = none → c = 0) ∧ (∀ s ∈ X.cols, s.size ≤ maxLen) ∧ OkI X.given := by
  obtain ⟨cs, rfl, hsz⟩ := okWide_struct Try.underlying24 hv
  obtain ⟨k⟩ := cs
  match k, hsz.trans cellsRun9 with
  | [c0, c1, c2, c3, c4, c5, c6], _ =>
    obtain ⟨fuel, hf⟩ := h
    obtain ⟨xs, n, _, _, _, hlen, hg⟩ := DataW.trod_struct Try.underlying24 hf
    match xs, hlen with
    | [y0, y1, y2, y3, y4, y5, y6], _ =>
      obtain ⟨s0, rfl, w0⟩ := str_read (n := n) (c := c0) (y := y0) (by simpa [Value.cells, cellsStr9] using hg 0 _ rfl)
      obtain ⟨x1, rfl, w1⟩ := int_read (n := n) (c := c1) (y := y1) (by simpa [Value.cells, cellsInt] using hg 1 _ rfl)
      obtain ⟨x2, rfl, w2⟩ := int_read (n := n) (c := c2) (y := y2) (by simpa [Value.cells, cellsInt] using hg 2 _ rfl)
      obtain ⟨x3, rfl, w3⟩ := int_read (n := n) (c := c3) (y := y3) (by simpa [Value.cells, cellsInt] using hg 3 _ rfl)
      obtain ⟨a, c, l, rfl, h1, h2, h3, h4, h5⟩ := open_strs (n := n) (v := c4) (x := y4) (by simpa [Value.cells, cellsTxs9] using hg 4 _ rfl)
      obtain ⟨x5, rfl, w5⟩ := int_read (n := n) (c := c5) (y := y5) (by simpa [Value.cells, cellsInt] using hg 5 _ rfl)
      obtain ⟨x6, rfl, w6⟩ := int_read (n := n) (c := c6) (y := y6) (by simpa [Value.cells, cellsInt] using hg 6 _ rfl)
      exact ⟨⟨s0, x1, x2, x3, l, x5, x6⟩, a, c, rfl, w0, h1, h2, h3, h4, h5, w3⟩
theorem open_prices {r : Reach} {b0 : Nat} {v : Value} {d : DataW H} {p : List MemPlace} (hv : Value.okWide Try.prog w r b0 26 v) (h : DataW.Trod enc Try.prog w 0 (fun _ => true) true 26 v d p) :
    ∃ (p q r : Int), v = .agg #[.int .i64 p, .int .i64 q, .int .i64 r] ∧ OkI p ∧ OkI q ∧ OkI r := by
  obtain ⟨cs, rfl, hsz⟩ := okWide_struct Try.underlying26 hv
  obtain ⟨k⟩ := cs
  match k, hsz.trans cellsPrices9 with
  | [c0, c1, c2], _ =>
    obtain ⟨fuel, hf⟩ := h
    obtain ⟨xs, n, _, _, _, hlen, hg⟩ := DataW.trod_struct Try.underlying26 hf
    match xs, hlen with
    | [y0, y1, y2], _ =>
      obtain ⟨x0, rfl, w0⟩ := int_read (n := n) (c := c0) (y := y0) (by simpa [Value.cells, cellsInt] using hg 0 _ rfl)
      obtain ⟨x1, rfl, w1⟩ := int_read (n := n) (c := c1) (y := y1) (by simpa [Value.cells, cellsInt] using hg 1 _ rfl)
      obtain ⟨x2, rfl, w2⟩ := int_read (n := n) (c := c2) (y := y2) (by simpa [Value.cells, cellsInt] using hg 2 _ rfl)
      exact ⟨x0, x1, x2, rfl, w0, w1, w2⟩
end
end Go.Proofs.Ytpplcbpnojggcaa

namespace Go.Proofs.Ytpplcbpnojggcaa
open Go.ChangeShapes Go.WideShapes Go.Deep Go.Joins Go.RowKit

/-- A run of a list of runs: the slice of its colours. -/
structure RunR where
  x : Run
  a : Option Addr
  c : Nat
def runV (y : RunR) : List Value := [.string y.x.job, .int .i64 y.x.day, .int .i64 y.x.wanted, .int .i64 y.x.given, .slice y.a y.x.cols.length y.c, .int .i64 y.x.ready, .int .i64 y.x.hour]
structure RunsAt (w : World) (a : Option Addr) (L : List RunR) : Prop where
  row : RowsG 7 runV w a L
  cols : ∀ y ∈ L, RowsG 1 tx w y.a y.x.cols
def RunRIn (y : RunR) : Prop := y.x.job.size ≤ maxLen ∧ y.x.cols.length ≤ y.c ∧ y.c ≤ maxLen ∧ (y.a = none → y.c = 0) ∧ (∀ s ∈ y.x.cols, s.size ≤ maxLen) ∧ OkI y.x.given
set_option maxRecDepth 100000
section
variable {H : Type} {enc : TypeId × Value → H} {w : World}
theorem open_rn1 {n : Nat} {p : Addr} {cs : List Value} {x : DataW H × List MemPlace} (hc : w.cells? 0 p 7 = some cs) (h : DataW.trod enc Try.prog w 0 (fun _ => true) true n 24 cs = some x) :
    ∃ y : RunR, (∀ j, j < 7 → w.cell? (fld p j) = some ((runV y).getD j (.int .i64 0))) ∧ RowsG 1 tx w y.a y.x.cols ∧ RunRIn y := by
  obtain ⟨_, hl, hat⟩ := World.cells?_some hc
  match cs, hl with
  | [c0, c1, c2, c3, c4, c5, c6], _ =>
    obtain ⟨xs, n, _, _, _, hlen, hg⟩ := DataW.trod_struct Try.underlying24 h
    match xs, hlen with
    | [y0, y1, y2, y3, y4, y5, y6], _ =>
      obtain ⟨s0, rfl, w0⟩ := str_read (n := n) (c := c0) (y := y0) (by simpa [Value.cells, cellsStr9] using hg 0 _ rfl)
      obtain ⟨x1, rfl, w1⟩ := int_read (n := n) (c := c1) (y := y1) (by simpa [Value.cells, cellsInt] using hg 1 _ rfl)
      obtain ⟨x2, rfl, w2⟩ := int_read (n := n) (c := c2) (y := y2) (by simpa [Value.cells, cellsInt] using hg 2 _ rfl)
      obtain ⟨x3, rfl, w3⟩ := int_read (n := n) (c := c3) (y := y3) (by simpa [Value.cells, cellsInt] using hg 3 _ rfl)
      obtain ⟨a, c, l, rfl, h1, h2, h3, h4, h5⟩ := open_strs (n := n) (v := c4) (x := y4) (by simpa [Value.cells, cellsTxs9] using hg 4 _ rfl)
      obtain ⟨x5, rfl, w5⟩ := int_read (n := n) (c := c5) (y := y5) (by simpa [Value.cells, cellsInt] using hg 5 _ rfl)
      obtain ⟨x6, rfl, w6⟩ := int_read (n := n) (c := c6) (y := y6) (by simpa [Value.cells, cellsInt] using hg 6 _ rfl)
      refine ⟨⟨⟨s0, x1, x2, x3, l, x5, x6⟩, a, c⟩, fun j hj => ?_, h3, w0, h1, h2, h4, h5, w3⟩
      have := hat j hj
      rw [fld_add] at this
      rw [this]
      have hj7 : j = 0 ∨ j = 1 ∨ j = 2 ∨ j = 3 ∨ j = 4 ∨ j = 5 ∨ j = 6 := by omega
      rcases hj7 with rfl | rfl | rfl | rfl | rfl | rfl | rfl <;> rfl
theorem open_runs {n : Nat} {v : Value} {x : DataW H × List MemPlace} (h : DataW.trod enc Try.prog w 0 (fun _ => true) true n 133 [v] = some x) :
    ∃ (a : Option Addr) (c : Nat) (l : List RunR), v = .slice a l.length c ∧ l.length ≤ c ∧ c ≤ maxLen ∧ RunsAt w a l ∧ (a = none → c = 0) ∧ ∀ y ∈ l, RunRIn y := by
  rcases open_slice Try.underlying133 h with ⟨e, _⟩ | ⟨a, len, cap, m, k, D, Pl, e, _, hl, hm, hmm, _, hi⟩
  · simp only [List.cons.injEq, and_true] at e
    exact ⟨none, 0, [], e, Nat.le_refl _, Nat.zero_le _, ⟨fun k hk => absurd hk (Nat.not_lt_zero _), fun y hy => by cases hy⟩, fun _ => rfl, fun y hy => by cases hy⟩
  · simp only [List.cons.injEq, and_true] at e
    have hmc : m = cap := by simpa using hmm
    subst hmc
    have hex : ∀ i, i < m → ∃ y : RunR, (∀ j, j < 7 → w.cell? (fld (a.add (i * 7)) j) = some ((runV y).getD j (.int .i64 0))) ∧ RowsG 1 tx w y.a y.x.cols ∧ RunRIn y := fun i him => by
      obtain ⟨cs', hc', ht'⟩ := hi i him
      rw [cellsRun9] at hc'
      exact open_rn1 hc' ht'
    haveI : Inhabited RunR := ⟨⟨⟨⟨#[]⟩, 0, 0, 0, [], 0, 0⟩, none, 0⟩⟩
    obtain ⟨X, hX⟩ := choose_lt hex
    refine ⟨some a, m, (List.range len).map X, by simpa using e, by simpa using hl, hm, ⟨fun k hk => ?_, fun y hy => ?_⟩, fun e => (by cases e), fun y hy => ?_⟩
    · have hk' : k < len := by simpa using hk
      rw [range_get len X hk]
      have h1 := (hX k (by omega)).1
      exact ⟨a, rfl, by have := cell_lt (h1 0 (by decide)); rwa [fld_block, add_block] at this, h1⟩
    · obtain ⟨i, hi', rfl⟩ := List.mem_map.1 hy
      exact (hX i (by have := List.mem_range.1 hi'; omega)).2.1
    · obtain ⟨i, hi', rfl⟩ := List.mem_map.1 hy
      exact (hX i (by have := List.mem_range.1 hi'; omega)).2.2
end
end Go.Proofs.Ytpplcbpnojggcaa

namespace Go.Proofs.Ytpplcbpnojggcaa
open Go.RowKit

def DecPost (w : World) (e : Ending) (w' : World) : Prop := (∃ s : ByteArray, e = .returned (.string s) ∧ s.size ≤ 1) ∧ Below w.heap.size w w'
set_option maxRecDepth 100000 in
set_option maxHeartbeats 2000000 in
theorem decimal_any (i : Nat) (hi : i ≤ 9) (w : World) : Calls Try.prog 78 #[.int .i64 i] w (DecPost w) := by
  go_enter Try.func78, Try.ntmps78
  by_cases h0 : i = 0
  · subst h0
    go_wp2_with fail
    go_ret
    exact ⟨⟨_, rfl, by decide⟩, Below.refl _ _⟩
  · have h0' : ((i : Int) == 0) = false := by simpa using h0
    have h1 : ¬ (i : Int) < 0 := by omega
    go_wp2_with fail
    have hq1 : (i : Int).tmod 10 = i := by rw [Int.tmod_eq_emod_of_nonneg (by omega)]; omega
    have hq2 : (i : Int).tdiv 10 = 0 := by rw [Int.tdiv_eq_ediv_of_nonneg (by omega)]; omega
    go_loopw [0, 3] (fun n s wr => ((n = .int .i64 i ∧ s = .string ⟨#[]⟩) ∨ (n = .int .i64 0 ∧ ∃ t : ByteArray, s = .string t ∧ t.size ≤ 1)) ∧ Below w.heap.size w wr) (fun n _ _ => (intOf n).toNat)
    case atStart => exact ⟨Or.inl ⟨rfl, rfl⟩, Below.refl _ _⟩
    case round =>
      obtain ⟨⟨rfl, rfl⟩ | ⟨rfl, t, rfl, ht⟩, hB⟩ := hrel
      · have hby : (UInt8.ofNat (48 + i)).toNat = 48 + i := by show (48 + i) % 2 ^ 8 = 48 + i; omega
        have hcv : (convert 178 9 (.slice (some ⟨wr.heap.size, 0, none⟩) 1 1)).run Try.prog (wr.alloc (.cells #[.int .u8 (48 + (i : Int))] 5)) = .ok (.string ⟨#[UInt8.ofNat (48 + i)]⟩) (wr.alloc (.cells #[.int .u8 (48 + (i : Int))] 5)) :=
          Lib.run_convert_whole _ 178 5 9 Try.underlying178 Try.underlying5 Try.underlying9 wr.heap.size 0 ⟨#[UInt8.ofNat (48 + i)]⟩ (fun j hj => by
            have hj : j < 1 := hj
            obtain rfl : j = 0 := by omega
            refine ((BoxAt.new wr #[.int .u8 (48 + (i : Int))] 5).cell 0).trans ?_
            show some (Value.int .u8 (48 + (i : Int))) = some (.int .u8 (((UInt8.ofNat (48 + i)).toNat : Nat) : Int))
            rw [hby]; rfl) 1
        have hB1 := hB.alloc hB.size (.cells #[.int .u8 (48 + (i : Int))] 5)
        have hne : ((i : Int) != 0) = true := by simp; omega
        go_wp2_with (go_at_call 131; refine (size_any _ _ (by omega) (by omega)).mono ?_; rintro e w' ⟨rfl, rfl⟩)
        go_roundw
        case rel => exact ⟨Or.inr ⟨rfl, _, rfl, by rw [ByteArray.size_append]; exact Nat.le_refl 1⟩, hB1⟩
        case measure => simp [intOf]; omega
      · go_wp2_with fail
        go_ret
        exact ⟨⟨_, rfl, by first | exact ht | (simp; exact ht) | simpa using ht⟩, hB⟩
end Go.Proofs.Ytpplcbpnojggcaa

namespace Go.Proofs.Ytpplcbpnojggcaa
open Go.RowKit Go.Maps

theorem res_run {fn : Func} {p : Tmp} {tmps : Array Value} {Y : World} {d : Nat} {T : TypeId} {x0 x1 x2 x3 x4 x5 x6 : Value} (hf : fn.results = #[.cell p 24]) (hp : tmps.getD p undef = .pointer (some ⟨d, 0, none⟩)) (h : BoxAt Y d #[x0, x1, x2, x3, x4, x5, x6] T) :
    (results fn tmps).run Try.prog Y = .ok (.agg #[x0, x1, x2, x3, x4, x5, x6]) Y := by
  have hl : (loadVar 24 ⟨d, 0, none⟩).run Try.prog Y = .ok (.agg #[x0, x1, x2, x3, x4, x5, x6]) Y := run_loadVar_row (P := Try.prog) Y d T 24 _ (0, 0) _ h Try.underlying24 rfl info_run
  have hp' : tmps[p]?.getD undef = .pointer (some ⟨d, 0, none⟩) := by simpa using hp
  simp only [results, hf]
  simp [hp', asAddr, hl]
theorem box7 {Z : World} {d : Nat} {T : TypeId} {x0 x1 x2 x3 x4 x5 x6 : Value} (h : BoxAt Z d #[x0, x1, x2, x3, x4, x5, x6] T) (y0 y1 y2 y3 y4 y5 y6 : Value) :
    BoxAt (((((((Z.setCell ⟨d, 0, none⟩ y0).setCell ⟨d, 1, none⟩ y1).setCell ⟨d, 2, none⟩ y2).setCell ⟨d, 3, none⟩ y3).setCell ⟨d, 4, none⟩ y4).setCell ⟨d, 5, none⟩ y5).setCell ⟨d, 6, none⟩ y6) d #[y0, y1, y2, y3, y4, y5, y6] T := by
  have h0 : BoxAt (Z.setCell ⟨d, 0, none⟩ y0) d #[y0, x1, x2, x3, x4, x5, x6] T := h.set 0 y0
  have h1 : BoxAt ((Z.setCell ⟨d, 0, none⟩ y0).setCell ⟨d, 1, none⟩ y1) d #[y0, y1, x2, x3, x4, x5, x6] T := h0.set 1 y1
  have h2 : BoxAt (((Z.setCell ⟨d, 0, none⟩ y0).setCell ⟨d, 1, none⟩ y1).setCell ⟨d, 2, none⟩ y2) d #[y0, y1, y2, x3, x4, x5, x6] T := h1.set 2 y2
  have h3 : BoxAt ((((Z.setCell ⟨d, 0, none⟩ y0).setCell ⟨d, 1, none⟩ y1).setCell ⟨d, 2, none⟩ y2).setCell ⟨d, 3, none⟩ y3) d #[y0, y1, y2, y3, x4, x5, x6] T := h2.set 3 y3
  have h4 : BoxAt (((((Z.setCell ⟨d, 0, none⟩ y0).setCell ⟨d, 1, none⟩ y1).setCell ⟨d, 2, none⟩ y2).setCell ⟨d, 3, none⟩ y3).setCell ⟨d, 4, none⟩ y4) d #[y0, y1, y2, y3, y4, x5, x6] T := h3.set 4 y4
  have h5 : BoxAt ((((((Z.setCell ⟨d, 0, none⟩ y0).setCell ⟨d, 1, none⟩ y1).setCell ⟨d, 2, none⟩ y2).setCell ⟨d, 3, none⟩ y3).setCell ⟨d, 4, none⟩ y4).setCell ⟨d, 5, none⟩ y5) d #[y0, y1, y2, y3, y4, y5, x6] T := h4.set 5 y5
  have h6 : BoxAt (((((((Z.setCell ⟨d, 0, none⟩ y0).setCell ⟨d, 1, none⟩ y1).setCell ⟨d, 2, none⟩ y2).setCell ⟨d, 3, none⟩ y3).setCell ⟨d, 4, none⟩ y4).setCell ⟨d, 5, none⟩ y5).setCell ⟨d, 6, none⟩ y6) d #[y0, y1, y2, y3, y4, y5, y6] T := h5.set 6 y6
  exact h6
theorem below7 {B : Nat} {w Z : World} {d : Nat} (h : Below B w Z) (hd : B ≤ d) (y0 y1 y2 y3 y4 y5 y6 : Value) : Below B w (((((((Z.setCell ⟨d, 0, none⟩ y0).setCell ⟨d, 1, none⟩ y1).setCell ⟨d, 2, none⟩ y2).setCell ⟨d, 3, none⟩ y3).setCell ⟨d, 4, none⟩ y4).setCell ⟨d, 5, none⟩ y5).setCell ⟨d, 6, none⟩ y6) :=
  (((((((h.setCell (p := ⟨d, 0, none⟩) hd y0).setCell (p := ⟨d, 1, none⟩) hd y1).setCell (p := ⟨d, 2, none⟩) hd y2).setCell (p := ⟨d, 3, none⟩) hd y3).setCell (p := ⟨d, 4, none⟩) hd y4).setCell (p := ⟨d, 5, none⟩) hd y5).setCell (p := ⟨d, 6, none⟩) hd y6)
theorem rowsG7 {α : Type} {n : Nat} {g : α → List Value} {Z : World} {a : Option Addr} {L : List α} {d : Nat} (h : RowsG n g Z a L) (hd : ∀ ad, a = some ad → ad.block ≠ d) (y0 y1 y2 y3 y4 y5 y6 : Value) : RowsG n g (((((((Z.setCell ⟨d, 0, none⟩ y0).setCell ⟨d, 1, none⟩ y1).setCell ⟨d, 2, none⟩ y2).setCell ⟨d, 3, none⟩ y3).setCell ⟨d, 4, none⟩ y4).setCell ⟨d, 5, none⟩ y5).setCell ⟨d, 6, none⟩ y6) a L :=
  (((((((h.set (p := ⟨d, 0, none⟩) hd y0).set (p := ⟨d, 1, none⟩) hd y1).set (p := ⟨d, 2, none⟩) hd y2).set (p := ⟨d, 3, none⟩) hd y3).set (p := ⟨d, 4, none⟩) hd y4).set (p := ⟨d, 5, none⟩) hd y5).set (p := ⟨d, 6, none⟩) hd y6)
set_option maxRecDepth 100000 in
set_option maxHeartbeats 2000000 in
theorem copyRun_any (x : Run) (a : Option Addr) (n c : Nat) (w : World) (hn : n = x.cols.length) (hX : RowsG 1 tx w a x.cols) (hl : x.cols.length ≤ 1000000) (hd : a = none → c = 0) :
    Calls Try.prog 20 #[.agg #[.string x.job, .int .i64 x.day, .int .i64 x.wanted, .int .i64 x.given, .slice a n c, .int .i64 x.ready, .int .i64 x.hour]] w (CopyRPost x n w) := by
  have HC := Lib.hid (fun W (h : RowsG 1 tx W a x.cols) => copyTexts_any a x.cols n c W hn h hl hd)
  unfold CopyRPost
  obtain ⟨job, day, wanted, given, cols, ready, hour⟩ := x
  dsimp only at HC hX ⊢
  have hb0 := ((Below.refl w.heap.size w).alloc (Nat.le_refl _) (.cells #[.string job, .int .i64 day, .int .i64 wanted, .int .i64 given, .slice a n c, .int .i64 ready, .int .i64 hour] 24)).alloc (by simp) (.cells #[.string ⟨#[]⟩, .int .i64 0, .int .i64 0, .int .i64 0, .slice none 0 0, .int .i64 0, .int .i64 0] 24)
  have bx := (BoxAt.new w #[.string job, .int .i64 day, .int .i64 wanted, .int .i64 given, .slice a n c, .int .i64 ready, .int .i64 hour] 24).alloc (.cells #[.string ⟨#[]⟩, .int .i64 0, .int .i64 0, .int .i64 0, .slice none 0 0, .int .i64 0, .int .i64 0] 24)
  have bz := BoxAt.new (w.alloc (.cells #[.string job, .int .i64 day, .int .i64 wanted, .int .i64 given, .slice a n c, .int .i64 ready, .int .i64 hour] 24)) #[.string ⟨#[]⟩, .int .i64 0, .int .i64 0, .int .i64 0, .slice none 0 0, .int .i64 0, .int .i64 0] 24
  rw [World.size_alloc] at bz
  have HX := Lib.hid ((hX.alloc (.cells #[.string job, .int .i64 day, .int .i64 wanted, .int .i64 given, .slice a n c, .int .i64 ready, .int .i64 hour] 24)).alloc (.cells #[.string ⟨#[]⟩, .int .i64 0, .int .i64 0, .int .i64 0, .slice none 0 0, .int .i64 0, .int .i64 0] 24))
  clear hX hn hl hd
  go_enter Try.func20, Try.ntmps20
  go_wp2_with (go_at_call 84; refine (HC.out _ HX.out).mono ?_; rintro e w1 ⟨a1, c1, rfl, hr1, hlo1, hnil1, hb1⟩; have BX := bx.below hb1; have BZ := bz.below hb1; have HB := Lib.hid (hb0.trans (hb1.mono hb0.size)); have HR := Lib.hid hr1; have HBZ := Lib.hid BZ; have HBX := Lib.hid BX; have k0 := BX.cell 0; have k1 := BX.cell 1; have k2 := BX.cell 2; have k3 := BX.cell 3; have k4 := BX.cell 4; have k5 := BX.cell 5; have k6 := BX.cell 6; have z4 : w1.frozen? ⟨w.heap.size, 4, none⟩ = false := BX.free 4; have l1 := BX.lt; have m0 := BZ.cell 0; have m1 := BZ.cell 1; have m2 := BZ.cell 2; have m3 := BZ.cell 3; have m4 := BZ.cell 4; have m5 := BZ.cell 5; have m6 := BZ.cell 6; have y0 := BZ.free 0; have y1 := BZ.free 1; have y2 := BZ.free 2; have y3 := BZ.free 3; have y4 := BZ.free 4; have y5 := BZ.free 5; have y6 := BZ.free 6; have l2 := BZ.lt; simp only [List.getElem?_toArray, List.getElem?_cons_zero, List.getElem?_cons_succ] at k0 k1 k2 k3 k4 k5 k6 m0 m1 m2 m3 m4 m5 m6; clear hb1 hr1 bx bz hb0 BX BZ)
  obtain ⟨Y, hY⟩ : ∃ Y, Y = ((((((((w1.setCell ⟨w.heap.size, 4, none⟩ (.slice a1 n c1)).setCell ⟨w.heap.size + 1, 0, none⟩ (.string job)).setCell ⟨w.heap.size + 1, 1, none⟩ (.int .i64 day)).setCell ⟨w.heap.size + 1, 2, none⟩ (.int .i64 wanted)).setCell ⟨w.heap.size + 1, 3, none⟩ (.int .i64 given)).setCell ⟨w.heap.size + 1, 4, none⟩ (.slice a1 n c1)).setCell ⟨w.heap.size + 1, 5, none⟩ (.int .i64 ready)).setCell ⟨w.heap.size + 1, 6, none⟩ (.int .i64 hour)) := ⟨_, rfl⟩
  have bY : BoxAt Y (w.heap.size + 1) #[.string job, .int .i64 day, .int .i64 wanted, .int .i64 given, .slice a1 n c1, .int .i64 ready, .int .i64 hour] 24 := by rw [hY]; exact box7 (HBZ.out.set_other (by show w.heap.size + 1 ≠ w.heap.size; omega) _) _ _ _ _ _ _ _
  have hlow : ∀ ad, a1 = some ad → w.heap.size + 2 ≤ ad.block := fun ad e => by have := hlo1 ad e; simpa using this
  have hR9 : RowsG 1 tx Y a1 cols := by
    rw [hY]
    exact rowsG7 (HR.out.set (p := ⟨w.heap.size, 4, none⟩) (fun ad e => by have h9 := hlow ad e; show ad.block ≠ w.heap.size; omega) _) (fun ad e => by have h9 := hlow ad e; omega) _ _ _ _ _ _ _
  have hB9 : Below w.heap.size w Y := by
    rw [hY]
    exact below7 (HB.out.setCell (p := ⟨w.heap.size, 4, none⟩) (Nat.le_refl _) _) (by omega) _ _ _ _ _ _ _
  rw [← hY]
  exact bodyPost_ret (res_run rfl rfl bY) rfl ⟨a1, c1, rfl, hR9, hnil1, hB9⟩
end Go.Proofs.Ytpplcbpnojggcaa

namespace Go.Proofs.Ytpplcbpnojggcaa
open Go.RowKit Go.Maps

theorem RowsG.take {α : Type} {n : Nat} {g : α → List Value} {w : World} {a : Option Addr} {L : List α} (h : RowsG n g w a L) (k : Nat) : RowsG n g w a (L.take k) := fun j hj => by
  have hj' : j < L.length := by rw [List.length_take] at hj; omega
  obtain ⟨ad, e, hlt, hs⟩ := h j hj'
  refine ⟨ad, e, hlt, fun i hi => ?_⟩
  rw [List.getElem_take]; exact hs i hi
theorem strsUnder : Try.prog.underlying 22 = some (.slice (Try.prog.elem 22)) := by kernel_rfl
theorem info_str : (Try.prog.info? 9).map (fun i => (i.zero, i.size, i.bytes)) = some (some (.string ⟨#[]⟩), 1, 16) := by kernel_rfl
theorem strSize (W : World) : (sizeOf (Try.prog.elem 22)).run Try.prog W = .ok 1 W := by
  obtain ⟨i0, hi0, hz0, hz1, hz2⟩ := info_parts info_str
  have e : Try.prog.elem 22 = 9 := by kernel_rfl
  rw [e]
  simp [sizeOf, typeInfo, hi0, hz1]
set_option maxRecDepth 100000 in
set_option maxHeartbeats 4000000 in
theorem refCheckRun_any (x : Run) (a : Option Addr) (c : Nat) (w : World) (hj : x.job.size ≤ maxLen) (hr : RowsG 1 tx w a x.cols) (hcap : x.cols.length ≤ c) (hl : x.cols.length ≤ 1000000) (hc : ∀ s ∈ x.cols, s.size ≤ maxLen) :
    Calls Try.prog 22 #[.agg #[.string x.job, .int .i64 x.day, .int .i64 x.wanted, .int .i64 x.given, .slice a x.cols.length c, .int .i64 x.ready, .int .i64 x.hour]] w (CheckPost (runErr x) w) := by
  obtain ⟨job, day, wanted, given, cols, ready, hour⟩ := x
  have hj : job.size ≤ maxLen := hj
  have hl : cols.length ≤ 1000000 := hl
  have HCAP : Hid (cols.length ≤ c) := Lib.hid hcap
  have HCS : Hid (∀ s ∈ cols, s.size ≤ maxLen) := Lib.hid hc
  have HRR : Hid (RowsG 1 tx w a cols) := Lib.hid hr
  clear hc hr hcap
  dsimp only
  have bx := BoxAt.new w #[.string job, .int .i64 day, .int .i64 wanted, .int .i64 given, .slice a cols.length c, .int .i64 ready, .int .i64 hour] 24
  have hb := (Below.refl w.heap.size w).alloc (Nat.le_refl _) (.cells #[.string job, .int .i64 day, .int .i64 wanted, .int .i64 given, .slice a cols.length c, .int .i64 ready, .int .i64 hour] 24)
  cases h1 : isNameB job
  · have HE := Lib.hid (show runErr ⟨job, day, wanted, given, cols, ready, hour⟩ = 4 by unfold runErr; rw [if_pos h1])
    go_enter Try.func22, Try.ntmps22
    go_wp2_with (first | (go_at_call 87; refine (refIsName_any _ _ hj).mono ?_; rintro e w' ⟨rfl, rfl⟩) | (go_at_call 30; refine (within_any _ _ _ _).mono ?_; rintro e w' ⟨rfl, rfl⟩))
    go_ret
    exact ⟨ret_int HE.out.symm, hb⟩
  cases h2 : inB day 0 100000
  · have HE := Lib.hid (show runErr ⟨job, day, wanted, given, cols, ready, hour⟩ = 2 by unfold runErr; rw [if_neg (by simp [h1])]; rw [if_pos h2])
    go_enter Try.func22, Try.ntmps22
    go_wp2_with (first | (go_at_call 87; refine (refIsName_any _ _ hj).mono ?_; rintro e w' ⟨rfl, rfl⟩) | (go_at_call 30; refine (within_any _ _ _ _).mono ?_; rintro e w' ⟨rfl, rfl⟩))
    go_ret
    exact ⟨ret_int HE.out.symm, hb⟩
  cases h3 : inB wanted 1 2000
  · have HE := Lib.hid (show runErr ⟨job, day, wanted, given, cols, ready, hour⟩ = 2 by unfold runErr; rw [if_neg (by simp [h1])]; rw [if_neg (by simp [h2])]; rw [if_pos h3])
    go_enter Try.func22, Try.ntmps22
    go_wp2_with (first | (go_at_call 87; refine (refIsName_any _ _ hj).mono ?_; rintro e w' ⟨rfl, rfl⟩) | (go_at_call 30; refine (within_any _ _ _ _).mono ?_; rintro e w' ⟨rfl, rfl⟩))
    go_ret
    exact ⟨ret_int HE.out.symm, hb⟩
  cases h4 : inB given wanted 2000
  · have HE := Lib.hid (show runErr ⟨job, day, wanted, given, cols, ready, hour⟩ = 2 by unfold runErr; rw [if_neg (by simp [h1])]; rw [if_neg (by simp [h2])]; rw [if_neg (by simp [h3])]; rw [if_pos h4])
    go_enter Try.func22, Try.ntmps22
    go_wp2_with (first | (go_at_call 87; refine (refIsName_any _ _ hj).mono ?_; rintro e w' ⟨rfl, rfl⟩) | (go_at_call 30; refine (within_any _ _ _ _).mono ?_; rintro e w' ⟨rfl, rfl⟩))
    go_ret
    exact ⟨ret_int HE.out.symm, hb⟩
  by_cases h5 : cols.length = 0
  · have HE := Lib.hid (show runErr ⟨job, day, wanted, given, cols, ready, hour⟩ = 10 by unfold runErr; rw [if_neg (by simp [h1])]; rw [if_neg (by simp [h2])]; rw [if_neg (by simp [h3])]; rw [if_neg (by simp [h4])]; rw [if_pos h5])
    have h5' : ((cols.length : Int) == 0) = true := by simpa using h5
    clear h5
    go_enter Try.func22, Try.ntmps22
    go_wp2_with (first | (go_at_call 87; refine (refIsName_any _ _ hj).mono ?_; rintro e w' ⟨rfl, rfl⟩) | (go_at_call 30; refine (within_any _ _ _ _).mono ?_; rintro e w' ⟨rfl, rfl⟩))
    go_ret
    exact ⟨ret_int HE.out.symm, hb⟩
  have h5' : ((cols.length : Int) == 0) = false := by simpa using h5
  by_cases h6 : 6 < cols.length
  · have HE := Lib.hid (show runErr ⟨job, day, wanted, given, cols, ready, hour⟩ = 8 by unfold runErr; rw [if_neg (by simp [h1])]; rw [if_neg (by simp [h2])]; rw [if_neg (by simp [h3])]; rw [if_neg (by simp [h4])]; rw [if_neg h5]; rw [if_pos h6])
    have h6' : decide ((cols.length : Int) > 6) = true := decide_eq_true (by omega)
    clear h5 h6
    go_enter Try.func22, Try.ntmps22
    go_wp2_with (first | (go_at_call 87; refine (refIsName_any _ _ hj).mono ?_; rintro e w' ⟨rfl, rfl⟩) | (go_at_call 30; refine (within_any _ _ _ _).mono ?_; rintro e w' ⟨rfl, rfl⟩))
    go_ret
    exact ⟨ret_int HE.out.symm, hb⟩
  have h6' : decide ((cols.length : Int) > 6) = false := decide_eq_false (by omega)
  have HE0 := Lib.hid (show runErr ⟨job, day, wanted, given, cols, ready, hour⟩ = if namesErr (cols.take 0) (cols.drop 0) ≠ 0 then namesErr (cols.take 0) (cols.drop 0) else if inB ready 0 10000 = false then 2 else if inB hour 1 10000 = false then 2 else 0 by unfold runErr; rw [if_neg (by simp [h1])]; rw [if_neg (by simp [h2])]; rw [if_neg (by simp [h3])]; rw [if_neg (by simp [h4])]; rw [if_neg h5]; rw [if_neg h6]; rfl)
  have h56 : 0 < cols.length ∧ cols.length ≤ 6 := by omega
  obtain ⟨h5n, h6n⟩ := h56
  clear h5 h6
  go_enter Try.func22, Try.ntmps22
  go_wp2_with (first | (go_at_call 87; refine (refIsName_any _ _ hj).mono ?_; rintro e w' ⟨rfl, rfl⟩) | (go_at_call 30; refine (within_any _ _ _ _).mono ?_; rintro e w' ⟨rfl, rfl⟩))
  obtain ⟨w0, hw0⟩ : ∃ w0, w0 = w.alloc (.cells #[.string job, .int .i64 day, .int .i64 wanted, .int .i64 given, .slice a cols.length c, .int .i64 ready, .int .i64 hour] 24) := ⟨_, rfl⟩
  rw [← hw0] at hb bx ⊢
  clear hw0
  go_loopw [3] (fun i wr => ∃ k : Nat, k ≤ cols.length ∧ i = .int .i64 k ∧ Hid (namesErr (cols.take 0) (cols.drop 0) = namesErr (cols.take k) (cols.drop k)) ∧ BoxAt wr w.heap.size #[.string job, .int .i64 day, .int .i64 wanted, .int .i64 given, .slice a cols.length c, .int .i64 ready, .int .i64 hour] 24 ∧ Below w.heap.size w wr) (fun i _ => cols.length - (intOf i).toNat)
  case atStart => exact ⟨0, Nat.zero_le _, rfl, Lib.hid rfl, bx, hb⟩
  case round =>
    obtain ⟨k, hk, rfl, HR, bx1, hB⟩ := hrel
    clear hb bx
    have HB := Lib.hid hB
    have HBX := Lib.hid bx1
    have c4 : wr.cell? ⟨w.heap.size, 4, none⟩ = some (.slice a cols.length c) := bx1.cell 4
    have c5 : wr.cell? ⟨w.heap.size, 5, none⟩ = some (.int .i64 ready) := bx1.cell 5
    have c6 : wr.cell? ⟨w.heap.size, 6, none⟩ = some (.int .i64 hour) := bx1.cell 6
    have hbl := bx1.lt
    by_cases hlt : k < cols.length
    · have hlt' : (k : Int) < (cols.length : Int) := by omega
      obtain ⟨ad, rfl, had, s0⟩ := (HRR.out.below hB).txt hlt
      have hsz : cols[k].size ≤ maxLen := HCS.out _ (List.getElem_mem hlt)
      have hcut : ∀ W, (Instr.sliceAt 22 (.slice (some ad) cols.length c) none (some (.int .i64 (k : Int))) none).run Try.prog W = .ok (.slice (some ad) k c) W := fun W => cut_low (P := Try.prog) 22 ad cols.length c k strsUnder 1 strSize (by have := HCAP.out; omega) W
      have HT := Lib.hid (fun W (h : RowsG 1 tx W (some ad) cols) => hasText_any (some ad) (cols.take k) k c cols[k] W (by rw [List.length_take]; omega) (h.take k) (by omega))
      have HRW := Lib.hid (HRR.out.below hB)
      have HNE := Lib.hid (show nmErr (cols.take k) cols[k] = if isNameB cols[k] = false then 4 else if ((cols.take k).any fun x => decide (x = cols[k])) = true then 5 else 0 from rfl)
      have HGO := Lib.hid (fun he => namesErr_go hlt he)
      have HST := Lib.hid (fun he => namesErr_stop hlt he)
      obtain ⟨q, hq⟩ : ∃ q, q = nmErr (cols.take k) cols[k] := ⟨_, rfl⟩
      rw [← hq] at HNE HGO HST
      obtain ⟨bb, hbb⟩ : ∃ bb, bb = (cols.take k).any fun x => decide (x = cols[k]) := ⟨_, rfl⟩
      rw [← hbb] at HNE HT
      obtain ⟨s, es⟩ : ∃ s, s = cols[k] := ⟨_, rfl⟩
      rw [← es] at s0 hsz HNE HT
      clear es hq hbb bx1 hB
      have HX := Lib.hid (fun (he : q ≠ 0) => (show runErr ⟨job, day, wanted, given, cols, ready, hour⟩ = q by rw [HE0.out, HR.out, HST.out he, if_pos he]))
      cases h7 : isNameB s
      · have HQ := Lib.hid (show q = 4 by rw [HNE.out, if_pos h7])
        go_wp2_with (go_at_call 87; refine (refIsName_any _ _ hsz).mono ?_; rintro e w' ⟨rfl, rfl⟩)
        go_ret
        exact ⟨ret_int (by rw [HX.out (by rw [HQ.out]; decide), HQ.out]), HB.out⟩
      cases bb
      · have HQ := Lib.hid (show q = 0 by rw [HNE.out, if_neg (by simp [h7]), if_neg (by decide)])
        go_wp2_with (go_at_call 87; refine (refIsName_any _ _ hsz).mono ?_; rintro e w' ⟨rfl, rfl⟩)
        go_quiet ((go_at_call 79; exact Calls.quiet_of_same (flip_same (HT.out _ HRW.out))))
        go_wp2
        go_roundw
        case rel => exact ⟨k + 1, by omega, by go_num, Lib.hid (HR.out.trans (HGO.out HQ.out)), HBX.out.drewN _, below_drewN HB.out _⟩
        case measure => simp [intOf]; omega
      · have HQ := Lib.hid (show q = 5 by rw [HNE.out, if_neg (by simp [h7]), if_pos rfl])
        go_wp2_with (go_at_call 87; refine (refIsName_any _ _ hsz).mono ?_; rintro e w' ⟨rfl, rfl⟩)
        go_quiet ((go_at_call 79; exact Calls.quiet_of_same (flip_same (HT.out _ HRW.out))))
        go_wp2
        go_ret
        exact ⟨ret_int (by rw [HX.out (by rw [HQ.out]; decide), HQ.out]), below_drewN HB.out _⟩
    · have HX := Lib.hid (show runErr ⟨job, day, wanted, given, cols, ready, hour⟩ = if inB ready 0 10000 = false then 2 else if inB hour 1 10000 = false then 2 else 0 by rw [HE0.out, HR.out, namesErr_end hlt, if_neg (by simp)])
      obtain rfl : k = cols.length := by omega
      clear bx1 hB
      cases h8 : inB ready 0 10000
      · have HY := Lib.hid (show runErr ⟨job, day, wanted, given, cols, ready, hour⟩ = 2 by rw [HX.out, if_pos h8])
        go_wp2_with (first | (go_at_call 87; refine (refIsName_any _ _ hj).mono ?_; rintro e w' ⟨rfl, rfl⟩) | (go_at_call 30; refine (within_any _ _ _ _).mono ?_; rintro e w' ⟨rfl, rfl⟩))
        go_ret
        exact ⟨ret_int HY.out.symm, HB.out⟩
      cases h9 : inB hour 1 10000
      · have HY := Lib.hid (show runErr ⟨job, day, wanted, given, cols, ready, hour⟩ = 2 by rw [HX.out, if_neg (by simp [h8]), if_pos h9])
        go_wp2_with (first | (go_at_call 87; refine (refIsName_any _ _ hj).mono ?_; rintro e w' ⟨rfl, rfl⟩) | (go_at_call 30; refine (within_any _ _ _ _).mono ?_; rintro e w' ⟨rfl, rfl⟩))
        go_ret
        exact ⟨ret_int HY.out.symm, HB.out⟩
      have HY := Lib.hid (show runErr ⟨job, day, wanted, given, cols, ready, hour⟩ = 0 by rw [HX.out, if_neg (by simp [h8]), if_neg (by simp [h9])])
      go_wp2_with (first | (go_at_call 87; refine (refIsName_any _ _ hj).mono ?_; rintro e w' ⟨rfl, rfl⟩) | (go_at_call 30; refine (within_any _ _ _ _).mono ?_; rintro e w' ⟨rfl, rfl⟩))
      go_ret
      exact ⟨ret_int HY.out.symm, HB.out⟩
end Go.Proofs.Ytpplcbpnojggcaa
