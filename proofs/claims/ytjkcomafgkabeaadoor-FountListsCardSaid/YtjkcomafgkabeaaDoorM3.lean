/-
  The mathematics of shares: the order is a permutation, sorted; what each sort gets.
-/
import Derived.Test.YtjkcomafgkabeaaDoorT2
namespace Go.Proofs.YtjkcomafgkabeaaDoor
open Go.RowKit Go.Maps

def keyOf (V : List Int) (x : Int) : Int := V.getD x.toNat 0
def Srt (V L : List Int) (k : Nat) : Prop := ∀ p q, p < q → q < k → keyOf V (L.getD q 0) ≤ keyOf V (L.getD p 0)
theorem gfLt_iff {V : List Int} {x y : Int} : gfLt V x y = true ↔ keyOf V y < keyOf V x := by
  unfold gfLt keyOf cmpI
  rw [decide_eq_true_eq]
  split
  · constructor <;> intro h <;> omega
  · split <;> constructor <;> intro h <;> omega
theorem ins_srt {V : List Int} : ∀ (j : Nat) (L : List Int), j < L.length → Srt V L j → Srt V (ins (gfLt V) j L) (j + 1) ∧ (∀ i, j < i → (ins (gfLt V) j L).getD i 0 = L.getD i 0) ∧ (∀ i, i ≤ j → ∃ i', i' ≤ j ∧ (ins (gfLt V) j L).getD i 0 = L.getD i' 0) := by
  intro j
  induction j with
  | zero => intro L _ _; exact ⟨fun p q h1 h2 => by omega, fun i _ => rfl, fun i hi => ⟨i, hi, rfl⟩⟩
  | succ j ih =>
    intro L hj hs
    cases hlt : gfLt V (L.getD (j + 1) 0) (L.getD j 0)
    · rw [ins_stop hlt]
      have hk : ¬ keyOf V (L.getD j 0) < keyOf V (L.getD (j + 1) 0) := fun h => by rw [gfLt_iff.2 h] at hlt; cases hlt
      refine ⟨fun p q h1 h2 => ?_, fun i _ => rfl, fun i hi => ⟨i, hi, rfl⟩⟩
      by_cases e : q = j + 1
      · subst e
        by_cases e2 : p = j
        · subst e2; omega
        · have := hs p j (by omega) (by omega); omega
      · exact hs p q h1 (by omega)
    · rw [ins_go hlt]
      have hk := gfLt_iff.1 hlt
      have hsw : Srt V (swp L j) j := fun p q h1 h2 => by
        rw [swp_at hj, swp_at hj, if_neg (by omega), if_neg (by omega), if_neg (by omega), if_neg (by omega)]
        exact hs p q h1 (by omega)
      obtain ⟨a1, a2, a3⟩ := ih (swp L j) (by rw [swp_len]; omega) hsw
      have hat : (ins (gfLt V) j (swp L j)).getD (j + 1) 0 = L.getD j 0 := by
        rw [a2 (j + 1) (by omega), swp_at hj, if_neg (by omega), if_pos rfl]
      have hfrom : ∀ i, i ≤ j → ∃ i', i' ≤ j + 1 ∧ i' ≠ j ∧ (ins (gfLt V) j (swp L j)).getD i 0 = L.getD i' 0 := fun i hi => by
        obtain ⟨i', h1, h2⟩ := a3 i hi
        rw [h2, swp_at hj]
        by_cases e : i' = j
        · rw [if_pos e]; exact ⟨j + 1, by omega, by omega, rfl⟩
        · rw [if_neg e, if_neg (by omega)]; exact ⟨i', by omega, e, rfl⟩
      refine ⟨fun p q h1 h2 => ?_, fun i hi => ?_, fun i hi => ?_⟩
      · by_cases e : q = j + 1
        · subst e
          rw [hat]
          obtain ⟨i', h3, h4, h5⟩ := hfrom p (by omega)
          rw [h5]
          by_cases e2 : i' = j + 1
          · subst e2; omega
          · exact hs i' j (by omega) (by omega)
        · exact a1 p q h1 (by omega)
      · rw [a2 i (by omega), swp_at hj, if_neg (by omega), if_neg (by omega)]
      · by_cases e : i = j + 1
        · subst e; exact ⟨j, by omega, hat⟩
        · obtain ⟨i', h3, _, h5⟩ := hfrom i (by omega); exact ⟨i', h3, h5⟩
theorem insAll_srt {V : List Int} : ∀ (m i : Nat) (L : List Int), i + m ≤ L.length → Srt V L i → Srt V (insAll (gfLt V) m i L) (i + m) := by
  intro m
  induction m with
  | zero => intro i L _ h; exact h
  | succ m ih =>
    intro i L hi h
    have := ih (i + 1) (ins (gfLt V) i L) (by rw [ins_len]; omega) (ins_srt i L (by omega) h).1
    rwa [show i + 1 + m = i + (m + 1) by omega] at this
theorem swp_perm {L : List Int} {j : Nat} (h : j + 1 < L.length) : (swp L j).Perm L := by
  have e1 : L.getD (j + 1) 0 = L[j + 1] := getI h
  have e2 : L.getD j 0 = L[j]'(by omega) := getI (by omega)
  unfold swp
  rw [e1, e2]
  exact List.set_set_perm h (by omega)
theorem ins_perm {lt : Int → Int → Bool} : ∀ (j : Nat) (L : List Int), j < L.length → (ins lt j L).Perm L := by
  intro j
  induction j with
  | zero => intro L _; exact List.Perm.refl _
  | succ j ih =>
    intro L hj
    cases hlt : lt (L.getD (j + 1) 0) (L.getD j 0)
    · rw [ins_stop hlt]
    · rw [ins_go hlt]
      exact (ih (swp L j) (by rw [swp_len]; omega)).trans (swp_perm hj)
theorem insAll_perm {lt : Int → Int → Bool} : ∀ (m i : Nat) (L : List Int), i + m ≤ L.length → (insAll lt m i L).Perm L := by
  intro m
  induction m with
  | zero => intro i L _; exact List.Perm.refl _
  | succ m ih =>
    intro i L hi
    exact (ih (i + 1) (ins lt i L) (by rw [ins_len]; omega)).trans (ins_perm i L (by omega))
theorem order_perm {V : List Int} (h : 0 < V.length) : (orderOf V).Perm (tab V.length fun i => (i : Int)) := insAll_perm _ _ _ (by rw [tab_len]; omega)
theorem order_srt {V : List Int} (h : 0 < V.length) : Srt V (orderOf V) V.length := by
  have := insAll_srt (V := V) (V.length - 1) 1 (tab V.length fun i => (i : Int)) (by rw [tab_len]; omega) (fun p q h1 h2 => by omega)
  rwa [show 1 + (V.length - 1) = V.length by omega] at this
theorem tab_nodup (n : Nat) : (tab n fun i => (i : Int)).Nodup := by
  unfold tab
  rw [List.nodup_iff_pairwise_ne, List.pairwise_map]
  exact (List.pairwise_lt_range).imp (fun h e => by omega)
theorem order_mem {V : List Int} (h : 0 < V.length) {i : Nat} (hi : i < V.length) : (i : Int) ∈ orderOf V := by
  rw [(order_perm h).mem_iff]
  exact List.mem_map.2 ⟨i, List.mem_range.2 hi, rfl⟩
theorem order_nodup {V : List Int} (h : 0 < V.length) : (orderOf V).Nodup := (order_perm h).nodup_iff.2 (tab_nodup _)
theorem bumps_at : ∀ (xs L : List Int), OkIdx xs L.length → ∀ j, j < L.length → (xs.foldl bump L).getD j 0 = L.getD j 0 + (xs.count (j : Int) : Int) := by
  intro xs
  induction xs with
  | nil => intro L _ j _; simp
  | cons y r ih =>
    intro L h j hj
    obtain ⟨x, hx, hxe⟩ := h 0 (by simp)
    have hy : y = (x : Int) := by simpa using hxe
    subst hy
    rw [List.foldl_cons, ih (bump L (x : Int)) (fun i hi => by rw [bump_len]; exact h (i + 1) (by simpa using hi)) j (by rw [bump_len]; exact hj), bump_nat, List.getD_eq_getElem?_getD, List.getElem?_set, List.count_cons]
    by_cases e : x = j
    · subst e
      rw [if_pos rfl, if_pos hj]
      simp; omega
    · rw [if_neg e, ← List.getD_eq_getElem?_getD]
      have : ((x : Int) == (j : Int)) = false := by simp; omega
      rw [this]; simp
end Go.Proofs.YtjkcomafgkabeaaDoor
