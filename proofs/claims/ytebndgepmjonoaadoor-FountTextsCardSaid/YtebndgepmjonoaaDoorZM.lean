/-
  The mathematics of shares: the order is a permutation, sorted; what each sort gets.
-/
import Derived.Test.YtebndgepmjonoaaDoorZS
namespace Go.Proofs.YtebndgepmjonoaaDoor
open Go.RowKit Go.Maps

def keyOf (V : List Int) (x : Int) : Int := V.getD x.toNat 0
def Srt (V L : List Int) (k : Nat) : Prop := ∀ p q, p < q → q < k → keyOf V (L.getD q 0) ≤ keyOf V (L.getD p 0)
theorem gfLt_iff {V : List Int} {x y : Int} : gfLt V x y = true ↔ keyOf V y < keyOf V x := by
  unfold gfLt keyOf cmpI
  rw [decide_eq_true_eq]
  split
  · constructor <;> intro h <;> omega
  · split <;> constructor <;> intro h <;> omega
theorem ins_srt {V : List Int} : ∀ (j : Nat) (L : List Int), j < L.length → Srt V L j → Srt V (ins (gfLt V) j L) (j + 1) ∧ (∀ i, j < i → (ins (gfLt V) j L).getD i 0 = L.getD i 0) ∧ (∀ i, i ≤ j → ∃ i', i' ≤ j ∧ (ins (gfLt V) j L).getD i 0 = L.getD i' 0) := by
  intro j
  induction j with
  | zero => intro L _ _; exact ⟨fun p q h1 h2 => by omega, fun i _ => rfl, fun i hi => ⟨i, hi, rfl⟩⟩
  | succ j ih =>
    intro L hj hs
    cases hlt : gfLt V (L.getD (j + 1) 0) (L.getD j 0)
    · rw [ins_stop hlt]
      have hk : ¬ keyOf V (L.getD j 0) < keyOf V (L.getD (j + 1) 0) := fun h => by rw [gfLt_iff.2 h] at hlt; cases hlt
      refine ⟨fun p q h1 h2 => ?_, fun i _ => rfl, fun i hi => ⟨i, hi, rfl⟩⟩
      by_cases e : q = j + 1
      · subst e
        by_cases e2 : p = j
        · subst e2; omega
        · have := hs p j (by omega) (by omega); omega
      · exact hs p q h1 (by omega)
    · rw [ins_go hlt]
      have hk := gfLt_iff.1 hlt
      have hsw : Srt V (swp L j) j := fun p q h1 h2 => by
        rw [swp_at hj, swp_at hj, if_neg (by omega), if_neg (by omega), if_neg (by omega), if_neg (by omega)]
        exact hs p q h1 (by omega)
      obtain ⟨a1, a2, a3⟩ := ih (swp L j) (by rw [swp_len]; omega) hsw
      have hat : (ins (gfLt V) j (swp L j)).getD (j + 1) 0 = L.getD j 0 := by
        rw [a2 (j + 1) (by omega), swp_at hj, if_neg (by omega), if_pos rfl]
      have hfrom : ∀ i, i ≤ j → ∃ i', i' ≤ j + 1 ∧ i' ≠ j ∧ (ins (gfLt V) j (swp L j)).getD i 0 = L.getD i' 0 := fun i hi => by
        obtain ⟨i', h1, h2⟩ := a3 i hi
        rw [h2, swp_at hj]
        by_cases e : i' = j
        · rw [if_pos e]; exact ⟨j + 1, by omega, by omega, rfl⟩
        · rw [if_neg e, if_neg (by omega)]; exact ⟨i', by omega, e, rfl⟩
      refine ⟨fun p q h1 h2 => ?_, fun i hi => ?_, fun i hi => ?_⟩
      · by_cases e : q = j + 1
        · subst e
          rw [hat]
          obtain ⟨i', h3, h4, h5⟩ := hfrom p (by omega)
          rw [h5]
          by_cases e2 : i' = j + 1
          · subst e2; omega
          · exact hs i' j (by omega) (by omega)
        · exact a1 p q h1 (by omega)
      · rw [a2 i (by omega), swp_at hj, if_neg (by omega), if_neg (by omega)]
      · by_cases e : i = j + 1
        · subst e; exact ⟨j, by omega, hat⟩
        · obtain ⟨i', h3, _, h5⟩ := hfrom i (by omega); exact ⟨i', h3, h5⟩
theorem insAll_srt {V : List Int} : ∀ (m i : Nat) (L : List Int), i + m ≤ L.length → Srt V L i → Srt V (insAll (gfLt V) m i L) (i + m) := by
  intro m
  induction m with
  | zero => intro i L _ h; exact h
  | succ m ih =>
    intro i L hi h
    have := ih (i + 1) (ins (gfLt V) i L) (by rw [ins_len]; omega) (ins_srt i L (by omega) h).1
    rwa [show i + 1 + m = i + (m + 1) by omega] at this
theorem swp_perm {L : List Int} {j : Nat} (h : j + 1 < L.length) : (swp L j).Perm L := by
  have e1 : L.getD (j + 1) 0 = L[j + 1] := getI h
  have e2 : L.getD j 0 = L[j]'(by omega) := getI (by omega)
  unfold swp
  rw [e1, e2]
  exact List.set_set_perm h (by omega)
theorem ins_perm {lt : Int → Int → Bool} : ∀ (j : Nat) (L : List Int), j < L.length → (ins lt j L).Perm L := by
  intro j
  induction j with
  | zero => intro L _; exact List.Perm.refl _
  | succ j ih =>
    intro L hj
    cases hlt : lt (L.getD (j + 1) 0) (L.getD j 0)
    · rw [ins_stop hlt]
    · rw [ins_go hlt]
      exact (ih (swp L j) (by rw [swp_len]; omega)).trans (swp_perm hj)
theorem insAll_perm {lt : Int → Int → Bool} : ∀ (m i : Nat) (L : List Int), i + m ≤ L.length → (insAll lt m i L).Perm L := by
  intro m
  induction m with
  | zero => intro i L _; exact List.Perm.refl _
  | succ m ih =>
    intro i L hi
    exact (ih (i + 1) (ins lt i L) (by rw [ins_len]; omega)).trans (ins_perm i L (by omega))
theorem order_perm {V : List Int} (h : 0 < V.length) : (orderOf V).Perm (tab V.length fun i => (i : Int)) := insAll_perm _ _ _ (by rw [tab_len]; omega)
theorem order_srt {V : List Int} (h : 0 < V.length) : Srt V (orderOf V) V.length := by
  have := insAll_srt (V := V) (V.length - 1) 1 (tab V.length fun i => (i : Int)) (by rw [tab_len]; omega) (fun p q h1 h2 => by omega)
  rwa [show 1 + (V.length - 1) = V.length by omega] at this
theorem tab_nodup (n : Nat) : (tab n fun i => (i : Int)).Nodup := by
  unfold tab
  rw [List.nodup_iff_pairwise_ne, List.pairwise_map]
  exact (List.pairwise_lt_range).imp (fun h e => by omega)
theorem order_mem {V : List Int} (h : 0 < V.length) {i : Nat} (hi : i < V.length) : (i : Int) ∈ orderOf V := by
  rw [(order_perm h).mem_iff]
  exact List.mem_map.2 ⟨i, List.mem_range.2 hi, rfl⟩
theorem order_nodup {V : List Int} (h : 0 < V.length) : (orderOf V).Nodup := (order_perm h).nodup_iff.2 (tab_nodup _)
theorem bumps_at : ∀ (xs L : List Int), OkIdx xs L.length → ∀ j, j < L.length → (xs.foldl bump L).getD j 0 = L.getD j 0 + (xs.count (j : Int) : Int) := by
  intro xs
  induction xs with
  | nil => intro L _ j _; simp
  | cons y r ih =>
    intro L h j hj
    obtain ⟨x, hx, hxe⟩ := h 0 (by simp)
    have hy : y = (x : Int) := by simpa using hxe
    subst hy
    rw [List.foldl_cons, ih (bump L (x : Int)) (fun i hi => by rw [bump_len]; exact h (i + 1) (by simpa using hi)) j (by rw [bump_len]; exact hj), bump_nat, List.getD_eq_getElem?_getD, List.getElem?_set, List.count_cons]
    by_cases e : x = j
    · subst e
      rw [if_pos rfl, if_pos hj]
      simp; omega
    · rw [if_neg e, ← List.getD_eq_getElem?_getD]
      have : ((x : Int) == (j : Int)) = false := by simp; omega
      rw [this]; simp
end Go.Proofs.YtebndgepmjonoaaDoor
/-
  What each sort gets of a total that is shared.
-/
namespace Go.Proofs.YtebndgepmjonoaaDoor
open Go.RowKit Go.Maps

theorem perm_sum {L1 L2 : List Int} (h : L1.Perm L2) : L1.sum = L2.sum := by
  induction h with
  | nil => rfl
  | cons x _ ih => simp [ih]
  | swap x y l => simp; omega
  | trans _ _ h1 h2 => exact h1.trans h2
theorem sumTo_list (L : List Int) : ∀ k, k ≤ L.length → sumTo (fun i => L.getD i 0) k = (L.take k).sum := by
  intro k
  induction k with
  | zero => intro _; rfl
  | succ k ih =>
    intro hk
    show sumTo _ k + L.getD k 0 = _
    rw [ih (by omega), List.take_succ_eq_append_getElem (by omega), List.sum_append, getI (by omega)]
    simp
theorem sumTo_all (L : List Int) : sumTo (fun i => L.getD i 0) L.length = L.sum := by rw [sumTo_list L _ (Nat.le_refl _), List.take_length]
theorem sumTo_key {V order : List Int} (h : order.Perm (tab V.length fun i => (i : Int))) : sumTo (fun p => keyOf V (order.getD p 0)) order.length = sumTo (fun i => V.getD i 0) V.length := by
  have h1 : sumTo (fun p => keyOf V (order.getD p 0)) order.length = (order.map (keyOf V)).sum := by
    rw [← sumTo_all, List.length_map]
    refine sumTo_congr (fun i hi => ?_)
    show _ = (order.map (keyOf V)).getD i 0
    rw [getI (l := order.map (keyOf V)) (by simpa using hi), List.getElem_map, getI hi]
  have h2 : ((tab V.length fun i => (i : Int)).map (keyOf V)).sum = V.sum := by
    rw [← sumTo_all, List.length_map, tab_len, ← sumTo_all V]
    refine sumTo_congr (fun i hi => ?_)
    show ((tab V.length fun i => (i : Int)).map (keyOf V)).getD i 0 = _
    rw [getI (by simpa [tab_len] using hi), List.getElem_map]
    have : (tab V.length fun i => (i : Int))[i]'(by rw [tab_len]; exact hi) = (i : Int) := by rw [← getI (by rw [tab_len]; exact hi), tab_at hi]
    rw [this]
    rfl
  rw [h1, perm_sum (h.map _), h2, sumTo_all]
theorem sumTo_split {f : Nat → Int} {p : Nat} {B : Int} : ∀ n, (∀ i, i < n → i < p → f i ≤ B) → (∀ i, i < n → p ≤ i → f i ≤ 0) → 0 ≤ B → sumTo f n ≤ (p : Int) * B := by
  intro n
  induction n with
  | zero => intro _ _ hB; exact Int.mul_nonneg (by omega) hB
  | succ n ih =>
    intro h1 h2 hB
    by_cases hp : p ≤ n
    · have a := ih (fun i hi => h1 i (by omega)) (fun i hi => h2 i (by omega)) hB
      have b := h2 n (by omega) hp
      show sumTo f n + f n ≤ _; omega
    · have a : ∀ k, k ≤ n + 1 → sumTo f k ≤ (k : Int) * B := by
        intro k
        induction k with
        | zero => intro _; simp [sumTo]
        | succ k ihk =>
          intro hk
          have b := ihk (by omega)
          have c := h1 k (by omega) (by omega)
          have e : ((k + 1 : Nat) : Int) * B = (k : Int) * B + B := by rw [Int.natCast_add, Int.add_mul]; simp
          show sumTo f k + f k ≤ _
          rw [e]; omega
      have b := a (n + 1) (Nat.le_refl _)
      have c : ((n + 1 : Nat) : Int) * B ≤ (p : Int) * B := Int.mul_le_mul_of_nonneg_right (by omega) hB
      omega

/-- Whether a sort is among those that get one more. -/
def extra (l : List Int) (s t : Int) (j : Nat) : Int := ((((orderOf (tab l.length (remF l s t))).take (missingOf l s t).toNat).count (j : Int) : Nat) : Int)
section
variable {l : List Int} {s t : Int}
theorem bill_at (hp : 0 < l.length) {j : Nat} (hj : j < l.length) : (billOf l s t).getD j 0 = quoF l s t j + extra l s t j := by
  have ho := order_ok (V := tab l.length (remF l s t)) (by rw [tab_len]; exact hp)
  rw [tab_len] at ho
  unfold billOf extra
  rw [bumps_at _ _ (by rw [tab_len]; exact ho.1.take_ _) j (by rw [tab_len]; exact hj), tab_at hj]
theorem extra_bd (hp : 0 < l.length) (j : Nat) : 0 ≤ extra l s t j ∧ extra l s t j ≤ 1 := by
  have hn := order_nodup (V := tab l.length (remF l s t)) (by rw [tab_len]; exact hp)
  have := List.nodup_iff_count.1 ((List.take_sublist (missingOf l s t).toNat _).nodup hn) (j : Int)
  unfold extra
  omega
theorem extra_pos {j : Nat} : 0 < extra l s t j ↔ (j : Int) ∈ (orderOf (tab l.length (remF l s t))).take (missingOf l s t).toNat := by
  unfold extra
  rw [← List.count_pos_iff]
  omega
theorem mem_take_at {L : List Int} {m : Nat} {x : Int} (h : x ∈ L.take m) : ∃ p, p < m ∧ p < L.length ∧ L.getD p 0 = x := by
  obtain ⟨p, hp, e⟩ := List.getElem_of_mem h
  rw [List.length_take] at hp
  exact ⟨p, by omega, by omega, by rw [getI (by omega), ← e, List.getElem_take]⟩
theorem at_mem_take {L : List Int} {m p : Nat} (hp : p < m) (hl : p < L.length) : L.getD p 0 ∈ L.take m := by
  rw [getI hl]
  exact List.mem_take_iff_getElem.2 ⟨p, by omega, rfl⟩
theorem rem_key {j : Nat} (hj : j < l.length) : keyOf (tab l.length (remF l s t)) (j : Int) = remF l s t j := by
  unfold keyOf
  rw [Int.toNat_natCast, tab_at hj]
theorem rem_bd (hs : 0 < s) (j : Nat) : 0 ≤ remF l s t j ∧ remF l s t j < s := ⟨Int.emod_nonneg _ (by omega), Int.emod_lt_of_pos _ hs⟩
theorem miss_sum (hsum : sumTo (fun k => l.getD k 0) l.length = s) : missingOf l s t * s = sumTo (remF l s t) l.length := by
  have h1 : sumTo (fun k => s * quoF l s t k + remF l s t k) l.length = sumTo (fun k => t * l.getD k 0) l.length :=
    sumTo_congr (fun i _ => by unfold quoF remF; exact Int.mul_ediv_add_emod _ _)
  rw [sumTo_add, sumTo_mul, sumTo_mul, hsum] at h1
  unfold missingOf
  rw [Int.sub_mul, Int.mul_comm (sumTo _ _) s]; omega
/-- Only a sort with a rest gets one more. -/
theorem extra_rem (hp : 0 < l.length) (hs : 0 < s) (hsum : sumTo (fun k => l.getD k 0) l.length = s) {j : Nat} (hj : j < l.length) (he : 0 < extra l s t j) : 0 < remF l s t j := by
  obtain ⟨p, hpm, hpl, hpe⟩ := mem_take_at (extra_pos.1 he)
  have hV : 0 < (tab l.length (remF l s t)).length := by rw [tab_len]; exact hp
  have ho := order_ok hV
  have hpe1 := order_perm hV
  have hsr := order_srt hV
  have hm := missing_bd (total := t) hs hsum hp
  have hms := miss_sum (t := t) hsum
  rw [tab_len] at ho hsr
  have hk := sumTo_key hpe1
  rw [ho.2, tab_len, sumTo_congr (g := remF l s t) (fun i hi => tab_at hi)] at hk
  rcases Int.lt_or_le 0 (remF l s t j) with h | h
  · exact h
  · exfalso
    have hb : ∀ i, i < l.length → keyOf (tab l.length (remF l s t)) ((orderOf (tab l.length (remF l s t))).getD i 0) ≤ s - 1 := fun i hi => by
      obtain ⟨x, hx, hxe⟩ := ho.1 i (by omega)
      rw [hxe, rem_key hx]
      have := (rem_bd (l := l) (t := t) hs x).2
      omega
    have h1 := sumTo_split (p := p) (B := s - 1) l.length (fun i hi _ => hb i hi) (fun i hi hpi => by
      have h0 : keyOf (tab l.length (remF l s t)) ((orderOf (tab l.length (remF l s t))).getD p 0) ≤ 0 := by rw [hpe, rem_key hj]; exact h
      by_cases e : i = p
      · subst e; exact h0
      · have := hsr p i (by omega) hi; omega) (by omega)
    rw [hk, ← hms] at h1
    have h2 : (p : Int) * (s - 1) ≤ (p : Int) * s := Int.mul_le_mul_of_nonneg_left (by omega) (by omega)
    have h3 : ((p : Int) + 1) * s ≤ missingOf l s t * s := Int.mul_le_mul_of_nonneg_right (by omega) (by omega)
    rw [Int.add_mul] at h3
    omega
/-- Each share is exact within one. -/
theorem bill_near (hp : 0 < l.length) (hs : 0 < s) (hsum : sumTo (fun k => l.getD k 0) l.length = s) {j : Nat} (hj : j < l.length) :
    -s < (billOf l s t).getD j 0 * s - t * l.getD j 0 ∧ (billOf l s t).getD j 0 * s - t * l.getD j 0 < s := by
  have e1 : s * quoF l s t j + remF l s t j = t * l.getD j 0 := by unfold quoF remF; exact Int.mul_ediv_add_emod _ _
  have e2 := extra_bd (s := s) (t := t) hp j
  have e3 := rem_bd (l := l) (t := t) hs j
  rw [bill_at hp hj, Int.add_mul, ← e1, Int.mul_comm (quoF l s t j) s]
  rcases (by omega : extra l s t j = 0 ∨ extra l s t j = 1) with h | h
  · rw [h]; omega
  · have := extra_rem (t := t) hp hs hsum hj (by omega)
    rw [h]; omega
/-- A sort that is needed more never gets less. -/
theorem bill_mono (hp : 0 < l.length) (hs : 0 < s) (hsum : sumTo (fun k => l.getD k 0) l.length = s) (ht : 0 ≤ t) {i k : Nat} (hi : i < l.length) (hk : k < l.length) (h : l.getD k 0 < l.getD i 0) :
    (billOf l s t).getD k 0 ≤ (billOf l s t).getD i 0 := by
  have a1 := extra_bd (s := s) (t := t) hp k
  have a2 := extra_bd (s := s) (t := t) hp i
  rw [bill_at hp hk, bill_at hp hi]
  have hmul : t * l.getD k 0 ≤ t * l.getD i 0 := Int.mul_le_mul_of_nonneg_left (by omega) ht
  have hq : quoF l s t k ≤ quoF l s t i := by unfold quoF; exact Int.ediv_le_ediv hs hmul
  rcases Int.lt_or_le (quoF l s t k) (quoF l s t i) with h1 | h1
  · omega
  · have heq : quoF l s t k = quoF l s t i := by omega
    rcases (by omega : extra l s t k = 0 ∨ extra l s t k = 1) with h2 | h2
    · omega
    · obtain ⟨p, hpm, hpl, hpe⟩ := mem_take_at (extra_pos.1 (show 0 < extra l s t k by omega))
      have hV : 0 < (tab l.length (remF l s t)).length := by rw [tab_len]; exact hp
      have ho := order_ok hV
      have hsr := order_srt hV
      have hmem := order_mem hV (i := i) (by rw [tab_len]; exact hi)
      have hm := missing_bd (total := t) hs hsum hp
      rw [tab_len] at ho hsr
      obtain ⟨p', hp', e'⟩ := List.getElem_of_mem hmem
      have e1 : s * quoF l s t k + remF l s t k = t * l.getD k 0 := by unfold quoF remF; exact Int.mul_ediv_add_emod _ _
      have e2 : s * quoF l s t i + remF l s t i = t * l.getD i 0 := by unfold quoF remF; exact Int.mul_ediv_add_emod _ _
      have ht0 : 0 < t := by
        rcases Int.lt_or_le 0 t with h3 | h3
        · exact h3
        · exfalso
          have hte : t = 0 := by omega
          have hz : missingOf l s t = 0 := by
            unfold missingOf
            rw [sumTo_congr (g := fun _ => 0) (fun j _ => by unfold quoF; rw [hte]; simp), hte]
            have : ∀ n, sumTo (fun _ => 0) n = 0 := by
              intro n
              induction n with
              | zero => rfl
              | succ n ih => show sumTo _ n + 0 = 0; rw [ih]; rfl
            rw [this]; rfl
          rw [hz] at hpm
          simp at hpm
      have hlt : t * l.getD k 0 < t * l.getD i 0 := Int.mul_lt_mul_of_pos_left h ht0
      rw [heq] at e1
      have hrr : remF l s t k < remF l s t i := by omega
      have hin : (i : Int) ∈ (orderOf (tab l.length (remF l s t))).take (missingOf l s t).toNat := by
        have hg : (orderOf (tab l.length (remF l s t))).getD p' 0 = (i : Int) := by rw [getI hp', e']
        rcases Nat.lt_or_ge p' (missingOf l s t).toNat with h4 | h4
        · rw [← hg]; exact at_mem_take h4 hp'
        · exfalso
          have := hsr p p' (by omega) (by omega)
          rw [hpe, hg, rem_key hi, rem_key hk] at this
          omega
      have := extra_pos.2 hin
      omega
end
end Go.Proofs.YtebndgepmjonoaaDoor
