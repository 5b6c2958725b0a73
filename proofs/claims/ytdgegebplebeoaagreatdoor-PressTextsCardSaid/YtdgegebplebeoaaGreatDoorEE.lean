/-
  Package press: the mathematics of spoiled sheets: weights of the numbers of good sheets, their sums; greatest common divisors.
-/
import Derived.Test.YtdgegebplebeoaaGreatDoorEA
namespace Go.Proofs.YtdgegebplebeoaaGreatDoor
open Go.RowKit

/-- The weight of i good sheets of n. -/
def wf (N G : Int) : Nat → Nat → Int
  | 0, i => if i = 0 then 1 else 0
  | n + 1, i => wf N G n i * N + (match i with | 0 => 0 | j + 1 => wf N G n j * G)
def wts (N G : Int) (n : Nat) : List Int := (List.range (n + 1)).map (wf N G n)
theorem wts_len (N G : Int) (n : Nat) : (wts N G n).length = n + 1 := by simp [wts]
theorem wts_at (N G : Int) (n i : Nat) (h : i < (wts N G n).length) : (wts N G n)[i] = wf N G n i := by simp [wts]
theorem wf_out (N G : Int) : ∀ (n i : Nat), n < i → wf N G n i = 0
  | 0, i, h => by unfold wf; rw [if_neg (by omega)]
  | n + 1, 0, h => by omega
  | n + 1, i + 1, h => by
    show wf N G n (i + 1) * N + wf N G n i * G = 0
    rw [wf_out N G n (i + 1) (by omega), wf_out N G n i (by omega)]; simp
theorem wf_nonneg {N G : Int} (hN : 0 ≤ N) (hG : 0 ≤ G) : ∀ (n i : Nat), 0 ≤ wf N G n i
  | 0, i => by unfold wf; split <;> omega
  | n + 1, 0 => by
    show 0 ≤ wf N G n 0 * N + 0
    have := Int.mul_nonneg (wf_nonneg hN hG n 0) hN
    omega
  | n + 1, i + 1 => by
    show 0 ≤ wf N G n (i + 1) * N + wf N G n i * G
    have h1 := Int.mul_nonneg (wf_nonneg hN hG n (i + 1)) hN
    have h2 := Int.mul_nonneg (wf_nonneg hN hG n i) hG
    omega
/-- The sum of a list. -/
def sumI : List Int → Int
  | [] => 0
  | x :: L => x + sumI L
theorem sumI_app (L M : List Int) : sumI (L ++ M) = sumI L + sumI M := by
  induction L with
  | nil => simp [sumI]
  | cons x L ih => rw [List.cons_append, sumI, sumI, ih]; omega
theorem sumI_nonneg {L : List Int} (h : ∀ x ∈ L, 0 ≤ x) : 0 ≤ sumI L := by
  induction L with
  | nil => simp [sumI]
  | cons x L ih =>
    have h1 := h x (by simp)
    have h2 := ih fun y hy => h y (by simp [hy])
    unfold sumI; omega
theorem sumI_take_le {L : List Int} (h : ∀ x ∈ L, 0 ≤ x) (k : Nat) : 0 ≤ sumI (L.take k) ∧ sumI (L.take k) ≤ sumI L := by
  have h1 := sumI_app (L.take k) (L.drop k)
  rw [List.take_append_drop] at h1
  have h2 := sumI_nonneg (L := L.drop k) fun x hx => h x (List.mem_of_mem_drop hx)
  have h3 := sumI_nonneg (L := L.take k) fun x hx => h x (List.mem_of_mem_take hx)
  omega
theorem sumI_step {L : List Int} {k : Nat} (hk : k < L.length) : sumI (L.take (k + 1)) = sumI (L.take k) + L[k] := by
  rw [List.take_succ_eq_append_getElem hk, sumI_app]; simp [sumI]
theorem sumI_map_add (L : List Nat) (f g : Nat → Int) : sumI (L.map fun i => f i + g i) = sumI (L.map f) + sumI (L.map g) := by
  induction L with
  | nil => simp [sumI]
  | cons x L ih => simp only [List.map_cons, sumI, ih]; omega
theorem sumI_map_mul (L : List Nat) (f : Nat → Int) (c : Int) : sumI (L.map fun i => f i * c) = sumI (L.map f) * c := by
  induction L with
  | nil => simp [sumI]
  | cons x L ih => simp only [List.map_cons, sumI, ih, Int.add_mul]
/-- The weights from k good sheets on, up to twenty of them. -/
def tl (N G : Int) (n k : Nat) : Int := sumI ((List.range 20).map fun i => wf N G n (k + i))
theorem sumI_zero {L : List Nat} {f : Nat → Int} (h : ∀ i ∈ L, f i = 0) : sumI (L.map f) = 0 := by
  induction L with
  | nil => rfl
  | cons x L ih => simp only [List.map_cons, sumI, h x (by simp), ih fun i hi => h i (by simp [hi])]; rfl
theorem tl_drop {N G : Int} {n k : Nat} (hn : n ≤ 18) (hk : k ≤ n + 1) : sumI ((wts N G n).drop k) = tl N G n k := by
  have e : (wts N G n).drop k = (List.range (n + 1 - k)).map fun i => wf N G n (k + i) := by
    apply List.ext_getElem
    · simp [wts]
    · intro i h1 h2
      simp [wts]
  rw [e]
  unfold tl
  have e2 : List.range 20 = List.range (n + 1 - k) ++ (List.range (20 - (n + 1 - k))).map (fun i => n + 1 - k + i) := by
    have := List.range_add (n := n + 1 - k) (m := 20 - (n + 1 - k))
    rw [show n + 1 - k + (20 - (n + 1 - k)) = 20 by omega] at this
    exact this
  rw [e2, List.map_append, sumI_app, List.map_map]
  have h3 : sumI ((List.range (20 - (n + 1 - k))).map ((fun i => wf N G n (k + i)) ∘ fun i => n + 1 - k + i)) = 0 := by
    apply sumI_zero
    intro i _
    show wf N G n (k + (n + 1 - k + i)) = 0
    exact wf_out N G n _ (by omega)
  rw [h3]; omega
theorem tl_out {N G : Int} {n k : Nat} (h : n < k) : tl N G n k = 0 := by
  unfold tl; exact sumI_zero fun i _ => wf_out N G n _ (by omega)
theorem tl_succ (N G : Int) (n k : Nat) : tl N G (n + 1) (k + 1) = tl N G n (k + 1) * N + tl N G n k * G := by
  unfold tl
  rw [← sumI_map_mul, ← sumI_map_mul, ← sumI_map_add]
  have e : (fun i => wf N G (n + 1) (k + 1 + i)) = fun i => wf N G n (k + 1 + i) * N + wf N G n (k + i) * G := by
    funext i
    rw [show k + 1 + i = (k + i) + 1 by omega]; rfl
  rw [e]
theorem range20 (f : Nat → Int) : sumI ((List.range 20).map f) = f 0 + sumI ((List.range 19).map fun i => f (i + 1)) := by
  rw [show List.range 20 = 0 :: (List.range 19).map (· + 1) from rfl, List.map_cons, sumI, List.map_map]; rfl
theorem range20' (f : Nat → Int) : sumI ((List.range 20).map f) = sumI ((List.range 19).map f) + f 19 := by
  rw [show List.range 20 = List.range 19 ++ [19] from rfl, List.map_append, sumI_app]; simp [sumI]
theorem tl_zero {N G : Int} {n : Nat} (hn : n ≤ 18) : tl N G (n + 1) 0 = tl N G n 0 * (N + G) := by
  have h1 : tl N G (n + 1) 0 = wf N G n 0 * N + sumI ((List.range 19).map fun i => wf N G n (i + 1) * N + wf N G n i * G) := by
    unfold tl
    simp only [Nat.zero_add]
    rw [range20]
    show wf N G n 0 * N + 0 + _ = _
    rw [Int.add_zero]; rfl
  rw [h1, sumI_map_add, sumI_map_mul, sumI_map_mul, Int.mul_add]
  have h2 : tl N G n 0 = wf N G n 0 + sumI ((List.range 19).map fun i => wf N G n (i + 1)) := by
    unfold tl; simp only [Nat.zero_add]; exact range20 _
  have h3 : tl N G n 0 = sumI ((List.range 19).map fun i => wf N G n i) := by
    unfold tl; simp only [Nat.zero_add]; rw [range20', wf_out N G n 19 (by omega)]; omega
  rw [← h3]
  have h4 : tl N G n 0 * N = (wf N G n 0 + sumI ((List.range 19).map fun i => wf N G n (i + 1))) * N := by rw [← h2]
  rw [Int.add_mul] at h4
  rw [h4, Int.add_assoc]
theorem tl_all {N G : Int} : ∀ {n : Nat}, n ≤ 18 → tl N G n 0 = (N + G) ^ n
  | 0, _ => by
    unfold tl
    rw [range20, Int.pow_zero]
    rw [show sumI ((List.range 19).map fun i => wf N G 0 (0 + (i + 1))) = 0 from sumI_zero fun i _ => wf_out N G 0 _ (by omega)]
    try rfl
  | n + 1, h => by rw [tl_zero (by omega), tl_all (by omega), Int.pow_succ]
theorem tl_nonneg {N G : Int} (hN : 0 ≤ N) (hG : 0 ≤ G) (n k : Nat) : 0 ≤ tl N G n k := by
  unfold tl
  apply sumI_nonneg
  intro x hx
  obtain ⟨i, _, rfl⟩ := List.mem_map.1 hx
  exact wf_nonneg hN hG n _
theorem tl_le {N G : Int} (hN : 0 ≤ N) (hG : 0 ≤ G) : ∀ (n k : Nat), n ≤ 18 → tl N G n k ≤ tl N G n 0
  | n, 0, _ => Int.le_refl _
  | 0, k + 1, _ => by rw [tl_out (by omega)]; exact tl_nonneg hN hG 0 0
  | n + 1, k + 1, h => by
    rw [tl_succ, tl_zero (by omega), Int.mul_add]
    have h1 := Int.mul_le_mul_of_nonneg_right (tl_le hN hG n (k + 1) (by omega)) hN
    have h2 := Int.mul_le_mul_of_nonneg_right (tl_le hN hG n k (by omega)) hG
    omega
theorem pow_le17 {D : Int} (h1 : 1 ≤ D) (h2 : D ≤ 10) : ∀ n : Nat, n ≤ 17 → 1 ≤ D ^ n ∧ D ^ n ≤ 10 ^ n
  | 0, _ => by simp
  | n + 1, h => by
    have ih := pow_le17 h1 h2 n (by omega)
    rw [Int.pow_succ, Int.pow_succ]
    constructor
    · have := Int.mul_le_mul ih.1 h1 (by omega) (by omega); omega
    · exact Int.mul_le_mul ih.2 h2 (by omega) (by have := ih.1; omega)
theorem ten_le : ∀ n : Nat, n ≤ 17 → (10 : Int) ^ n ≤ 100000000000000000 := by decide
theorem all_bd {D : Int} (h1 : 1 ≤ D) (h2 : D ≤ 10) {n : Nat} (h : n ≤ 17) : 1 ≤ D ^ n ∧ D ^ n ≤ 100000000000000000 :=
  ⟨(pow_le17 h1 h2 n h).1, Int.le_trans (pow_le17 h1 h2 n h).2 (ten_le n h)⟩

/-- What comes of the next weights, number by number. -/
def nxt (N G : Int) (W : List Int) : Nat → List Int
  | 0 => List.replicate (W.length + 1) 0
  | j + 1 => ((nxt N G W j).set j ((nxt N G W j).getD j 0 + W.getD j 0 * N)).set (j + 1) (((nxt N G W j).set j ((nxt N G W j).getD j 0 + W.getD j 0 * N)).getD (j + 1) 0 + W.getD j 0 * G)
theorem nxt_len (N G : Int) (W : List Int) : ∀ j, (nxt N G W j).length = W.length + 1
  | 0 => by simp [nxt]
  | j + 1 => by rw [nxt, List.length_set, List.length_set, nxt_len N G W j]
theorem getD_eqI {L : List Int} {i : Nat} {d : Int} (h : i < L.length) : L.getD i d = L[i] := by rw [List.getD_eq_getElem?_getD, List.getElem?_eq_getElem h]; rfl
theorem getD_set_self {L : List Int} {i : Nat} (h : i < L.length) (x : Int) : (L.set i x).getD i 0 = x := by
  rw [List.getD_eq_getElem?_getD, List.getElem?_set_self h]; rfl
theorem getD_set_other {L : List Int} {i j : Nat} (h : i ≠ j) (x : Int) : (L.set i x).getD j 0 = L.getD j 0 := by
  rw [List.getD_eq_getElem?_getD, List.getElem?_set_ne h, List.getD_eq_getElem?_getD]
theorem nxt_at (N G : Int) (W : List Int) : ∀ (j i : Nat), j ≤ W.length → (nxt N G W j).getD i 0 = (if i < j then W.getD i 0 * N else 0) + (if 1 ≤ i ∧ i ≤ j then W.getD (i - 1) 0 * G else 0)
  | 0, i, _ => by
    rw [nxt, List.getD_eq_getElem?_getD, if_neg (by omega), if_neg (by omega)]
    rcases Nat.lt_or_ge i (W.length + 1) with h | h
    · rw [List.getElem?_replicate_of_lt h]; rfl
    · rw [List.getElem?_eq_none (by simp; omega)]; rfl
  | j + 1, i, hj => by
    have ih := fun i => nxt_at N G W j i (by omega)
    have hl := nxt_len N G W j
    rw [nxt]
    by_cases h1 : i = j + 1
    · subst h1
      rw [getD_set_self (by rw [List.length_set]; omega), getD_set_other (by omega), ih, if_neg (by omega), if_neg (by omega), if_neg (by omega), if_pos (by omega)]
      simp
    · rw [getD_set_other (by omega)]
      by_cases h2 : i = j
      · obtain rfl : j = i := h2.symm
        rw [getD_set_self (by omega), ih, if_neg (Nat.lt_irrefl _), if_pos (Nat.lt_succ_self _)]
        by_cases h3 : 1 ≤ j
        · rw [if_pos (And.intro h3 (Nat.le_refl j)), if_pos (And.intro h3 (Nat.le_succ j))]; omega
        · rw [if_neg (fun h => h3 h.1), if_neg (fun h => h3 h.1)]; omega
      · rw [getD_set_other (by omega), ih]
        congr 1
        · by_cases h3 : i < j
          · rw [if_pos h3, if_pos (by omega)]
          · rw [if_neg h3, if_neg (by omega)]
        · by_cases h3 : 1 ≤ i ∧ i ≤ j
          · rw [if_pos h3, if_pos (by omega)]
          · rw [if_neg h3, if_neg (by omega)]
theorem wts_getD (N G : Int) (n i : Nat) : (wts N G n).getD i 0 = wf N G n i := by
  rw [List.getD_eq_getElem?_getD]
  rcases Nat.lt_or_ge i (n + 1) with h | h
  · rw [List.getElem?_eq_getElem (by rw [wts_len]; exact h), wts_at]; rfl
  · rw [List.getElem?_eq_none (by rw [wts_len]; exact h), wf_out N G n i (by omega)]; rfl
theorem nxt_wts (N G : Int) (n : Nat) : nxt N G (wts N G n) (n + 1) = wts N G (n + 1) := by
  apply List.ext_getElem
  · rw [nxt_len, wts_len, wts_len]
  · intro i h1 h2
    have h3 := nxt_at N G (wts N G n) (n + 1) i (by rw [wts_len]; exact Nat.le_refl _)
    rw [List.getD_eq_getElem?_getD, List.getElem?_eq_getElem h1] at h3
    rw [show (nxt N G (wts N G n) (n + 1))[i] = _ from h3, wts_at, wts_getD, wts_getD]
    rw [wts_len] at h2
    cases i with
    | zero =>
      rw [if_pos (by omega), if_neg (by omega)]; rfl
    | succ i =>
      show _ = wf N G n (i + 1) * N + wf N G n i * G
      rw [if_pos (show 1 ≤ i + 1 ∧ i + 1 ≤ n + 1 by omega)]
      by_cases h4 : i + 1 < n + 1
      · rw [if_pos h4]; rfl
      · rw [if_neg h4, wf_out N G n (i + 1) (by omega)]; simp
/-- Bounds of what comes of the next weights. -/
theorem wts_bd {N G : Int} (hN : 0 ≤ N) (hG : 0 ≤ G) (hD : N + G ≤ 10) (h1 : 1 ≤ N + G) {n : Nat} (hn : n ≤ 17) (i : Nat) : 0 ≤ (wts N G n).getD i 0 ∧ (wts N G n).getD i 0 ≤ 100000000000000000 := by
  rw [wts_getD]
  refine ⟨wf_nonneg hN hG n i, ?_⟩
  rcases Nat.lt_or_ge n i with h | h
  · rw [wf_out N G n i h]; omega
  · have h2 := tl_drop (N := N) (G := G) (n := n) (k := 0) (by omega) (by omega)
    rw [List.drop_zero, tl_all (by omega)] at h2
    have h3 := sumI_step (L := wts N G n) (k := i) (by rw [wts_len]; omega)
    have h4 := sumI_take_le (L := wts N G n) (fun x hx => by obtain ⟨j, _, rfl⟩ := List.mem_map.1 hx; exact wf_nonneg hN hG n j)
    have h5 := h4 (i + 1)
    have h6 := (h4 i).1
    have h7 := (all_bd h1 hD hn).2
    rw [wts_at] at h3
    omega
theorem nxt_bd {N G : Int} (hN : 0 ≤ N) (hG : 0 ≤ G) (hD : N + G ≤ 10) (h1 : 1 ≤ N + G) {n : Nat} (hn : n ≤ 16) (j i : Nat) (hj : j ≤ n + 1) : 0 ≤ (nxt N G (wts N G n) j).getD i 0 ∧ (nxt N G (wts N G n) j).getD i 0 ≤ 1000000000000000000 := by
  rw [nxt_at N G _ j i (by rw [wts_len]; exact hj), wts_getD, wts_getD]
  have a1 := wts_bd hN hG hD h1 (n := n) (by omega) i
  have a2 := wts_bd hN hG hD h1 (n := n) (by omega) (i - 1)
  rw [wts_getD] at a1 a2
  have hb1 : 0 ≤ wf N G n i * N := Int.mul_nonneg a1.1 hN
  have hb2 : 0 ≤ wf N G n (i - 1) * G := Int.mul_nonneg a2.1 hG
  have hc1 : wf N G n i * N ≤ 100000000000000000 * N := Int.mul_le_mul_of_nonneg_right a1.2 hN
  have hc2 : wf N G n (i - 1) * G ≤ 100000000000000000 * G := Int.mul_le_mul_of_nonneg_right a2.2 hG
  split <;> split <;> omega

/-- Greatest common divisors by Go's remainders. -/
theorem gcd_step (a b : Int) : Int.gcd b (a.tmod b) = Int.gcd a b := by
  unfold Int.gcd
  rw [Int.natAbs_tmod, Nat.gcd_comm, ← Nat.gcd_rec, Nat.gcd_comm]
theorem gcd_end (a : Int) : Int.gcd a 0 = a.natAbs := by simp
theorem tmod_lt {a b : Int} (h : b ≠ 0) : (a.tmod b).natAbs < b.natAbs := by
  rw [Int.natAbs_tmod]; exact Nat.mod_lt _ (Int.natAbs_pos.2 h)
theorem gcd_le {a b : Int} (h : 1 ≤ b) : (Int.gcd a b : Int) ≤ b ∧ 1 ≤ (Int.gcd a b : Int) := by
  have h1 : Int.gcd a b ∣ b.natAbs := Nat.gcd_dvd_right _ _
  have h2 := Nat.le_of_dvd (by omega) h1
  have h3 : 0 < Int.gcd a b := Nat.gcd_pos_of_pos_right _ (by omega)
  omega
end Go.Proofs.YtdgegebplebeoaaGreatDoor
