/-
  The mathematics of insertion: the library's sort is the insertion of one number behind the other; the order of shares is strict, and its next one is the first of the greatest that are left.
-/
import Derived.Test.YtebndgepmjonoaaDoorZM
import Derived.Test.YtebndgepmjonoaaDoorZS
import Derived.Test.YtebndgepmjonoaaDoorZN
import Derived.Deep.AppendLies
namespace Go.Proofs.YtebndgepmjonoaaDoor
open Go.RowKit Go.Maps

/-- Where x goes into the row A: behind the last one of the first k that x does not come ahead of. -/
def posR (lt : Int → Int → Bool) (A : List Int) (x : Int) : Nat → Nat
  | 0 => 0
  | k + 1 => if lt x (A.getD k 0) = true then posR lt A x k else k + 1
def insR (lt : Int → Int → Bool) (A : List Int) (x : Int) : List Int := A.take (posR lt A x A.length) ++ x :: A.drop (posR lt A x A.length)
theorem posR_le {lt : Int → Int → Bool} {A : List Int} {x : Int} : ∀ k, posR lt A x k ≤ k := by
  intro k
  induction k with
  | zero => exact Nat.le_refl _
  | succ k ih =>
    unfold posR
    split
    · omega
    · exact Nat.le_refl _
theorem posR_congr {lt : Int → Int → Bool} {A B : List Int} {x : Int} : ∀ k, (∀ i, i < k → A.getD i 0 = B.getD i 0) → posR lt A x k = posR lt B x k := by
  intro k
  induction k with
  | zero => intro _; rfl
  | succ k ih =>
    intro h
    unfold posR
    rw [h k (by omega), ih (fun i hi => h i (by omega))]
theorem getD_left {A B : List Int} {i : Nat} (h : i < A.length) : (A ++ B).getD i 0 = A.getD i 0 := by
  rw [List.getD_eq_getElem?_getD, List.getD_eq_getElem?_getD, List.getElem?_append_left h]
theorem getD_mid {A B : List Int} {x : Int} {i : Nat} (h : i = A.length) : (A ++ x :: B).getD i 0 = x := by
  subst h; rw [List.getD_eq_getElem?_getD, List.getElem?_append_right (Nat.le_refl _)]; simp
theorem swp_mid {A B : List Int} {x y : Int} : swp (A ++ y :: x :: B) A.length = A ++ x :: y :: B := by
  have e1 : (A ++ y :: x :: B).getD (A.length + 1) 0 = x := by
    have := getD_mid (A := A ++ [y]) (x := x) (B := B) (i := A.length + 1) (by simp)
    rwa [List.append_assoc] at this
  unfold swp
  rw [e1, getD_mid rfl]
  rw [List.set_append_right (h := by omega), List.set_append_right (h := by omega)]
  simp
theorem ins_mid (lt : Int → Int → Bool) (x : Int) : ∀ (k : Nat) (A B : List Int), A.length = k → ins lt k (A ++ x :: B) = insR lt A x ++ B := by
  intro k
  induction k with
  | zero => intro A B h; obtain rfl := List.length_eq_zero_iff.1 h; rfl
  | succ k ih =>
    intro A B h
    obtain ⟨A', y, rfl⟩ : ∃ A' y, A = A' ++ [y] := ⟨A.dropLast, A.getLast (by intro e; subst e; cases h), (List.dropLast_concat_getLast _).symm⟩
    have hk : A'.length = k := by simpa using h
    have e0 : A' ++ [y] ++ x :: B = A' ++ y :: x :: B := by simp
    have ey : (A' ++ [y]).getD k 0 = y := getD_mid (B := []) hk.symm
    have e1 : (A' ++ y :: x :: B).getD k 0 = y := getD_mid hk.symm
    have e2 : (A' ++ y :: x :: B).getD (k + 1) 0 = x := by
      have := getD_mid (A := A' ++ [y]) (x := x) (B := B) (i := k + 1) (by simp [hk])
      simpa using this
    have hl : (A' ++ [y]).length = k + 1 := h
    rw [e0]
    cases hlt : lt x y
    · show (if lt ((A' ++ y :: x :: B).getD (k + 1) 0) ((A' ++ y :: x :: B).getD k 0) = true then _ else _) = _
      rw [e1, e2, if_neg (by simp [hlt])]
      unfold insR
      rw [hl]
      unfold posR
      rw [ey, if_neg (by simp [hlt]), ← hl, List.take_length, List.drop_length]
      simp
    · show (if lt ((A' ++ y :: x :: B).getD (k + 1) 0) ((A' ++ y :: x :: B).getD k 0) = true then _ else _) = _
      rw [e1, e2, if_pos hlt]
      have es : swp (A' ++ y :: x :: B) k = A' ++ x :: (y :: B) := by rw [← hk]; exact swp_mid
      rw [es, ih A' (y :: B) hk]
      unfold insR
      rw [hl, hk]
      have ep : posR lt (A' ++ [y]) x (k + 1) = posR lt A' x k := by
        show (if lt x ((A' ++ [y]).getD k 0) = true then posR lt (A' ++ [y]) x k else k + 1) = _
        rw [ey, if_pos hlt]
        exact posR_congr k (fun i hi => getD_left (A := A') (by omega))
      have hp := posR_le (lt := lt) (A := A') (x := x) k
      rw [ep, List.take_append_of_le_length (by omega), List.drop_append_of_le_length (by omega)]
      simp
theorem insAll_mid (lt : Int → Int → Bool) : ∀ (B A : List Int), insAll lt B.length A.length (A ++ B) = B.foldl (insR lt) A := by
  intro B
  induction B with
  | nil => intro A; simp [insAll]
  | cons x r ih =>
    intro A
    show insAll lt r.length (A.length + 1) (ins lt A.length (A ++ x :: r)) = _
    rw [ins_mid lt x A.length A r rfl]
    have hl : (insR lt A x).length = A.length + 1 := by
      have hp := posR_le (lt := lt) (A := A) (x := x) A.length
      simp [insR]; omega
    rw [← hl, ih (insR lt A x)]
    rfl
theorem insAll_fold (lt : Int → Int → Bool) (L : List Int) : insAll lt (L.length - 1) 1 L = L.foldl (insR lt) [] := by
  cases L with
  | nil => rfl
  | cons x r =>
    have := insAll_mid lt r [x]
    have e : insR lt [] x = [x] := rfl
    rw [List.foldl_cons, e]
    exact this
/-- One number comes ahead of another one: a greater value, or the same and a lesser number. -/
def lxR (V : List Int) (a b : Int) : Prop := keyOf V b < keyOf V a ∨ (keyOf V a = keyOf V b ∧ a < b)
theorem posR_hi {lt : Int → Int → Bool} {A : List Int} {x : Int} : ∀ k i, posR lt A x k ≤ i → i < k → lt x (A.getD i 0) = true := by
  intro k
  induction k with
  | zero => intro i _ h; omega
  | succ k ih =>
    intro i h1 h2
    unfold posR at h1
    split at h1
    · rename_i h
      by_cases e : i = k
      · subst e; exact h
      · exact ih i h1 (by omega)
    · omega
theorem posR_lo {lt : Int → Int → Bool} {A : List Int} {x : Int} : ∀ k, 0 < posR lt A x k → lt x (A.getD (posR lt A x k - 1) 0) = false := by
  intro k
  induction k with
  | zero => intro h; exact absurd h (Nat.lt_irrefl 0)
  | succ k ih =>
    intro h
    unfold posR at h ⊢
    by_cases hq : lt x (A.getD k 0) = true
    · rw [if_pos hq] at h ⊢; exact ih h
    · rw [if_neg hq]
      simpa using hq
theorem insR_lx {V A : List Int} {x : Int} (h : A.Pairwise (lxR V)) (hx : ∀ y ∈ A, y < x) : (insR (gfLt V) A x).Pairwise (lxR V) := by
  have hp := posR_le (lt := gfLt V) (A := A) (x := x) A.length
  have hhi := posR_hi (lt := gfLt V) (A := A) (x := x) A.length
  have hlo := posR_lo (lt := gfLt V) (A := A) (x := x) A.length
  unfold insR
  generalize posR (gfLt V) A x A.length = p at hp hhi hlo
  have hpair := List.pairwise_iff_getElem.1 h
  have h1 : ∀ a ∈ A.take p, lxR V a x := by
    intro a ha
    obtain ⟨i, hi, rfl⟩ := List.getElem_of_mem ha
    rw [List.length_take] at hi
    rw [List.getElem_take]
    have hl := hlo (by omega)
    have hk : keyOf V x ≤ keyOf V (A.getD (p - 1) 0) := by
      rcases Int.lt_or_le (keyOf V (A.getD (p - 1) 0)) (keyOf V x) with h3 | h3
      · rw [gfLt_iff.2 h3] at hl; cases hl
      · exact h3
    rw [getI (by omega)] at hk
    have hxx := hx A[i] (List.getElem_mem _)
    by_cases e : i = p - 1
    · subst e
      rcases Int.lt_or_le (keyOf V x) (keyOf V A[p - 1]) with h4 | h4
      · exact .inl h4
      · exact .inr ⟨by omega, hxx⟩
    · have hq : lxR V A[i] A[p - 1] := hpair i (p - 1) (by omega) (by omega) (by omega)
      rcases hq with hq | hq
      · exact .inl (by omega)
      · rcases Int.lt_or_le (keyOf V x) (keyOf V A[i]) with h4 | h4
        · exact .inl h4
        · exact .inr ⟨by omega, hxx⟩
  have h2 : ∀ b ∈ A.drop p, lxR V x b := by
    intro b hb
    obtain ⟨i, hi, rfl⟩ := List.getElem_of_mem hb
    rw [List.length_drop] at hi
    rw [List.getElem_drop]
    have := gfLt_iff.1 (hhi (p + i) (by omega) (by omega))
    rw [getI (by omega)] at this
    exact .inl this
  rw [List.pairwise_append]
  refine ⟨h.sublist (List.take_sublist _ _), List.pairwise_cons.2 ⟨h2, h.sublist (List.drop_sublist _ _)⟩, fun a ha b hb => ?_⟩
  rcases List.mem_cons.1 hb with rfl | hb
  · exact h1 a ha
  · have hA := h
    rw [← List.take_append_drop p A, List.pairwise_append] at hA
    exact hA.2.2 a ha b hb
theorem insR_mem {lt : Int → Int → Bool} {A : List Int} {x y : Int} : y ∈ insR lt A x ↔ y = x ∨ y ∈ A := by
  unfold insR
  rw [List.mem_append, List.mem_cons]
  constructor
  · rintro (h | h | h)
    · exact .inr (List.mem_of_mem_take h)
    · exact .inl h
    · exact .inr (List.mem_of_mem_drop h)
  · rintro (h | h)
    · exact .inr (.inl h)
    · rw [← List.take_append_drop (posR lt A x A.length) A, List.mem_append] at h
      rcases h with h | h
      · exact .inl h
      · exact .inr (.inr h)
theorem foldR_lx {V : List Int} : ∀ (B A : List Int), A.Pairwise (lxR V) → B.Pairwise (· < ·) → (∀ a ∈ A, ∀ b ∈ B, a < b) → (B.foldl (insR (gfLt V)) A).Pairwise (lxR V) := by
  intro B
  induction B with
  | nil => intro A h _ _; exact h
  | cons x r ih =>
    intro A h hB hAB
    rw [List.pairwise_cons] at hB
    refine ih (insR (gfLt V) A x) (insR_lx h (fun y hy => hAB y hy x (by simp))) hB.2 (fun a ha b hb => ?_)
    rcases insR_mem.1 ha with rfl | ha
    · exact hB.1 b hb
    · exact hAB a ha b (by simp [hb])
theorem order_lx (V : List Int) : (orderOf V).Pairwise (lxR V) := by
  have := insAll_fold (gfLt V) (tab V.length fun i => (i : Int))
  rw [tab_len] at this
  unfold orderOf
  rw [this]
  refine foldR_lx _ _ List.Pairwise.nil ?_ (fun a ha => by cases ha)
  unfold tab
  rw [List.pairwise_map]
  exact (List.pairwise_lt_range).imp (fun h => by omega)
/-- The first one of the greatest values among the numbers that are left over. -/
def bestB (V : List Int) (M : List Bool) : Nat → Option Nat
  | 0 => none
  | n + 1 => match bestB V M n with
    | none => if M.getD n false = true then none else some n
    | some b => if M.getD n false = false ∧ V.getD b 0 < V.getD n 0 then some n else some b
theorem bestB_spec {V : List Int} {M : List Bool} : ∀ n, (bestB V M n = none → ∀ i, i < n → M.getD i false = true) ∧ (∀ b, bestB V M n = some b → b < n ∧ M.getD b false = false ∧ (∀ i, i < n → M.getD i false = false → V.getD i 0 ≤ V.getD b 0) ∧ ∀ i, i < b → M.getD i false = false → V.getD i 0 < V.getD b 0) := by
  intro n
  induction n with
  | zero => exact ⟨fun _ i h => (by omega), fun b h => (by cases h)⟩
  | succ n ih =>
    obtain ⟨ih1, ih2⟩ := ih
    unfold bestB
    cases hb : bestB V M n with
    | none =>
      have h1 := ih1 hb
      cases hm : M.getD n false
      · rw [if_neg (by simp)]
        refine ⟨fun h => (by cases h), fun b h => ?_⟩
        cases h
        refine ⟨Nat.lt_succ_self _, hm, fun i hi hi2 => ?_, fun i hi hi2 => by rw [h1 i hi] at hi2; cases hi2⟩
        by_cases e : i = n
        · subst e; exact Int.le_refl _
        · rw [h1 i (by omega)] at hi2; cases hi2
      · rw [if_pos rfl]
        refine ⟨fun _ i hi => ?_, fun b h => (by cases h)⟩
        by_cases e : i = n
        · subst e; exact hm
        · exact h1 i (by omega)
    | some b =>
      obtain ⟨g1, g2, g3, g4⟩ := ih2 b hb
      show (_ → _) ∧ _
      by_cases hc : M.getD n false = false ∧ V.getD b 0 < V.getD n 0
      · simp only []
        rw [if_pos hc]
        refine ⟨fun h => (by cases h), fun b' h => ?_⟩
        cases h
        refine ⟨Nat.lt_succ_self _, hc.1, fun i hi hi2 => ?_, fun i hi hi2 => ?_⟩
        · by_cases e : i = n
          · subst e; exact Int.le_refl _
          · have := g3 i (by omega) hi2; omega
        · have := g3 i hi hi2; omega
      · simp only []
        rw [if_neg hc]
        refine ⟨fun h => (by cases h), fun b' h => ?_⟩
        cases h
        refine ⟨by omega, g2, fun i hi hi2 => ?_, g4⟩
        by_cases e : i = n
        · subst e
          rcases Int.lt_or_le (V.getD b 0) (V.getD i 0) with h5 | h5
          · exact absurd ⟨hi2, h5⟩ hc
          · exact h5
        · exact g3 i (by omega) hi2
/-- Behind m rounds just the first m of the order are chosen: the next one is the m-th. -/
theorem bestB_order {V : List Int} {M : List Bool} {m : Nat} (hpos : 0 < V.length) (hm : m < V.length) (hM : ∀ i, i < V.length → (M.getD i false = true ↔ (i : Int) ∈ (orderOf V).take m)) :
    ∃ b, bestB V M V.length = some b ∧ b < V.length ∧ M.getD b false = false ∧ (orderOf V).getD m 0 = (b : Int) := by
  have ho := order_ok hpos
  obtain ⟨x, hx, hxe⟩ := ho.1 m (by have := ho.2; omega)
  have hl : (orderOf V).length = V.length := ho.2
  have hnd := order_nodup hpos
  have hlx := List.pairwise_iff_getElem.1 (order_lx V)
  have hxf : M.getD x false = false := by
    cases e : M.getD x false
    · rfl
    · exfalso
      have := (hM x hx).1 e
      obtain ⟨p, hp1, hp2, hpe⟩ := mem_take_at this
      rw [← hxe, getI hp2, getI (by omega)] at hpe
      have := (List.nodup_iff_pairwise_ne.1 hnd)
      have := List.pairwise_iff_getElem.1 this p m hp2 (by omega) hp1
      exact this hpe
  obtain ⟨sp1, sp2⟩ := bestB_spec (V := V) (M := M) V.length
  cases hb : bestB V M V.length with
  | none => have := sp1 hb x hx; rw [hxf] at this; cases this
  | some b =>
    obtain ⟨g1, g2, g3, g4⟩ := sp2 b hb
    refine ⟨b, rfl, g1, g2, ?_⟩
    rw [hxe]
    by_cases e : b = x
    · rw [e]
    · exfalso
      have hbm := order_mem hpos g1
      obtain ⟨q, hq, hqe⟩ := List.getElem_of_mem hbm
      have hqm : m ≤ q := by
        rcases Nat.lt_or_ge q m with h | h
        · exfalso
          have h1 : (b : Int) ∈ (orderOf V).take m := by rw [← hqe, ← getI hq]; exact at_mem_take h hq
          have := (hM b g1).2 h1
          rw [g2] at this; cases this
        · exact h
      have hqne : q ≠ m := by
        intro e2; subst e2
        rw [getI hq, hqe] at hxe
        omega
      have h3 := hlx m q (by omega) hq (by omega)
      rw [hqe, ← getI (l := orderOf V) (k := m) (by omega), hxe] at h3
      have k1 : keyOf V (x : Int) = V.getD x 0 := by unfold keyOf; rw [Int.toNat_natCast]
      have k2 : keyOf V (b : Int) = V.getD b 0 := by unfold keyOf; rw [Int.toNat_natCast]
      unfold lxR at h3
      rw [k1, k2] at h3
      have := g3 x hx hxf
      rcases h3 with h3 | ⟨h3, h4⟩
      · omega
      · have := g4 x (by omega) hxf; omega
/-- The widths of sorts; the spaces among the first k sorts, in their order, and the narrower ones first. -/
def widsOf (l : List TS) : List Int := l.map (·.width)
def spLt (l : List TS) (x y : Int) : Bool := decide (cmpI ((widsOf l).getD x.toNat 0) ((widsOf l).getD y.toNat 0) < 0)
def spTo (l : List TS) : Nat → List Int
  | 0 => []
  | k + 1 => if (l.getD k noTS).kind = 3 then spTo l k ++ [(k : Int)] else spTo l k
def rspTo (l : List TS) : Nat → List Int
  | 0 => []
  | k + 1 => if (l.getD k noTS).kind = 3 then insR (spLt l) (rspTo l k) (k : Int) else rspTo l k
def spacesOf (l : List TS) : List Int := rspTo l l.length
theorem rspTo_fold (l : List TS) : ∀ k, rspTo l k = (spTo l k).foldl (insR (spLt l)) [] := by
  intro k
  induction k with
  | zero => rfl
  | succ k ih =>
    unfold rspTo spTo
    split
    · rw [List.foldl_append, ih]; rfl
    · exact ih
theorem spaces_sorted (l : List TS) : insAll (spLt l) ((spTo l l.length).length - 1) 1 (spTo l l.length) = spacesOf l := by
  rw [insAll_fold]; exact (rspTo_fold l _).symm
theorem insR_len (lt : Int → Int → Bool) (A : List Int) (x : Int) : (insR lt A x).length = A.length + 1 := by
  have hp := posR_le (lt := lt) (A := A) (x := x) A.length
  simp [insR]; omega
theorem spTo_ok (l : List TS) : ∀ k, (spTo l k).length ≤ k ∧ OkIdx (spTo l k) k := by
  intro k
  induction k with
  | zero => exact ⟨Nat.le_refl _, fun j h => absurd h (by simp [spTo])⟩
  | succ k ih =>
    obtain ⟨h1, h2⟩ := ih
    unfold spTo
    split
    · refine ⟨by simp; omega, fun j hj => ?_⟩
      rw [List.length_append, List.length_singleton] at hj
      by_cases e : j = (spTo l k).length
      · exact ⟨k, by omega, getD_mid (B := []) e⟩
      · obtain ⟨x, hx, hxe⟩ := h2 j (by omega)
        exact ⟨x, by omega, by rw [getD_left (by omega)]; exact hxe⟩
    · exact ⟨by omega, fun j hj => by obtain ⟨x, hx, hxe⟩ := h2 j hj; exact ⟨x, by omega, hxe⟩⟩
theorem rspTo_ok (l : List TS) : ∀ k, (rspTo l k).length ≤ k ∧ ∀ x ∈ rspTo l k, ∃ i : Nat, i < k ∧ x = (i : Int) := by
  intro k
  induction k with
  | zero => exact ⟨Nat.le_refl _, fun x h => absurd h (by simp [rspTo])⟩
  | succ k ih =>
    obtain ⟨h1, h2⟩ := ih
    unfold rspTo
    split
    · refine ⟨by rw [insR_len]; omega, fun x hx => ?_⟩
      rcases insR_mem.1 hx with rfl | hx
      · exact ⟨k, by omega, rfl⟩
      · obtain ⟨i, hi, e⟩ := h2 x hx; exact ⟨i, by omega, e⟩
    · exact ⟨by omega, fun x hx => by obtain ⟨i, hi, e⟩ := h2 x hx; exact ⟨i, by omega, e⟩⟩
theorem wids_at {l : List TS} {k : Nat} (h : k < l.length) : (widsOf l).getD k 0 = (l.getD k noTS).width := by
  unfold widsOf
  rw [getI (by simpa using h), List.getElem_map, getD_eq h]
theorem insR_perm (lt : Int → Int → Bool) (A : List Int) (x : Int) : (insR lt A x).Perm (x :: A) := by
  unfold insR
  refine List.perm_middle.trans ?_
  rw [List.take_append_drop]
end Go.Proofs.YtebndgepmjonoaaDoor
/-
  The reference's bill: behind m rounds the first m of the order have got one more.
-/
namespace Go.Proofs.YtebndgepmjonoaaDoor
open Go.RowKit Go.Maps

def partB (l : List Int) (s t : Int) (m : Nat) : List Int := ((orderOf (tab l.length (remF l s t))).take m).foldl bump (tab l.length (quoF l s t))
section
variable {l : List Int} {n : Nat} {t : Int}
theorem part_len (m : Nat) : (partB l (sumOf l) t m).length = l.length := by unfold partB; rw [bumps_len, tab_len]
theorem part_ok (hl : 0 < l.length) : OkIdx (orderOf (tab l.length (remF l (sumOf l) t))) l.length ∧ (orderOf (tab l.length (remF l (sumOf l) t))).length = l.length := by
  have ho := order_ok (V := tab l.length (remF l (sumOf l) t)) (by rw [tab_len]; exact hl)
  rwa [tab_len] at ho
theorem part_sum (hl : 0 < l.length) {m : Nat} (hm : m ≤ l.length) : sumOf (partB l (sumOf l) t m) = sumTo (quoF l (sumOf l) t) l.length + m := by
  have ho := part_ok (t := t) hl
  unfold partB
  rw [sumOf_bumps _ _ (by rw [tab_len]; exact ho.1.take_ _), sumOf_tab, List.length_take, ho.2]
  omega
theorem part_next (hl : 0 < l.length) {m b : Nat} (hm : m < l.length) (hb : (orderOf (tab l.length (remF l (sumOf l) t))).getD m 0 = (b : Int)) : partB l (sumOf l) t (m + 1) = (partB l (sumOf l) t m).set b ((partB l (sumOf l) t m).getD b 0 + 1) := by
  have ho := part_ok (t := t) hl
  unfold partB
  rw [List.take_succ_eq_append_getElem (by omega), List.foldl_append, ← getI (by omega), hb]
  rfl
theorem part_at (hl : 0 < l.length) (m : Nat) {j : Nat} (hj : j < l.length) : (partB l (sumOf l) t m).getD j 0 = quoF l (sumOf l) t j + ((((orderOf (tab l.length (remF l (sumOf l) t))).take m).count (j : Int) : Nat) : Int) := by
  have ho := part_ok (t := t) hl
  unfold partB
  rw [bumps_at _ _ (by rw [tab_len]; exact ho.1.take_ _) j (by rw [tab_len]; exact hj), tab_at hj]
theorem part_bd (h : OkC n l) (hn : 0 < n) (h0 : sumOf l ≠ 0) (ht : 0 ≤ t ∧ t ≤ 1000000) {m : Nat} (hm : (m : Int) ≤ missingOf l (sumOf l) t) : OkC n (partB l (sumOf l) t m) := by
  have hl : 0 < l.length := by have := h.1; omega
  refine ⟨by rw [part_len]; exact h.1, fun k hk => ?_⟩
  have hkl : k < l.length := by have := h.1; omega
  have hs := sumOf_pos h h0
  have hq : 0 ≤ quoF l (sumOf l) t k := by unfold quoF; exact Int.ediv_nonneg (Int.mul_nonneg ht.1 (h.2 k hk).1) (by omega)
  have hb := bill_le (total := t) h hn h0 ht k hkl
  have e : billOf l (sumOf l) t = partB l (sumOf l) t (missingOf l (sumOf l) t).toNat := rfl
  rw [e, part_at hl _ hkl] at hb
  rw [part_at hl _ hkl]
  have hc : ((orderOf (tab l.length (remF l (sumOf l) t))).take m).count (k : Int) ≤ ((orderOf (tab l.length (remF l (sumOf l) t))).take (missingOf l (sumOf l) t).toNat).count (k : Int) :=
    (List.take_sublist_take_left (by omega)).count_le _
  omega
theorem part_all : partB l (sumOf l) t (missingOf l (sumOf l) t).toNat = billOf l (sumOf l) t := rfl
/-- The chosen ones are the first m of the order. -/
def Chosen (l : List Int) (t : Int) (m : Nat) (M : List Bool) : Prop := M.length = l.length ∧ ∀ i, i < l.length → (M.getD i false = true ↔ (i : Int) ∈ (orderOf (tab l.length (remF l (sumOf l) t))).take m)
theorem chosen_start : Chosen l t 0 (List.replicate l.length false) := by
  refine ⟨by simp, fun i hi => ?_⟩
  simp [List.getD_eq_getElem?_getD, hi]
theorem chosen_next (hl : 0 < l.length) {m : Nat} (hm : m < l.length) {M : List Bool} (hM : Chosen l t m M) :
    ∃ b, bestB (tab l.length (remF l (sumOf l) t)) M l.length = some b ∧ b < l.length ∧ M.getD b false = false ∧ (orderOf (tab l.length (remF l (sumOf l) t))).getD m 0 = (b : Int) ∧ Chosen l t (m + 1) (M.set b true) := by
  have ho := part_ok (t := t) hl
  have h := bestB_order (V := tab l.length (remF l (sumOf l) t)) (M := M) (m := m) (by rw [tab_len]; exact hl) (by rw [tab_len]; exact hm) (by rw [tab_len]; exact hM.2)
  rw [tab_len] at h
  obtain ⟨b, h1, h2, h3, h4⟩ := h
  refine ⟨b, h1, h2, h3, h4, by simpa using hM.1, fun i hi => ?_⟩
  rw [List.take_succ_eq_append_getElem (by omega), ← getI (by omega), h4, List.mem_append, List.mem_singleton, ← hM.2 i hi]
  rw [List.getD_eq_getElem?_getD, List.getElem?_set]
  by_cases e : b = i
  · subst e
    rw [if_pos rfl, if_pos (by rw [hM.1]; exact hi)]
    simp
  · rw [if_neg e, ← List.getD_eq_getElem?_getD]
    constructor
    · exact .inl
    · rintro (h | h)
      · exact h
      · exact absurd (by omega) e
end
end Go.Proofs.YtebndgepmjonoaaDoor

/-
  The library's insertion sort over numbers of spaces, the narrower ones first.
-/
namespace Go.Proofs.YtebndgepmjonoaaDoor
open Go.RowKit Go.Maps

/-- Block g is a row that begins with the numbers L, with T behind. -/
def RowT (T : List Value) (w : World) (g : Nat) (L : List Int) : Prop := w.heap[g]? = some (.cells (vals L ++ T).toArray 3 (0, 0))
theorem RowT.cell {T : List Value} {w : World} {g : Nat} {L : List Int} (h : RowT T w g L) {j : Nat} (hj : j < L.length) : w.cell? ⟨g, j, none⟩ = some (.int .i64 (L.getD j 0)) := by
  rw [cell_of_row w g j _ _ (0, 0) h]
  rw [List.getElem?_toArray, List.getElem?_append_left (by simpa [vals] using hj)]; exact vals_at hj
theorem RowT.frozen {T : List Value} {w : World} {g : Nat} {L : List Int} (h : RowT T w g L) (j : Nat) : w.frozen? ⟨g, j, none⟩ = false := by
  unfold RowT at h; simp [World.frozen?, h]
theorem RowT.drewN {T : List Value} {w : World} {g : Nat} {L : List Int} (h : RowT T w g L) (n : Nat) : RowT T (w.drewN n) g L := h
theorem RowT.set_ {T : List Value} {w : World} {g : Nat} {L : List Int} (h : RowT T w g L) {j : Nat} (hj : j < L.length) (v : Int) : RowT T (w.setCell ⟨g, j, none⟩ (.int .i64 v)) g (L.set j v) := by
  unfold RowT at h ⊢
  have e : (vals (L.set j v) ++ T).toArray = (vals L ++ T).toArray.setIfInBounds j (.int .i64 v) := by
    unfold vals; rw [List.map_set]
    simp [List.set_append_left, hj]
  rw [e]
  simp [World.setCell, Array.getElem?_modify, h]

set_option maxRecDepth 100000 in
set_option maxHeartbeats 1000000 in
theorem spCmp_any (B : Nat) (a : Option Addr) (l : List TS) (c : Nat) (x y : Nat) (w : World) (hb : w.cell? ⟨B, 2, none⟩ = some (.slice a l.length c)) (hF : SortsAt w a l) (hx : x < l.length) (hy : y < l.length) :
    Calls Tryd.prog 35 #[.int .i64 x, .int .i64 y, .pointer (some ⟨B, 0, none⟩)] w fun e w' => e = .returned (.int .i64 (cmpI ((widsOf l).getD x 0) ((widsOf l).getD y 0))) ∧ ∃ n, w' = w.drewN n := by
  obtain ⟨ad, rfl, hadx, _, _, _, sx⟩ := hF.at_ hx
  obtain ⟨_, e2, hady, _, _, _, sy⟩ := hF.at_ hy
  cases e2
  rw [wids_at hx, wids_at hy]
  have hx' : (x : Int) < (l.length : Int) := by omega
  have hy' : (y : Int) < (l.length : Int) := by omega
  generalize (l.getD x noTS).width = vx at sx
  generalize (l.getD y noTS).width = vy at sy
  go_enter Tryd.func35, Tryd.ntmps35
  go_wp2_with fail
  go_quiet ((go_at_call 36; exact Calls.quiet_of_same (compare_any _ _ _)))
  go_wp2
  go_ret
  exact ⟨rfl, _, rfl⟩

/-- What the sort finds all along: all but the row g is as it was. -/
structure SpEnv (w : World) (g : Nat) (B : Nat) (a : Option Addr) (l : List TS) (c : Nat) (wr : World) : Prop where
  grown : w.grownBy wr (some g)
  box : wr.cell? ⟨B, 2, none⟩ = some (.slice a l.length c)
  at_ : SortsAt wr a l
theorem SpEnv.drewN {w : World} {g : Nat} {B : Nat} {a : Option Addr} {l : List TS} {c : Nat} {wr : World} (h : SpEnv w g B a l c wr) (n : Nat) : SpEnv w g B a l c (wr.drewN n) := ⟨grownBy_drewN h.grown n, h.box, h.at_⟩
theorem SortsAt.set_ {w : World} {a : Option Addr} {l : List TS} (h : SortsAt w a l) {g : Nat} (hg : ∀ ad, a = some ad → ad.block ≠ g) (j : Nat) (u : Value) : SortsAt (w.setCell ⟨g, j, none⟩ u) a l := by
  intro k hk
  obtain ⟨ad, e, hlt, h0, h1, h2, h3⟩ := h k hk
  have hne := hg ad e
  refine ⟨ad, e, by simpa [World.setCell] using hlt, ?_, ?_, ?_, ?_⟩
  all_goals (rw [World.cell?_setCell_other _ _ _ _ (fun e => hne (by have e2 := congrArg Addr.block e; simp only [add_block] at e2; exact e2.symm))]; assumption)
theorem SpEnv.set_ {w : World} {g : Nat} {B : Nat} {a : Option Addr} {l : List TS} {c : Nat} {wr : World} (h : SpEnv w g B a l c wr) (hb : B ≠ g) (hr : ∀ ad, a = some ad → ad.block ≠ g) (j : Nat) (u : Value) : SpEnv w g B a l c (wr.setCell ⟨g, j, none⟩ u) := by
  refine ⟨grownBy_set h.grown j u, ?_, h.at_.set_ hr j u⟩
  rw [World.cell?_setCell_other _ _ _ _ (fun e => hb (congrArg Addr.block e).symm)]; exact h.box

set_option maxRecDepth 100000 in
set_option maxHeartbeats 4000000 in
theorem spInsSort_any (g : Nat) (L : List Int) (n c : Nat) (B : Nat) (a : Option Addr) (l : List TS) (d : Nat) (T : List Value) (w : World) (hn : n = L.length) (hsm : n ≤ 1000) (hrow : RowT T w g L) (hE : SpEnv w g B a l d w) (hbg : B ≠ g) (hrg : ∀ ad, a = some ad → ad.block ≠ g) (hL : OkIdx L l.length) :
    Calls Tryd.prog 73 #[.slice (some ⟨g, 0, none⟩) n c, .int .i64 0, .int .i64 n, .func (.func 35) #[] #[.pointer (some ⟨B, 0, none⟩)]] w fun e w' => e = .returned (.tuple #[]) ∧ RowT T w' g (insAll (spLt l) (n - 1) 1 L) ∧ SpEnv w g B a l d w' := by
  have hlen := Lib.hid hn.symm
  clear hn
  go_enter Tryd.func73, Tryd.ntmps73
  go_wp2_with fail
  go_loopw [8] (fun v8 wr => ∃ (i : Nat) (Li : List Int), v8 = .int .i64 i ∧ 1 ≤ i ∧ i ≤ n + 1 ∧ RowT T wr g Li ∧ Hid (Li.length = n) ∧ Hid (OkIdx Li l.length) ∧ SpEnv w g B a l d wr ∧ Hid (insAll (spLt l) (n - 1) 1 L = insAll (spLt l) (n - i) i Li)) (fun v8 _ => n + 1 - (intOf v8).toNat)
  case atStart => exact ⟨1, L, rfl, Nat.le_refl _, by omega, hrow, hlen, Lib.hid hL, hE, Lib.hid rfl⟩
  case round =>
    obtain ⟨i, Li, rfl, hi1, hin, hrowi, hleni, hoki, hEi, hres⟩ := hrel
    clear hrow hE hL
    by_cases hlt : i < n
    · have hgo := Lib.hid (insAll_go (lt := spLt l) (L := Li) hlt)
      go_wp2_with fail
      obtain ⟨wo, rfl⟩ : ∃ wo : World, wo = wr := ⟨_, rfl⟩
      go_loopw [9] (fun v9 wr => ∃ (j : Nat) (Lj : List Int), v9 = .int .i64 j ∧ j ≤ i ∧ RowT T wr g Lj ∧ Hid (Lj.length = n) ∧ Hid (OkIdx Lj l.length) ∧ SpEnv w g B a l d wr ∧ Hid (ins (spLt l) i Li = ins (spLt l) j Lj)) (fun v9 _ => (intOf v9).toNat)
      case atStart => exact ⟨i, Li, rfl, Nat.le_refl _, hrowi, hleni, hoki, hEi, Lib.hid rfl⟩
      case round =>
        obtain ⟨j, Lj, rfl, hji, hrowj, hlenj, hokj, hEj, hresj⟩ := hrel
        clear hrowi hleni hoki hEi
        rcases j with _ | j
        · rw [show ((0 : Nat) : Int) = 0 from rfl]
          have hd0 : decide ((0 : Int) < (0 : Int)) = false := by decide
          go_wp2_with fail
          go_quiet (fail)
          go_wp2
          go_roundw
          case rel => exact ⟨i + 1, Lj, by go_num, by omega, by omega, hrowj.drewN _, hlenj, hokj, hEj.drewN _, Lib.hid (by rw [hres.out, hgo.out, hresj.out]; rfl)⟩
          case measure => simp [intOf]; omega
        · rw [show ((j + 1 : Nat) : Int) = (j : Int) + 1 from by omega]
          have hj1 : j + 1 < Lj.length := by have := hlenj.out; omega
          obtain ⟨x, hx, ex⟩ := hokj.out (j + 1) hj1
          obtain ⟨y, hy, ey⟩ := hokj.out j (by omega)
          have hc1 := hrowj.cell hj1
          have hc2 := hrowj.cell (j := j) (by omega)
          have hok' := Lib.hid (hokj.out.swp_ hj1)
          have hins := Lib.hid (@ins_go (spLt l) j Lj)
          have hinn := Lib.hid (@ins_stop (spLt l) j Lj)
          rw [ex, ey] at hins hinn
          rw [ex] at hc1
          rw [ey] at hc2
          have hf1 := hrowj.frozen (j + 1)
          have hf2 := hrowj.frozen j
          have hcc := fun k => spCmp_any B a l d x y (wr.drewN k) hEj.box hEj.at_ hx hy
          obtain ⟨q, eq⟩ : ∃ q, q = cmpI ((widsOf l).getD x 0) ((widsOf l).getD y 0) := ⟨_, rfl⟩
          rw [← eq] at hcc
          have HCC := Lib.hid hcc
          have EX := Lib.hid ex; have EY := Lib.hid ey; clear ex ey hcc
          have hlt' : spLt l (x : Int) (y : Int) = decide (q < 0) := by rw [eq]; rfl
          have hjn : (j : Int) + 1 < (n : Int) := by omega
          have hjn2 : (j : Int) < (n : Int) := by omega
          have hd1 : (0 : Int) < (j : Int) + 1 := by omega
          by_cases hq : q < 0
          · have hs := Lib.hid (hins.out (by rw [hlt']; exact decide_eq_true hq))
            clear hlt' eq
            go_wp2_with fail
            go_quiet ((go_at_call 35; exact Calls.quiet_of (HCC.out _)))
            go_wp2
            go_region
            go_wp2
            go_roundw
            case rel =>
              refine ⟨j, swp Lj j, by go_num, by omega, ?_, Lib.hid (by rw [swp_len]; exact hlenj.out), hok', ((hEj.drewN _).set_ hbg hrg _ _).set_ hbg hrg _ _, Lib.hid (hresj.out.trans hs.out)⟩
              unfold swp
              rw [EX.out, EY.out]
              exact ((hrowj.drewN _).set_ hj1 (y : Int)).set_ (by rw [List.length_set]; omega) (x : Int)
            case measure => simp [intOf]
          · have hs := Lib.hid (hinn.out (by rw [hlt']; exact decide_eq_false hq))
            have hq' : 0 ≤ q := by omega
            clear hlt' eq hq
            go_wp2_with fail
            go_quiet ((go_at_call 35; exact Calls.quiet_of (HCC.out _)))
            go_wp2
            go_roundw
            case rel => exact ⟨i + 1, Lj, by go_num, by omega, by omega, hrowj.drewN _, hlenj, hokj, hEj.drewN _, Lib.hid (by rw [hres.out, hgo.out, hresj.out, hs.out])⟩
            case measure => simp [intOf]; omega
    · have hend := Lib.hid (insAll_end (lt := spLt l) (L := Li) hlt)
      go_wp2
      go_end0
      exact ⟨rfl, by rw [hres.out, hend.out]; exact hrowi, hEi⟩

set_option maxRecDepth 100000 in
set_option maxHeartbeats 1000000 in
theorem spStableCmp_any (g : Nat) (L : List Int) (n c : Nat) (B : Nat) (a : Option Addr) (l : List TS) (d : Nat) (T : List Value) (w : World) (hn : n = L.length) (hsm : n < 20) (hrow : RowT T w g L) (hE : SpEnv w g B a l d w) (hbg : B ≠ g) (hrg : ∀ ad, a = some ad → ad.block ≠ g) (hL : OkIdx L l.length) :
    Calls Tryd.prog 59 #[.slice (some ⟨g, 0, none⟩) n c, .int .i64 n, .func (.func 35) #[] #[.pointer (some ⟨B, 0, none⟩)]] w fun e w' => e = .returned (.tuple #[]) ∧ RowT T w' g (insAll (spLt l) (n - 1) 1 L) ∧ SpEnv w g B a l d w' := by
  have hc := spInsSort_any g L n c B a l d T w hn (by omega) hrow hE hbg hrg hL
  have HC := Lib.hid hc
  have hn' : (n : Int) < 20 := by omega
  clear hc hn hrow hE hL
  go_enter Tryd.func59, Tryd.ntmps59
  go_wp2_with fail
  refine wp_loop_rounds 1 ?_
  rw [rounds_succ]
  go_wp2_with fail
  refine HC.out.mono ?_
  rintro e w1 ⟨rfl, hr1, hE1⟩
  go_wp2_with fail
  refine wp_loop_rounds 1 ?_
  rw [rounds_succ]
  go_wp2_with fail
  go_end0
  exact ⟨rfl, hr1, hE1⟩
set_option maxRecDepth 100000 in
set_option maxHeartbeats 1000000 in
theorem spSortStable_any (g : Nat) (L : List Int) (n c : Nat) (B : Nat) (a : Option Addr) (l : List TS) (d : Nat) (T : List Value) (w : World) (hn : n = L.length) (hsm : n < 20) (hrow : RowT T w g L) (hE : SpEnv w g B a l d w) (hbg : B ≠ g) (hrg : ∀ ad, a = some ad → ad.block ≠ g) (hL : OkIdx L l.length) :
    Calls Tryd.prog 34 #[.slice (some ⟨g, 0, none⟩) n c, .func (.func 35) #[] #[.pointer (some ⟨B, 0, none⟩)]] w fun e w' => e = .returned (.tuple #[]) ∧ RowT T w' g (insAll (spLt l) (n - 1) 1 L) ∧ SpEnv w g B a l d w' := by
  have HC := Lib.hid (spStableCmp_any g L n c B a l d T w hn hsm hrow hE hbg hrg hL)
  clear hn hrow hE hL
  go_enter Tryd.func34, Tryd.ntmps34
  go_wp2_with fail
  refine HC.out.mono ?_
  rintro e w1 ⟨rfl, hr1, hE1⟩
  go_wp2
  go_end0
  exact ⟨rfl, hr1, hE1⟩
end Go.Proofs.YtebndgepmjonoaaDoor

/-
  Copies of several lists of numbers.
-/
namespace Go.Proofs.YtebndgepmjonoaaDoor
open Go.RowKit Go.Maps

/-- Slices of numbers, each in a row of its own. -/
def RowsOk (w : World) (T : List IS) : Prop := ∀ x ∈ T, ∃ g, x.a = some ⟨g, 0, none⟩ ∧ Row3 w g x.l ∧ x.l.length ≤ maxLen
theorem RowsOk.below {w w' : World} {T : List IS} (h : RowsOk w T) (hb : Below w.heap.size w w') : RowsOk w' T := fun x hx => by
  obtain ⟨g, e, h1, h2⟩ := h x hx; exact ⟨g, e, h1.below hb, h2⟩
def CopiesPost (w : World) (ls : List IS) (e : Ending) (w' : World) : Prop :=
  Below w.heap.size w w' ∧ ∃ A cap T, e = .returned (.slice A ls.length cap) ∧ T.map (·.l) = ls.map (·.l) ∧ ListsAt w' A T
theorem lists_of_own {w : World} {base cap n : Nat} {A : Option Addr} {T : List IS} (hn : n = T.length) (h : w.ownsRow base 31 1 (.slice A n cap) n (T.map isVal)) (hr : RowsOk w T) : ListsAt w A T := by
  subst hn
  intro k hk
  rcases h.2 with ⟨e1, e2⟩ | ⟨g, cap', cur, e1, hb, hh, h1, h2, h3, h4⟩
  · omega
  · injection e1 with ea _ ec
    subst ea
    have e : T.getD k noIS = T[k] := by rw [List.getD_eq_getElem?_getD, List.getElem?_eq_getElem hk]; rfl
    obtain ⟨g', ge, gr, gl⟩ := hr T[k] (List.getElem_mem hk)
    have hlt : g < w.heap.size := by
      rcases Nat.lt_or_ge g w.heap.size with hlt | hge
      · exact hlt
      · rw [Array.getElem?_eq_none hge] at hh; cases hh
    refine ⟨_, rfl, hlt, ?_, ?_⟩
    · rw [add0, cell_of_row w g k cur _ (0, 0) hh, e]
      have hv : (T.map isVal)[k]? = some (isVal T[k]) := by rw [List.getElem?_map, List.getElem?_eq_getElem hk]; rfl
      rw [← h4, List.getElem?_take, Nat.mul_one, if_pos hk, Array.getElem?_toList] at hv
      exact hv
    · rw [e]
      exact ⟨by rw [ge]; exact gr.ints, gl⟩
set_option maxRecDepth 100000 in
set_option maxHeartbeats 4000000 in
theorem copyLists_any (A : Option Addr) (ls : List IS) (C : Nat) (w : World) (hL : ListsAt w A ls) (hls : ls.length ≤ 1000) (hsz : ∀ x ∈ ls, x.l.length ≤ 1000000) (hd : ∀ y ∈ ls, y.a = none → y.c = 0) :
    Calls Tryd.prog 17 #[.slice A ls.length C] w (CopiesPost w ls) := by
  obtain ⟨i0, hi0, hz0, hz1, hz2⟩ := info_parts info31
  have HSZ := Lib.hid hsz; have HD := Lib.hid hd
  clear hsz hd
  go_enter Tryd.func17, Tryd.ntmps17
  go_wp2_with fail
  go_loopw [3, 4] (fun v i wr => ∃ (k : Nat) (T : List IS), k ≤ ls.length ∧ i = .int .i64 k ∧ Hid (T.length = k) ∧ Hid (T.map (·.l) = (ls.take k).map (·.l)) ∧ wr.ownsRow w.heap.size 31 1 v k (T.map isVal) ∧ RowsOk wr T ∧ Below w.heap.size w wr) (fun _ i _ => ls.length - (intOf i).toNat)
  case atStart => exact ⟨0, [], Nat.zero_le _, rfl, Lib.hid rfl, Lib.hid (by simp), World.ownsRow_nil _ _ _ _, fun x hx => (by cases hx), Below.refl _ _⟩
  case round =>
    obtain ⟨k, T, hk, rfl, hT, hTm, hown, hrows, hB⟩ := hrel
    by_cases hlt : k < ls.length
    · obtain ⟨ad, rfl, had, hcell, hi, hil⟩ := (hL.below hB).at_ hlt
      have ex : ls.getD k noIS = ls[k] := by rw [List.getD_eq_getElem?_getD, List.getElem?_eq_getElem hlt]; rfl
      have hxl : (ls.getD k noIS).l.length ≤ 1000000 := by rw [ex]; exact HSZ.out _ (List.getElem_mem hlt)
      have hxd : (ls.getD k noIS).a = none → (ls.getD k noIS).c = 0 := by rw [ex]; exact HD.out _ (List.getElem_mem hlt)
      have HTK := Lib.hid (show (ls.take (k + 1)).map (·.l) = (ls.take k).map (·.l) ++ [(ls.getD k noIS).l] by rw [List.take_succ_eq_append_getElem hlt, List.map_append, ex]; rfl)
      generalize ls.getD k noIS = x at hcell hi hil hxl hxd HTK
      have hkl : (k : Int) < (ls.length : Int) := by omega
      have hadw : (ad.add k).block < wr.heap.size := by rw [add_block]; exact had
      go_wp2_with fail
      refine (copyInts_any x.a x.l x.c _ hi hxl hxd).mono ?_
      rintro e w2 ⟨g, cap, rfl, hr2, hb2⟩
      have r2 := Row3.of_own hr2
      have rows2 := hrows.below hb2
      have hown2 := own_below hown hb2
      have hB2 := hB.trans (hb2.mono (B' := w.heap.size) hB.size)
      have hbw := hB2.size
      clear hb2 hr2 hrows hown hB hcell hi had hadw
      have owna := hown2.alloc (.cells #[.slice (some ⟨g, 0, none⟩) x.l.length cap] 31)
      have HNW := Lib.hid (World.news_of_block (cs := #[.slice (some ⟨g, 0, none⟩) x.l.length cap]) (t := 31) (fr := (0, 0)) (heap_alloc_new w2 _))
      have HO1 : Hid (∀ u ∈ [Value.slice (some ⟨g, 0, none⟩) x.l.length cap], u.oneCell' = true) := Lib.hid (by intro u hu; rw [List.mem_singleton.1 hu]; rfl)
      have H63 : Hid (k + 1 ≤ maxLen) := Lib.hid (by unfold maxLen; omega)
      have HBY : Hid ((k + 1) * 24 ≤ 140737488355328) := Lib.hid (by omega)
      have hbase : w.heap.size ≤ (w2.alloc (.cells #[.slice (some ⟨g, 0, none⟩) x.l.length cap] 31)).heap.size := by simp; omega
      go_wp2_with (at_builtin; refine wpList_append_own _ rfl _ _ 39 rfl w.heap.size 31 i0 (.slice none 0 0) 1 24 Tryd.underlying39 hi0 hz0 hz1 hz2 rfl (by decide) _ k (T.map isVal) rfl owna ⟨w2.heap.size, 0, none⟩ 1 1 [.slice (some ⟨g, 0, none⟩) x.l.length cap] rfl rfl (by simpa using HNW.out) HO1.out H63.out HBY.out hbase ?_; intro v' w10 hown10 hgrow10 hnil10)
      have hBa : Below w2.heap.size w2 (w2.alloc (.cells #[.slice (some ⟨g, 0, none⟩) x.l.length cap] 31)) := (Below.refl _ _).alloc (Nat.le_refl _) _
      have hB10 : Below w.heap.size w w10 := (hB2.alloc hbw _).grown hgrow10 hbase (fun q hq => (owna.lt q hq).1)
      have rows10 : RowsOk w10 (T ++ [⟨some ⟨g, 0, none⟩, cap, x.l⟩]) := by
        intro y hy
        rcases List.mem_append.1 hy with h | h
        · obtain ⟨g', e', h1, h2⟩ := rows2 y h
          exact ⟨g', e', (h1.below hBa).kept owna hgrow10, h2⟩
        · rw [List.mem_singleton.1 h]
          exact ⟨g, rfl, (r2.below hBa).kept owna hgrow10, by show x.l.length ≤ maxLen; unfold maxLen; omega⟩
      have hxs : (T ++ [(⟨some ⟨g, 0, none⟩, cap, x.l⟩ : IS)]).map isVal = T.map isVal ++ [.slice (some ⟨g, 0, none⟩) x.l.length cap] := by simp [isVal]
      go_roundw
      case rel => exact ⟨k + 1, T ++ [⟨some ⟨g, 0, none⟩, cap, x.l⟩], by omega, by go_num, Lib.hid (by rw [List.length_append, hT.out]; rfl), Lib.hid (by rw [List.map_append, hTm.out, HTK.out]; rfl), by rw [hxs]; exact hown10, rows10, hB10⟩
      case measure => simp [intOf]; omega
    · have hk2 : k = ls.length := by omega
      subst hk2
      obtain ⟨A', cap', ev, _⟩ := own_shape hown
      subst ev
      have hla := lists_of_own hT.out.symm hown hrows
      have hm : T.map (·.l) = ls.map (·.l) := by rw [hTm.out, List.take_length]
      have HM := Lib.hid hm
      clear hm
      go_wp2
      go_ret
      exact ⟨hB, A', cap', T, rfl, HM.out, hla⟩
end Go.Proofs.YtebndgepmjonoaaDoor
