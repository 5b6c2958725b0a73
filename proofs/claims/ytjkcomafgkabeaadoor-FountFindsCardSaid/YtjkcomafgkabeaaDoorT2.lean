/-
  The mathematics of a bill: as many sorts as its total, none below 0, its metal, how often a need can be taken from bills.
-/
import Derived.Test.YtjkcomafgkabeaaDoorT1
namespace Go.Proofs.YtjkcomafgkabeaaDoor
open Go.RowKit Go.Maps

theorem sumTo_nonneg {f : Nat → Int} : ∀ {n : Nat}, (∀ i, i < n → 0 ≤ f i) → 0 ≤ sumTo f n := by
  intro n
  induction n with
  | zero => intro _; exact Int.le_refl _
  | succ n ih => intro h; have := ih (fun i hi => h i (by omega)); have := h n (by omega); show 0 ≤ sumTo f n + f n; omega
theorem sumTo_le {f : Nat → Int} : ∀ {n : Nat}, (∀ i, i < n → 0 ≤ f i) → ∀ k, k < n → f k ≤ sumTo f n := by
  intro n
  induction n with
  | zero => intro _ k hk; omega
  | succ n ih =>
    intro h k hk
    show f k ≤ sumTo f n + f n
    have h0 := sumTo_nonneg (n := n) (fun i hi => h i (by omega))
    have h1 := h n (by omega)
    by_cases e : k = n
    · subst e; omega
    · have := ih (fun i hi => h i (by omega)) k (by omega); omega
theorem sumTo_one {f g : Nat → Int} {x : Nat} (hx : g x = f x + 1) (ho : ∀ i, i ≠ x → g i = f i) : ∀ n, sumTo g n = sumTo f n + if x < n then 1 else 0 := by
  intro n
  induction n with
  | zero => rfl
  | succ n ih =>
    show sumTo g n + g n = sumTo f n + f n + _
    rw [ih]
    by_cases e : x = n
    · subst e; rw [hx, if_neg (by omega), if_pos (by omega)]; omega
    · rw [ho n (fun h => e h.symm)]
      by_cases h2 : x < n
      · rw [if_pos h2, if_pos (by omega)]; omega
      · rw [if_neg h2, if_neg (by omega)]; omega
theorem sumOf_bump {L : List Int} {x : Nat} (hx : x < L.length) : sumOf (bump L (x : Int)) = sumOf L + 1 := by
  unfold sumOf
  rw [bump_len, sumTo_one (f := fun k => L.getD k 0) (x := x) ?_ ?_, if_pos hx]
  · show (bump L (x : Int)).getD x 0 = _
    rw [bump_nat, List.getD_eq_getElem?_getD, List.getElem?_set, if_pos rfl, if_pos hx]; rfl
  · intro i hi
    show (bump L (x : Int)).getD i 0 = _
    rw [bump_nat, List.getD_eq_getElem?_getD, List.getElem?_set, if_neg (fun h => hi h.symm), ← List.getD_eq_getElem?_getD]
theorem sumOf_bumps : ∀ (xs L : List Int), OkIdx xs L.length → sumOf (xs.foldl bump L) = sumOf L + xs.length := by
  intro xs
  induction xs with
  | nil => intro L _; simp
  | cons y r ih =>
    intro L h
    obtain ⟨x, hx, hxe⟩ := h 0 (by simp)
    have hy : y = (x : Int) := by simpa using hxe
    subst hy
    rw [List.foldl_cons, ih (bump L (x : Int)) (fun j hj => by rw [bump_len]; exact h (j + 1) (by simpa using hj)), sumOf_bump hx, List.length_cons]
    omega
theorem OkIdx.take_ {L : List Int} {n : Nat} (h : OkIdx L n) (m : Nat) : OkIdx (L.take m) n := fun j hj => by
  rw [List.length_take] at hj
  obtain ⟨x, hx, e⟩ := h j (by omega)
  refine ⟨x, hx, ?_⟩
  rw [← e, List.getD_eq_getElem?_getD, List.getElem?_take, if_pos (by omega), ← List.getD_eq_getElem?_getD]
theorem sumOf_tab (n : Nat) (fn : Nat → Int) : sumOf (tab n fn) = sumTo fn n := by
  unfold sumOf
  rw [tab_len]
  exact sumTo_congr (fun i hi => tab_at hi)

section
variable {l : List Int} {total : Int} {n : Nat}
theorem okc_nonneg (h : OkC n l) : ∀ i, i < l.length → 0 ≤ l.getD i 0 := fun i hi => (h.2 i (by have := h.1; omega)).1
theorem sumOf_pos (h : OkC n l) (h0 : sumOf l ≠ 0) : 0 < sumOf l := by
  have : 0 ≤ sumOf l := sumTo_nonneg (okc_nonneg h)
  omega
theorem quo_bd (h : OkC n l) (h0 : sumOf l ≠ 0) (ht : 0 ≤ total ∧ total ≤ 1000000) : ∀ j, j < l.length → 0 ≤ quoF l (sumOf l) total j ∧ quoF l (sumOf l) total j ≤ 1000000000000 := by
  intro j hj
  have hvi := h.2 j (by have := h.1; omega)
  have hs := sumOf_pos h h0
  have a1 : 0 ≤ total * l.getD j 0 := Int.mul_nonneg ht.1 hvi.1
  have a2 : total * l.getD j 0 ≤ 1000000 * 1000000 := Int.mul_le_mul ht.2 hvi.2 hvi.1 (by omega)
  have a3 : total * l.getD j 0 / sumOf l ≤ total * l.getD j 0 := Int.ediv_le_self _ a1
  have a4 : 0 ≤ total * l.getD j 0 / sumOf l := Int.ediv_nonneg a1 (by omega)
  unfold quoF; omega
theorem bill_len : (billOf l (sumOf l) total).length = l.length := by unfold billOf; rw [bumps_len, tab_len]
theorem bill_sum (h : OkC n l) (hn : 0 < n) (h0 : sumOf l ≠ 0) : sumOf (billOf l (sumOf l) total) = total := by
  have hs := sumOf_pos h h0
  have hl : 0 < l.length := by have := h.1; omega
  have hm := missing_bd (total := total) hs rfl hl
  have ho := order_ok (V := tab l.length (remF l (sumOf l) total)) (by rw [tab_len]; exact hl)
  rw [tab_len] at ho
  unfold billOf
  rw [sumOf_bumps _ _ (by rw [tab_len]; exact ho.1.take_ _), sumOf_tab, List.length_take, ho.2]
  unfold missingOf at hm ⊢
  omega
theorem bill_nonneg (h : OkC n l) (h0 : sumOf l ≠ 0) (ht : 0 ≤ total ∧ total ≤ 1000000) : ∀ j, j < l.length → 0 ≤ (billOf l (sumOf l) total).getD j 0 := by
  intro j hj
  exact (bumps_bd _ (tab l.length (quoF l (sumOf l) total)) 1000000000000 (fun i hi => by rw [tab_len] at hi; rw [tab_at hi]; exact quo_bd h h0 ht i hi) j (by rw [tab_len]; exact hj)).1
theorem bill_le (h : OkC n l) (hn : 0 < n) (h0 : sumOf l ≠ 0) (ht : 0 ≤ total ∧ total ≤ 1000000) : ∀ j, j < l.length → (billOf l (sumOf l) total).getD j 0 ≤ total := by
  intro j hj
  have := sumTo_le (f := fun k => (billOf l (sumOf l) total).getD k 0) (n := l.length) (fun i hi => bill_nonneg h h0 ht i hi) j hj
  have hs := bill_sum (total := total) h hn h0
  unfold sumOf at hs
  rw [show (billOf l (sumTo (fun k => l.getD k 0) l.length) total).length = l.length from bill_len] at hs
  have hs' : sumTo (fun k => (billOf l (sumOf l) total).getD k 0) l.length = total := hs
  rw [hs'] at this
  exact this
theorem bill_ok (h : OkC n l) (hn : 0 < n) (h0 : sumOf l ≠ 0) (ht : 0 ≤ total ∧ total ≤ 1000000) : OkC n (billOf l (sumOf l) total) := by
  refine ⟨bill_len.trans h.1, fun k hk => ?_⟩
  have h1 := bill_nonneg h h0 ht k (by have := h.1; omega)
  have h2 := bill_le h hn h0 ht k (by have := h.1; omega)
  omega
theorem metal_ge {f : FT} (hf : RightF f) (hk : OkC f.sorts.length l) : sumOf l ≤ metal f l := by
  have : ∀ k, k ≤ l.length → sumTo (fun k => l.getD k 0) k ≤ metalN f l k := by
    intro k
    induction k with
    | zero => intro _; exact Int.le_refl _
    | succ k ih =>
      intro hkl
      have h1 := ih (by omega)
      have h2 := hk.2 k (by have := hk.1; omega)
      obtain ⟨b1, b2, _, _, hw⟩ := hf
      obtain ⟨w1, w2, _⟩ := hw k (by have := hk.1; omega)
      show sumTo _ k + l.getD k 0 ≤ metalN f l k + l.getD k 0 * (f.sorts.getD k noTS).width * f.body
      have h3 : l.getD k 0 * 1 ≤ l.getD k 0 * (f.sorts.getD k noTS).width := Int.mul_le_mul_of_nonneg_left w1 h2.1
      have h4 : l.getD k 0 * (f.sorts.getD k noTS).width * 1 ≤ l.getD k 0 * (f.sorts.getD k noTS).width * f.body := Int.mul_le_mul_of_nonneg_left b1 (by omega)
      omega
  exact this l.length (Nat.le_refl _)
end

/-- From c times as many of each sort a need can be taken at least c times as often. -/
theorem timesN_mul {l1 l1' l2 : List Int} {c : Int} {n : Nat} (hc : 0 ≤ c) (h1 : ∀ j, j < n → 0 ≤ l1.getD j 0 ∧ l1.getD j 0 ≤ 1000000) (h2 : ∀ j, j < n → 0 ≤ l2.getD j 0) (h : ∀ j, j < n → l1'.getD j 0 = c * l1.getD j 0) : ∀ k, k ≤ n →
    ((timesN l1 l2 k).1 < 0 ∧ (timesN l1' l2 k).1 < 0 ∧ ∀ j, j < k → l2.getD j 0 = 0) ∨ (0 ≤ (timesN l1 l2 k).1 ∧ (timesN l1 l2 k).1 ≤ 1000000 ∧ (timesN l1 l2 k).1 * c ≤ (timesN l1' l2 k).1 ∧ 0 ≤ (timesN l1' l2 k).1) := by
  intro k
  induction k with
  | zero => intro _; exact .inl ⟨(by show (-1 : Int) < 0; decide), (by show (-1 : Int) < 0; decide), fun j hj => by omega⟩
  | succ k ih =>
    intro hk
    have hih := ih (by omega)
    by_cases hz : l2.getD k 0 = 0
    · rw [timesN_skip hz, timesN_skip hz]
      rcases hih with ⟨a1, a2, a3⟩ | hr
      · refine .inl ⟨a1, a2, fun j hj => ?_⟩
        by_cases e : j = k
        · subst e; exact hz
        · exact a3 j (by omega)
      · exact .inr hr
    · have hp : 0 < l2.getD k 0 := by have := h2 k (by omega); omega
      obtain ⟨u1, u2⟩ := h1 k (by omega)
      have q0 : 0 ≤ l1.getD k 0 / l2.getD k 0 := Int.ediv_nonneg u1 (by omega)
      have q1 : l1.getD k 0 / l2.getD k 0 ≤ 1000000 := Int.le_trans (Int.ediv_le_self _ u1) u2
      have q2 : l1.getD k 0 / l2.getD k 0 * c ≤ l1'.getD k 0 / l2.getD k 0 := by
        rw [h k (by omega)]
        apply (Int.le_ediv_iff_mul_le hp).2
        have a := Int.ediv_mul_le (l1.getD k 0) (by omega : l2.getD k 0 ≠ 0)
        have b := Int.mul_le_mul_of_nonneg_left a hc
        have e : l1.getD k 0 / l2.getD k 0 * c * l2.getD k 0 = c * (l1.getD k 0 / l2.getD k 0 * l2.getD k 0) := by
          rw [Int.mul_comm _ c, Int.mul_assoc]
        rw [e]; exact b
      have q3 : 0 ≤ l1.getD k 0 / l2.getD k 0 * c := Int.mul_nonneg q0 hc
      right
      by_cases g : (timesN l1 l2 k).1 < 0 ∨ l1.getD k 0 / l2.getD k 0 < (timesN l1 l2 k).1 <;> by_cases g' : (timesN l1' l2 k).1 < 0 ∨ l1'.getD k 0 / l2.getD k 0 < (timesN l1' l2 k).1
      · rw [timesN_new hz g, timesN_new hz g']; exact ⟨q0, q1, q2, by show 0 ≤ _ / _; omega⟩
      · rw [timesN_new hz g, timesN_keep hz g']
        refine ⟨q0, q1, ?_, by omega⟩
        show l1.getD k 0 / l2.getD k 0 * c ≤ (timesN l1' l2 k).1
        rcases hih with ⟨a1, a2, _⟩ | ⟨a1, _, a2, a3⟩
        · omega
        · rcases g with g | g
          · omega
          · have := Int.mul_le_mul_of_nonneg_right (Int.le_of_lt g) hc
            omega
      · rw [timesN_keep hz g, timesN_new hz g']
        rcases hih with ⟨a1, a2, _⟩ | ⟨a1, a4, a2, a3⟩
        · omega
        · have := Int.mul_le_mul_of_nonneg_right (show (timesN l1 l2 k).1 ≤ l1.getD k 0 / l2.getD k 0 by omega) hc
          exact ⟨a1, a4, by show _ ≤ l1'.getD k 0 / l2.getD k 0; omega, by show 0 ≤ l1'.getD k 0 / l2.getD k 0; omega⟩
      · rw [timesN_keep hz g, timesN_keep hz g']
        rcases hih with ⟨a1, a2, _⟩ | hr
        · omega
        · exact hr
theorem times_ok {l1 l2 : List Int} {n : Nat} (h : 0 ≤ (timesN l1 l2 n).1) : timesR l1 l2 n = ((timesN l1 l2 n).1, (timesN l1 l2 n).2, 0) := by
  unfold timesR; rw [if_neg (by omega)]
theorem Times_good {f : FT} {a : Option Addr} {c : Nat} {b1 : Option Addr} {l1 : List Int} {d1 : Nat} {b2 : Option Addr} {l2 : List Int} {d2 : Nat} {w : World} {N1 N2 : Nat} (hN1 : N1 = l1.length) (hN2 : N2 = l2.length) (hF : FAt w a f) (hX1 : IntsAt w b1 l1) (hX2 : IntsAt w b2 l2) (h0 : (checkF f).2 = 0) (h1 : OkC f.sorts.length l1) (h2 : OkC f.sorts.length l2) (hn : f.sorts.length ≤ 120) (ht : 0 ≤ (timesN l1 l2 f.sorts.length).1) :
    Calls Tryd.prog 48 #[.agg #[.string f.name, .int .i64 f.body, .slice a f.sorts.length c], .slice b1 N1 d1, .slice b2 N2 d2] w fun e w' => e = .returned (.tuple #[.int .i64 (timesN l1 l2 f.sorts.length).1, .int .i64 (timesN l1 l2 f.sorts.length).2, .int .i64 0]) ∧ Below w.heap.size w w' := by
  subst hN1 hN2
  refine (Times_any f a c b1 l1 d1 b2 l2 d2 w hF hX1 (okc_len h1 hn) hX2 (okc_len h2 hn)).mono ?_
  rintro e w' ⟨rfl, hb⟩
  have : timesE f l1 l2 = ((timesN l1 l2 f.sorts.length).1, (timesN l1 l2 f.sorts.length).2, 0) := by
    unfold timesE; rw [if_neg (by simp [two_ok h0 h1 h2]), h1.1, times_ok ht]
  rw [this]
  exact ⟨rfl, hb⟩
theorem Cast_good {f : FT} {a : Option Addr} {c : Nat} {m : Int} {b : Option Addr} {l : List Int} {d : Nat} {w : World} {N : Nat} (hN : N = l.length) (hF : FAt w a f) (hX : IntsAt w b l) (h0 : (checkF f).2 = 0) (h1 : OkC f.sorts.length l) (hn : f.sorts.length ≤ 120) (hm : 0 ≤ m ∧ m ≤ 1000000000000000000) (hp : metal f l ≠ 0) :
    Calls Tryd.prog 59 #[.agg #[.string f.name, .int .i64 f.body, .slice a f.sorts.length c], .int .i64 m, .slice b N d] w fun e w' => e = .returned (.tuple #[.int .i64 (m / metal f l), .int .i64 (m % metal f l), .int .i64 0]) ∧ Below w.heap.size w w' := by
  subst hN
  have h := Cast_any f a c m b l d w hF hX (okc_len h1 hn)
  rw [show castR f m l = (m / metal f l, m % metal f l, 0) by
    unfold castR; rw [if_neg (by simp [h0]), if_neg (by omega), if_neg (by simp [cases_ok h0 (ls := [l]) (by intro x hx; simp at hx; subst hx; exact h1)]), if_neg hp]] at h
  exact h
end Go.Proofs.YtjkcomafgkabeaaDoor
