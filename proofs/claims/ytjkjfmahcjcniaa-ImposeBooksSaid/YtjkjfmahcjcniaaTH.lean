/-
  The law on books: maths of what is bound.
-/
import Derived.Test.YtjkjfmahcjcniaaTY
namespace Go.Proofs.Ytjkjfmahcjcniaa
open Go.RowKit

/-- How many pages, and how many plates, are among the first of what is bound. -/
def nonP (V : List Int) : Nat := V.countP fun x => decide (x ≠ -1)
def nonM (V : List Int) : Nat := V.countP fun x => decide (x = -1)
theorem nonP_app (V W : List Int) : nonP (V ++ W) = nonP V + nonP W := List.countP_append
theorem nonM_app (V W : List Int) : nonM (V ++ W) = nonM V + nonM W := List.countP_append
theorem nonP_pl (pl : List Int) (p i : Nat) : nonP (bdPl pl p i) = 0 := by unfold nonP bdPl; simp [List.countP_replicate]
theorem nonM_pl (pl : List Int) (p i : Nat) : nonM (bdPl pl p i) = (pl.take i).count (p : Int) := by unfold nonM bdPl; simp [List.countP_replicate]
theorem hd_val (cl : List Int) {p : Nat} (h : 0 < p) : ∃ x, bdHd cl p = [x] ∧ x ≠ -1 ∧ x = if hasB cl p = true then 0 else (p : Int) := by
  unfold bdHd
  rw [if_neg (by omega)]
  refine ⟨_, rfl, ?_, rfl⟩
  split <;> omega
theorem nonP_hd (cl : List Int) (p : Nat) : nonP (bdHd cl p) = if p = 0 then 0 else 1 := by
  by_cases h : p = 0
  · rw [if_pos h]; unfold bdHd; rw [if_pos h]; rfl
  · rw [if_neg h]
    obtain ⟨x, e, hx, -⟩ := hd_val cl (show 0 < p by omega)
    rw [e]; unfold nonP; simp [hx]
theorem nonM_hd (cl : List Int) (p : Nat) : nonM (bdHd cl p) = 0 := by
  by_cases h : p = 0
  · unfold bdHd; rw [if_pos h]; rfl
  · obtain ⟨x, e, hx, -⟩ := hd_val cl (show 0 < p by omega)
    rw [e]; unfold nonM; simp [hx]
theorem nonP_bd (pl cl : List Int) : ∀ n, nonP (bdTo pl cl (n + 1)) = n := by
  intro n
  induction n with
  | zero => rw [← bdTo_succ, nonP_app, nonP_app, nonP_pl, nonP_hd]; rfl
  | succ n ih => rw [← bdTo_succ, nonP_app, nonP_app, nonP_pl, nonP_hd, ih, if_neg (by omega)]
def inTo (n : Nat) (x : Int) : Bool := decide (0 ≤ x ∧ x < n)
theorem inTo_succ (n : Nat) : ∀ pl : List Int, pl.countP (inTo (n + 1)) = pl.countP (inTo n) + pl.count (n : Int) := by
  intro pl
  induction pl with
  | nil => rfl
  | cons y pl ih =>
    rw [List.countP_cons, List.countP_cons, List.count_cons, ih]
    by_cases e : y = (n : Int)
    · have h1 : inTo (n + 1) y = true := by unfold inTo; rw [e]; simp; omega
      have h2 : inTo n y = false := by unfold inTo; rw [e]; simp
      rw [h1, h2]; simp [e]; omega
    · have h1 : inTo (n + 1) y = inTo n y := by unfold inTo; rw [Bool.eq_iff_iff]; simp; omega
      rw [h1]; simp [e]; omega
theorem nonM_bd (pl cl : List Int) (n : Nat) : nonM (bdTo pl cl n) = pl.countP (inTo n) := by
  induction n with
  | zero =>
    have : pl.countP (inTo 0) = 0 := by rw [List.countP_eq_zero]; intro x _; unfold inTo; simp
    rw [this]; rfl
  | succ n ih => rw [← bdTo_succ, nonM_app, nonM_app, nonM_pl, nonM_hd, ih, inTo_succ, List.take_length, Nat.zero_add]
/-- What a page is, as it stands among what is bound. -/
theorem bd_at (pl cl : List Int) : ∀ n i (hi : i < (bdTo pl cl n).length), (bdTo pl cl n)[i] ≠ -1 → (bdTo pl cl n)[i] = if hasB cl ((nonP ((bdTo pl cl n).take i) + 1 : Nat) : Int) = true then 0 else ((nonP ((bdTo pl cl n).take i) + 1 : Nat) : Int) := by
  intro n
  induction n with
  | zero => intro i hi; simp [bdTo] at hi
  | succ n ih =>
    intro i hi hne
    have e := bdTo_succ pl cl n
    obtain ⟨X, hX⟩ : ∃ X, bdTo pl cl (n + 1) = X := ⟨_, rfl⟩
    simp only [hX] at hi hne ⊢
    rw [hX] at e
    subst e
    by_cases h1 : i < (bdTo pl cl n).length
    · rw [List.getElem_append_left h1] at hne ⊢
      rw [List.take_append_of_le_length (Nat.le_of_lt h1)]
      exact ih i h1 hne
    · have h2 : (bdTo pl cl n).length ≤ i := by omega
      rw [List.getElem_append_right h2] at hne ⊢
      by_cases h0 : n = 0
      · subst h0
        exfalso; apply hne
        have : bdHd cl 0 ++ bdPl pl 0 pl.length = List.replicate ((pl.take pl.length).count ((0 : Nat) : Int)) (-1) := rfl
        simp only [this, List.getElem_replicate]
      · obtain ⟨x, ex, hx, hv⟩ := hd_val cl (show 0 < n by omega)
        obtain ⟨m, rfl⟩ : ∃ m, n = m + 1 := ⟨n - 1, by omega⟩
        by_cases h3 : i = (bdTo pl cl (m + 1)).length
        · subst h3
          rw [List.take_left', nonP_bd]
          · simp only [ex, Nat.sub_self, List.singleton_append, List.getElem_cons_zero]
            exact hv
          · rfl
        · exfalso; apply hne
          simp only [ex, List.singleton_append]
          rw [List.getElem_cons]
          rw [dif_neg (by omega)]
          unfold bdPl
          rw [List.getElem_replicate]
theorem plAt_all {lo hi st : Int} {L : List Int} : ∀ n k, (plAt lo hi st L n k).2 = 0 → ∀ j, k ≤ j → j < k + n → inB (L.getD j 0) lo hi = true := by
  intro n
  induction n with
  | zero => intro k _ j h1 h2; omega
  | succ n ih =>
    intro k h j h1 h2
    unfold plAt at h
    by_cases hb : inB (L.getD k 0) lo hi = false
    · rw [if_pos hb] at h; simp at h
    · rw [if_neg hb] at h
      by_cases ho : 0 < k ∧ L.getD k 0 < L.getD (k - 1) 0 + st
      · rw [if_pos ho] at h; simp at h
      · rw [if_neg ho] at h
        by_cases e : j = k
        · subst e; simpa using hb
        · exact ih (k + 1) h j (by omega) (by omega)
theorem book_plates {P : Nat} {S : Int} {pl cl : List Int} (h : (bookE P S pl cl).2 = 0) : pl.countP (inTo (P + 1)) = pl.length := by
  rw [List.countP_eq_length]
  unfold bookE at h
  by_cases h1 : inB (P : Int) 1 4000 = true ∧ inB S 2 64 = true
  · rw [if_pos h1] at h
    by_cases h2 : S % 2 ≠ 0
    · rw [if_pos h2] at h; simp at h
    · rw [if_neg h2] at h
      by_cases h3 : (placesE 0 P 0 pl).2 ≠ 0
      · rw [if_pos h3] at h; exact absurd h h3
      · have h4 : (placesE 0 P 0 pl).2 = 0 := by simpa using h3
        unfold placesE at h4
        by_cases h5 : 40 < pl.length
        · rw [if_pos h5] at h4; simp at h4
        · rw [if_neg h5] at h4
          intro x hx
          obtain ⟨j, hj, rfl⟩ := List.getElem_of_mem hx
          have := inB_iff.1 (plAt_all _ _ h4 j (Nat.zero_le _) (by omega))
          rw [getD_in 0 hj] at this
          unfold inTo; simp; omega
  · rw [if_neg h1] at h; simp at h
end Go.Proofs.Ytjkjfmahcjcniaa
