/-
  The reference's metal.
-/
import Derived.Test.YtebndgepmjonoaaDoorZN
import Derived.Test.YtebndgepmjonoaaDoorZS
import Derived.Deep.AppendLies
namespace Go.Proofs.YtebndgepmjonoaaDoor
open Go.RowKit Go.Maps

theorem case_cases {f : FT} {l : List Int} : casesErr f [l] = caseErr f l := by
  unfold casesErr caseErr
  split
  · rfl
  · show (if _ then _ else _) = _
    split
    · rfl
    · rename_i h; simp only [Decidable.not_not] at h; rw [h]; rfl
theorem few_le {f : FT} (h : fewB f = true) : f.sorts.length ≤ 123 := by
  unfold fewB at h
  have h1 : decide (20 < f.name.size ∨ (10 < f.sorts.length ∧ f.sorts.length ≤ 120) ∨ 123 < f.sorts.length) = false := by
    cases e : decide (20 < f.name.size ∨ (10 < f.sorts.length ∧ f.sorts.length ≤ 120) ∨ 123 < f.sorts.length)
    · rfl
    · rw [e] at h; simp at h
  have h2 := of_decide_eq_false h1
  omega

def rcastR (f : FT) (m : Int) (l : List Int) : Int × Int × Int :=
  if m < 0 ∨ 1000000000000000000 < m then (0, 0, 2) else if caseErr f l ≠ 0 then (0, 0, caseErr f l) else if metal f l = 0 then (0, 0, 11) else (m / metal f l, m % metal f l, 0)
theorem castR_eq {f : FT} {m : Int} {l : List Int} (h : (checkF f).2 = 0) : castR f m l = rcastR f m l := by
  unfold castR rcastR
  rw [if_neg (by simp [h]), case_cases]

end Go.Proofs.YtebndgepmjonoaaDoor
/-
  The law on what is kept: its walk.
-/
namespace Go.Proofs.YtebndgepmjonoaaDoor
open Go.RowKit Go.Maps

def lackN (l1 l2 : List Int) : Nat → Bool
  | 0 => false
  | k + 1 => lackN l1 l2 k || (lack l1 l2 k != 0)
theorem lackN_none {l1 l2 : List Int} : ∀ {m j : Nat}, short l1 l2 m j = none → ∀ k, k ≤ j + m → lackN l1 l2 j = false → lackN l1 l2 k = false ∨ k < j := by
  intro m
  induction m with
  | zero => intro j _ k hk h; by_cases e : k = j <;> first | (subst e; exact .inl h) | (right; omega)
  | succ m ih =>
    intro j h k hk hj
    unfold short at h
    split at h
    · cases h
    · rename_i hq
      have hj2 : lackN l1 l2 (j + 1) = false := by
        show (lackN l1 l2 j || (lack l1 l2 j != 0)) = false
        rw [hj, show lack l1 l2 j = 0 by unfold lack; omega]; rfl
      rcases ih h k (by omega) hj2 with h1 | h1
      · exact .inl h1
      · by_cases e : k = j
        · subst e; exact .inl hj
        · right; omega
theorem lackN_mono {l1 l2 : List Int} {k : Nat} (h : lackN l1 l2 k = true) : ∀ m, lackN l1 l2 (k + m) = true := by
  intro m
  induction m with
  | zero => exact h
  | succ m ih => show (lackN l1 l2 (k + m) || _) = true; rw [ih]; rfl
theorem lackN_some {l1 l2 : List Int} : ∀ {m j i : Nat}, short l1 l2 m j = some i → lackN l1 l2 (j + m) = true := by
  intro m
  induction m with
  | zero => intro j i h; cases h
  | succ m ih =>
    intro j i h
    unfold short at h
    split at h
    · rename_i hq
      have : lackN l1 l2 (j + 1) = true := by
        show (lackN l1 l2 j || (lack l1 l2 j != 0)) = true
        have hne : lack l1 l2 j ≠ 0 := by unfold lack; omega
        have : (lack l1 l2 j != 0) = true := by simpa using hne
        rw [this]; simp
      have := lackN_mono this m
      rwa [show j + 1 + m = j + (m + 1) by omega] at this
    · have := ih h
      rwa [show j + 1 + m = j + (m + 1) by omega] at this

/-- How often a need can be taken, and the sort that stops it. -/
theorem timesN_spec {l1 l2 : List Int} {n : Nat} (h1 : ∀ j, j < n → 0 ≤ l1.getD j 0 ∧ l1.getD j 0 ≤ 1000000) (h2 : ∀ j, j < n → 0 ≤ l2.getD j 0) : ∀ k, k ≤ n →
    ((timesN l1 l2 k).1 < 0 ∧ ∀ j, j < k → l2.getD j 0 = 0) ∨ (∃ (s : Nat) (q : Int), timesN l1 l2 k = (q, (s : Int)) ∧ s < k ∧ 0 < l2.getD s 0 ∧ 0 ≤ q ∧ q ≤ 1000000 ∧ (∀ j, j < k → q * l2.getD j 0 ≤ l1.getD j 0) ∧ (∀ j, j < s → (q + 1) * l2.getD j 0 ≤ l1.getD j 0) ∧ l1.getD s 0 < (q + 1) * l2.getD s 0) := by
  intro k
  induction k with
  | zero => intro _; exact .inl ⟨(by show (-1 : Int) < 0; decide), fun j hj => by omega⟩
  | succ k ih =>
    intro hk
    have hih := ih (by omega)
    obtain ⟨u1, u2⟩ := h1 k (by omega)
    by_cases hz : l2.getD k 0 = 0
    · rw [timesN_skip hz]
      rcases hih with ⟨a1, a2⟩ | ⟨s, q, e, a1, a2, a3, a4, a5, a6, a7⟩
      · refine .inl ⟨a1, fun j hj => ?_⟩
        by_cases ej : j = k
        · subst ej; exact hz
        · exact a2 j (by omega)
      · refine .inr ⟨s, q, e, by omega, a2, a3, a4, fun j hj => ?_, a6, a7⟩
        by_cases ej : j = k
        · subst ej; rw [hz, Int.mul_zero]; exact u1
        · exact a5 j (by omega)
    · have hp : 0 < l2.getD k 0 := by have := h2 k (by omega); omega
      have q0 : 0 ≤ l1.getD k 0 / l2.getD k 0 := Int.ediv_nonneg u1 (by omega)
      have q1 : l1.getD k 0 / l2.getD k 0 ≤ 1000000 := Int.le_trans (Int.ediv_le_self _ u1) u2
      have q2 : l1.getD k 0 / l2.getD k 0 * l2.getD k 0 ≤ l1.getD k 0 := Int.ediv_mul_le _ (by omega)
      have q3 : l1.getD k 0 < (l1.getD k 0 / l2.getD k 0 + 1) * l2.getD k 0 := Int.lt_ediv_add_one_mul_self _ hp
      right
      rcases hih with ⟨a1, a2⟩ | ⟨s, q, e, a1, a2, a3, a4, a5, a6, a7⟩
      · rw [timesN_new hz (.inl a1)]
        refine ⟨k, _, rfl, by omega, hp, q0, q1, fun j hj => ?_, fun j hj => ?_, q3⟩
        · by_cases ej : j = k
          · subst ej; exact q2
          · rw [a2 j (by omega), Int.mul_zero]; exact (h1 j (by omega)).1
        · rw [a2 j hj, Int.mul_zero]; exact (h1 j (by omega)).1
      · by_cases g : l1.getD k 0 / l2.getD k 0 < q
        · rw [timesN_new hz (.inr (by rw [e]; exact g))]
          have hle : ∀ j, j < k → (l1.getD k 0 / l2.getD k 0 + 1) * l2.getD j 0 ≤ l1.getD j 0 := fun j hj => by
            have b1 := a5 j hj
            have b2 : (l1.getD k 0 / l2.getD k 0 + 1) * l2.getD j 0 ≤ q * l2.getD j 0 := Int.mul_le_mul_of_nonneg_right (by omega) (h2 j (by omega))
            omega
          refine ⟨k, _, rfl, by omega, hp, q0, q1, fun j hj => ?_, hle, q3⟩
          by_cases ej : j = k
          · subst ej; exact q2
          · have b1 := hle j (by omega)
            have b2 : l1.getD k 0 / l2.getD k 0 * l2.getD j 0 ≤ (l1.getD k 0 / l2.getD k 0 + 1) * l2.getD j 0 := Int.mul_le_mul_of_nonneg_right (by omega) (h2 j (by omega))
            omega
        · rw [timesN_keep hz (by rw [e]; show ¬ (q < 0 ∨ _ < q); omega)]
          refine ⟨s, q, e, by omega, a2, a3, a4, fun j hj => ?_, a6, a7⟩
          by_cases ej : j = k
          · subst ej
            have b2 : q * l2.getD j 0 ≤ l1.getD j 0 / l2.getD j 0 * l2.getD j 0 := Int.mul_le_mul_of_nonneg_right (by omega) (by omega)
            omega
          · exact a5 j (by omega)
theorem times_zero {l1 l2 : List Int} {n : Nat} (h : (timesN l1 l2 n).1 < 0) : timesR l1 l2 n = (0, 0, 11) := by
  unfold timesR; rw [if_pos h]
theorem minus_plus {l1 l2 : List Int} {n : Nat} (h1 : l1.length = n) : tab n (plus (tab n (minus l1 l2)) l2) = l1 :=
  list_eq (by rw [tab_len, h1]) (fun j hj => by
    rw [tab_len] at hj
    rw [tab_at hj]; unfold plus; rw [tab_at hj]; unfold minus; omega)
theorem minus_over {l1 l2 : List Int} {n : Nat} (h1 : OkC n l1) : over (tab n (minus l1 l2)) l2 n 0 = false :=
  over_ok (n := n) (fun j hj => by
    have := h1.2 j hj
    unfold plus; rw [tab_at hj]; unfold minus; omega) _ _ (by omega)

theorem Row3.cell' {w : World} {g n : Nat} {fn : Nat → Int} (h : Row3 w g (tab n fn)) {k : Nat} (hk : k < n) : w.cell? ⟨g, k, none⟩ = some (.int .i64 (fn k)) := by
  obtain ⟨_, e, _, hc⟩ := h.ints k (by rw [tab_len]; exact hk)
  cases e
  rw [add0, tab_at hk] at hc
  exact hc

end Go.Proofs.YtebndgepmjonoaaDoor

/-
  The reference's taking: what is left of a case.
-/
namespace Go.Proofs.YtebndgepmjonoaaDoor
open Go.RowKit Go.Maps

theorem own_far {w : World} {base n : Nat} {v : Value} {xs : List Value} {b : Nat} (h : w.ownsRow base 3 1 v n xs) (hb : b < base) : v.ownBlock ≠ some b := fun e => by
  have := (h.lt b e).1; omega
theorem vals_tab (n : Nat) (fn : Nat → Int) : vals (tab (n + 1) fn) = vals (tab n fn) ++ [.int .i64 (fn n)] := by
  unfold vals tab
  rw [List.range_succ, List.map_append, List.map_append]; rfl

def RTakenPost (w : World) (l1 l2 : List Int) (n : Nat) (e : Ending) (w' : World) : Prop :=
  Below w.heap.size w w' ∧ ((∃ i, short l1 l2 n 0 = some i ∧ e = .returned (.tuple #[.slice none 0 0, .int .i64 i, .int .i64 20])) ∨
    (short l1 l2 n 0 = none ∧ ∃ v, e = .returned (.tuple #[v, .int .i64 0, .int .i64 0]) ∧ w'.ownsRow w.heap.size 3 1 v n (vals (tab n (minus l1 l2)))))

end Go.Proofs.YtebndgepmjonoaaDoor

/-
  The reference's sums, what is lacking, how often.
-/
namespace Go.Proofs.YtebndgepmjonoaaDoor
open Go.RowKit Go.Maps

def RJoinPost (w : World) (l1 l2 : List Int) (n : Nat) (e : Ending) (w' : World) : Prop :=
  Below w.heap.size w w' ∧ ((over l1 l2 n 0 = true ∧ e = .returned (.tuple #[.slice none 0 0, .int .i64 8])) ∨
    (over l1 l2 n 0 = false ∧ ∃ v, e = .returned (.tuple #[v, .int .i64 0]) ∧ w'.ownsRow w.heap.size 3 1 v n (vals (tab n (plus l1 l2)))))
def RLackPost (w : World) (l1 l2 : List Int) (n : Nat) (e : Ending) (w' : World) : Prop :=
  Below w.heap.size w w' ∧ ∃ v, e = .returned v ∧ w'.ownsRow w.heap.size 3 1 v n (vals (tab n (lack l1 l2)))

set_option maxRecDepth 100000 in
theorem total_any (b : Option Addr) (l : List Int) (d n : Nat) (w : World) (hn : n ≤ 120) (hX : IntsAt w b l) (h : OkC n l) :
    Calls Tryd.prog 44 #[.slice b l.length d] w fun e w' => e = .returned (.int .i64 (sumOf l)) ∧ Drew w w' := by
  have HK := Lib.hid h
  have HL := Lib.hid h.1
  clear h
  go_enter Tryd.func44, Tryd.ntmps44
  go_wp2_with fail
  go_loopw [3, 4] (fun t i wr => ∃ k : Nat, k ≤ l.length ∧ i = .int .i64 k ∧ t = .int .i64 (sumTo (fun j => l.getD j 0) k) ∧ Drew w wr) (fun _ i _ => l.length - (intOf i).toNat)
  case atStart => exact ⟨0, Nat.zero_le _, rfl, rfl, Drew.refl _⟩
  case round =>
    obtain ⟨k, hk, rfl, rfl, hD⟩ := hrel
    by_cases hlt : k < l.length
    · obtain ⟨p1, rfl, hp1, hc1⟩ := (hD.ints hX).at_ hlt
      have hv1 := HK.out.2 k (by have := HL.out; omega)
      have hsb := sumTo_bd (f := fun j => l.getD j 0) (lo := 0) (hi := 1000000) (k := k) (fun i hi => HK.out.2 i (by have := HL.out; omega))
      have hst := Lib.hid (show sumTo (fun j => l.getD j 0) (k + 1) = sumTo (fun j => l.getD j 0) k + l.getD k 0 from rfl)
      generalize sumTo (fun j => l.getD j 0) k = s at hsb hst
      generalize l.getD k 0 = x at hc1 hv1 hst
      have hkl : (k : Int) < (l.length : Int) := by omega
      have hk120 : (k : Int) ≤ 120 := by have := HL.out; omega
      go_wp2_with fail
      go_roundw
      case rel => exact ⟨k + 1, by omega, by go_num, by rw [hst.out], hD⟩
      case measure => simp [intOf]; omega
    · have hk2 : k = l.length := by omega
      subst hk2
      go_wp2
      go_ret
      exact ⟨rfl, hD⟩

theorem sum_zero_iff {l1 l2 : List Int} {n : Nat} (h1 : OkC n l1) (h2 : OkC n l2) : (sumOf l2 = 0 → (timesN l1 l2 n).1 < 0) ∧ (sumOf l2 ≠ 0 → 0 ≤ (timesN l1 l2 n).1) := by
  have sp := timesN_spec h1.2 (fun j hj => (h2.2 j hj).1) n (Nat.le_refl _)
  constructor
  · intro hs
    rcases sp with ⟨h, _⟩ | ⟨s, q, e, a1, a2, _⟩
    · exact h
    · have := sumTo_le (f := fun j => l2.getD j 0) (n := l2.length) (fun i hi => (h2.2 i (by have := h2.1; omega)).1) s (by have := h2.1; omega)
      have hs' : sumTo (fun j => l2.getD j 0) l2.length = 0 := hs
      have a2' : 0 < (fun j => l2.getD j 0) s := a2
      omega
  · intro hs
    rcases sp with ⟨h, h0⟩ | ⟨s, q, e, a1, a2, a3, _⟩
    · exfalso
      apply hs
      unfold sumOf
      rw [h2.1, sumTo_congr (g := fun _ => 0) (fun i hi => h0 i hi)]
      have : ∀ n, sumTo (fun _ => 0) n = 0 := by
        intro n
        induction n with
        | zero => rfl
        | succ n ih => show sumTo _ n + 0 = 0; rw [ih]; rfl
      exact this _
    · rw [e]; exact a3

end Go.Proofs.YtebndgepmjonoaaDoor
