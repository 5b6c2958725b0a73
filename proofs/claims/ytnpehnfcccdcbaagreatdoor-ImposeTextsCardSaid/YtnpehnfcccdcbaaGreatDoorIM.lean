/-
  Package impose: what a fold makes of the places, place by place. No program is walked here.
-/
import Derived.Test.YtnpehnfcccdcbaaGreatDoorIL
namespace Go.Proofs.YtnpehnfcccdcbaaGreatDoor
open Go.RowKit

theorem pair_eq {n a b x y : Nat} (ha : a < n) (hb : b < n) : x * n + a = y * n + b ↔ x = y ∧ a = b := by
  constructor
  · intro h
    have h1 : (x * n + a) / n = (y * n + b) / n := by rw [h]
    have h2 : (x * n + a) % n = (y * n + b) % n := by rw [h]
    rw [Nat.mul_comm x, Nat.mul_comm y, Nat.mul_add_div (by omega), Nat.mul_add_div (by omega), Nat.div_eq_of_lt ha, Nat.div_eq_of_lt hb] at h1
    rw [Nat.mul_comm x, Nat.mul_comm y, Nat.mul_add_mod, Nat.mul_add_mod, Nat.mod_eq_of_lt ha, Nat.mod_eq_of_lt hb] at h2
    exact ⟨by omega, h2⟩
  · rintro ⟨rfl, rfl⟩; rfl
/-- The place that stays at a place, and the one that is laid over it. -/
def plainS (C R : Nat) (f : Fold) (c r : Nat) : Option (Nat × Nat) :=
  if f.k = 1 then some (c, r) else if f.k = 2 then some (f.c.toNat + c, r) else if f.k = 3 then some (c, r) else if f.k = 4 then some (c, f.c.toNat + r) else if f.k = 5 then none else some (C - 1 - c, R - 1 - r)
def overS (C R : Nat) (f : Fold) (c r : Nat) : Option (Nat × Nat) :=
  if f.k = 1 then (if 2 * (C - f.c.toNat) - 1 - c < C then some (2 * (C - f.c.toNat) - 1 - c, r) else none)
  else if f.k = 2 then (if c < f.c.toNat then some (f.c.toNat - 1 - c, r) else none)
  else if f.k = 3 then (if 2 * (R - f.c.toNat) - 1 - r < R then some (c, 2 * (R - f.c.toNat) - 1 - r) else none)
  else if f.k = 4 then (if r < f.c.toNat then some (c, f.c.toNat - 1 - r) else none)
  else if f.k = 5 then some (C - 1 - c, r) else none
def numS (C n : Nat) : Option (Nat × Nat) → Nat
  | none => n
  | some x => x.2 * C + x.1
def overT (f : Fold) : Int := if f.k = 3 ∨ f.k = 4 then 1 else 0
def plainT (f : Fold) : Int := if f.k = 6 then 1 else 0
/-- The leaves of a place behind a fold. -/
def placeF (C R : Nat) (f : Fold) (P : List (List Leaf)) (c r : Nat) : List Leaf :=
  (match overS C R f c r with | none => [] | some x => turnL 1 (overT f) (P.getD (x.2 * C + x.1) [])) ++ (match plainS C R f c r with | none => [] | some x => turnL 0 (plainT f) (P.getD (x.2 * C + x.1) []))
/-- Where the places of a fold come to: they are just these two. -/
theorem way_src {C R : Nat} {f : Fold} {C' R' c' r' sc sr : Nat} (hC : 1 ≤ C ∧ C ≤ 8) (hR : 1 ≤ R ∧ R ≤ 8) (h : foldErr C R f = 0) (hC' : afterC C f = C') (hR' : afterR R f = R') (hc : c' < C') (hr : r' < R') (hsc : sc < C) (hsr : sr < R) :
    (((wayOf C R f sc sr).c = c' ∧ (wayOf C R f sc sr).r = r') ↔ (plainS C R f c' r' = some (sc, sr) ∨ overS C R f c' r' = some (sc, sr))) ∧
    (plainS C R f c' r' = some (sc, sr) → (wayOf C R f sc sr).o = 0 ∧ (wayOf C R f sc sr).t = plainT f) ∧
    (overS C R f c' r' = some (sc, sr) → (wayOf C R f sc sr).o = 1 ∧ (wayOf C R f sc sr).t = overT f) := by
  obtain ⟨a, b, d, e, g, i⟩ := fold_ok (by omega) (by omega) h
  obtain ⟨k, qi⟩ := f
  have a : 1 ≤ k ∧ k ≤ 6 := a
  have b : 0 ≤ qi ∧ qi ≤ 4 := b
  have d : k ≤ 4 → 1 ≤ qi := d
  have e : 5 ≤ k → qi = 0 := e
  have g : k ≤ 2 → 2 * qi ≤ C := g
  have i : 3 ≤ k → k ≤ 4 → 2 * qi ≤ R := i
  obtain ⟨q, rfl⟩ : ∃ q : Nat, qi = q := ⟨qi.toNat, by omega⟩
  have h6 : k = 1 ∨ k = 2 ∨ k = 3 ∨ k = 4 ∨ k = 5 ∨ k = 6 := by omega
  rcases h6 with rfl | rfl | rfl | rfl | rfl | rfl
  all_goals
    simp [afterC, afterR] at hC' hR'
    simp only [wayOf, plainS, overS, laidT, laidO, overT, plainT]
    simp
  all_goals first
    | (constructor <;> intro h <;> omega)
    | (constructor
       · constructor
         · intro h
           repeat' split at h
           all_goals repeat' split
           all_goals first | omega | (simp; omega)
         · intro h
           repeat' split at h
           all_goals repeat' split
           all_goals first | omega | (simp at h; omega)
       · constructor
         · intro h1 h2
           repeat' split
           all_goals omega
         · intro h
           repeat' split at h
           all_goals repeat' split
           all_goals first | omega | (simp at h; omega) | simp at h)

theorem src_in {C R : Nat} {f : Fold} {C' R' c' r' : Nat} (hC : 1 ≤ C ∧ C ≤ 8) (hR : 1 ≤ R ∧ R ≤ 8) (h : foldErr C R f = 0) (hC' : afterC C f = C') (hR' : afterR R f = R') (hc : c' < C') (hr : r' < R') :
    (∀ x, plainS C R f c' r' = some x → x.1 < C ∧ x.2 < R) ∧ (∀ x, overS C R f c' r' = some x → x.1 < C ∧ x.2 < R) ∧ (plainS C R f c' r' ≠ none ∨ overS C R f c' r' ≠ none) := by
  obtain ⟨a, b, d, e, g, i⟩ := fold_ok (by omega) (by omega) h
  obtain ⟨k, qi⟩ := f
  have a : 1 ≤ k ∧ k ≤ 6 := a
  have b : 0 ≤ qi ∧ qi ≤ 4 := b
  have d : k ≤ 4 → 1 ≤ qi := d
  have e : 5 ≤ k → qi = 0 := e
  have g : k ≤ 2 → 2 * qi ≤ C := g
  have i : 3 ≤ k → k ≤ 4 → 2 * qi ≤ R := i
  obtain ⟨q, rfl⟩ : ∃ q : Nat, qi = q := ⟨qi.toNat, by omega⟩
  have h6 : k = 1 ∨ k = 2 ∨ k = 3 ∨ k = 4 ∨ k = 5 ∨ k = 6 := by omega
  rcases h6 with rfl | rfl | rfl | rfl | rfl | rfl
  all_goals
    simp [afterC, afterR] at hC' hR'
    simp only [plainS, overS]
    simp
  all_goals first
    | omega
    | (refine ⟨by omega, fun a b => ?_⟩
       split
       · intro h; simp at h; omega
       · intro h; simp at h)
/-- What lies at a place when the first m places have been brought over. -/
def partF (C R : Nat) (f : Fold) (P : List (List Leaf)) (c r m : Nat) : List Leaf :=
  (match overS C R f c r with | none => [] | some x => if x.2 * C + x.1 < m then turnL 1 (overT f) (P.getD (x.2 * C + x.1) []) else []) ++ (match plainS C R f c r with | none => [] | some x => if x.2 * C + x.1 < m then turnL 0 (plainT f) (P.getD (x.2 * C + x.1) []) else [])
theorem accF_at {C R C' R' : Nat} {f : Fold} {P : List (List Leaf)} (hC : 1 ≤ C ∧ C ≤ 8) (hR : 1 ≤ R ∧ R ≤ 8) (h : foldErr C R f = 0) (hC' : afterC C f = C') (hR' : afterR R f = R') {c r : Nat} (hc : c < C') (hr : r < R') :
    ∀ m, m ≤ C * R → (accF C R C' R' f P m).getD (r * C' + c) [] = partF C R f P c r m := by
  intro m
  induction m with
  | zero =>
    intro _
    have : (accF C R C' R' f P 0).getD (r * C' + c) [] = [] := by
      unfold accF
      rw [List.getD_eq_getElem?_getD, List.range_zero, List.foldl_nil, List.getElem?_replicate]
      split <;> rfl
    rw [this]; unfold partF
    cases overS C R f c r <;> cases plainS C R f c r <;> simp
  | succ m ih =>
    intro hm
    obtain ⟨mc, mr, hmC, hmR, hme⟩ : ∃ mc mr, mc < C ∧ mr < R ∧ mr * C + mc = m :=
      ⟨m % C, m / C, Nat.mod_lt _ (by omega), Nat.div_lt_of_lt_mul (by omega), by rw [Nat.mul_comm]; exact Nat.div_add_mod m C⟩
    obtain ⟨w1, w2, w3⟩ := way_src hC hR h hC' hR' hc hr hmC hmR
    have hwo := way_ok (C := C) (R := R) (f := f) (c := (mc : Int)) (r := (mr : Int)) (by omega) (by omega) h (by omega) (by omega)
    rw [hC', hR'] at hwo
    obtain ⟨q, hq⟩ : ∃ q, q = wayOf C R f (mc : Int) (mr : Int) := ⟨_, rfl⟩
    rw [← hq] at w1 w2 w3 hwo
    obtain ⟨qc, qr, qo, qt⟩ := q
    obtain ⟨⟨o1, o2⟩, ⟨o3, o4⟩, o5, o6⟩ := hwo
    have o1 : 0 ≤ qc := o1
    have o2 : qc < C' := o2
    have o3 : 0 ≤ qr := o3
    have o4 : qr < R' := o4
    obtain ⟨uc, rfl⟩ : ∃ u : Nat, qc = u := ⟨qc.toNat, by omega⟩
    obtain ⟨ur, rfl⟩ : ∃ u : Nat, qr = u := ⟨qr.toNat, by omega⟩
    have w1 : ((uc : Int) = c ∧ (ur : Int) = r) ↔ _ := w1
    have w2 : _ → qo = 0 ∧ qt = plainT f := w2
    have w3 : _ → qo = 1 ∧ qt = overT f := w3
    have huc2 : uc < C' := by omega
    have hur2 : ur < R' := by omega
    rw [accF_succ, stepF_eq (C' := C') (j := ur * C' + uc) (P := P) (acc := accF C R C' R' f P m) hme hmC hq (by push_cast; rfl)]
    have hlen := accF_len C R C' R' f P m
    have hjl : r * C' + c < C' * R' := mul_lt hr hc
    have hul : ur * C' + uc < C' * R' := mul_lt hur2 huc2
    have ih := ih (by omega)
    have hnum : ∀ x : Nat × Nat, x.1 < C → (x.2 * C + x.1 = m ↔ x = (mc, mr)) := fun x hx => by
      have := pair_eq (x := x.2) (y := mr) hx hmC
      rw [hme] at this
      rw [this]
      constructor
      · rintro ⟨e1, e2⟩; exact Prod.ext e2 e1
      · rintro rfl; exact ⟨rfl, rfl⟩
    obtain ⟨s1, s2, _⟩ := src_in hC hR h hC' hR' hc hr
    have hju : ur * C' + uc = r * C' + c ↔ ((uc : Int) = c ∧ (ur : Int) = r) := by
      rw [pair_eq huc2 hc]
      constructor
      · rintro ⟨rfl, rfl⟩; exact ⟨rfl, rfl⟩
      · rintro ⟨e1, e2⟩; exact ⟨by omega, by omega⟩
    rw [List.getD_eq_getElem?_getD, List.getElem?_set]
    by_cases hd : ur * C' + uc = r * C' + c
    · rw [if_pos hd, if_pos (by rw [hlen]; omega), hd, ih, Option.getD_some]
      unfold partF
      rcases w1.1 (hju.1 hd) with hp | ho
      · have g1 := w2 hp
        rw [hp]
        simp only [hme]
        rw [if_neg (by omega), if_neg (by omega), if_pos (by omega), g1.1, g1.2]
        cases hov : overS C R f c r with
        | none => simp
        | some x =>
          have hx := s2 x hov
          have hne : x.2 * C + x.1 ≠ m := fun e => by
            have := (hnum x hx.1).1 e
            rw [this] at hov
            have := (w3 hov).1
            omega
          simp only []
          by_cases hlt : x.2 * C + x.1 < m
          · rw [if_pos hlt, if_pos (by omega)]; simp
          · rw [if_neg hlt, if_neg (by omega)]; simp
      · have g1 := w3 ho
        rw [ho]
        simp only [hme]
        rw [if_pos g1.1, if_neg (by omega), if_pos (by omega), g1.1, g1.2]
        cases hov : plainS C R f c r with
        | none => simp
        | some x =>
          have hx := s1 x hov
          have hne : x.2 * C + x.1 ≠ m := fun e => by
            have := (hnum x hx.1).1 e
            rw [this] at hov
            have := (w2 hov).1
            omega
          simp only []
          by_cases hlt : x.2 * C + x.1 < m
          · rw [if_pos hlt, if_pos (by omega)]; simp
          · rw [if_neg hlt, if_neg (by omega)]; simp
    · rw [if_neg hd, ← List.getD_eq_getElem?_getD, ih]
      have hno : ∀ x : Nat × Nat, (plainS C R f c r = some x ∨ overS C R f c r = some x) → x.1 < C → x.2 * C + x.1 ≠ m := fun x hx hx1 e => by
        have := (hnum x hx1).1 e
        rw [this] at hx
        exact hd (hju.2 (w1.2 hx))
      unfold partF
      congr 1
      · cases hov : overS C R f c r with
        | none => rfl
        | some x =>
          have := hno x (Or.inr hov) (s2 x hov).1
          simp only []
          by_cases hlt : x.2 * C + x.1 < m
          · rw [if_pos hlt, if_pos (by omega)]
          · rw [if_neg hlt, if_neg (by omega)]
      · cases hov : plainS C R f c r with
        | none => rfl
        | some x =>
          have := hno x (Or.inl hov) (s1 x hov).1
          simp only []
          by_cases hlt : x.2 * C + x.1 < m
          · rw [if_pos hlt, if_pos (by omega)]
          · rw [if_neg hlt, if_neg (by omega)]
end Go.Proofs.YtnpehnfcccdcbaaGreatDoor
