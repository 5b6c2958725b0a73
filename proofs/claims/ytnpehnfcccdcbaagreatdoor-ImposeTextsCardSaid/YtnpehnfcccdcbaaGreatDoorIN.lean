/-
  Package impose: piles that are right stay so; Pile.
-/
import Derived.Test.YtnpehnfcccdcbaaGreatDoorIM
namespace Go.Proofs.YtnpehnfcccdcbaaGreatDoor
open Go.RowKit

def outF (C R C' R' : Nat) (f : Fold) (P : List (List Leaf)) : List (List Leaf) := (List.range (C' * R')).map fun j => placeF C R f P (j % C') (j / C')
theorem partF_end {C R : Nat} {f : Fold} {P : List (List Leaf)} {c r : Nat} (h1 : ∀ x, plainS C R f c r = some x → x.1 < C ∧ x.2 < R) (h2 : ∀ x, overS C R f c r = some x → x.1 < C ∧ x.2 < R) : partF C R f P c r (C * R) = placeF C R f P c r := by
  unfold partF placeF
  congr 1
  · cases h : overS C R f c r with
    | none => rfl
    | some x => simp only []; rw [if_pos (mul_lt (h2 x h).2 (h2 x h).1)]
  · cases h : plainS C R f c r with
    | none => rfl
    | some x => simp only []; rw [if_pos (mul_lt (h1 x h).2 (h1 x h).1)]
section
variable {C R C' R' : Nat} {f : Fold} {P : List (List Leaf)}
theorem accF_out (hC : 1 ≤ C ∧ C ≤ 8) (hR : 1 ≤ R ∧ R ≤ 8) (h : foldErr C R f = 0) (hC' : afterC C f = C') (hR' : afterR R f = R') : accF C R C' R' f P (C * R) = outF C R C' R' f P := by
  have ha := after_ok (C := (C : Int)) (R := (R : Int)) (f := f) (by omega) (by omega) h
  rw [hC', hR'] at ha
  apply List.ext_getElem
  · rw [accF_len]; simp [outF]
  · intro j h1 h2
    have hj : j < C' * R' := by rw [accF_len] at h1; exact h1
    obtain ⟨c, r, hc, hr, he⟩ : ∃ c r, c < C' ∧ r < R' ∧ r * C' + c = j := ⟨j % C', j / C', Nat.mod_lt _ (by omega), Nat.div_lt_of_lt_mul hj, by rw [Nat.mul_comm]; exact Nat.div_add_mod j C'⟩
    obtain ⟨s1, s2, _⟩ := src_in hC hR h hC' hR' hc hr
    have e := accF_at (P := P) hC hR h hC' hR' hc hr (C * R) (Nat.le_refl _)
    rw [he, partF_end s1 s2, List.getD_eq_getElem?_getD, List.getElem?_eq_getElem h1, Option.getD_some] at e
    rw [e]
    have e1 : j % C' = c := by rw [← he, Nat.mul_comm, Nat.mul_add_mod, Nat.mod_eq_of_lt hc]
    have e2 : j / C' = r := by rw [← he, Nat.mul_comm, Nat.mul_add_div (by omega), Nat.div_eq_of_lt hc, Nat.add_zero]
    simp [outF, e1, e2]
theorem outF_at {c r : Nat} (hc : c < C') (hr : r < R') : (outF C R C' R' f P).getD (r * C' + c) [] = placeF C R f P c r := by
  have e1 : (r * C' + c) % C' = c := by rw [Nat.mul_comm, Nat.mul_add_mod, Nat.mod_eq_of_lt hc]
  have e2 : (r * C' + c) / C' = r := by rw [Nat.mul_comm, Nat.mul_add_div (by omega), Nat.div_eq_of_lt hc, Nat.add_zero]
  have hl : r * C' + c < (outF C R C' R' f P).length := by simp [outF]; exact mul_lt hr hc
  rw [List.getD_eq_getElem?_getD, List.getElem?_eq_getElem hl, Option.getD_some]
  simp [outF, e1, e2]
theorem outF_len : (outF C R C' R' f P).length = C' * R' := by simp [outF]
/-- A right pile. -/
structure PileOk (C R : Nat) (P : List (List Leaf)) : Prop where
  len : P.length = C * R
  pos : ∀ x ∈ P, 0 < x.length
  sum : sumL P ≤ 1000
  bits : ∀ x ∈ P, ∀ y ∈ x, LeafBits y
theorem accF_sum (hC : 1 ≤ C ∧ C ≤ 8) (hR : 1 ≤ R ∧ R ≤ 8) (h : foldErr C R f = 0) (hC' : afterC C f = C') (hR' : afterR R f = R') (hP : P.length = C * R) : ∀ m, m ≤ C * R → sumL (accF C R C' R' f P m) = sumL (P.take m) := by
  intro m
  induction m with
  | zero => intro _; unfold accF; rw [List.range_zero, List.foldl_nil, sumL_rep]; rfl
  | succ m ih =>
    intro hm
    obtain ⟨mc, mr, hmC, hmR, hme⟩ : ∃ mc mr, mc < C ∧ mr < R ∧ mr * C + mc = m :=
      ⟨m % C, m / C, Nat.mod_lt _ (by omega), Nat.div_lt_of_lt_mul (by omega), by rw [Nat.mul_comm]; exact Nat.div_add_mod m C⟩
    have hwo := way_ok (C := C) (R := R) (f := f) (c := (mc : Int)) (r := (mr : Int)) (by omega) (by omega) h (by omega) (by omega)
    rw [hC', hR'] at hwo
    obtain ⟨q, hq⟩ : ∃ q, q = wayOf C R f (mc : Int) (mr : Int) := ⟨_, rfl⟩
    rw [← hq] at hwo
    obtain ⟨qc, qr, qo, qt⟩ := q
    obtain ⟨⟨o1, o2⟩, ⟨o3, o4⟩, o5, o6⟩ := hwo
    have o1 : 0 ≤ qc := o1
    have o2 : qc < C' := o2
    have o3 : 0 ≤ qr := o3
    have o4 : qr < R' := o4
    obtain ⟨uc, rfl⟩ : ∃ u : Nat, qc = u := ⟨qc.toNat, by omega⟩
    obtain ⟨ur, rfl⟩ : ∃ u : Nat, qr = u := ⟨qr.toNat, by omega⟩
    have hul : ur * C' + uc < (accF C R C' R' f P m).length := by rw [accF_len]; exact mul_lt (by omega) (by omega)
    rw [accF_succ, stepF_eq (C' := C') (j := ur * C' + uc) (P := P) (acc := accF C R C' R' f P m) hme hmC hq (by push_cast; rfl)]
    have h1 := ih (by omega)
    have h2 := sumL_take (L := P) (k := m) (by omega)
    have h3 := getD_in (L := accF C R C' R' f P m) [] hul
    have h4 := getD_in (L := P) (k := m) [] (by omega)
    rw [h3, h4]
    split
    · have := sumL_set hul (turnL qo qt P[m] ++ (accF C R C' R' f P m)[ur * C' + uc])
      rw [List.length_append, turnL_len] at this
      omega
    · have := sumL_set hul ((accF C R C' R' f P m)[ur * C' + uc] ++ turnL qo qt P[m])
      rw [List.length_append, turnL_len] at this
      omega
theorem PileOk.fold (h0 : PileOk C R P) (hC : 1 ≤ C ∧ C ≤ 8) (hR : 1 ≤ R ∧ R ≤ 8) (h : foldErr C R f = 0) (hC' : afterC C f = C') (hR' : afterR R f = R') : PileOk C' R' (outF C R C' R' f P) := by
  have ha := after_ok (C := (C : Int)) (R := (R : Int)) (f := f) (by omega) (by omega) h
  rw [hC', hR'] at ha
  refine ⟨outF_len, ?_, ?_, ?_⟩
  · intro x hx
    obtain ⟨j, hj, rfl⟩ := List.mem_map.1 hx
    have hj : j < C' * R' := by simpa using hj
    have hc : j % C' < C' := Nat.mod_lt _ (by omega)
    have hr : j / C' < R' := Nat.div_lt_of_lt_mul hj
    obtain ⟨s1, s2, s3⟩ := src_in hC hR h hC' hR' hc hr
    have hpos : ∀ x : Nat × Nat, x.1 < C → x.2 < R → 0 < (P.getD (x.2 * C + x.1) []).length := fun x h1 h2 => by
      have hl : x.2 * C + x.1 < P.length := by rw [h0.len]; exact mul_lt h2 h1
      rw [getD_in [] hl]; exact h0.pos _ (List.getElem_mem hl)
    unfold placeF
    rw [List.length_append]
    rcases s3 with s3 | s3
    · cases hp : plainS C R f (j % C') (j / C') with
      | none => exact absurd hp s3
      | some x =>
        have := hpos x (s1 x hp).1 (s1 x hp).2
        simp only [turnL_len]; omega
    · cases hp : overS C R f (j % C') (j / C') with
      | none => exact absurd hp s3
      | some x =>
        have := hpos x (s2 x hp).1 (s2 x hp).2
        simp only [turnL_len]; omega
  · rw [← accF_out hC hR h hC' hR', accF_sum hC hR h hC' hR' h0.len _ (Nat.le_refl _)]
    exact Nat.le_trans (sumL_take_le P _) h0.sum
  · intro x hx y hy
    obtain ⟨j, hj, rfl⟩ := List.mem_map.1 hx
    unfold placeF at hy
    rcases List.mem_append.1 hy with hy | hy
    · split at hy
      · cases hy
      · exact turnL_bits y hy
    · split at hy
      · cases hy
      · exact turnL_bits y hy
theorem sumL_snoc (L : List (List Leaf)) (x : List Leaf) : sumL (L ++ [x]) = sumL L + x.length := by
  induction L with
  | nil => show x.length + 0 = 0 + _; omega
  | cons y L ih => show y.length + sumL (L ++ [x]) = y.length + sumL L + _; omega
theorem sumL_flat (C s : Nat) : sumL (flatP C s) = s := by
  induction s with
  | zero => rfl
  | succ s ih => rw [flatP_succ, sumL_snoc, ih]; rfl
theorem PileOk.flat (hC : 1 ≤ C ∧ C ≤ 8) (hR : 1 ≤ R ∧ R ≤ 8) : PileOk C R (flatP C (C * R)) := by
  have hm : C * R ≤ 8 * 8 := Nat.mul_le_mul hC.2 hR.2
  refine ⟨by simp [flatP], ?_, by rw [sumL_flat]; omega, ?_⟩
  · intro x hx
    obtain ⟨j, _, rfl⟩ := List.mem_map.1 hx
    exact Nat.one_pos
  · intro x hx y hy
    obtain ⟨j, _, rfl⟩ := List.mem_map.1 hx
    rw [List.mem_singleton.1 hy]
    exact ⟨Or.inl rfl, Or.inl rfl⟩
end
/-- A pile behind folds. -/
def runF : Nat → Nat → List (List Leaf) → List Fold → Nat × Nat × List (List Leaf)
  | C, R, P, [] => (C, R, P)
  | C, R, P, f :: L => runF (afterC C f).toNat (afterR R f).toNat (outF C R (afterC C f).toNat (afterR R f).toNat f P) L
/-- The pile of right folds. -/
def pileP (C R : Int) (L : List Fold) : List Leaf := (runF C.toNat R.toNat (flatP C.toNat (C.toNat * R.toNat)) L).2.2.getD 0 []
theorem runF_step {C R : Nat} {P : List (List Leaf)} {L : List Fold} {k : Nat} (hk : k < L.length) : runF C R P (L.drop k) = runF (afterC C L[k]).toNat (afterR R L[k]).toNat (outF C R (afterC C L[k]).toNat (afterR R L[k]).toNat L[k] P) (L.drop (k + 1)) := by
  rw [List.drop_eq_getElem_cons hk]; rfl
theorem runF_end {C R : Nat} {P : List (List Leaf)} {L : List Fold} {k : Nat} (hk : ¬ k < L.length) : runF C R P (L.drop k) = (C, R, P) := by
  rw [List.drop_of_length_le (by omega)]; rfl
/-- What is left of the test of folds behind some of them. -/
theorem foldsErr_ok {C R : Int} {L : List Fold} {k : Nat} {i : Int} (hk : k < L.length) (h : (foldsErr C R (L.drop k) i).2 = 0) : foldErr C R L[k] = 0 ∧ (foldsErr (afterC C L[k]) (afterR R L[k]) (L.drop (k + 1)) (i + 1)).2 = 0 := by
  rw [List.drop_eq_getElem_cons hk] at h
  by_cases he : foldErr C R L[k] = 0
  · refine ⟨he, ?_⟩
    have e : foldsErr C R (L[k] :: L.drop (k + 1)) i = foldsErr (afterC C L[k]) (afterR R L[k]) (L.drop (k + 1)) (i + 1) := by
      show (if _ then _ else _) = _
      rw [if_neg (by simp [he])]
    rw [← e]; exact h
  · exfalso
    have e : foldsErr C R (L[k] :: L.drop (k + 1)) i = (i, foldErr C R L[k]) := by
      show (if _ then _ else _) = _
      rw [if_pos he]
    rw [e] at h
    exact he h
theorem foldsErr_one {C R : Int} {L : List Fold} {k : Nat} {i : Int} (hk : ¬ k < L.length) (h : (foldsErr C R (L.drop k) i).2 = 0) : ¬ 1 < C * R := by
  rw [List.drop_of_length_le (by omega)] at h
  intro h1
  have e : foldsErr C R [] i = (i, 25) := by
    show (if _ then _ else _) = _
    rw [if_pos h1]
  rw [e] at h
  exact absurd h (by simp)
theorem checkFo_ok {C R : Int} {L : List Fold} (h : (checkFo C R L).2 = 0) : sideErr C R = 0 ∧ L.length ≤ 12 ∧ (foldsErr C R (L.drop 0) 0).2 = 0 := by
  unfold checkFo at h
  by_cases h1 : sideErr C R = 0
  · rw [if_neg (by simp [h1])] at h
    by_cases h2 : 12 < L.length
    · rw [if_pos h2] at h; exact absurd h (by simp)
    · rw [if_neg h2] at h; exact ⟨h1, by omega, h⟩
  · rw [if_pos h1] at h; exact absurd h h1
end Go.Proofs.YtnpehnfcccdcbaaGreatDoor
