/-
  Package impose: what is true of all leaves of a pile; the scheme of folds, told.
-/
import Derived.Test.YtccfcdhnplodgaaGreatDoorIO
namespace Go.Proofs.YtccfcdhnplodgaaGreatDoor
open Go.RowKit

theorem outF_all {Q : Leaf → Prop} (hQ : ∀ o t x, Q x → Q (turnX o t x)) {C R C' R' : Nat} {f : Fold} {P : List (List Leaf)} (h : ∀ x ∈ P, ∀ y ∈ x, Q y) : ∀ x ∈ outF C R C' R' f P, ∀ y ∈ x, Q y := by
  have hg : ∀ k, ∀ y ∈ P.getD k [], Q y := fun k y hy => by
    rw [List.getD_eq_getElem?_getD] at hy
    cases he : P[k]? with
    | none => rw [he] at hy; cases hy
    | some x => rw [he] at hy; exact h x (List.mem_of_getElem? he) y hy
  have ht : ∀ o t k, ∀ y ∈ turnL o t (P.getD k []), Q y := fun o t k y hy => by
    have hy : y ∈ (P.getD k []).map (turnX o t) := by unfold turnL at hy; split at hy <;> simpa using hy
    obtain ⟨z, hz, rfl⟩ := List.mem_map.1 hy
    exact hQ _ _ _ (hg k z hz)
  intro x hx y hy
  obtain ⟨j, _, rfl⟩ := List.mem_map.1 hx
  unfold placeF at hy
  rcases List.mem_append.1 hy with hy | hy
  · split at hy
    · cases hy
    · exact ht _ _ _ y hy
  · split at hy
    · cases hy
    · exact ht _ _ _ y hy
theorem runF_all {Q : Leaf → Prop} (hQ : ∀ o t x, Q x → Q (turnX o t x)) : ∀ (L : List Fold) (C R : Nat) (P : List (List Leaf)), (∀ x ∈ P, ∀ y ∈ x, Q y) → ∀ x ∈ (runF C R P L).2.2, ∀ y ∈ x, Q y
  | [], _, _, _, h => h
  | _ :: L, _, _, _, h => runF_all hQ L _ _ _ (outF_all hQ h)
theorem pileP_all {Q : Leaf → Prop} (hQ : ∀ o t x, Q x → Q (turnX o t x)) {C R : Int} {L : List Fold} (h : ∀ x ∈ flatP C.toNat (C.toNat * R.toNat), ∀ y ∈ x, Q y) : ∀ y ∈ pileP C R L, Q y := by
  intro y hy
  unfold pileP at hy
  rw [List.getD_eq_getElem?_getD] at hy
  cases he : (runF C.toNat R.toNat (flatP C.toNat (C.toNat * R.toNat)) L).2.2[0]? with
  | none => rw [he] at hy; cases hy
  | some x => rw [he] at hy; exact runF_all hQ L _ _ _ h x (List.mem_of_getElem? he) y hy
/-- A leaf of a sheet. -/
def LeafIn (C R : Int) (x : Leaf) : Prop := (0 ≤ x.c ∧ x.c < C) ∧ (0 ≤ x.r ∧ x.r < R) ∧ LeafBits x
theorem pileP_in {C R : Int} {L : List Fold} (hC : 1 ≤ C) (hR : 1 ≤ R) : ∀ y ∈ pileP C R L, LeafIn C R y := by
  refine pileP_all (fun o t x hx => ⟨hx.1, hx.2.1, xr_bit _ _, xr_bit _ _⟩) ?_
  intro x hx y hy
  obtain ⟨j, hj, rfl⟩ := List.mem_map.1 hx
  rw [List.mem_singleton.1 hy]
  have hj : j < C.toNat * R.toNat := by simpa using hj
  have h1 : j % C.toNat < C.toNat := Nat.mod_lt _ (by omega)
  have h2 : j / C.toNat < R.toNat := Nat.div_lt_of_lt_mul hj
  unfold LeafIn leafAt
  simp only
  generalize j % C.toNat = u at *
  generalize j / C.toNat = v at *
  exact ⟨by omega, by omega, Or.inl rfl, Or.inl rfl⟩
/-- How many leaves there are stays so. -/
theorem runF_sum : ∀ (L : List Fold) (C R : Nat) (P : List (List Leaf)) (i : Int), (1 ≤ C ∧ C ≤ 8) → (1 ≤ R ∧ R ≤ 8) → PileOk C R P → (foldsErr C R L i).2 = 0 → sumL (runF C R P L).2.2 = sumL P ∧ (runF C R P L).2.2.length = 1
  | [], C, R, P, i, hC, hR, hP, h => by
    refine ⟨rfl, ?_⟩
    have h1 : ¬ 1 < (C : Int) * R := fun h1 => by
      have e : foldsErr C R [] i = (i, 25) := by show (if _ then _ else _) = _; rw [if_pos h1]
      rw [e] at h; simp at h
    have h2 := hP.len
    have h3 : C * R ≤ 1 := by
      have : ((C * R : Nat) : Int) ≤ 1 := by push_cast; omega
      omega
    have h4 : 1 * 1 ≤ C * R := Nat.mul_le_mul hC.1 hR.1
    show P.length = 1
    omega
  | f :: L, C, R, P, i, hC, hR, hP, h => by
    obtain ⟨h1, h2⟩ := foldsErr_ok (L := f :: L) (k := 0) (Nat.succ_pos _) h
    have h1 : foldErr C R f = 0 := h1
    have ha := after_ok (C := (C : Int)) (R := (R : Int)) (f := f) (by omega) (by omega) h1
    obtain ⟨C2, hC2⟩ : ∃ n : Nat, afterC C f = n := ⟨(afterC C f).toNat, by omega⟩
    obtain ⟨R2, hR2⟩ : ∃ n : Nat, afterR R f = n := ⟨(afterR R f).toNat, by omega⟩
    have h2 : (foldsErr (afterC C f) (afterR R f) L (i + 1)).2 = 0 := h2
    rw [hC2, hR2] at h2 ha
    have hr : runF C R P (f :: L) = runF C2 R2 (outF C R C2 R2 f P) L := by
      show runF (afterC C f).toNat (afterR R f).toNat (outF C R (afterC C f).toNat (afterR R f).toNat f P) L = _
      rw [hC2, hR2, Int.toNat_natCast, Int.toNat_natCast]
    rw [hr]
    have ih := runF_sum L C2 R2 (outF C R C2 R2 f P) (i + 1) (by omega) (by omega) (hP.fold hC hR h1 hC2 hR2) h2
    refine ⟨ih.1.trans ?_, ih.2⟩
    rw [← accF_out hC hR h1 hC2 hR2, accF_sum hC hR h1 hC2 hR2 hP.len _ (Nat.le_refl _), List.take_of_length_le (by rw [hP.len]; exact Nat.le_refl _)]
theorem pileP_len {C R : Int} {L : List Fold} (h : (checkFo C R L).2 = 0) : (pileP C R L).length = C.toNat * R.toNat := by
  obtain ⟨hs, _, hf⟩ := checkFo_ok h
  obtain ⟨sC, sR, _⟩ := side_ok hs
  obtain ⟨cn, rfl⟩ : ∃ n : Nat, C = n := ⟨C.toNat, by omega⟩
  obtain ⟨rn, rfl⟩ : ∃ n : Nat, R = n := ⟨R.toNat, by omega⟩
  have := runF_sum L cn rn (flatP cn (cn * rn)) 0 (by omega) (by omega) (PileOk.flat (by omega) (by omega)) hf
  rw [sumL_flat] at this
  unfold pileP
  rw [Int.toNat_natCast, Int.toNat_natCast]
  obtain ⟨x, hx⟩ := List.length_eq_one_iff.1 this.2
  rw [hx] at this ⊢
  have h1 : x.length + 0 = cn * rn := this.1
  show x.length = _
  omega
/-- The cell of the i-th leaf of a pile. -/
def cellP (i : Nat) (x : Leaf) : Cell := if x.o = 1 then ⟨2 * i + 2, x.t, 2 * i + 1, x.t⟩ else ⟨2 * i + 1, x.t, 2 * i + 2, x.t⟩
/-- The cells when the first i leaves have been laid. -/
def cellsP (C : Int) (N : Nat) (l : List Leaf) : Nat → List Cell
  | 0 => List.replicate N ⟨0, 0, 0, 0⟩
  | i + 1 => (cellsP C N l i).set (((l.getD i default).r * C + (l.getD i default).c).toNat) (cellP i (l.getD i default))
theorem cellsP_len (C : Int) (N : Nat) (l : List Leaf) : ∀ i, (cellsP C N l i).length = N
  | 0 => by simp [cellsP]
  | i + 1 => by unfold cellsP; rw [List.length_set]; exact cellsP_len C N l i
def schemeP (C R : Int) (L : List Fold) : List Cell := cellsP C (C.toNat * R.toNat) (pileP C R L) (pileP C R L).length
end Go.Proofs.YtccfcdhnplodgaaGreatDoor
