/-
  Package impose: folds that undo each other; a sheet that is turned round. No program is walked here.
-/
import Derived.Test.YtccfcdhnplodgaaGreatDoorIO
namespace Go.Proofs.YtccfcdhnplodgaaGreatDoor
open Go.RowKit

def swapK (f : Fold) : Fold := ⟨if f.k = 1 then 2 else if f.k = 2 then 1 else if f.k = 3 then 4 else if f.k = 4 then 3 else f.k, f.c⟩
theorem xr_twice {a b : Int} (ha : Bit a) (hb : Bit b) : xr (xr a b) b = a := by
  rcases ha with rfl | rfl <;> rcases hb with rfl | rfl <;> rfl
theorem xr_comm {a b c : Int} (ha : Bit a) (hb : Bit b) (hc : Bit c) : xr (xr a b) c = xr (xr a c) b := by
  rcases ha with rfl | rfl <;> rcases hb with rfl | rfl <;> rcases hc with rfl | rfl <;> rfl
theorem turnX_twice {o t : Int} (ho : Bit o) (ht : Bit t) {x : Leaf} (hx : LeafBits x) : turnX o t (turnX o t x) = x := by
  unfold turnX; rw [xr_twice hx.1 ho, xr_twice hx.2 ht]
theorem turnX_comm {o t p s : Int} (ho : Bit o) (ht : Bit t) (hp : Bit p) (hs : Bit s) {x : Leaf} (hx : LeafBits x) : turnX o t (turnX p s x) = turnX p s (turnX o t x) := by
  unfold turnX; rw [xr_comm hx.1 hp ho, xr_comm hx.2 hs ht]
theorem turnL_twice {o t : Int} (ho : Bit o) (ht : Bit t) {X : List Leaf} (hX : ∀ x ∈ X, LeafBits x) : turnL o t (turnL o t X) = X := by
  have e : (X.map (turnX o t)).map (turnX o t) = X := by
    rw [List.map_map]
    conv => rhs; rw [← List.map_id X]
    exact List.map_congr_left fun x hx => turnX_twice ho ht (hX x hx)
  unfold turnL
  split
  · rw [List.map_reverse, List.reverse_reverse]; exact e
  · exact e
theorem turnL_comm {o t : Int} (ho : Bit o) (ht : Bit t) {X : List Leaf} (hX : ∀ x ∈ X, LeafBits x) : turnL 0 1 (turnL o t X) = turnL o t (turnL 0 1 X) := by
  have e : (X.map (turnX o t)).map (turnX 0 1) = (X.map (turnX 0 1)).map (turnX o t) := by
    rw [List.map_map, List.map_map]
    exact List.map_congr_left fun x hx => turnX_comm (Or.inl rfl) (Or.inr rfl) ho ht (hX x hx)
  have e0 : ∀ Y : List Leaf, turnL 0 1 Y = Y.map (turnX 0 1) := fun Y => by unfold turnL; rw [if_neg (by decide)]
  rw [e0, e0]
  unfold turnL
  split
  · rw [List.map_reverse, e]
  · exact e
theorem turnL_app (X Y : List Leaf) : turnL 0 1 (X ++ Y) = turnL 0 1 X ++ turnL 0 1 Y := by
  have e0 : ∀ Y : List Leaf, turnL 0 1 Y = Y.map (turnX 0 1) := fun Y => by unfold turnL; rw [if_neg (by decide)]
  rw [e0, e0, e0, List.map_append]
theorem turnL_nil (o t : Int) : turnL o t [] = [] := by unfold turnL; split <;> rfl
theorem getD_bits {C R : Nat} {P : List (List Leaf)} (h : PileOk C R P) (j : Nat) : ∀ x ∈ P.getD j [], LeafBits x := by
  intro x hx
  by_cases hj : j < P.length
  · rw [getD_in [] hj] at hx; exact h.bits _ (List.getElem_mem hj) x hx
  · rw [List.getD_eq_getElem?_getD, List.getElem?_eq_none (by omega)] at hx; cases hx
theorem overT_bit (f : Fold) : Bit (overT f) := by unfold overT Bit; split <;> omega
theorem plainT_bit (f : Fold) : Bit (plainT f) := by unfold plainT Bit; split <;> omega
/-- Two lists of places are equal if they are so place by place. -/
theorem places_ext {C R : Nat} {P Q : List (List Leaf)} (h1 : P.length = C * R) (h2 : Q.length = C * R) (h : ∀ c r, c < C → r < R → P.getD (r * C + c) [] = Q.getD (r * C + c) []) : P = Q := by
  apply List.ext_getElem (by rw [h1, h2])
  intro j hj1 hj2
  have hj : j < C * R := by rw [← h1]; exact hj1
  have hC : 0 < C := by
    rcases Nat.eq_zero_or_pos C with h0 | h0
    · rw [h0, Nat.zero_mul] at hj; omega
    · exact h0
  have := h (j % C) (j / C) (Nat.mod_lt _ hC) (Nat.div_lt_of_lt_mul hj)
  rw [show j / C * C + j % C = j by rw [Nat.mul_comm]; exact Nat.div_add_mod j C, getD_in [] hj1, getD_in [] hj2] at this
  exact this
theorem src5 (C R c r : Nat) : overS C R ⟨5, 0⟩ c r = some (C - 1 - c, r) ∧ plainS C R ⟨5, 0⟩ c r = none := by
  unfold overS plainS; simp
theorem src6 (C R c r : Nat) : overS C R ⟨6, 0⟩ c r = none ∧ plainS C R ⟨6, 0⟩ c r = some (C - 1 - c, R - 1 - r) := by
  unfold overS plainS; simp
theorem place5 (C R : Nat) (P : List (List Leaf)) (c r : Nat) : placeF C R ⟨5, 0⟩ P c r = turnL 1 0 (P.getD (r * C + (C - 1 - c)) []) := by
  unfold placeF; rw [(src5 C R c r).1, (src5 C R c r).2]; simp [overT]
theorem place6 (C R : Nat) (P : List (List Leaf)) (c r : Nat) : placeF C R ⟨6, 0⟩ P c r = turnL 0 1 (P.getD ((R - 1 - r) * C + (C - 1 - c)) []) := by
  unfold placeF; rw [(src6 C R c r).1, (src6 C R c r).2]; simp [plainT]
section
variable {C R : Nat} {P : List (List Leaf)}
theorem twice5 (h : PileOk C R P) : outF C R C R ⟨5, 0⟩ (outF C R C R ⟨5, 0⟩ P) = P := by
  refine places_ext outF_len h.len fun c r hc hr => ?_
  rw [outF_at hc hr, place5, outF_at (by omega) hr, place5, show C - 1 - (C - 1 - c) = c by omega, turnL_twice (Or.inr rfl) (Or.inl rfl) (getD_bits h _)]
theorem twice6 (h : PileOk C R P) : outF C R C R ⟨6, 0⟩ (outF C R C R ⟨6, 0⟩ P) = P := by
  refine places_ext outF_len h.len fun c r hc hr => ?_
  rw [outF_at hc hr, place6, outF_at (by omega) (by omega), place6, show C - 1 - (C - 1 - c) = c by omega, show R - 1 - (R - 1 - r) = r by omega, turnL_twice (Or.inl rfl) (Or.inr rfl) (getD_bits h _)]
end
theorem swap_err (C R : Int) (f : Fold) : foldErr C R (swapK f) = foldErr C R f ∧ afterC C (swapK f) = afterC C f ∧ afterR R (swapK f) = afterR R f := by
  obtain ⟨k, q⟩ := f
  by_cases h1 : k = 1
  · subst h1; simp [foldErr, afterC, afterR, swapK, alongI, inB]
  by_cases h2 : k = 2
  · subst h2; simp [foldErr, afterC, afterR, swapK, alongI, inB]
  by_cases h3 : k = 3
  · subst h3; simp [foldErr, afterC, afterR, swapK, alongI, inB]
  by_cases h4 : k = 4
  · subst h4; simp [foldErr, afterC, afterR, swapK, alongI, inB]
  simp [swapK, h1, h2, h3, h4]
theorem swap_t (f : Fold) : overT (swapK f) = overT f ∧ plainT (swapK f) = plainT f := by
  obtain ⟨k, q⟩ := f
  by_cases h1 : k = 1
  · subst h1; simp [overT, plainT, swapK]
  by_cases h2 : k = 2
  · subst h2; simp [overT, plainT, swapK]
  by_cases h3 : k = 3
  · subst h3; simp [overT, plainT, swapK]
  by_cases h4 : k = 4
  · subst h4; simp [overT, plainT, swapK]
  simp [swapK, h1, h2, h3, h4]
section
variable {C R C' R' : Nat} {f : Fold} {P : List (List Leaf)}
theorem swap_src (hC : 1 ≤ C ∧ C ≤ 8) (hR : 1 ≤ R ∧ R ≤ 8) (h : foldErr C R f = 0) (hC' : afterC C f = C') (hR' : afterR R f = R') {c r : Nat} (hc : c < C') (hr : r < R') :
    overS C R (swapK f) c r = (overS C R f (C' - 1 - c) (R' - 1 - r)).map (fun x => (C - 1 - x.1, R - 1 - x.2)) ∧
    plainS C R (swapK f) c r = (plainS C R f (C' - 1 - c) (R' - 1 - r)).map (fun x => (C - 1 - x.1, R - 1 - x.2)) := by
  obtain ⟨a, b, d, e, g, i⟩ := fold_ok (by omega) (by omega) h
  obtain ⟨k, qi⟩ := f
  have a : 1 ≤ k ∧ k ≤ 6 := a
  have b : 0 ≤ qi ∧ qi ≤ 4 := b
  have d : k ≤ 4 → 1 ≤ qi := d
  have e : 5 ≤ k → qi = 0 := e
  have g : k ≤ 2 → 2 * qi ≤ C := g
  have i : 3 ≤ k → k ≤ 4 → 2 * qi ≤ R := i
  obtain ⟨q, rfl⟩ : ∃ q : Nat, qi = q := ⟨qi.toNat, by omega⟩
  have h6 : k = 1 ∨ k = 2 ∨ k = 3 ∨ k = 4 ∨ k = 5 ∨ k = 6 := by omega
  rcases h6 with rfl | rfl | rfl | rfl | rfl | rfl
  all_goals
    simp [afterC, afterR] at hC' hR'
    simp only [plainS, overS, swapK]
    simp
  all_goals first
    | omega
    | (refine ⟨?_, by omega⟩
       split <;> split <;> first | (simp; omega) | (exfalso; omega) | rfl)
    | (split <;> split <;> first | (simp; omega) | (exfalso; omega) | rfl)
end
end Go.Proofs.YtccfcdhnplodgaaGreatDoor
