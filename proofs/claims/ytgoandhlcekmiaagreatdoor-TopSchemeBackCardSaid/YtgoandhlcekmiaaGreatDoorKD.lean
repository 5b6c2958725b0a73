/-
  Package impose: folds that undo each other; a sheet that is turned round. No program is walked here.
-/
import Derived.Test.YtgoandhlcekmiaaGreatDoorKC
namespace Go.Proofs.YtgoandhlcekmiaaGreatDoor
open Go.RowKit

def swapK (f : Fold) : Fold := ⟨if f.k = 1 then 2 else if f.k = 2 then 1 else if f.k = 3 then 4 else if f.k = 4 then 3 else f.k, f.c⟩
theorem xr_twice {a b : Int} (ha : Bit a) (hb : Bit b) : xr (xr a b) b = a := by
  rcases ha with rfl | rfl <;> rcases hb with rfl | rfl <;> rfl
theorem xr_comm {a b c : Int} (ha : Bit a) (hb : Bit b) (hc : Bit c) : xr (xr a b) c = xr (xr a c) b := by
  rcases ha with rfl | rfl <;> rcases hb with rfl | rfl <;> rcases hc with rfl | rfl <;> rfl
theorem turnX_twice {o t : Int} (ho : Bit o) (ht : Bit t) {x : Leaf} (hx : LeafBits x) : turnX o t (turnX o t x) = x := by
  unfold turnX; rw [xr_twice hx.1 ho, xr_twice hx.2 ht]
theorem turnX_comm {o t p s : Int} (ho : Bit o) (ht : Bit t) (hp : Bit p) (hs : Bit s) {x : Leaf} (hx : LeafBits x) : turnX o t (turnX p s x) = turnX p s (turnX o t x) := by
  unfold turnX; rw [xr_comm hx.1 hp ho, xr_comm hx.2 hs ht]
theorem turnL_twice {o t : Int} (ho : Bit o) (ht : Bit t) {X : List Leaf} (hX : ∀ x ∈ X, LeafBits x) : turnL o t (turnL o t X) = X := by
  have e : (X.map (turnX o t)).map (turnX o t) = X := by
    rw [List.map_map]
    conv => rhs; rw [← List.map_id X]
    exact List.map_congr_left fun x hx => turnX_twice ho ht (hX x hx)
  unfold turnL
  split
  · rw [List.map_reverse, List.reverse_reverse]; exact e
  · exact e
theorem turnL_comm {o t : Int} (ho : Bit o) (ht : Bit t) {X : List Leaf} (hX : ∀ x ∈ X, LeafBits x) : turnL 0 1 (turnL o t X) = turnL o t (turnL 0 1 X) := by
  have e : (X.map (turnX o t)).map (turnX 0 1) = (X.map (turnX 0 1)).map (turnX o t) := by
    rw [List.map_map, List.map_map]
    exact List.map_congr_left fun x hx => turnX_comm (Or.inl rfl) (Or.inr rfl) ho ht (hX x hx)
  have e0 : ∀ Y : List Leaf, turnL 0 1 Y = Y.map (turnX 0 1) := fun Y => by unfold turnL; rw [if_neg (by decide)]
  rw [e0, e0]
  unfold turnL
  split
  · rw [List.map_reverse, e]
  · exact e
theorem turnL_app (X Y : List Leaf) : turnL 0 1 (X ++ Y) = turnL 0 1 X ++ turnL 0 1 Y := by
  have e0 : ∀ Y : List Leaf, turnL 0 1 Y = Y.map (turnX 0 1) := fun Y => by unfold turnL; rw [if_neg (by decide)]
  rw [e0, e0, e0, List.map_append]
theorem turnL_nil (o t : Int) : turnL o t [] = [] := by unfold turnL; split <;> rfl
theorem getD_bits {C R : Nat} {P : List (List Leaf)} (h : PileOk C R P) (j : Nat) : ∀ x ∈ P.getD j [], LeafBits x := by
  intro x hx
  by_cases hj : j < P.length
  · rw [getD_in [] hj] at hx; exact h.bits _ (List.getElem_mem hj) x hx
  · rw [List.getD_eq_getElem?_getD, List.getElem?_eq_none (by omega)] at hx; cases hx
theorem overT_bit (f : Fold) : Bit (overT f) := by unfold overT Bit; split <;> omega
theorem plainT_bit (f : Fold) : Bit (plainT f) := by unfold plainT Bit; split <;> omega
/-- Two lists of places are equal if they are so place by place. -/
theorem places_ext {C R : Nat} {P Q : List (List Leaf)} (h1 : P.length = C * R) (h2 : Q.length = C * R) (h : ∀ c r, c < C → r < R → P.getD (r * C + c) [] = Q.getD (r * C + c) []) : P = Q := by
  apply List.ext_getElem (by rw [h1, h2])
  intro j hj1 hj2
  have hj : j < C * R := by rw [← h1]; exact hj1
  have hC : 0 < C := by
    rcases Nat.eq_zero_or_pos C with h0 | h0
    · rw [h0, Nat.zero_mul] at hj; omega
    · exact h0
  have := h (j % C) (j / C) (Nat.mod_lt _ hC) (Nat.div_lt_of_lt_mul hj)
  rw [show j / C * C + j % C = j by rw [Nat.mul_comm]; exact Nat.div_add_mod j C, getD_in [] hj1, getD_in [] hj2] at this
  exact this
theorem src5 (C R c r : Nat) : overS C R ⟨5, 0⟩ c r = some (C - 1 - c, r) ∧ plainS C R ⟨5, 0⟩ c r = none := by
  unfold overS plainS; simp
theorem src6 (C R c r : Nat) : overS C R ⟨6, 0⟩ c r = none ∧ plainS C R ⟨6, 0⟩ c r = some (C - 1 - c, R - 1 - r) := by
  unfold overS plainS; simp
theorem place5 (C R : Nat) (P : List (List Leaf)) (c r : Nat) : placeF C R ⟨5, 0⟩ P c r = turnL 1 0 (P.getD (r * C + (C - 1 - c)) []) := by
  unfold placeF; rw [(src5 C R c r).1, (src5 C R c r).2]; simp [overT]
theorem place6 (C R : Nat) (P : List (List Leaf)) (c r : Nat) : placeF C R ⟨6, 0⟩ P c r = turnL 0 1 (P.getD ((R - 1 - r) * C + (C - 1 - c)) []) := by
  unfold placeF; rw [(src6 C R c r).1, (src6 C R c r).2]; simp [plainT]
section
variable {C R : Nat} {P : List (List Leaf)}
theorem twice5 (h : PileOk C R P) : outF C R C R ⟨5, 0⟩ (outF C R C R ⟨5, 0⟩ P) = P := by
  refine places_ext outF_len h.len fun c r hc hr => ?_
  rw [outF_at hc hr, place5, outF_at (by omega) hr, place5, show C - 1 - (C - 1 - c) = c by omega, turnL_twice (Or.inr rfl) (Or.inl rfl) (getD_bits h _)]
theorem twice6 (h : PileOk C R P) : outF C R C R ⟨6, 0⟩ (outF C R C R ⟨6, 0⟩ P) = P := by
  refine places_ext outF_len h.len fun c r hc hr => ?_
  rw [outF_at hc hr, place6, outF_at (by omega) (by omega), place6, show C - 1 - (C - 1 - c) = c by omega, show R - 1 - (R - 1 - r) = r by omega, turnL_twice (Or.inl rfl) (Or.inr rfl) (getD_bits h _)]
end
theorem swap_err (C R : Int) (f : Fold) : foldErr C R (swapK f) = foldErr C R f ∧ afterC C (swapK f) = afterC C f ∧ afterR R (swapK f) = afterR R f := by
  obtain ⟨k, q⟩ := f
  by_cases h1 : k = 1
  · subst h1; simp [foldErr, afterC, afterR, swapK, alongI, inB]
  by_cases h2 : k = 2
  · subst h2; simp [foldErr, afterC, afterR, swapK, alongI, inB]
  by_cases h3 : k = 3
  · subst h3; simp [foldErr, afterC, afterR, swapK, alongI, inB]
  by_cases h4 : k = 4
  · subst h4; simp [foldErr, afterC, afterR, swapK, alongI, inB]
  simp [swapK, h1, h2, h3, h4]
theorem swap_t (f : Fold) : overT (swapK f) = overT f ∧ plainT (swapK f) = plainT f := by
  obtain ⟨k, q⟩ := f
  by_cases h1 : k = 1
  · subst h1; simp [overT, plainT, swapK]
  by_cases h2 : k = 2
  · subst h2; simp [overT, plainT, swapK]
  by_cases h3 : k = 3
  · subst h3; simp [overT, plainT, swapK]
  by_cases h4 : k = 4
  · subst h4; simp [overT, plainT, swapK]
  simp [swapK, h1, h2, h3, h4]
section
variable {C R C' R' : Nat} {f : Fold} {P : List (List Leaf)}
theorem swap_src (hC : 1 ≤ C ∧ C ≤ 8) (hR : 1 ≤ R ∧ R ≤ 8) (h : foldErr C R f = 0) (hC' : afterC C f = C') (hR' : afterR R f = R') {c r : Nat} (hc : c < C') (hr : r < R') :
    overS C R (swapK f) c r = (overS C R f (C' - 1 - c) (R' - 1 - r)).map (fun x => (C - 1 - x.1, R - 1 - x.2)) ∧
    plainS C R (swapK f) c r = (plainS C R f (C' - 1 - c) (R' - 1 - r)).map (fun x => (C - 1 - x.1, R - 1 - x.2)) := by
  obtain ⟨a, b, d, e, g, i⟩ := fold_ok (by omega) (by omega) h
  obtain ⟨k, qi⟩ := f
  have a : 1 ≤ k ∧ k ≤ 6 := a
  have b : 0 ≤ qi ∧ qi ≤ 4 := b
  have d : k ≤ 4 → 1 ≤ qi := d
  have e : 5 ≤ k → qi = 0 := e
  have g : k ≤ 2 → 2 * qi ≤ C := g
  have i : 3 ≤ k → k ≤ 4 → 2 * qi ≤ R := i
  obtain ⟨q, rfl⟩ : ∃ q : Nat, qi = q := ⟨qi.toNat, by omega⟩
  have h6 : k = 1 ∨ k = 2 ∨ k = 3 ∨ k = 4 ∨ k = 5 ∨ k = 6 := by omega
  rcases h6 with rfl | rfl | rfl | rfl | rfl | rfl
  all_goals
    simp [afterC, afterR] at hC' hR'
    simp only [plainS, overS, swapK]
    simp
  all_goals first
    | omega
    | (refine ⟨?_, by omega⟩
       split <;> split <;> first | (simp; omega) | (exfalso; omega) | rfl)
    | (split <;> split <;> first | (simp; omega) | (exfalso; omega) | rfl)
end
end Go.Proofs.YtgoandhlcekmiaaGreatDoor

namespace Go.Proofs.YtgoandhlcekmiaaGreatDoor
open Go.RowKit

section
variable {C R C' R' : Nat} {f : Fold} {P : List (List Leaf)}
theorem swap_place (hP : PileOk C R P) (hC : 1 ≤ C ∧ C ≤ 8) (hR : 1 ≤ R ∧ R ≤ 8) (h : foldErr C R f = 0) (hC' : afterC C f = C') (hR' : afterR R f = R') {c r : Nat} (hc : c < C') (hr : r < R') :
    placeF C R (swapK f) (outF C R C R ⟨6, 0⟩ P) c r = turnL 0 1 (placeF C R f P (C' - 1 - c) (R' - 1 - r)) := by
  obtain ⟨e1, e2⟩ := swap_src hC hR h hC' hR' hc hr
  obtain ⟨s1, s2, _⟩ := src_in hC hR h hC' hR' (c' := C' - 1 - c) (r' := R' - 1 - r) (by omega) (by omega)
  have hrot : ∀ x : Nat × Nat, x.1 < C → x.2 < R → (outF C R C R ⟨6, 0⟩ P).getD ((R - 1 - x.2) * C + (C - 1 - x.1)) [] = turnL 0 1 (P.getD (x.2 * C + x.1) []) := fun x h1 h2 => by
    rw [outF_at (by omega) (by omega), place6, show R - 1 - (R - 1 - x.2) = x.2 by omega, show C - 1 - (C - 1 - x.1) = x.1 by omega]
  unfold placeF
  rw [e1, e2, (swap_t f).1, (swap_t f).2, turnL_app]
  congr 1
  · cases ho : overS C R f (C' - 1 - c) (R' - 1 - r) with
    | none => exact (turnL_nil _ _).symm
    | some x =>
      simp only [Option.map_some]
      rw [hrot x (s2 x ho).1 (s2 x ho).2, turnL_comm (Or.inr rfl) (overT_bit f) (getD_bits hP _)]
  · cases ho : plainS C R f (C' - 1 - c) (R' - 1 - r) with
    | none => exact (turnL_nil _ _).symm
    | some x =>
      simp only [Option.map_some]
      rw [hrot x (s1 x ho).1 (s1 x ho).2, turnL_comm (Or.inl rfl) (plainT_bit f) (getD_bits hP _)]
theorem swap_out (hP : PileOk C R P) (hC : 1 ≤ C ∧ C ≤ 8) (hR : 1 ≤ R ∧ R ≤ 8) (h : foldErr C R f = 0) (hC' : afterC C f = C') (hR' : afterR R f = R') :
    outF C R C' R' (swapK f) (outF C R C R ⟨6, 0⟩ P) = outF C' R' C' R' ⟨6, 0⟩ (outF C R C' R' f P) := by
  refine places_ext outF_len outF_len fun c r hc hr => ?_
  rw [outF_at hc hr, outF_at hc hr, place6, swap_place hP hC hR h hC' hR' hc hr, outF_at (by omega) (by omega)]
end
theorem runF_cons (C R : Nat) (P : List (List Leaf)) (f : Fold) (L : List Fold) : runF C R P (f :: L) = runF (afterC C f).toNat (afterR R f).toNat (outF C R (afterC C f).toNat (afterR R f).toNat f P) L := rfl
theorem foldsErr_cons {C R : Int} {f : Fold} {L : List Fold} {i : Int} (h : (foldsErr C R (f :: L) i).2 = 0) : foldErr C R f = 0 ∧ (foldsErr (afterC C f) (afterR R f) L (i + 1)).2 = 0 := by
  have := foldsErr_ok (C := C) (R := R) (L := f :: L) (k := 0) (i := i) (Nat.succ_pos _) h
  exact this
theorem foldsErr_mk {C R : Int} {f : Fold} {L : List Fold} {i : Int} (h : foldErr C R f = 0) : foldsErr C R (f :: L) i = foldsErr (afterC C f) (afterR R f) L (i + 1) := by
  show (if _ then _ else _) = _
  rw [if_neg (by simp [h])]
theorem foldsErr_i {C R : Int} {L : List Fold} {i j : Int} (h : (foldsErr C R L i).2 = 0) : (foldsErr C R L j).2 = 0 := by
  induction L generalizing C R i j with
  | nil =>
    have e : ∀ i, foldsErr C R [] i = if 1 < C * R then (i, 25) else (0, 0) := fun _ => rfl
    rw [e] at h ⊢
    split at h
    · exact absurd h (by simp)
    · rename_i h1; rw [if_neg h1]
  | cons f L ih =>
    obtain ⟨h1, h2⟩ := foldsErr_cons h
    rw [foldsErr_mk h1]; exact ih h2
/-- A fold that leaves the sides as they are. -/
def still (g : Fold) : Prop := g = ⟨5, 0⟩ ∨ g = ⟨6, 0⟩
theorem still_ok {g : Fold} (hg : still g) (C R : Int) : foldErr C R g = 0 ∧ afterC C g = C ∧ afterR R g = R := by
  rcases hg with rfl | rfl <;> simp [foldErr, afterC, afterR, inB]
theorem still_twice {g : Fold} (hg : still g) {C R : Nat} {P : List (List Leaf)} (h : PileOk C R P) : outF C R C R g (outF C R C R g P) = P := by
  rcases hg with rfl | rfl
  · exact twice5 h
  · exact twice6 h
theorem foldsErr_two {g : Fold} (hg : still g) (M : List Fold) : ∀ (L : List Fold) (C R i j : Int), (foldsErr C R (L ++ M) i).2 = 0 → (foldsErr C R (L ++ g :: g :: M) j).2 = 0
  | [], C, R, i, j, h => by
    obtain ⟨g1, g2, g3⟩ := still_ok hg C R
    show (foldsErr C R (g :: g :: M) j).2 = 0
    rw [foldsErr_mk g1, g2, g3, foldsErr_mk g1, g2, g3]
    exact foldsErr_i h
  | f :: L, C, R, i, j, h => by
    obtain ⟨h1, h2⟩ := foldsErr_cons (L := L ++ M) h
    show (foldsErr C R (f :: (L ++ g :: g :: M)) j).2 = 0
    rw [foldsErr_mk h1]
    exact foldsErr_two hg M L _ _ _ _ h2
theorem foldsErr_swap : ∀ (L : List Fold) (C R i j : Int), (foldsErr C R L i).2 = 0 → (foldsErr C R (L.map swapK ++ [⟨6, 0⟩]) j).2 = 0
  | [], C, R, i, j, h => by
    obtain ⟨g1, g2, g3⟩ := still_ok (Or.inr rfl : still ⟨6, 0⟩) C R
    show (foldsErr C R [⟨6, 0⟩] j).2 = 0
    rw [foldsErr_mk g1, g2, g3]; exact foldsErr_i h
  | f :: L, C, R, i, j, h => by
    obtain ⟨h1, h2⟩ := foldsErr_cons h
    obtain ⟨e1, e2, e3⟩ := swap_err C R f
    show (foldsErr C R (swapK f :: (L.map swapK ++ [⟨6, 0⟩])) j).2 = 0
    rw [foldsErr_mk (by rw [e1]; exact h1), e2, e3]
    exact foldsErr_swap L _ _ _ _ h2
/-- The sides behind a fold. -/
theorem after_nat {C R : Nat} {f : Fold} (hC : 1 ≤ C ∧ C ≤ 8) (hR : 1 ≤ R ∧ R ≤ 8) (h : foldErr C R f = 0) : ∃ C' R' : Nat, afterC C f = C' ∧ afterR R f = R' ∧ (1 ≤ C' ∧ C' ≤ 8) ∧ (1 ≤ R' ∧ R' ≤ 8) := by
  have ha := after_ok (C := (C : Int)) (R := (R : Int)) (f := f) (by omega) (by omega) h
  exact ⟨(afterC C f).toNat, (afterR R f).toNat, by omega, by omega, by omega, by omega⟩
theorem runF_two {g : Fold} (hg : still g) (M : List Fold) : ∀ (L : List Fold) (C R : Nat) (P : List (List Leaf)) (i : Int), (1 ≤ C ∧ C ≤ 8) → (1 ≤ R ∧ R ≤ 8) → PileOk C R P → (foldsErr C R (L ++ M) i).2 = 0 → runF C R P (L ++ g :: g :: M) = runF C R P (L ++ M)
  | [], C, R, P, i, hC, hR, hP, h => by
    obtain ⟨g1, g2, g3⟩ := still_ok hg C R
    show runF C R P (g :: g :: M) = runF C R P M
    rw [runF_cons, g2, g3, Int.toNat_natCast, Int.toNat_natCast, runF_cons, g2, g3, Int.toNat_natCast, Int.toNat_natCast, still_twice hg hP]
  | f :: L, C, R, P, i, hC, hR, hP, h => by
    obtain ⟨h1, h2⟩ := foldsErr_cons (L := L ++ M) h
    obtain ⟨C', R', e1, e2, hC', hR'⟩ := after_nat hC hR h1
    show runF C R P (f :: (L ++ g :: g :: M)) = runF C R P (f :: (L ++ M))
    rw [runF_cons, runF_cons, e1, e2, Int.toNat_natCast, Int.toNat_natCast]
    rw [e1, e2] at h2
    exact runF_two hg M L C' R' _ _ hC' hR' (hP.fold hC hR h1 e1 e2) h2
theorem runF_swap : ∀ (L : List Fold) (C R : Nat) (P : List (List Leaf)) (i : Int), (1 ≤ C ∧ C ≤ 8) → (1 ≤ R ∧ R ≤ 8) → PileOk C R P → (foldsErr C R L i).2 = 0 → runF C R (outF C R C R ⟨6, 0⟩ P) (L.map swapK ++ [⟨6, 0⟩]) = runF C R P L
  | [], C, R, P, i, hC, hR, hP, h => by
    obtain ⟨g1, g2, g3⟩ := still_ok (Or.inr rfl : still ⟨6, 0⟩) C R
    show runF C R _ [⟨6, 0⟩] = runF C R P []
    rw [runF_cons, g2, g3, Int.toNat_natCast, Int.toNat_natCast, twice6 hP]
  | f :: L, C, R, P, i, hC, hR, hP, h => by
    obtain ⟨h1, h2⟩ := foldsErr_cons h
    obtain ⟨C', R', e1, e2, hC', hR'⟩ := after_nat hC hR h1
    obtain ⟨q1, q2, q3⟩ := swap_err C R f
    show runF C R _ (swapK f :: (L.map swapK ++ [⟨6, 0⟩])) = runF C R P (f :: L)
    rw [runF_cons, runF_cons, q2, q3, e1, e2, Int.toNat_natCast, Int.toNat_natCast, swap_out hP hC hR h1 e1 e2]
    rw [e1, e2] at h2
    exact runF_swap L C' R' _ _ hC' hR' (hP.fold hC hR h1 e1 e2) h2
theorem checkFo_mk {C R : Int} {L : List Fold} (hs : sideErr C R = 0) (hl : L.length ≤ 12) (h : (foldsErr C R L 0).2 = 0) : (checkFo C R L).2 = 0 := by
  unfold checkFo; rw [if_neg (by simp [hs]), if_neg (by omega)]; exact h
/-- Twice over, or twice round, at any place: the same. -/
theorem pile_two {C R : Int} {L M : List Fold} {g : Fold} (hg : still g) (h : (checkFo C R (L ++ M)).2 = 0) (hl : (L ++ M).length ≤ 9) :
    (checkFo C R (L ++ g :: g :: M)).2 = 0 ∧ pileE C R (L ++ g :: g :: M) = pileE C R (L ++ M) := by
  obtain ⟨hs, hl12, hfe⟩ := checkFo_ok h
  rw [List.drop_zero] at hfe
  obtain ⟨sC, sR, sm⟩ := side_ok hs
  have h2 : (checkFo C R (L ++ g :: g :: M)).2 = 0 := checkFo_mk hs (by simp at hl ⊢; omega) (foldsErr_two hg M L C R 0 0 hfe)
  refine ⟨h2, ?_⟩
  unfold pileE
  rw [if_pos h, if_pos h2]
  unfold pileP
  obtain ⟨cn, rfl⟩ : ∃ n : Nat, C = n := ⟨C.toNat, by omega⟩
  obtain ⟨rn, rfl⟩ : ∃ n : Nat, R = n := ⟨R.toNat, by omega⟩
  rw [Int.toNat_natCast, Int.toNat_natCast, runF_two hg M L cn rn _ 0 (by omega) (by omega) (PileOk.flat (by omega) (by omega)) hfe]
/-- The sheet turned round, the folds mirrored, the heap turned back: the same. -/
theorem pile_swap {C R : Int} {L : List Fold} (h : (checkFo C R L).2 = 0) (hl : L.length ≤ 9) :
    (checkFo C R (⟨6, 0⟩ :: L.map swapK ++ [⟨6, 0⟩])).2 = 0 ∧ pileE C R (⟨6, 0⟩ :: L.map swapK ++ [⟨6, 0⟩]) = pileE C R L := by
  obtain ⟨hs, hl12, hfe⟩ := checkFo_ok h
  rw [List.drop_zero] at hfe
  obtain ⟨sC, sR, sm⟩ := side_ok hs
  obtain ⟨g1, g2, g3⟩ := still_ok (Or.inr rfl : still ⟨6, 0⟩) C R
  have h2 : (checkFo C R (⟨6, 0⟩ :: L.map swapK ++ [⟨6, 0⟩])).2 = 0 := by
    refine checkFo_mk hs (by simp; omega) ?_
    show (foldsErr C R (⟨6, 0⟩ :: (L.map swapK ++ [⟨6, 0⟩])) 0).2 = 0
    rw [foldsErr_mk g1, g2, g3]
    exact foldsErr_swap L C R 0 _ hfe
  refine ⟨h2, ?_⟩
  unfold pileE
  rw [if_pos h, if_pos h2]
  unfold pileP
  obtain ⟨cn, rfl⟩ : ∃ n : Nat, C = n := ⟨C.toNat, by omega⟩
  obtain ⟨rn, rfl⟩ : ∃ n : Nat, R = n := ⟨R.toNat, by omega⟩
  rw [Int.toNat_natCast, Int.toNat_natCast, List.cons_append, runF_cons, g2, g3, Int.toNat_natCast, Int.toNat_natCast, runF_swap L cn rn _ 0 (by omega) (by omega) (PileOk.flat (by omega) (by omega)) hfe]
end Go.Proofs.YtgoandhlcekmiaaGreatDoor
