/-
  Package tympanref06: what the reference's folds make of the places is what the document's folds do. No program is walked here.
-/
import Derived.Test.YtccfcdhnplodgaaGreatDoorRE
namespace Go.Proofs.YtccfcdhnplodgaaGreatDoor
open Go.RowKit

theorem map_get {f : Nat → List Leaf} {s j : Nat} (h : j < s) : ((List.range s).map f).getD j [] = f j := by
  rw [List.getD_eq_getElem?_getD, List.getElem?_map, List.getElem?_range h]; rfl
theorem mirP_get {cs rs : Bool} {C R : Nat} {P : List (List Leaf)} {s r c : Nat} (hc : c < C) (h : r * C + c < s) : (mirP cs rs C R P s).getD (r * C + c) [] = P.getD ((if rs = true then R - 1 - r else r) * C + (if cs = true then C - 1 - c else c)) [] := by
  unfold mirP; rw [map_get h, mirI_at rfl hc]
theorem leftP_get {C b : Nat} {P : List (List Leaf)} {s r c : Nat} (hc : c < b) (h : r * b + c < s) : (leftP C b P s).getD (r * b + c) [] = (if 2 * b - 1 - c < C then turnR 1 0 (P.getD (r * C + (2 * b - 1 - c)) []) else []) ++ P.getD (r * C + c) [] := by
  have e1 : (r * b + c) % b = c := by rw [Nat.mul_comm, Nat.mul_add_mod, Nat.mod_eq_of_lt hc]
  have e2 : (r * b + c) / b = r := by rw [Nat.mul_comm, Nat.mul_add_div (by omega), Nat.div_eq_of_lt hc, Nat.add_zero]
  unfold leftP; rw [map_get h, e1, e2]
theorem upP_get {C R b : Nat} {P : List (List Leaf)} {s r c : Nat} (hc : c < C) (h : r * C + c < s) : (upP C R b P s).getD (r * C + c) [] = (if 2 * b - 1 - r < R then turnR 1 1 (P.getD ((2 * b - 1 - r) * C + c) []) else []) ++ P.getD (r * C + c) [] := by
  have e1 : (r * C + c) % C = c := by rw [Nat.mul_comm, Nat.mul_add_mod, Nat.mod_eq_of_lt hc]
  have e2 : (r * C + c) / C = r := by rw [Nat.mul_comm, Nat.mul_add_div (by omega), Nat.div_eq_of_lt hc, Nat.add_zero]
  unfold upP; rw [map_get h, e1, e2]
/-- Two rows of places are equal if they agree place by place. -/
theorem places_ext2 {C R : Nat} {P Q : List (List Leaf)} (hC : 1 ≤ C) (h1 : P.length = C * R) (h2 : Q.length = C * R) (h : ∀ r c, r < R → c < C → P.getD (r * C + c) [] = Q.getD (r * C + c) []) : P = Q := by
  apply List.ext_getElem (by rw [h1, h2])
  intro j ha hb
  have hj : j < C * R := by omega
  have he : j / C * C + j % C = j := by rw [Nat.mul_comm]; exact Nat.div_add_mod j C
  have := h (j / C) (j % C) (Nat.div_lt_of_lt_mul hj) (Nat.mod_lt _ (by omega))
  rw [he, getD_in [] ha, getD_in [] hb] at this
  exact this
theorem turnL_zero {L : List Leaf} (h : ∀ x ∈ L, LeafBits x) : turnL 0 0 L = L := by
  unfold turnL; rw [if_neg (by decide)]
  have : ∀ x ∈ L, turnX 0 0 x = x := fun x hx => by
    obtain ⟨h1, h2⟩ := h x hx
    unfold turnX; rw [xr_zero h1, xr_zero h2]
  rw [List.map_congr_left this]; simp
theorem getD_bits2 {P : List (List Leaf)} (h : ∀ x ∈ P, ∀ y ∈ x, LeafBits y) (j : Nat) : ∀ y ∈ P.getD j [], LeafBits y := fun y hy => by
  rw [List.getD_eq_getElem?_getD] at hy
  cases e : P[j]? with
  | none => rw [e] at hy; simp at hy
  | some L => rw [e] at hy; exact h L (List.mem_of_getElem? e) y hy
theorem mirTF {C R : Nat} {P : List (List Leaf)} {s r c : Nat} (hc : c < C) (h : r * C + c < s) : (mirP true false C R P s).getD (r * C + c) [] = P.getD (r * C + (C - 1 - c)) [] := by
  rw [mirP_get hc h, if_pos rfl, if_neg (by decide)]
theorem mirFT {C R : Nat} {P : List (List Leaf)} {s r c : Nat} (hc : c < C) (h : r * C + c < s) : (mirP false true C R P s).getD (r * C + c) [] = P.getD ((R - 1 - r) * C + c) [] := by
  rw [mirP_get hc h, if_pos rfl, if_neg (by decide)]
theorem mirTT {C R : Nat} {P : List (List Leaf)} {s r c : Nat} (hc : c < C) (h : r * C + c < s) : (mirP true true C R P s).getD (r * C + c) [] = P.getD ((R - 1 - r) * C + (C - 1 - c)) [] := by
  rw [mirP_get hc h, if_pos rfl, if_pos rfl]
theorem placeF_of {C R : Nat} {f : Fold} {P : List (List Leaf)} {c r : Nat} {p : Prop} [Decidable p] {x y : Nat × Nat} {t : Int} (h1 : overS C R f c r = if p then some x else none) (h2 : plainS C R f c r = some y) (h3 : overT f = t) (h4 : plainT f = 0) (hb : ∀ z ∈ P, ∀ y ∈ z, LeafBits y) :
    placeF C R f P c r = (if p then turnR 1 t (P.getD (x.2 * C + x.1) []) else []) ++ P.getD (y.2 * C + y.1) [] := by
  unfold placeF
  rw [h1, h2, h3, h4]
  by_cases h : p
  · rw [if_pos h, if_pos h]
    show turnL 1 t _ ++ turnL 0 0 _ = _
    rw [turnL_zero (getD_bits2 hb _), turnR_one]
  · rw [if_neg h, if_neg h]
    show [] ++ turnL 0 0 _ = _
    rw [turnL_zero (getD_bits2 hb _)]
/-- A fold as the reference does it. -/
def foldR (C R : Nat) (f : Fold) (P : List (List Leaf)) : List (List Leaf) :=
  if f.k = 1 then leftP C (C - f.c.toNat) P (R * (C - f.c.toNat))
  else if f.k = 2 then mirP true false (C - f.c.toNat) R (leftP C (C - f.c.toNat) (mirP true false C R P (R * C)) (R * (C - f.c.toNat))) (R * (C - f.c.toNat))
  else if f.k = 3 then upP C R (R - f.c.toNat) P ((R - f.c.toNat) * C)
  else if f.k = 4 then mirP false true C (R - f.c.toNat) (upP C R (R - f.c.toNat) (mirP false true C R P (R * C)) ((R - f.c.toNat) * C)) ((R - f.c.toNat) * C)
  else if f.k = 5 then (mirP true false C R P (R * C)).map (turnR 1 0)
  else (mirP true true C R P (R * C)).map fun l => turnR 0 0 (turnR 0 1 l)
theorem at_lt {r R C c : Nat} (hr : r < R) (hc : c < C) : r * C + c < R * C := by rw [Nat.mul_comm R C]; exact mul_lt hr hc
theorem map_getD2 {g : List Leaf → List Leaf} {P : List (List Leaf)} {j : Nat} (h : j < P.length) : (P.map g).getD j [] = g (P.getD j []) := by
  rw [List.getD_eq_getElem?_getD, List.getElem?_map, getD_in [] h, List.getElem?_eq_getElem h]; rfl
set_option maxHeartbeats 1000000 in
theorem foldR_out {C R C' R' : Nat} {f : Fold} {P : List (List Leaf)} (hC : 1 ≤ C ∧ C ≤ 8) (hR : 1 ≤ R ∧ R ≤ 8) (h : foldErr C R f = 0) (hC' : afterC C f = C') (hR' : afterR R f = R') (hP : PileOk C R P) : foldR C R f P = outF C R C' R' f P := by
  obtain ⟨a, b, d, e, g, i⟩ := fold_ok (by omega) (by omega) h
  have hb := hP.bits
  have ha := after_ok (C := (C : Int)) (R := (R : Int)) (f := f) (by omega) (by omega) h
  rw [hC', hR'] at ha
  obtain ⟨k, qi⟩ := f
  have a : 1 ≤ k ∧ k ≤ 6 := a
  have b : 0 ≤ qi ∧ qi ≤ 4 := b
  have d : k ≤ 4 → 1 ≤ qi := d
  have e : 5 ≤ k → qi = 0 := e
  have g : k ≤ 2 → 2 * qi ≤ C := g
  have i : 3 ≤ k → k ≤ 4 → 2 * qi ≤ R := i
  obtain ⟨q, rfl⟩ : ∃ q : Nat, qi = q := ⟨qi.toNat, by omega⟩
  have h6 : k = 1 ∨ k = 2 ∨ k = 3 ∨ k = 4 ∨ k = 5 ∨ k = 6 := by omega
  rcases h6 with rfl | rfl | rfl | rfl | rfl | rfl
  all_goals
    simp [afterC, afterR] at hC' hR'
  · have hc2 : C' = C - q := by omega
    have hr2 : R' = R := by omega
    subst hc2
    subst hr2
    have e1 : (foldR C R' ⟨1, q⟩ P) = leftP C (C - q) P (R' * (C - q)) := by simp [foldR]
    rw [e1]
    refine places_ext2 (C := C - q) (R := R') (by omega) (by rw [leftP_len, Nat.mul_comm]) outF_len fun r c hr hc => ?_
    rw [outF_at hc hr, leftP_get hc (at_lt hr hc), placeF_of (p := 2 * (C - q) - 1 - c < C) (x := (2 * (C - q) - 1 - c, r)) (y := (c, r)) (t := 0) rfl rfl rfl rfl hb]
  · have hc2 : C' = C - q := by omega
    have hr2 : R' = R := by omega
    subst hc2
    subst hr2
    have e1 : (foldR C R' ⟨2, q⟩ P) = mirP true false (C - q) R' (leftP C (C - q) (mirP true false C R' P (R' * C)) (R' * (C - q))) (R' * (C - q)) := by simp [foldR]
    rw [e1]
    refine places_ext2 (C := C - q) (R := R') (by omega) (by rw [mirP_len, Nat.mul_comm]) outF_len fun r c hr hc => ?_
    have hq : 2 * q ≤ C := by omega
    rw [outF_at hc hr, mirTF hc (at_lt hr hc), placeF_of (p := c < q) (x := (q - 1 - c, r)) (y := (q + c, r)) (t := 0) rfl rfl rfl rfl hb,
      leftP_get (r := r) (c := C - q - 1 - c) (by omega) (at_lt hr (by omega)), mirTF (r := r) (c := C - q - 1 - c) (by omega) (at_lt hr (by omega))]
    rw [show C - 1 - (C - q - 1 - c) = q + c by omega]
    congr 1
    by_cases h1 : c < q
    · rw [if_pos h1, if_pos (by omega), mirTF (r := r) (c := 2 * (C - q) - 1 - (C - q - 1 - c)) (by omega) (at_lt hr (by omega))]
      rw [show C - 1 - (2 * (C - q) - 1 - (C - q - 1 - c)) = q - 1 - c by omega]
    · rw [if_neg h1, if_neg (by omega)]
  · have hc2 : C' = C := by omega
    have hr2 : R' = R - q := by omega
    subst hc2
    subst hr2
    have e1 : (foldR C' R ⟨3, q⟩ P) = upP C' R (R - q) P ((R - q) * C') := by simp [foldR]
    rw [e1]
    refine places_ext2 (C := C') (R := R - q) (by omega) (by rw [upP_len, Nat.mul_comm]) outF_len fun r c hr hc => ?_
    rw [outF_at hc hr, upP_get hc (at_lt hr hc), placeF_of (p := 2 * (R - q) - 1 - r < R) (x := (c, 2 * (R - q) - 1 - r)) (y := (c, r)) (t := 1) rfl rfl rfl rfl hb]
  · have hc2 : C' = C := by omega
    have hr2 : R' = R - q := by omega
    subst hc2
    subst hr2
    have e1 : (foldR C' R ⟨4, q⟩ P) = mirP false true C' (R - q) (upP C' R (R - q) (mirP false true C' R P (R * C')) ((R - q) * C')) ((R - q) * C') := by simp [foldR]
    rw [e1]
    refine places_ext2 (C := C') (R := R - q) (by omega) (by rw [mirP_len, Nat.mul_comm]) outF_len fun r c hr hc => ?_
    have hq : 2 * q ≤ R := by omega
    rw [outF_at hc hr, mirFT hc (at_lt hr hc), placeF_of (p := r < q) (x := (c, q - 1 - r)) (y := (c, q + r)) (t := 1) rfl rfl rfl rfl hb,
      upP_get (r := R - q - 1 - r) (c := c) hc (at_lt (by omega) hc), mirFT (r := R - q - 1 - r) (c := c) hc (at_lt (by omega) hc)]
    rw [show R - 1 - (R - q - 1 - r) = q + r by omega]
    congr 1
    by_cases h1 : r < q
    · rw [if_pos h1, if_pos (by omega), mirFT (r := 2 * (R - q) - 1 - (R - q - 1 - r)) (c := c) hc (at_lt (by omega) hc)]
      rw [show R - 1 - (2 * (R - q) - 1 - (R - q - 1 - r)) = q - 1 - r by omega]
    · rw [if_neg h1, if_neg (by omega)]
  · have hc2 : C' = C := by omega
    have hr2 : R' = R := by omega
    subst hc2
    subst hr2
    have e1 : (foldR C' R' ⟨5, q⟩ P) = (mirP true false C' R' P (R' * C')).map (turnR 1 0) := by simp [foldR]
    rw [e1]
    refine places_ext2 (C := C') (R := R') (by omega) (by rw [List.length_map, mirP_len, Nat.mul_comm]) outF_len fun r c hr hc => ?_
    rw [outF_at hc hr, map_getD2 (by rw [mirP_len]; exact at_lt hr hc), mirTF hc (at_lt hr hc)]
    simp only [placeF, overS, plainS, overT, plainT]
    simp [turnR_one]
  · have hc2 : C' = C := by omega
    have hr2 : R' = R := by omega
    subst hc2
    subst hr2
    have e1 : (foldR C' R' ⟨6, q⟩ P) = (mirP true true C' R' P (R' * C')).map fun l => turnR 0 0 (turnR 0 1 l) := by simp [foldR]
    rw [e1]
    refine places_ext2 (C := C') (R := R') (by omega) (by rw [List.length_map, mirP_len, Nat.mul_comm]) outF_len fun r c hr hc => ?_
    rw [outF_at hc hr, map_getD2 (by rw [mirP_len]; exact at_lt hr hc), mirTT hc (at_lt hr hc)]
    simp only [placeF, overS, plainS, overT, plainT]
    simp [turnR_two]
end Go.Proofs.YtccfcdhnplodgaaGreatDoor
