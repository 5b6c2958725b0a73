/-
  Package impose: a fold of a pile.
-/
import Derived.Test.YtnpehnfcccdcbaaGreatDoorII
namespace Go.Proofs.YtnpehnfcccdcbaaGreatDoor
open Go.RowKit

/-- A place of a fold is brought to where it comes to. -/
def stepF (C R C' : Nat) (f : Fold) (P : List (List Leaf)) (acc : List (List Leaf)) (s : Nat) : List (List Leaf) :=
  let q := wayOf C R f ((s % C : Nat) : Int) ((s / C : Nat) : Int)
  let j := (q.r * C' + q.c).toNat
  acc.set j (if q.o = 1 then turnL q.o q.t (P.getD s []) ++ acc.getD j [] else acc.getD j [] ++ turnL q.o q.t (P.getD s []))
def accF (C R C' R' : Nat) (f : Fold) (P : List (List Leaf)) (s : Nat) : List (List Leaf) := (List.range s).foldl (stepF C R C' f P) (List.replicate (C' * R') [])
theorem accF_succ (C R C' R' : Nat) (f : Fold) (P : List (List Leaf)) (s : Nat) : accF C R C' R' f P (s + 1) = stepF C R C' f P (accF C R C' R' f P s) s := by
  unfold accF; rw [List.range_succ, List.foldl_append]; rfl
theorem accF_len (C R C' R' : Nat) (f : Fold) (P : List (List Leaf)) (s : Nat) : (accF C R C' R' f P s).length = C' * R' := by
  induction s with
  | zero => simp [accF]
  | succ s ih => rw [accF_succ]; unfold stepF; rw [List.length_set]; exact ih
theorem lay_bounds {c e n : Int} (h1 : 0 ≤ c) (h2 : c < n) (h3 : n ≤ 2 * e) : 0 ≤ laidT c e ∧ laidT c e < e := by unfold laidT; split <;> omega
theorem laidO_bit (c e : Int) : Bit (laidO c e) := by unfold laidO Bit; split <;> omega
/-- Where a place comes to lies within the size behind the fold. -/
theorem way_ok {C R : Int} {f : Fold} {c r : Int} (hC : 1 ≤ C ∧ C ≤ 8) (hR : 1 ≤ R ∧ R ≤ 8) (h : foldErr C R f = 0) (hc : 0 ≤ c ∧ c < C) (hr : 0 ≤ r ∧ r < R) :
    (0 ≤ (wayOf C R f c r).c ∧ (wayOf C R f c r).c < afterC C f) ∧ (0 ≤ (wayOf C R f c r).r ∧ (wayOf C R f c r).r < afterR R f) ∧ Bit (wayOf C R f c r).o ∧ Bit (wayOf C R f c r).t := by
  obtain ⟨a, b, d, e, g, i⟩ := fold_ok hC hR h
  obtain ⟨k, q⟩ := f
  have a : 1 ≤ k ∧ k ≤ 6 := a
  have b : 0 ≤ q ∧ q ≤ 4 := b
  have d : k ≤ 4 → 1 ≤ q := d
  have e : 5 ≤ k → q = 0 := e
  have g : k ≤ 2 → 2 * q ≤ C := g
  have i : 3 ≤ k → k ≤ 4 → 2 * q ≤ R := i
  have h6 : k = 1 ∨ k = 2 ∨ k = 3 ∨ k = 4 ∨ k = 5 ∨ k = 6 := by omega
  have z0 : Bit 0 := Or.inl rfl
  have z1 : Bit 1 := Or.inr rfl
  rcases h6 with rfl | rfl | rfl | rfl | rfl | rfl
  · have := lay_bounds (c := c) (e := C - q) (n := C) hc.1 hc.2 (by omega)
    simp [wayOf, afterC, afterR, laidO_bit, z0]; omega
  · have := lay_bounds (c := C - 1 - c) (e := C - q) (n := C) (by omega) (by omega) (by omega)
    simp [wayOf, afterC, afterR, laidO_bit, z0]; omega
  · have := lay_bounds (c := r) (e := R - q) (n := R) hr.1 hr.2 (by omega)
    simp [wayOf, afterC, afterR, laidO_bit]; omega
  · have := lay_bounds (c := R - 1 - r) (e := R - q) (n := R) (by omega) (by omega) (by omega)
    simp [wayOf, afterC, afterR, laidO_bit]; omega
  · simp [wayOf, afterC, afterR, z0, z1]; omega
  · simp [wayOf, afterC, afterR, z0, z1]; omega
/-- All that stands while a pile is folded. -/
structure FEnv (w : World) (C R : Int) (A : Option Addr) (n c : Nat) (f : Fold) (ga g : Nat) (C' R' : Int) (n' : Nat) (wr : World) : Prop where
  bp : BoxAt wr w.heap.size #[.int .i64 C, .int .i64 R, .slice A n c] 119
  bf : BoxAt wr (w.heap.size + 1) #[.int .i64 f.k, .int .i64 f.c] 98
  ba : BoxAt wr ga #[.int .i64 C', .int .i64 R', .slice (some ⟨g, 0, none⟩) n' n'] 119
  br : BoxAt wr (w.heap.size + 1 + 1) #[.int .i64 0, .int .i64 0, .slice none 0 0] 119
  low : Below w.heap.size w wr
theorem FEnv.set {w : World} {C R : Int} {A : Option Addr} {n c : Nat} {f : Fold} {ga g : Nat} {C' R' : Int} {n' : Nat} {wr : World} (h : FEnv w C R A n c f ga g C' R' n' wr) {b : Nat} (h1 : w.heap.size + 1 + 1 < b) (h2 : ga ≠ b) (j : Nat) (u : Value) : FEnv w C R A n c f ga g C' R' n' (wr.setCell ⟨b, j, none⟩ u) :=
  ⟨h.bp.set_other (p := ⟨b, j, none⟩) (by show w.heap.size ≠ b; omega) u, h.bf.set_other (p := ⟨b, j, none⟩) (by show w.heap.size + 1 ≠ b; omega) u, h.ba.set_other (p := ⟨b, j, none⟩) h2 u, h.br.set_other (p := ⟨b, j, none⟩) (by show w.heap.size + 1 + 1 ≠ b; omega) u, h.low.setCell (p := ⟨b, j, none⟩) (by show w.heap.size ≤ b; omega) u⟩
theorem FEnv.grown {w : World} {C R : Int} {A : Option Addr} {n c : Nat} {f : Fold} {ga g : Nat} {C' R' : Int} {n' : Nat} {wr w1 : World} (h : FEnv w C R A n c f ga g C' R' n' wr) {row : Option Nat} (hg : wr.grownBy w1 row) (hr : ∀ q, row = some q → w.heap.size + 1 + 1 < q ∧ ga ≠ q) : FEnv w C R A n c f ga g C' R' n' w1 :=
  ⟨h.bp.grown hg (fun e => by have := hr _ e.symm; omega), h.bf.grown hg (fun e => by have := hr _ e.symm; omega), h.ba.grown hg (fun e => (hr _ e.symm).2 rfl), h.br.grown hg (fun e => by have := hr _ e.symm; omega), h.low.grown hg h.low.size (fun q e => by have := hr _ e; omega)⟩
theorem FEnv.below {w : World} {C R : Int} {A : Option Addr} {n c : Nat} {f : Fold} {ga g : Nat} {C' R' : Int} {n' : Nat} {wr w1 : World} (h : FEnv w C R A n c f ga g C' R' n' wr) (hb : Below wr.heap.size wr w1) : FEnv w C R A n c f ga g C' R' n' w1 :=
  ⟨h.bp.below hb, h.bf.below hb, h.ba.below hb, h.br.below hb, h.low.trans (hb.mono h.low.size)⟩
/-- How many leaves there are. -/
def sumL : List (List Leaf) → Nat
  | [] => 0
  | x :: L => x.length + sumL L
theorem sumL_mem {L : List (List Leaf)} {x : List Leaf} (h : x ∈ L) : x.length ≤ sumL L := by
  induction L with
  | nil => cases h
  | cons y L ih =>
    show _ ≤ y.length + sumL L
    rcases List.mem_cons.1 h with rfl | h
    · omega
    · have := ih h; omega
theorem sumL_set : ∀ {L : List (List Leaf)} {j : Nat} (hj : j < L.length) (x : List Leaf), sumL (L.set j x) + L[j].length = sumL L + x.length
  | [], _, hj, _ => absurd hj (Nat.not_lt_zero _)
  | y :: L, 0, _, x => by show x.length + sumL L + y.length = y.length + sumL L + x.length; omega
  | y :: L, j + 1, hj, x => by
    have := sumL_set (L := L) (j := j) (by simpa using hj) x
    show y.length + sumL (L.set j x) + (L[j]'(by simpa using hj)).length = y.length + sumL L + x.length
    omega
theorem sumL_rep (n : Nat) : sumL (List.replicate n []) = 0 := by
  induction n with
  | zero => rfl
  | succ n ih => rw [List.replicate_succ]; show 0 + sumL _ = 0; omega
theorem sumL_take {L : List (List Leaf)} {k : Nat} (hk : k < L.length) : sumL (L.take (k + 1)) = sumL (L.take k) + L[k].length := by
  rw [List.take_succ_eq_append_getElem hk]
  generalize L.take k = M
  induction M with
  | nil => show L[k].length + 0 = 0 + _; omega
  | cons y M ih => show y.length + sumL (M ++ [L[k]]) = y.length + sumL M + _; omega
theorem sumL_take_le (L : List (List Leaf)) (k : Nat) : sumL (L.take k) ≤ sumL L := by
  induction L generalizing k with
  | nil => simp
  | cons y L ih =>
    cases k with
    | zero => exact Nat.zero_le _
    | succ k => show y.length + sumL (L.take k) ≤ y.length + sumL L; have := ih k; omega
theorem getD_in {α : Type} {L : List α} {k : Nat} (d : α) (h : k < L.length) : L.getD k d = L[k] := by rw [List.getD_eq_getElem?_getD, List.getElem?_eq_getElem h]; rfl
theorem stepF_eq {C R C' r k s j : Nat} {f : Fold} {P acc : List (List Leaf)} {qc qr qo qt : Int} (hs : r * C + k = s) (hk : k < C) (hq : (⟨qc, qr, qo, qt⟩ : Way) = wayOf C R f k r) (hj : qr * C' + qc = (j : Int)) :
    stepF C R C' f P acc s = acc.set j (if qo = 1 then turnL qo qt (P.getD s []) ++ acc.getD j [] else acc.getD j [] ++ turnL qo qt (P.getD s [])) := by
  have e1 : s % C = k := by rw [← hs, Nat.mul_comm, Nat.mul_add_mod, Nat.mod_eq_of_lt hk]
  have e2 : s / C = r := by rw [← hs, Nat.mul_comm, Nat.mul_add_div (by omega), Nat.div_eq_of_lt hk, Nat.add_zero]
  unfold stepF
  rw [e1, e2, ← hq]
  show acc.set (qr * C' + qc).toNat _ = _
  rw [hj, Int.toNat_natCast]
theorem map_getD (L : List PS) {k : Nat} (h : k < L.length) : (L.map (·.l)).getD k [] = L[k].l := by
  rw [List.getD_eq_getElem?_getD, List.getElem?_map, List.getElem?_eq_getElem h]; rfl
end Go.Proofs.YtnpehnfcccdcbaaGreatDoor
