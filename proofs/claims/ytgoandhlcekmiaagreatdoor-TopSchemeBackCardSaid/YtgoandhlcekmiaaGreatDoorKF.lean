/-
  Package impose: Creep and MarkAt, the program's and the reference's.
-/
import Derived.Test.YtgoandhlcekmiaaGreatDoorIR
import Derived.Laws.StructEq
namespace Go.Proofs.YtgoandhlcekmiaaGreatDoor
open Go.RowKit

def creepB (l t p : Int) : Bool := inB l 1 64 && inB t 0 10000 && inB p 1 (2 * l)
def creepE (l t p : Int) : Int × Int := if creepB l t p = true then (min ((p - 1) / 2) (l - 1 - (p - 1) / 2) * t, 0) else (0, 2)
def markB (s p m : Int) : Bool := inB s 0 4000 && inB p 1 4000 && inB m 1 p
def markE (s p m : Int) : Int × Int := if markB s p m = true then (s % (p / m) * m, 0) else (0, 2)
theorem mark_b {s p m : Int} (_ : s ≤ 4000) (h3 : 1 ≤ p) (h4 : p ≤ 4000) (h5 : 1 ≤ m) (h6 : m ≤ p) : 1 ≤ p / m ∧ p / m ≤ 4000 ∧ 0 ≤ s % (p / m) * m ∧ s % (p / m) * m ≤ 16000000 := by
  have a1 : 1 ≤ p / m := by
    have := Int.le_ediv_iff_mul_le (a := 1) (b := p) (c := m) (by omega)
    exact this.2 (by omega)
  have a2 : p / m ≤ p := Int.ediv_le_self _ (by omega)
  have a3 := Int.emod_nonneg s (show p / m ≠ 0 by omega)
  have a4 := Int.emod_lt_of_pos s (show 0 < p / m by omega)
  refine ⟨a1, by omega, Int.mul_nonneg a3 (by omega), ?_⟩
  have := Int.mul_le_mul (show s % (p / m) ≤ 4000 by omega) (show m ≤ 4000 by omega) (by omega) (by omega)
  omega
end Go.Proofs.YtgoandhlcekmiaaGreatDoor

namespace Go.Proofs.YtgoandhlcekmiaaGreatDoor
open Go.RowKit

def outO (x : Int) : Bool := !inB x 0 4000
def misI : List Int → Int → Int × Int
  | [], _ => (0, 12)
  | x :: L, i => if x ≠ i then (i, 0) else misI L (i + 1)
def orderE (L : List Int) : Int × Int := if inB L.length 1 4000 = false then (0, 10) else if L.any outO = true then (0, 2) else misI L 0
theorem any_step {α : Type} {p : α → Bool} {L : List α} {k : Nat} (hk : k < L.length) : (L.drop k).any p = (p L[k] || (L.drop (k + 1)).any p) := by
  rw [List.drop_eq_getElem_cons hk]; try rfl
theorem any_stop {α : Type} {p : α → Bool} {L : List α} {k : Nat} (hk : ¬ k < L.length) : (L.drop k).any p = false := by
  rw [List.drop_of_length_le (by omega)]; try rfl
theorem misI_stop {L : List Int} {k : Nat} (hk : k < L.length) (h : L[k] ≠ (k : Int)) : misI (L.drop k) k = ((k : Int), 0) := by
  rw [List.drop_eq_getElem_cons hk]; unfold misI; rw [if_pos h]
theorem misI_go {L : List Int} {k : Nat} (hk : k < L.length) (h : L[k] = (k : Int)) : misI (L.drop k) k = misI (L.drop (k + 1)) ((k + 1 : Nat) : Int) := by
  rw [List.drop_eq_getElem_cons hk]
  show (if _ then _ else _) = _
  rw [if_neg (by simp [h])]; rfl
theorem misI_end {L : List Int} {k : Nat} (hk : ¬ k < L.length) : misI (L.drop k) k = (0, 12) := by
  rw [List.drop_of_length_le (by omega)]; try rfl
end Go.Proofs.YtgoandhlcekmiaaGreatDoor

namespace Go.Proofs.YtgoandhlcekmiaaGreatDoor
open Go.RowKit

def plAt (lo hi st : Int) (L : List Int) : Nat → Nat → Int × Int
  | 0, _ => (0, 0)
  | n + 1, k => if inB (L.getD k 0) lo hi = false then ((k : Int), 2) else if 0 < k ∧ L.getD k 0 < L.getD (k - 1) 0 + st then ((k : Int), 9) else plAt lo hi st L n (k + 1)
def placesE (lo hi st : Int) (L : List Int) : Int × Int := if 40 < L.length then (0, 8) else plAt lo hi st L (L.length - 0) 0
theorem plAt_range {lo hi st : Int} {L : List Int} {k : Nat} (hk : k < L.length) (h : inB (L.getD k 0) lo hi = false) : plAt lo hi st L (L.length - k) k = ((k : Int), 2) := by
  obtain ⟨m, hm⟩ : ∃ m, L.length - k = m + 1 := ⟨L.length - k - 1, by omega⟩
  rw [hm]; unfold plAt; rw [if_pos h]
theorem plAt_order {lo hi st : Int} {L : List Int} {k : Nat} (hk : k < L.length) (h : inB (L.getD k 0) lo hi = true) (h2 : 0 < k ∧ L.getD k 0 < L.getD (k - 1) 0 + st) : plAt lo hi st L (L.length - k) k = ((k : Int), 9) := by
  obtain ⟨m, hm⟩ : ∃ m, L.length - k = m + 1 := ⟨L.length - k - 1, by omega⟩
  rw [hm]; unfold plAt; rw [if_neg (by rw [h]; decide), if_pos h2]
theorem plAt_go {lo hi st : Int} {L : List Int} {k : Nat} (hk : k < L.length) (h : inB (L.getD k 0) lo hi = true) (h2 : ¬ (0 < k ∧ L.getD k 0 < L.getD (k - 1) 0 + st)) : plAt lo hi st L (L.length - k) k = plAt lo hi st L (L.length - (k + 1)) (k + 1) := by
  obtain ⟨m, hm⟩ : ∃ m, L.length - k = m + 1 := ⟨L.length - k - 1, by omega⟩
  rw [hm, show L.length - (k + 1) = m by omega]
  show (if _ then _ else _) = _
  rw [if_neg (by rw [h]; decide), if_neg h2]
theorem plAt_end {lo hi st : Int} {L : List Int} {k : Nat} (hk : ¬ k < L.length) : plAt lo hi st L (L.length - k) k = (0, 0) := by
  rw [show L.length - k = 0 by omega]; try rfl
end Go.Proofs.YtgoandhlcekmiaaGreatDoor

namespace Go.Proofs.YtgoandhlcekmiaaGreatDoor
open Go.RowKit

def bookE (P S : Int) (pl cl : List Int) : Int × Int :=
  if inB P 1 4000 = true ∧ inB S 2 64 = true then (if S % 2 ≠ 0 then (0, 3) else if (placesE 0 P 0 pl).2 ≠ 0 then placesE 0 P 0 pl else placesE 1 P 1 cl) else (0, 2)
/-- The first n signatures. -/
def sigTo (P S : Int) (n : Nat) : List Rng := (List.range n).map fun (i : Nat) => ⟨(i : Int) * S + 1, min ((i : Int) * S + S) P⟩
theorem sigTo_len (P S : Int) (n : Nat) : (sigTo P S n).length = n := by simp [sigTo]
theorem sigTo_succ (P S : Int) (n : Nat) : sigTo P S (n + 1) = sigTo P S n ++ [⟨(n : Int) * S + 1, min ((n : Int) * S + S) P⟩] := by unfold sigTo; rw [List.range_succ, List.map_append]; try rfl
/-- How many signatures there are. -/
def sigN (P S : Int) : Nat := ((P + S - 1) / S).toNat
theorem sigN_eq {P S : Int} {n : Nat} (hS : 2 ≤ S) (h1 : P ≤ n * S) (h2 : (n : Int) * S < P + S) : sigN P S = n := by
  unfold sigN
  have h3 : (P + S - 1) / S = (n : Int) := by
    apply Int.le_antisymm
    · have := Int.ediv_lt_of_lt_mul (a := P + S - 1) (b := (n : Int) + 1) (c := S) (by omega) (by rw [Int.add_mul, Int.one_mul]; omega)
      omega
    · exact Int.le_ediv_of_mul_le (by omega) (by omega)
  rw [h3, Int.toNat_natCast]
def SigPost (w : World) (P S : Int) (pl cl : List Int) (e : Ending) (w' : World) : Prop :=
  Below w.heap.size w w' ∧
  (((bookE P S pl cl).2 ≠ 0 ∧ e = .returned (.tuple #[.slice none 0 0, .int .i64 0, .int .i64 (bookE P S pl cl).2])) ∨
   ((bookE P S pl cl).2 = 0 ∧ ∃ (a : Option Addr) (n c : Nat), e = .returned (.tuple #[.slice a n c, .int .i64 ((sigN P S : Nat) * S - P), .int .i64 0]) ∧ n = (sigTo P S (sigN P S)).length ∧ RowsAt 2 Rng.l w' a (sigTo P S (sigN P S))))
theorem book_ok {P S : Int} {pl cl : List Int} (h : (bookE P S pl cl).2 = 0) : (1 ≤ P ∧ P ≤ 4000) ∧ (2 ≤ S ∧ S ≤ 64) ∧ S % 2 = 0 := by
  unfold bookE at h
  by_cases h1 : inB P 1 4000 = true ∧ inB S 2 64 = true
  · rw [if_pos h1] at h
    refine ⟨inB_iff.1 h1.1, inB_iff.1 h1.2, ?_⟩
    by_cases h2 : S % 2 = 0
    · exact h2
    · rw [if_pos h2] at h; simp at h
  · rw [if_neg h1] at h; simp at h
end Go.Proofs.YtgoandhlcekmiaaGreatDoor

namespace Go.Proofs.YtgoandhlcekmiaaGreatDoor
open Go.RowKit

theorem list_ne {α : Type} {L M : List α} {k : Nat} (h1 : k < L.length) (h2 : k < M.length) (h : L[k] ≠ M[k]) : L ≠ M := fun e => h (by subst e; rfl)
theorem list_eq {α : Type} {L M : List α} (hl : L.length = M.length) (h : ∀ j, j < L.length → L[j]? = M[j]?) : L = M := by
  apply List.ext_getElem? 
  intro j
  by_cases hj : j < L.length
  · exact h j hj
  · rw [List.getElem?_eq_none (by omega), List.getElem?_eq_none (by omega)]
theorem rng_ne {x y : Rng} (h : x ≠ y) : (¬ x.lo = y.lo) ∨ (x.lo = y.lo ∧ ¬ x.hi = y.hi) := by
  obtain ⟨a0, a1⟩ := x
  obtain ⟨b0, b1⟩ := y
  simp only [ne_eq, Rng.mk.injEq] at h
  simp only
  by_cases e0 : a0 = b0
  · subst e0
    all_goals exact Or.inr (⟨rfl, (fun e => h (by subst e; simp))⟩)
  · exact Or.inl (e0)
theorem page_ne {x y : Page} (h : x ≠ y) : (¬ x.p = y.p) ∨ (x.p = y.p ∧ ¬ x.t = y.t) := by
  obtain ⟨a0, a1⟩ := x
  obtain ⟨b0, b1⟩ := y
  simp only [ne_eq, Page.mk.injEq] at h
  simp only
  by_cases e0 : a0 = b0
  · subst e0
    all_goals exact Or.inr (⟨rfl, (fun e => h (by subst e; simp))⟩)
  · exact Or.inl (e0)
theorem fold_ne {x y : Fold} (h : x ≠ y) : (¬ x.k = y.k) ∨ (x.k = y.k ∧ ¬ x.c = y.c) := by
  obtain ⟨a0, a1⟩ := x
  obtain ⟨b0, b1⟩ := y
  simp only [ne_eq, Fold.mk.injEq] at h
  simp only
  by_cases e0 : a0 = b0
  · subst e0
    all_goals exact Or.inr (⟨rfl, (fun e => h (by subst e; simp))⟩)
  · exact Or.inl (e0)
set_option maxRecDepth 100000 in
set_option maxHeartbeats 2000000 in
theorem sameFolds_any (a1 : Option Addr) (L1 : List Fold) (c1 : Nat) (a2 : Option Addr) (L2 : List Fold) (c2 : Nat) (w : World) (h1 : RowsAt 2 Fold.l w a1 L1) (h2 : RowsAt 2 Fold.l w a2 L2) (_ : L1.length ≤ maxLen) (l2 : L2.length ≤ maxLen) :
    Calls Tryz.prog 13 #[.slice a1 L1.length c1, .slice a2 L2.length c2] w fun e w' => e = .returned (.bool (decide (L1 = L2))) ∧ Drew w w' := by
  unfold maxLen at l2
  by_cases hn : L1.length = L2.length
  · have hne : ((L1.length : Int) != (L2.length : Int)) = false := by simp [hn]
    have hle : L1.length ≤ L2.length := by omega
    have HN := Lib.hid hn; clear hn
    go_enter Tryz.func13, Tryz.ntmps13
    go_wp2
    go_loopw [5] (fun i wr => ∃ k : Nat, k ≤ L1.length ∧ i = .int .i64 k ∧ Hid (∀ j, j < k → L1[j]? = L2[j]?) ∧ Drew w wr) (fun i _ => L1.length - (intOf i).toNat)
    case atStart => exact ⟨0, Nat.zero_le _, rfl, Lib.hid (fun j hj => absurd hj (Nat.not_lt_zero _)), Drew.refl _⟩
    case round =>
      obtain ⟨k, hk, rfl, HR, hD⟩ := hrel
      by_cases hlt : k < L1.length
      · have hlt2 : k < L2.length := by omega
        obtain ⟨p1, rfl, hp1, x0, x1⟩ := (hD.rows h1).fold hlt
        obtain ⟨p2, rfl, hp2, y0, y1⟩ := (hD.rows h2).fold hlt2
        have hkl1 : (k : Int) < (L1.length : Int) := by omega
        have hkl2 : (k : Int) < (L2.length : Int) := by omega
        obtain ⟨x, ex⟩ : ∃ x, x = L1[k] := ⟨_, rfl⟩
        obtain ⟨y, ey⟩ : ∃ x, x = L2[k] := ⟨_, rfl⟩
        rw [← ex] at x0 x1
        rw [← ey] at y0 y1
        by_cases hxy : x = y
        · have HS : Hid (∀ j, j < k + 1 → L1[j]? = L2[j]?) := Lib.hid (fun j hj => by
            by_cases e : j = k
            · subst e; rw [List.getElem?_eq_getElem hlt, List.getElem?_eq_getElem hlt2, ← ex, ← ey, hxy]
            · exact HR.out j (by omega))
          subst hxy
          clear ex ey
          go_wp2_with fail
          go_quiet (fail)
          go_wp2
          go_roundw
          case rel => exact ⟨k + 1, by omega, by go_num, HS, hD.drewN _⟩
          case measure => simp [intOf]; omega
        · have HZ : Hid (decide (L1 = L2) = false) := Lib.hid (decide_eq_false (list_ne hlt hlt2 (by rw [← ex, ← ey]; exact hxy)))
          clear ex ey
          rcases fold_ne hxy with z0 | ⟨z0, z1⟩
          all_goals
            clear hxy
            go_wp2_with fail
            go_quiet (fail)
            go_wp2
            go_ret
            exact ⟨ret_bool HZ.out.symm, hD.drewN _⟩
      · have HZ : Hid (decide (L1 = L2) = true) := Lib.hid (decide_eq_true (list_eq HN.out (fun j hj => HR.out j (by omega))))
        go_wp2
        go_ret
        exact ⟨ret_bool HZ.out.symm, hD⟩
  · have hne : ((L1.length : Int) != (L2.length : Int)) = true := by simp; omega
    have HZ : Hid (decide (L1 = L2) = false) := Lib.hid (decide_eq_false (fun e => hn (by rw [e])))
    clear hn
    go_enter Tryz.func13, Tryz.ntmps13
    go_wp2
    go_ret
    exact ⟨ret_bool HZ.out.symm, Drew.refl _⟩
theorem leaf_ne {x y : Leaf} (h : x ≠ y) : (¬ x.c = y.c) ∨ (x.c = y.c ∧ ¬ x.r = y.r) ∨ (x.c = y.c ∧ x.r = y.r ∧ ¬ x.o = y.o) ∨ (x.c = y.c ∧ x.r = y.r ∧ x.o = y.o ∧ ¬ x.t = y.t) := by
  obtain ⟨a0, a1, a2, a3⟩ := x
  obtain ⟨b0, b1, b2, b3⟩ := y
  simp only [ne_eq, Leaf.mk.injEq] at h
  simp only
  by_cases e0 : a0 = b0
  · subst e0
    by_cases e1 : a1 = b1
    · subst e1
      by_cases e2 : a2 = b2
      · subst e2
        all_goals exact Or.inr (Or.inr (Or.inr (⟨rfl, rfl, rfl, (fun e => h (by subst e; simp))⟩)))
      · exact Or.inr (Or.inr (Or.inl (⟨rfl, rfl, e2⟩)))
    · exact Or.inr (Or.inl (⟨rfl, e1⟩))
  · exact Or.inl (e0)
end Go.Proofs.YtgoandhlcekmiaaGreatDoor

namespace Go.Proofs.YtgoandhlcekmiaaGreatDoor
open Go.RowKit

theorem cell_ne {x y : Cell} (h : x ≠ y) : (¬ x.f = y.f) ∨ (x.f = y.f ∧ ¬ x.ft = y.ft) ∨ (x.f = y.f ∧ x.ft = y.ft ∧ ¬ x.b = y.b) ∨ (x.f = y.f ∧ x.ft = y.ft ∧ x.b = y.b ∧ ¬ x.bt = y.bt) := by
  obtain ⟨a0, a1, a2, a3⟩ := x
  obtain ⟨b0, b1, b2, b3⟩ := y
  simp only
  by_cases e0 : a0 = b0
  · subst e0
    by_cases e1 : a1 = b1
    · subst e1
      by_cases e2 : a2 = b2
      · subst e2
        exact Or.inr (Or.inr (Or.inr ⟨rfl, rfl, rfl, fun e => h (by subst e; rfl)⟩))
      · exact Or.inr (Or.inr (Or.inl ⟨rfl, rfl, e2⟩))
    · exact Or.inr (Or.inl ⟨rfl, e1⟩)
  · exact Or.inl e0
structure Scheme where
  C : Int
  R : Int
  l : List Cell
def sameS (x y : Scheme) : Bool := decide (x.C = y.C ∧ x.R = y.R ∧ x.l = y.l)
set_option maxRecDepth 100000 in
set_option maxHeartbeats 4000000 in
theorem same_any (x : Scheme) (a1 : Option Addr) (c1 : Nat) (y : Scheme) (a2 : Option Addr) (c2 : Nat) (w : World) (h1 : RowsAt 4 Cell.l w a1 x.l) (h2 : RowsAt 4 Cell.l w a2 y.l) (l1 : x.l.length ≤ maxLen) (l2 : y.l.length ≤ maxLen) :
    Calls Tryz.prog 12 #[.agg #[.int .i64 x.C, .int .i64 x.R, .slice a1 x.l.length c1], .agg #[.int .i64 y.C, .int .i64 y.R, .slice a2 y.l.length c2]] w fun e w' => e = .returned (.bool (sameS x y)) ∧ Below w.heap.size w w' := by
  unfold maxLen at l1 l2
  obtain ⟨C1, R1, L1⟩ := x
  obtain ⟨C2, R2, L2⟩ := y
  have h1 : RowsAt 4 Cell.l w a1 L1 := h1
  have h2 : RowsAt 4 Cell.l w a2 L2 := h2
  have l1 : L1.length ≤ 2 ^ 63 - 1 := l1
  have l2 : L2.length ≤ 2 ^ 63 - 1 := l2
  have hB0 := ((Below.refl w.heap.size w).alloc (Nat.le_refl _) (.cells #[.int .i64 C1, .int .i64 R1, .slice a1 L1.length c1] 29)).alloc (by simp) (.cells #[.int .i64 C2, .int .i64 R2, .slice a2 L2.length c2] 29)
  by_cases hC : C1 = C2
  · subst hC
    by_cases hR : R1 = R2
    · subst hR
      by_cases hn : L1.length = L2.length
      · have hne : ((L1.length : Int) != (L2.length : Int)) = false := by simp [hn]
        have hle : L1.length ≤ L2.length := by omega
        have HN := Lib.hid hn; clear hn
        have g1 := (h1.alloc (.cells #[.int .i64 C1, .int .i64 R1, .slice a1 L1.length c1] 29)).alloc (.cells #[.int .i64 C1, .int .i64 R1, .slice a2 L2.length c2] 29)
        have g2 := (h2.alloc (.cells #[.int .i64 C1, .int .i64 R1, .slice a1 L1.length c1] 29)).alloc (.cells #[.int .i64 C1, .int .i64 R1, .slice a2 L2.length c2] 29)
        go_enter Tryz.func12, Tryz.ntmps12
        go_wp2
        go_loopw [5] (fun i wr => ∃ k : Nat, k ≤ L1.length ∧ i = .int .i64 k ∧ Hid (∀ j, j < k → L1[j]? = L2[j]?) ∧ Drew ((w.alloc (.cells #[.int .i64 C1, .int .i64 R1, .slice a1 L1.length c1] 29)).alloc (.cells #[.int .i64 C1, .int .i64 R1, .slice a2 L2.length c2] 29)) wr) (fun i _ => L1.length - (intOf i).toNat)
        case atStart => exact ⟨0, Nat.zero_le _, rfl, Lib.hid (fun j hj => absurd hj (Nat.not_lt_zero _)), Drew.refl _⟩
        case round =>
          obtain ⟨k, hk, rfl, HR, hD⟩ := hrel
          have q0 := hD.cell (p := ⟨w.heap.size, 2, none⟩) (v := .slice a1 L1.length c1) (by simp)
          have q1 := hD.cell (p := ⟨w.heap.size + 1, 2, none⟩) (v := .slice a2 L2.length c2) (by simp)
          by_cases hlt : k < L1.length
          · have hlt2 : k < L2.length := by omega
            obtain ⟨p1, rfl, hp1, x0, x1, x2, x3⟩ := (hD.rows g1).cell hlt
            obtain ⟨p2, rfl, hp2, y0, y1, y2, y3⟩ := (hD.rows g2).cell hlt2
            have hkl1 : (k : Int) < (L1.length : Int) := by omega
            have hkl2 : (k : Int) < (L2.length : Int) := by omega
            obtain ⟨x, ex⟩ : ∃ x, x = L1[k] := ⟨_, rfl⟩
            obtain ⟨y, ey⟩ : ∃ x, x = L2[k] := ⟨_, rfl⟩
            rw [← ex] at x0 x1 x2 x3
            rw [← ey] at y0 y1 y2 y3
            by_cases hxy : x = y
            · have HS : Hid (∀ j, j < k + 1 → L1[j]? = L2[j]?) := Lib.hid (fun j hj => by
                by_cases e : j = k
                · subst e; rw [List.getElem?_eq_getElem hlt, List.getElem?_eq_getElem hlt2, ← ex, ← ey, hxy]
                · exact HR.out j (by omega))
              subst hxy
              clear ex ey
              go_wp2_with fail
              go_quiet (fail)
              go_wp2
              go_roundw
              case rel => exact ⟨k + 1, by omega, by go_num, HS, hD.drewN _⟩
              case measure => simp [intOf]; omega
            · have HZ : Hid (sameS ⟨C1, R1, L1⟩ ⟨C1, R1, L2⟩ = false) := Lib.hid (decide_eq_false (fun e => list_ne hlt hlt2 (by rw [← ex, ← ey]; exact hxy) e.2.2))
              clear ex ey
              rcases cell_ne hxy with z0 | ⟨z0, z1⟩ | ⟨z0, z1, z2⟩ | ⟨z0, z1, z2, z3⟩
              all_goals
                clear hxy
                go_wp2_with fail
                go_quiet (fail)
                go_wp2
                go_ret
                exact ⟨ret_bool HZ.out.symm, below_drewN (hD.below hB0) _⟩
          · have HZ : Hid (sameS ⟨C1, R1, L1⟩ ⟨C1, R1, L2⟩ = true) := Lib.hid (decide_eq_true ⟨rfl, rfl, list_eq (L := L1) (M := L2) HN.out (fun j hj => HR.out j (by omega))⟩)
            have hkl : ¬ ((k : Int) < (L1.length : Int)) := by omega
            go_wp2
            go_ret
            exact ⟨ret_bool HZ.out.symm, hD.below hB0⟩
      · have hne : ((L1.length : Int) != (L2.length : Int)) = true := by simp; omega
        have HZ : Hid (sameS ⟨C1, R1, L1⟩ ⟨C1, R1, L2⟩ = false) := Lib.hid (decide_eq_false (fun e => hn (congrArg List.length e.2.2)))
        clear hn
        go_enter Tryz.func12, Tryz.ntmps12
        go_wp2
        go_ret
        exact ⟨ret_bool HZ.out.symm, hB0⟩
    · have hne : (R1 != R2) = true := by simpa using hR
      have HZ : Hid (sameS ⟨C1, R1, L1⟩ ⟨C1, R2, L2⟩ = false) := Lib.hid (decide_eq_false (fun e => hR e.2.1))
      clear hR
      go_enter Tryz.func12, Tryz.ntmps12
      go_wp2
      go_ret
      exact ⟨ret_bool HZ.out.symm, hB0⟩
  · have hne : (C1 != C2) = true := by simpa using hC
    have HZ : Hid (sameS ⟨C1, R1, L1⟩ ⟨C2, R2, L2⟩ = false) := Lib.hid (decide_eq_false (fun e => hC e.1))
    clear hC
    go_enter Tryz.func12, Tryz.ntmps12
    go_wp2
    go_ret
    exact ⟨ret_bool HZ.out.symm, hB0⟩
end Go.Proofs.YtgoandhlcekmiaaGreatDoor

namespace Go.Proofs.YtgoandhlcekmiaaGreatDoor
open Go.RowKit

/-- A block that is made with structs in it. -/
theorem rows_lit {α : Type} {n : Nat} {g : α → List Int} (hg : ∀ x, (g x).length = n) (w : World) (T : TypeId) (L : List α) (cs : Array Value) (hcs : cs = (vals (L.flatMap g)).toArray) : RowsAt n g (w.alloc (.cells cs T)) (some ⟨w.heap.size, 0, none⟩) L := by
  subst hcs
  intro k hk
  refine ⟨_, rfl, by simp, fun j hj => ?_⟩
  rw [add0, fld_own, cell_of_row _ w.heap.size _ _ _ (0, 0) (heap_alloc_new w _)]
  unfold vals
  rw [List.getElem?_toArray, List.getElem?_map, flat_at hg L k j hk hj]; try rfl
def quartoL : List Fold := [⟨1, 1⟩, ⟨3, 1⟩]
def quartoS : Scheme := ⟨2, 2, [⟨7, 0, 8, 0⟩, ⟨6, 0, 5, 0⟩, ⟨2, 1, 1, 1⟩, ⟨3, 1, 4, 1⟩]⟩
theorem ex1 : (checkFo 2 2 quartoL).2 = 0 := by decide +kernel
theorem ex2 : schemeD 2 2 quartoL = (2, 2) := by decide +kernel
theorem ex3 : schemeC 2 2 quartoL = quartoS.l := by decide +kernel
theorem ex4 : creepE 4 10 5 = (10, 0) := by decide +kernel
theorem ex5 : (bookE 20 8 [] []).2 = 0 := by decide +kernel
theorem ex6 : sigN 20 8 = 3 := by decide +kernel
theorem ex7 : sigTo 20 8 3 = [⟨1, 8⟩, ⟨9, 16⟩, ⟨17, 20⟩] := by decide +kernel
theorem okI_quarto : ∀ x ∈ quartoL, OkI x.c := by
  intro x hx
  rcases List.mem_cons.1 hx with rfl | hx
  · exact (by decide : (Lit.int .i64 1).wf = true)
  · rw [List.mem_singleton.1 hx]; exact (by decide : (Lit.int .i64 1).wf = true)
theorem quartoSame (a : Option Addr) (c : Nat) (b : Addr) (W : World) (h1 : RowsAt 4 Cell.l W a quartoS.l) (h2 : RowsAt 4 Cell.l W (some b) quartoS.l) :
    Calls Tryz.prog 12 #[.agg #[.int .i64 2, .int .i64 2, .slice a 4 c], .agg #[.int .i64 2, .int .i64 2, .slice (some b) 4 4]] W fun e w' => e = .returned (.bool true) ∧ Below W.heap.size W w' :=
  (same_any quartoS a c quartoS (some b) 4 W h1 h2 (by decide) (by decide)).mono fun e w' ⟨he, hb⟩ => ⟨by rw [he]; exact ret_bool (by decide +kernel), hb⟩
def twenty : List Rng := [⟨1, 8⟩, ⟨9, 16⟩, ⟨17, 20⟩]
def QuartoPost (w : World) (e : Ending) (w' : World) : Prop := e = .returned (.slice (some ⟨w.heap.size, 0, none⟩) 2 2) ∧ w' = w.alloc (.cells #[.int .i64 1, .int .i64 1, .int .i64 3, .int .i64 1] 59)
set_option maxHeartbeats 1000000 in
theorem quarto_any (w : World) : Calls Tryz.prog 20 #[] w (QuartoPost w) := by
  go_enter Tryz.func20, Tryz.ntmps20
  go_wp2
  go_ret
  exact ⟨rfl, rfl⟩
end Go.Proofs.YtgoandhlcekmiaaGreatDoor
