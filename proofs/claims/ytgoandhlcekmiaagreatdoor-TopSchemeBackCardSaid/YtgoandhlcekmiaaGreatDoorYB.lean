/-
  Package impose: CheckScheme.
-/
import Derived.Test.YtgoandhlcekmiaaGreatDoorKH
import Derived.Deep.CutRange
namespace Go.Proofs.YtgoandhlcekmiaaGreatDoor
open Go.RowKit

def cellB (m : Int) (x : Cell) : Bool := [Page.mk x.f x.ft, Page.mk x.b x.bt].all (pageB m)
def dblB (S : List Int) (x : Cell) : Bool := S.contains x.f || S.contains x.b || x.f == x.b
/-- The first cell that is not right. -/
def schErr (m : Int) : List Cell → List Int → Int → Int × Int
  | [], _, _ => (0, 0)
  | x :: L, S, i => if cellB m x = false then (i, 2) else if dblB S x = true then (i, 28) else schErr m L (S ++ [x.f, x.b]) (i + 1)
def checkSc (C R : Int) (L : List Cell) : Int × Int := if cellsErr C R L.length ≠ 0 then (0, cellsErr C R L.length) else schErr (2 * L.length) L [] 0
def seenP (L : List Cell) (k : Nat) : List Int := (L.take k).flatMap fun x => [x.f, x.b]
theorem seenP_succ {L : List Cell} {k : Nat} (hk : k < L.length) : seenP L (k + 1) = seenP L k ++ [L[k].f, L[k].b] := by
  unfold seenP; rw [List.take_succ_eq_append_getElem hk, List.flatMap_append]; rfl
theorem seenP_len (L : List Cell) (k : Nat) : (seenP L k).length ≤ 2 * k := by
  unfold seenP
  rw [flat_len (n := 2) (g := fun x : Cell => [x.f, x.b]) (fun _ => rfl), List.length_take]; omega
theorem schErr_range {m : Int} {L : List Cell} {k : Nat} {S : List Int} (hk : k < L.length) (h : cellB m L[k] = false) : schErr m (L.drop k) S k = ((k : Int), 2) := by
  rw [List.drop_eq_getElem_cons hk]; unfold schErr; rw [if_pos h]
theorem schErr_dbl {m : Int} {L : List Cell} {k : Nat} {S : List Int} (hk : k < L.length) (h : cellB m L[k] = true) (h2 : dblB S L[k] = true) : schErr m (L.drop k) S k = ((k : Int), 28) := by
  rw [List.drop_eq_getElem_cons hk]; unfold schErr; rw [if_neg (by simp [h]), if_pos h2]
theorem schErr_go {m : Int} {L : List Cell} {k : Nat} (hk : k < L.length) (h : cellB m L[k] = true) (h2 : dblB (seenP L k) L[k] = false) : schErr m (L.drop k) (seenP L k) k = schErr m (L.drop (k + 1)) (seenP L (k + 1)) ((k + 1 : Nat) : Int) := by
  rw [List.drop_eq_getElem_cons hk]
  show (if _ then _ else _) = _
  rw [if_neg (by simp [h]), if_neg (by simp [h2]), seenP_succ hk]; rfl
theorem schErr_end {m : Int} {L : List Cell} {k : Nat} {S : List Int} (hk : ¬ k < L.length) : schErr m (L.drop k) S k = (0, 0) := by
  rw [List.drop_of_length_le (by omega)]; rfl
theorem cellB_in {m : Int} {x : Cell} (h : cellB m x = true) : (1 ≤ x.f ∧ x.f ≤ m) ∧ (0 ≤ x.ft ∧ x.ft ≤ 1) ∧ (1 ≤ x.b ∧ x.b ≤ m) ∧ (0 ≤ x.bt ∧ x.bt ≤ 1) := by
  unfold cellB pageB at h
  simp only [List.all_cons, List.all_nil, Bool.and_eq_true, Bool.and_true] at h
  exact ⟨inB_iff.1 h.1.1, inB_iff.1 h.1.2, inB_iff.1 h.2.1, inB_iff.1 h.2.2⟩
/-- Which pages are there: a row of truths. -/
def boolRow (n : Nat) (S : List Int) : Array Value := ((List.range n).map fun j : Nat => Value.bool (S.contains (j : Int))).toArray
theorem boolRow_at {n : Nat} {S : List Int} {j : Nat} (h : j < n) : (boolRow n S)[j]? = some (.bool (S.contains (j : Int))) := by
  unfold boolRow
  rw [List.getElem?_toArray, List.getElem?_map, List.getElem?_range h]; rfl
theorem boolRow_nil (n : Nat) : madeCells #[.bool false] (n * 1) = boolRow n [] := by
  apply Array.ext_getElem?
  intro j
  by_cases hj : j < n
  · rw [boolRow_at hj]; simp [madeCells, hj, Nat.mod_one]
  · rw [Array.getElem?_eq_none (by rw [size_madeCells]; omega), Array.getElem?_eq_none (by simp [boolRow]; omega)]
theorem boolRow_put (n : Nat) (S : List Int) (x : Nat) : (boolRow n S).setIfInBounds x (.bool true) = boolRow n (S ++ [(x : Int)]) := by
  apply Array.ext_getElem?
  intro j
  by_cases hj : j < n
  · rw [boolRow_at hj, Array.getElem?_setIfInBounds]
    by_cases e : x = j
    · subst e
      rw [if_pos rfl, if_pos (by simp [boolRow]; exact hj)]
      simp
    · rw [if_neg e, boolRow_at hj]
      simp; intro e2; omega
  · rw [Array.getElem?_eq_none (by simp [boolRow]; omega), Array.getElem?_eq_none (by simp [boolRow]; omega)]
theorem info_bool : (Tryz.prog.info? 4).map (fun i => (i.zero, i.size, i.bytes)) = some (some (.bool false), 1, 1) := by kernel_rfl
theorem RowsAt.two (w : World) (x y : Page) (T : TypeId) : RowsAt 2 Page.l (w.alloc (.cells #[.int .i64 x.p, .int .i64 x.t, .int .i64 y.p, .int .i64 y.t] T)) (some ⟨w.heap.size, 0, none⟩) [x, y] := by
  have hb := BoxAt.new w #[.int .i64 x.p, .int .i64 x.t, .int .i64 y.p, .int .i64 y.t] T
  intro k hk
  have hk2 : k = 0 ∨ k = 1 := by simp at hk; omega
  refine ⟨_, rfl, hb.lt, fun j hj => ?_⟩
  have hj2 : j = 0 ∨ j = 1 := by omega
  rw [add0, fld_own, hb.cell]
  rcases hk2 with rfl | rfl <;> rcases hj2 with rfl | rfl <;> rfl
set_option maxRecDepth 100000 in
set_option maxHeartbeats 4000000 in
theorem checkScheme_any (C R : Int) (a : Option Addr) (L : List Cell) (c : Nat) (w : World) (hL : RowsAt 4 Cell.l w a L) (hl : L.length ≤ 1000000) :
    Calls Tryz.prog 28 #[.agg #[.int .i64 C, .int .i64 R, .slice a L.length c]] w fun e w' => e = .returned (.tuple #[.int .i64 (checkSc C R L).1, .int .i64 (checkSc C R L).2]) ∧ Below w.heap.size w w' := by
  have bx := BoxAt.new w #[.int .i64 C, .int .i64 R, .slice a L.length c] 29
  have hB1 := (Below.refl w.heap.size w).alloc (Nat.le_refl _) (.cells #[.int .i64 C, .int .i64 R, .slice a L.length c] 29)
  obtain ⟨w1, hw1⟩ : ∃ w1, w1 = w.alloc (.cells #[.int .i64 C, .int .i64 R, .slice a L.length c] 29) := ⟨_, rfl⟩
  rw [← hw1] at bx hB1
  have W1 := Lib.hid hw1
  clear hw1
  have c0 := bx.cell 0; have c1 := bx.cell 1; have c2 := bx.cell 2
  have hbl := bx.lt
  simp at c0 c1 c2
  go_enter Tryz.func28, Tryz.ntmps28
  go_wp2_with fail
  rw [← W1.out]
  go_region_held3 (fun w' => w'.cell? ⟨w.heap.size, 0, none⟩ = some (.int .i64 C) ∧ w'.cell? ⟨w.heap.size, 1, none⟩ = some (.int .i64 R) ∧ w'.cell? ⟨w.heap.size, 2, none⟩ = some (.slice a L.length c)) (first | exact ⟨k0, k1, k2⟩ | exact ⟨j0, j1, j2⟩ | go_keep)
    (first
      | (go_at_call 39; refine (sizeOfScheme_any C R _ ⟨_, _, _, rfl⟩ _).mono ?_; rintro e w2 ⟨rfl, hb2⟩; have hq2 : Below w1.heap.size w1 w2 := (Below.refl _ w1).drew.trans hb2; have j0 := (hq2.cell (p := ⟨w.heap.size, 0, none⟩) hbl).trans c0; have j1 := (hq2.cell (p := ⟨w.heap.size, 1, none⟩) hbl).trans c1; have j2 := (hq2.cell (p := ⟨w.heap.size, 2, none⟩) hbl).trans c2)
      | (go_at_call 47; refine (errorOfCells_any C R _ _).mono ?_; rintro e w3 ⟨rfl, hb3⟩; have hq3 : Below w1.heap.size w1 w3 := hq2.trans (hb3.mono (B' := w1.heap.size) hq2.size); have k0 := (hq3.cell (p := ⟨w.heap.size, 0, none⟩) hbl).trans c0; have k1 := (hq3.cell (p := ⟨w.heap.size, 1, none⟩) hbl).trans c1; have k2 := (hq3.cell (p := ⟨w.heap.size, 2, none⟩) hbl).trans c2))
  have hB3 := hB1.trans (hq3.mono (B' := w.heap.size) hB1.size)
  have bx3 := bx.below hq3
  clear hb2 hb3 hq2 hq3 j0 j1 j2 k0 k1 k2 c0 c1 c2 hbl bx hB1
  have c2 := bx3.cell 2
  have hbl := bx3.lt
  simp at c2
  by_cases h1 : cellsErr C R L.length = 0
  · have HC0 := Lib.hid h1
    rw [h1]
    obtain ⟨hs, hn⟩ := cells_ok h1
    obtain ⟨sC, sR, sm⟩ := side_ok hs
    have hL32 : L.length ≤ 32 := by omega
    obtain ⟨m, hm⟩ : ∃ m, 2 * L.length = m := ⟨_, rfl⟩
    have hmI : 2 * (L.length : Int) = (m : Int) := by omega
    have hm64 : m ≤ 64 := by omega
    have HM := Lib.hid hm
    have HE : Hid (checkSc C R L = schErr m (L.drop 0) (seenP L 0) ((0 : Nat) : Int)) := Lib.hid (by unfold checkSc; rw [if_neg (by simp [h1]), hmI]; rfl)
    have hmk : ∀ W, (Instr.makeSlice 129 (.int .i64 ((m : Int) + 1)) (.int .i64 ((m : Int) + 1))).run Tryz.prog W = .ok (.slice (some ⟨W.heap.size, 0, none⟩) (m + 1) (m + 1)) (W.alloc (.cells (boolRow (m + 1) []) 4)) := by
      intro W
      have := run_make_rowX (t := 129) Tryz.underlying129 info_bool .i64 .i64 (m + 1) (by omega) (by omega) W
      rw [show (Value.bool false).cells = #[.bool false] from rfl, boolRow_nil] at this
      exact this
    clear h1 hs hn sC sR sm hm
    have q1 : ¬ w.heap.size = w3.heap.size := by omega
    have q2 : ¬ w3.heap.size = w.heap.size := by omega
    go_wp2_with fail
    obtain ⟨g, hg⟩ : ∃ g, w3.heap.size = g := ⟨_, rfl⟩
    have br3 : BoxAt (w3.alloc (.cells (boolRow (m + 1) []) 4)) g (boolRow (m + 1) (seenP L 0)) 4 := by rw [← hg]; exact BoxAt.new w3 _ _
    have bx4 := bx3.alloc (.cells (boolRow (m + 1) []) 4)
    have hB4 := hB3.alloc hB3.size (.cells (boolRow (m + 1) []) 4)
    rw [hg]
    have hlg : w.heap.size < g := by rw [← hg]; exact hbl
    clear c2 hbl hg q1 q2 bx3 hB3 hmk
    go_loopw [28] (fun i wr => ∃ k : Nat, k ≤ L.length ∧ i = .int .i64 k ∧ Hid (schErr m (L.drop 0) (seenP L 0) ((0 : Nat) : Int) = schErr m (L.drop k) (seenP L k) k) ∧ BoxAt wr g (boolRow (m + 1) (seenP L k)) 4 ∧ BoxAt wr w.heap.size #[.int .i64 C, .int .i64 R, .slice a L.length c] 29 ∧ Below w.heap.size w wr) (fun i _ => L.length - (intOf i).toNat)
    case atStart => exact ⟨0, Nat.zero_le _, rfl, Lib.hid rfl, br3, bx4, hB4⟩
    case round =>
      obtain ⟨k, hk, rfl, HR, br, bx, hB⟩ := hrel
      clear br3 bx4 hB4
      by_cases hkl : k < L.length
      · have hkI : (k : Int) < (L.length : Int) := by omega
        obtain ⟨ad, rfl, had, s0, s1, s2, s3⟩ := (hL.below hB).cell hkl
        obtain ⟨x, ex⟩ : ∃ x, x = L[k] := ⟨_, rfl⟩
        rw [← ex] at s0 s1 s2 s3
        have EX := Lib.hid ex
        clear ex
        obtain ⟨f, ft, b, bt⟩ := x
        simp only at s0 s1 s2 s3
        obtain ⟨al, hal⟩ : ∃ al, wr.heap.size = al := ⟨_, rfl⟩
        obtain ⟨w4, hw4⟩ : ∃ w4, w4 = wr.alloc (.cells #[.int .i64 f, .int .i64 ft, .int .i64 b, .int .i64 bt] 57) := ⟨_, rfl⟩
        have bl4 : BoxAt w4 al #[.int .i64 f, .int .i64 ft, .int .i64 b, .int .i64 bt] 57 := by rw [hw4, ← hal]; exact BoxAt.new wr _ _
        have br4 : BoxAt w4 g (boolRow (m + 1) (seenP L k)) 4 := by rw [hw4]; exact br.alloc _
        have bx4 : BoxAt w4 w.heap.size #[.int .i64 C, .int .i64 R, .slice (some ad) L.length c] 29 := by rw [hw4]; exact bx.alloc _
        have hB4 : Below w.heap.size w w4 := by rw [hw4]; exact hB.alloc hB.size _
        have hgl : g < al := by rw [← hal]; exact br.lt
        go_wp2_with fail
        rw [← hw4]
        clear s0 s1 s2 s3 br bx hB hw4 hal had
        have b0 := bl4.cell 0; have b1 := bl4.cell 1; have b2 := bl4.cell 2; have b3 := bl4.cell 3
        have hll := bl4.lt
        simp at b0 b1 b2 b3
        cases hc : cellB m ⟨f, ft, b, bt⟩
        · have HZ : Hid (checkSc C R L = ((k : Int), 2)) := Lib.hid (by rw [HE.out, HR.out]; exact schErr_range hkl (by rw [← EX.out]; exact hc))
          have HC : Hid ([Page.mk f ft, Page.mk b bt].all (pageB m) = false) := Lib.hid hc
          clear hc
          go_region_held3 (fun w' => w'.cell? ⟨al, 0, none⟩ = some (.int .i64 f) ∧ w'.cell? ⟨al, 1, none⟩ = some (.int .i64 ft) ∧ w'.cell? ⟨al, 2, none⟩ = some (.int .i64 b) ∧ w'.cell? ⟨al, 3, none⟩ = some (.int .i64 bt)) (first | exact ⟨k0, k1, k2, k3⟩ | exact ⟨j0, j1, j2, j3⟩ | exact ⟨l0, l1, l2, l3⟩ | exact ⟨i0, i1, i2, i3⟩ | go_keep)
            (first
              | (go_at_call 42; refine (frontOf_any ⟨f, ft, b, bt⟩ _).mono ?_; rintro e w5 ⟨rfl, hb5⟩; have hq5 : Below w4.heap.size w4 w5 := (Below.refl _ w4).drew.trans hb5; have j0 := (hq5.cell (p := ⟨al, 0, none⟩) hll).trans b0; have j1 := (hq5.cell (p := ⟨al, 1, none⟩) hll).trans b1; have j2 := (hq5.cell (p := ⟨al, 2, none⟩) hll).trans b2; have j3 := (hq5.cell (p := ⟨al, 3, none⟩) hll).trans b3)
              | (go_at_call 44; refine (backOf_any ⟨f, ft, b, bt⟩ _).mono ?_; rintro e w6 ⟨rfl, hb6⟩; have hq6 : Below w4.heap.size w4 w6 := hq5.trans (hb6.mono (B' := w4.heap.size) hq5.size); have k0 := (hq6.cell (p := ⟨al, 0, none⟩) hll).trans b0; have k1 := (hq6.cell (p := ⟨al, 1, none⟩) hll).trans b1; have k2 := (hq6.cell (p := ⟨al, 2, none⟩) hll).trans b2; have k3 := (hq6.cell (p := ⟨al, 3, none⟩) hll).trans b3; have l0 := World.new_ne w6 _ k0; have l1 := World.new_ne w6 _ k1; have l2 := World.new_ne w6 _ k2; have l3 := World.new_ne w6 _ k3)
              | (go_at_call 48; refine (arePages_any (m : Int) _ [⟨f, ft⟩, ⟨b, bt⟩] 2 _ (RowsAt.two w6 ⟨f, ft⟩ ⟨b, bt⟩ _) (by simp [maxLen])).mono ?_; rintro e w7 ⟨rfl, hb7⟩; have hq7 : Below w4.heap.size w4 w7 := (hq6.alloc hq6.size _).trans (hb7.mono (B' := w4.heap.size) (by have := hq6.size; simp; omega)); have i0 := (hq7.cell (p := ⟨al, 0, none⟩) hll).trans b0; have i1 := (hq7.cell (p := ⟨al, 1, none⟩) hll).trans b1; have i2 := (hq7.cell (p := ⟨al, 2, none⟩) hll).trans b2; have i3 := (hq7.cell (p := ⟨al, 3, none⟩) hll).trans b3; rw [HC.out]))
          have hB7 := hB4.trans (hq7.mono (B' := w.heap.size) hB4.size)
          go_wp2_with fail
          go_ret2
          exact ⟨two_to HZ.out, hB7⟩
        · obtain ⟨hf, -, hb, -⟩ := cellB_in hc
          simp only at hf hb
          obtain ⟨fn, rfl⟩ : ∃ n : Nat, f = n := ⟨f.toNat, by omega⟩
          obtain ⟨bn, rfl⟩ : ∃ n : Nat, b = n := ⟨b.toNat, by omega⟩
          have hfn : fn < m + 1 := by omega
          have hbn : bn < m + 1 := by omega
          have HC : Hid ([Page.mk fn ft, Page.mk bn bt].all (pageB m) = true) := Lib.hid hc
          have HCX : Hid (cellB m L[k] = true) := Lib.hid (by rw [← EX.out]; exact hc)
          clear hc hf hb
          go_region_held3 (fun w' => w'.cell? ⟨al, 0, none⟩ = some (.int .i64 fn) ∧ w'.cell? ⟨al, 1, none⟩ = some (.int .i64 ft) ∧ w'.cell? ⟨al, 2, none⟩ = some (.int .i64 bn) ∧ w'.cell? ⟨al, 3, none⟩ = some (.int .i64 bt)) (first | exact ⟨k0, k1, k2, k3⟩ | exact ⟨j0, j1, j2, j3⟩ | exact ⟨l0, l1, l2, l3⟩ | exact ⟨i0, i1, i2, i3⟩ | go_keep)
            (first
              | (go_at_call 42; refine (frontOf_any ⟨fn, ft, bn, bt⟩ _).mono ?_; rintro e w5 ⟨rfl, hb5⟩; have hq5 : Below w4.heap.size w4 w5 := (Below.refl _ w4).drew.trans hb5; have j0 := (hq5.cell (p := ⟨al, 0, none⟩) hll).trans b0; have j1 := (hq5.cell (p := ⟨al, 1, none⟩) hll).trans b1; have j2 := (hq5.cell (p := ⟨al, 2, none⟩) hll).trans b2; have j3 := (hq5.cell (p := ⟨al, 3, none⟩) hll).trans b3)
              | (go_at_call 44; refine (backOf_any ⟨fn, ft, bn, bt⟩ _).mono ?_; rintro e w6 ⟨rfl, hb6⟩; have hq6 : Below w4.heap.size w4 w6 := hq5.trans (hb6.mono (B' := w4.heap.size) hq5.size); have k0 := (hq6.cell (p := ⟨al, 0, none⟩) hll).trans b0; have k1 := (hq6.cell (p := ⟨al, 1, none⟩) hll).trans b1; have k2 := (hq6.cell (p := ⟨al, 2, none⟩) hll).trans b2; have k3 := (hq6.cell (p := ⟨al, 3, none⟩) hll).trans b3; have l0 := World.new_ne w6 _ k0; have l1 := World.new_ne w6 _ k1; have l2 := World.new_ne w6 _ k2; have l3 := World.new_ne w6 _ k3)
              | (go_at_call 48; refine (arePages_any (m : Int) _ [⟨fn, ft⟩, ⟨bn, bt⟩] 2 _ (RowsAt.two w6 ⟨fn, ft⟩ ⟨bn, bt⟩ _) (by simp [maxLen])).mono ?_; rintro e w7 ⟨rfl, hb7⟩; have hq7 : Below w4.heap.size w4 w7 := (hq6.alloc hq6.size _).trans (hb7.mono (B' := w4.heap.size) (by have := hq6.size; simp; omega)); have i0 := (hq7.cell (p := ⟨al, 0, none⟩) hll).trans b0; have i1 := (hq7.cell (p := ⟨al, 1, none⟩) hll).trans b1; have i2 := (hq7.cell (p := ⟨al, 2, none⟩) hll).trans b2; have i3 := (hq7.cell (p := ⟨al, 3, none⟩) hll).trans b3; rw [HC.out]))
          have hB7 := hB4.trans (hq7.mono (B' := w.heap.size) hB4.size)
          have bl7 := bl4.below hq7; have br7 := br4.below hq7; have bx7 := bx4.below hq7
          clear hq5 hq6 hq7 hb5 hb6 hb7 j0 j1 j2 j3 k0 k1 k2 k3 l0 l1 l2 l3 i0 i1 i2 i3 b0 b1 b2 b3 hll bl4 br4 bx4 hB4
          have b0 := bl7.cell 0; have b2 := bl7.cell 2
          simp at b0 b2
          have t0 := (br7.cell fn).trans (boolRow_at hfn); have t1 := (br7.cell bn).trans (boolRow_at hbn)
          obtain ⟨S, hS⟩ : ∃ S, S = seenP L k := ⟨_, rfl⟩
          rw [← hS] at br7 t0 t1
          have HS := Lib.hid hS
          clear hS
          have HZ : dblB S ⟨fn, ft, bn, bt⟩ = true → checkSc C R L = ((k : Int), 28) := fun h => by
            rw [HE.out, HR.out]; exact schErr_dbl hkl HCX.out (by rw [← EX.out, ← HS.out]; exact h)
          have HG : dblB S ⟨fn, ft, bn, bt⟩ = false → schErr m (L.drop 0) (seenP L 0) ((0 : Nat) : Int) = schErr m (L.drop (k + 1)) (seenP L (k + 1)) ((k + 1 : Nat) : Int) := fun h => by
            rw [HR.out]; exact schErr_go hkl HCX.out (by rw [← EX.out, ← HS.out]; exact h)
          have HZ := Lib.hid HZ; have HG := Lib.hid HG
          cases hd1 : S.contains (fn : Int)
          · rw [hd1] at t0
            cases hd2 : S.contains (bn : Int)
            · rw [hd2] at t1
              by_cases hd3 : fn = bn
              · have HY : Hid (checkSc C R L = ((k : Int), 28)) := Lib.hid (HZ.out (by unfold dblB; simp [hd3]))
                subst hd3
                clear hd1 hd2
                go_wp2_with fail
                go_ret2
                exact ⟨two_to HY.out, hB7⟩
              · have hfb : ((fn : Int) == (bn : Int)) = false := by simp; omega
                have HY : Hid (schErr m (L.drop 0) (seenP L 0) ((0 : Nat) : Int) = schErr m (L.drop (k + 1)) (seenP L (k + 1)) ((k + 1 : Nat) : Int)) := Lib.hid (HG.out (by unfold dblB; simp only [hd1, hd2, hfb]; rfl))
                have HST : Hid (seenP L (k + 1) = (S ++ [(fn : Int)]) ++ [(bn : Int)]) := Lib.hid (by rw [seenP_succ hkl, ← EX.out, ← HS.out]; simp)
                have br8 := ((br7.set fn (.bool true)).set bn (.bool true))
                rw [boolRow_put, boolRow_put, ← HST.out] at br8
                have z := fun j => br7.free j
                have hrl := br7.lt
                have hwg : w.heap.size ≤ g := by omega
                have m0 : w.heap.size ≠ g := by omega
                clear hd1 hd2
                go_wp2_with fail
                go_region
                go_wp2
                go_roundw
                case rel =>
                  exact ⟨k + 1, by omega, by go_num, HY, br8, (bx7.set_other (p := ⟨g, fn, none⟩) m0 _).set_other (p := ⟨g, bn, none⟩) m0 _, ((hB7.setCell (p := ⟨g, fn, none⟩) hwg _).setCell (p := ⟨g, bn, none⟩) hwg _).drew⟩
                case measure => simp [intOf]; omega
            · rw [hd2] at t1
              have HY : Hid (checkSc C R L = ((k : Int), 28)) := Lib.hid (HZ.out (by unfold dblB; simp only [hd1, hd2]; rfl))
              clear hd1 hd2
              go_wp2_with fail
              go_ret2
              exact ⟨two_to HY.out, hB7⟩
          · rw [hd1] at t0
            have HY : Hid (checkSc C R L = ((k : Int), 28)) := Lib.hid (HZ.out (by unfold dblB; simp only [hd1]; rfl))
            clear hd1
            go_wp2_with fail
            go_ret2
            exact ⟨two_to HY.out, hB7⟩
      · have HZ : Hid (checkSc C R L = (0, 0)) := Lib.hid (by rw [HE.out, HR.out]; exact schErr_end hkl)
        have hkI : ¬ (k : Int) < (L.length : Int) := by omega
        go_wp2_with fail
        go_ret2
        exact ⟨two_to HZ.out, hB⟩
  · have HE : Hid (checkSc C R L = (0, cellsErr C R L.length)) := Lib.hid (by unfold checkSc; rw [if_pos h1])
    have heb : (cellsErr C R L.length != 0) = true := by simpa using h1
    clear h1
    go_wp2_with fail
    go_ret2
    exact ⟨two_to HE.out, hB3⟩
end Go.Proofs.YtgoandhlcekmiaaGreatDoor
