/-
  Package impose: folds, leaves, pages, cells; the tests of sheets and folds; where a fold brings a place.
-/
import Derived.Test.YtnpehnfcccdcbaaGreatDoorIA
namespace Go.Proofs.YtnpehnfcccdcbaaGreatDoor
open Go.RowKit

structure Fold where
  k : Int
  c : Int
structure Leaf where
  c : Int
  r : Int
  o : Int
  t : Int
structure Page where
  p : Int
  t : Int
structure Cell where
  f : Int
  ft : Int
  b : Int
  bt : Int
structure Rng where
  lo : Int
  hi : Int
instance : DecidableEq Fold := fun x y => if h : x.k = y.k ∧ x.c = y.c then isTrue (by cases x; cases y; simp_all) else isFalse (fun e => h (by rw [e]; exact ⟨rfl, rfl⟩))
instance : DecidableEq Leaf := fun x y => if h : x.c = y.c ∧ x.r = y.r ∧ x.o = y.o ∧ x.t = y.t then isTrue (by cases x; cases y; simp_all) else isFalse (fun e => h (by rw [e]; exact ⟨rfl, rfl, rfl, rfl⟩))
instance : DecidableEq Page := fun x y => if h : x.p = y.p ∧ x.t = y.t then isTrue (by cases x; cases y; simp_all) else isFalse (fun e => h (by rw [e]; exact ⟨rfl, rfl⟩))
instance : DecidableEq Cell := fun x y => if h : x.f = y.f ∧ x.ft = y.ft ∧ x.b = y.b ∧ x.bt = y.bt then isTrue (by cases x; cases y; simp_all) else isFalse (fun e => h (by rw [e]; exact ⟨rfl, rfl, rfl, rfl⟩))
instance : DecidableEq Rng := fun x y => if h : x.lo = y.lo ∧ x.hi = y.hi then isTrue (by cases x; cases y; simp_all) else isFalse (fun e => h (by rw [e]; exact ⟨rfl, rfl⟩))
def Fold.l (x : Fold) : List Int := [x.k, x.c]
def Leaf.l (x : Leaf) : List Int := [x.c, x.r, x.o, x.t]
def Page.l (x : Page) : List Int := [x.p, x.t]
def Cell.l (x : Cell) : List Int := [x.f, x.ft, x.b, x.bt]
def Rng.l (x : Rng) : List Int := [x.lo, x.hi]
instance : Inhabited Fold := ⟨⟨0, 0⟩⟩
instance : Inhabited Leaf := ⟨⟨0, 0, 0, 0⟩⟩
instance : Inhabited Page := ⟨⟨0, 0⟩⟩
instance : Inhabited Cell := ⟨⟨0, 0, 0, 0⟩⟩
instance : Inhabited Rng := ⟨⟨0, 0⟩⟩
theorem tFold : ElT 2 16 43 98 (.agg #[.int .i64 0, .int .i64 0]) := ⟨Tryz.underlying43, by kernel_rfl, rfl, by decide, by decide⟩
theorem tLeaf : ElT 4 32 85 93 (.agg #[.int .i64 0, .int .i64 0, .int .i64 0, .int .i64 0]) := ⟨Tryz.underlying85, by kernel_rfl, rfl, by decide, by decide⟩
theorem tPage : ElT 2 16 126 95 (.agg #[.int .i64 0, .int .i64 0]) := ⟨Tryz.underlying126, by kernel_rfl, rfl, by decide, by decide⟩
theorem tCell : ElT 4 32 22 54 (.agg #[.int .i64 0, .int .i64 0, .int .i64 0, .int .i64 0]) := ⟨Tryz.underlying22, by kernel_rfl, rfl, by decide, by decide⟩
theorem tRng : ElT 2 16 47 57 (.agg #[.int .i64 0, .int .i64 0]) := ⟨Tryz.underlying47, by kernel_rfl, rfl, by decide, by decide⟩
theorem tInt : ElT 1 8 50 3 (.int .i64 0) := ⟨Tryz.underlying50, by kernel_rfl, rfl, by decide, by decide⟩
theorem fold_l (x : Fold) : x.l.length = 2 := rfl
theorem leaf_l (x : Leaf) : x.l.length = 4 := rfl
theorem page_l (x : Page) : x.l.length = 2 := rfl
theorem cell_l (x : Cell) : x.l.length = 4 := rfl
theorem rng_l (x : Rng) : x.l.length = 2 := rfl
def intL (x : Int) : List Int := [x]
theorem int_l (x : Int) : (intL x).length = 1 := rfl
section
variable {w : World} {a : Option Addr}
theorem RowsAt.fold {L : List Fold} (h : RowsAt 2 Fold.l w a L) {k : Nat} (hk : k < L.length) : ∃ ad, a = some ad ∧ ad.block < w.heap.size ∧ w.cell? (ad.add (k * 2)) = some (.int .i64 L[k].k) ∧ w.cell? ⟨(ad.add (k * 2)).block, (ad.add (k * 2)).off + 1, none⟩ = some (.int .i64 L[k].c) := by
  obtain ⟨ad, e, hlt, hs⟩ := h k hk
  exact ⟨ad, e, hlt, hs 0 (by decide), hs 1 (by decide)⟩
theorem RowsAt.page {L : List Page} (h : RowsAt 2 Page.l w a L) {k : Nat} (hk : k < L.length) : ∃ ad, a = some ad ∧ ad.block < w.heap.size ∧ w.cell? (ad.add (k * 2)) = some (.int .i64 L[k].p) ∧ w.cell? ⟨(ad.add (k * 2)).block, (ad.add (k * 2)).off + 1, none⟩ = some (.int .i64 L[k].t) := by
  obtain ⟨ad, e, hlt, hs⟩ := h k hk
  exact ⟨ad, e, hlt, hs 0 (by decide), hs 1 (by decide)⟩
theorem RowsAt.rng {L : List Rng} (h : RowsAt 2 Rng.l w a L) {k : Nat} (hk : k < L.length) : ∃ ad, a = some ad ∧ ad.block < w.heap.size ∧ w.cell? (ad.add (k * 2)) = some (.int .i64 L[k].lo) ∧ w.cell? ⟨(ad.add (k * 2)).block, (ad.add (k * 2)).off + 1, none⟩ = some (.int .i64 L[k].hi) := by
  obtain ⟨ad, e, hlt, hs⟩ := h k hk
  exact ⟨ad, e, hlt, hs 0 (by decide), hs 1 (by decide)⟩
theorem RowsAt.leaf {L : List Leaf} (h : RowsAt 4 Leaf.l w a L) {k : Nat} (hk : k < L.length) : ∃ ad, a = some ad ∧ ad.block < w.heap.size ∧ w.cell? (ad.add (k * 4)) = some (.int .i64 L[k].c) ∧ w.cell? ⟨(ad.add (k * 4)).block, (ad.add (k * 4)).off + 1, none⟩ = some (.int .i64 L[k].r) ∧ w.cell? ⟨(ad.add (k * 4)).block, (ad.add (k * 4)).off + 2, none⟩ = some (.int .i64 L[k].o) ∧ w.cell? ⟨(ad.add (k * 4)).block, (ad.add (k * 4)).off + 3, none⟩ = some (.int .i64 L[k].t) := by
  obtain ⟨ad, e, hlt, hs⟩ := h k hk
  exact ⟨ad, e, hlt, hs 0 (by decide), hs 1 (by decide), hs 2 (by decide), hs 3 (by decide)⟩
theorem RowsAt.cell {L : List Cell} (h : RowsAt 4 Cell.l w a L) {k : Nat} (hk : k < L.length) : ∃ ad, a = some ad ∧ ad.block < w.heap.size ∧ w.cell? (ad.add (k * 4)) = some (.int .i64 L[k].f) ∧ w.cell? ⟨(ad.add (k * 4)).block, (ad.add (k * 4)).off + 1, none⟩ = some (.int .i64 L[k].ft) ∧ w.cell? ⟨(ad.add (k * 4)).block, (ad.add (k * 4)).off + 2, none⟩ = some (.int .i64 L[k].b) ∧ w.cell? ⟨(ad.add (k * 4)).block, (ad.add (k * 4)).off + 3, none⟩ = some (.int .i64 L[k].bt) := by
  obtain ⟨ad, e, hlt, hs⟩ := h k hk
  exact ⟨ad, e, hlt, hs 0 (by decide), hs 1 (by decide), hs 2 (by decide), hs 3 (by decide)⟩
theorem RowsAt.int {L : List Int} (h : RowsAt 1 intL w a L) {k : Nat} (hk : k < L.length) : ∃ ad, a = some ad ∧ ad.block < w.heap.size ∧ w.cell? (ad.add k) = some (.int .i64 L[k]) := by
  obtain ⟨ad, e, hlt, hs⟩ := h k hk
  exact ⟨ad, e, hlt, by have := hs 0 (by decide); rw [Nat.mul_one] at this; exact this⟩
end
/-- The error of the sides of a sheet. -/
def sideErr (C R : Int) : Int := if inB C 1 8 = true ∧ inB R 1 8 = true then (if 32 < C * R then 8 else 0) else 2
/-- The side along which a fold goes. -/
def alongI (C R k : Int) : Int := if k = 1 ∨ k = 2 then C else R
def foldErr (C R : Int) (f : Fold) : Int :=
  if inB f.k 1 6 = false then 15 else if f.k = 5 ∨ f.k = 6 then (if f.c ≠ 0 then 2 else 0) else if f.c < 1 then 2 else if alongI C R f.k - f.c < f.c then 26 else 0
def afterC (C : Int) (f : Fold) : Int := if f.k = 1 ∨ f.k = 2 then C - f.c else C
def afterR (R : Int) (f : Fold) : Int := if f.k = 3 ∨ f.k = 4 then R - f.c else R
/-- Where a column comes to, and 1 if it is laid over. -/
def laidT (c e : Int) : Int := if c < e then c else 2 * e - 1 - c
def laidO (c e : Int) : Int := if c < e then 0 else 1
structure Way where
  c : Int
  r : Int
  o : Int
  t : Int
def wayOf (C R : Int) (f : Fold) (c r : Int) : Way :=
  if f.k = 1 then ⟨laidT c (C - f.c), r, laidO c (C - f.c), 0⟩
  else if f.k = 2 then ⟨C - 1 - f.c - laidT (C - 1 - c) (C - f.c), r, laidO (C - 1 - c) (C - f.c), 0⟩
  else if f.k = 3 then ⟨c, laidT r (R - f.c), laidO r (R - f.c), laidO r (R - f.c)⟩
  else if f.k = 4 then ⟨c, R - 1 - f.c - laidT (R - 1 - r) (R - f.c), laidO (R - 1 - r) (R - f.c), laidO (R - 1 - r) (R - f.c)⟩
  else if f.k = 5 then ⟨C - 1 - c, r, 1, 0⟩
  else ⟨C - 1 - c, R - 1 - r, 0, 1⟩

set_option maxHeartbeats 400000 in
theorem isFrom_any (lo hi n : Int) (w : World) :
    Calls Tryz.prog 37 #[.int .i64 lo, .int .i64 hi, .int .i64 n] w fun e w' => e = .returned (.bool (inB n lo hi)) ∧ w = w' := by
  go_enter Tryz.func37, Tryz.ntmps37
  go_wp2
  all_goals go_ret
  all_goals exact ⟨ret_bool (by rw [Bool.eq_iff_iff]; simp [inB]; try omega), rfl⟩
set_option maxHeartbeats 400000 in
theorem within_any (n lo hi : Int) (w : World) :
    Calls Tryz.prog 28 #[.int .i64 n, .int .i64 lo, .int .i64 hi] w fun e w' => e = .returned (.bool (inB n lo hi)) ∧ w = w' := by
  go_enter Tryz.func28, Tryz.ntmps28
  go_wp2
  all_goals go_ret
  all_goals exact ⟨ret_bool (by rw [Bool.eq_iff_iff]; simp [inB]; try omega), rfl⟩
def allB (k : Int) : Bool := decide (k = 5 ∨ k = 6)
set_option maxHeartbeats 400000 in
theorem turnsAll_any (k : Int) (w : World) :
    Calls Tryz.prog 81 #[.int .i64 k] w fun e w' => e = .returned (.bool (allB k)) ∧ w = w' := by
  go_enter Tryz.func81, Tryz.ntmps81
  go_wp2
  all_goals go_ret
  all_goals exact ⟨ret_bool (by rw [Bool.eq_iff_iff]; simp [allB]; try omega), rfl⟩
set_option maxHeartbeats 400000 in
theorem cells_any (C R n : Int) (w : World) (h : C * R = n) (h0 : -1000000 ≤ C * R) (h1 : C * R ≤ 1000000) :
    Calls Tryz.prog 34 #[.agg #[.int .i64 C, .int .i64 R]] w fun e w' => e = .returned (.int .i64 n) ∧ Below w.heap.size w w' := by
  have H := Lib.hid h; clear h
  go_enter Tryz.func34, Tryz.ntmps34
  go_wp2
  go_ret
  exact ⟨ret_int H.out, (Below.refl _ _).alloc (Nat.le_refl _) _⟩
set_option maxHeartbeats 400000 in
theorem at_any (C R c r n : Int) (w : World) (h : r * C + c = n) (h0 : -1000000 ≤ r * C) (h1 : r * C ≤ 1000000) (h2 : -1000000 ≤ c) (h3 : c ≤ 1000000) :
    Calls Tryz.prog 36 #[.agg #[.int .i64 C, .int .i64 R], .int .i64 c, .int .i64 r] w fun e w' => e = .returned (.int .i64 n) ∧ Below w.heap.size w w' := by
  have H := Lib.hid h; clear h
  go_enter Tryz.func36, Tryz.ntmps36
  go_wp2
  go_ret
  exact ⟨ret_int H.out, (Below.refl _ _).alloc (Nat.le_refl _) _⟩
set_option maxHeartbeats 400000 in
theorem sizeOf_any (C R : Int) (w : World) :
    Calls Tryz.prog 33 #[.agg #[.int .i64 C, .int .i64 R]] w fun e w' => e = .returned (.agg #[.int .i64 C, .int .i64 R]) ∧ Below w.heap.size w w' := by
  go_enter Tryz.func33, Tryz.ntmps33
  go_wp2
  exact bodyPost_ret (v := .agg #[.int .i64 C, .int .i64 R]) (by simp [results, Tryz.results33, go_sem]) rfl ⟨rfl, ((Below.refl _ _).alloc (Nat.le_refl _) _).alloc (by simp) _⟩
set_option maxHeartbeats 400000 in
theorem along_any (C R k : Int) (w : World) :
    Calls Tryz.prog 82 #[.agg #[.int .i64 C, .int .i64 R], .int .i64 k] w fun e w' => e = .returned (.int .i64 (alongI C R k)) ∧ Below w.heap.size w w' := by
  have hb := (Below.refl w.heap.size w).alloc (Nat.le_refl _) (.cells #[.int .i64 C, .int .i64 R] 89)
  by_cases h : k = 1 ∨ k = 2
  · have HE := Lib.hid (show alongI C R k = C by unfold alongI; rw [if_pos h])
    rcases h with rfl | rfl
    all_goals
      go_enter Tryz.func82, Tryz.ntmps82
      go_wp2
      go_ret
      exact ⟨ret_int HE.out.symm, hb⟩
  · have HE := Lib.hid (show alongI C R k = R by unfold alongI; rw [if_neg h])
    have h1 : (k == 1) = false := by simp; omega
    have h2 : (k == 2) = false := by simp; omega
    clear h
    go_enter Tryz.func82, Tryz.ntmps82
    go_wp2
    go_ret
    exact ⟨ret_int HE.out.symm, hb⟩
set_option maxHeartbeats 400000 in
theorem laidBack_any (c e : Int) (w : World) (h0 : -1000 ≤ c) (h1 : c ≤ 1000) (h2 : -1000 ≤ e) (h3 : e ≤ 1000) :
    Calls Tryz.prog 83 #[.int .i64 c, .int .i64 e] w fun en w' => en = .returned (.tuple #[.int .i64 (laidT c e), .int .i64 (laidO c e)]) ∧ w = w' := by
  by_cases h : c < e
  · have HE := Lib.hid (show laidT c e = c ∧ laidO c e = 0 by unfold laidT laidO; rw [if_pos h, if_pos h]; exact ⟨rfl, rfl⟩)
    rw [HE.out.1, HE.out.2]
    go_enter Tryz.func83, Tryz.ntmps83
    go_wp2
    go_ret2
    exact ⟨rfl, rfl⟩
  · have HE := Lib.hid (show laidT c e = 2 * e - 1 - c ∧ laidO c e = 1 by unfold laidT laidO; rw [if_neg h, if_neg h]; exact ⟨rfl, rfl⟩)
    rw [HE.out.1, HE.out.2]
    have h' : decide (c < e) = false := by simpa using h
    go_enter Tryz.func83, Tryz.ntmps83
    go_wp2
    go_ret2
    exact ⟨rfl, rfl⟩
end Go.Proofs.YtnpehnfcccdcbaaGreatDoor
