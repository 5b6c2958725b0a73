/-
  Package impose: folds, leaves, pages, cells; the tests of sheets and folds; where a fold brings a place.
-/
import Derived.Test.YtgoandhlcekmiaaGreatDoorIA
import Derived.IntWalk
import Derived.DataShut
namespace Go.Proofs.YtgoandhlcekmiaaGreatDoor
open Go.RowKit

structure Fold where
  k : Int
  c : Int
structure Leaf where
  c : Int
  r : Int
  o : Int
  t : Int
structure Page where
  p : Int
  t : Int
structure Cell where
  f : Int
  ft : Int
  b : Int
  bt : Int
structure Rng where
  lo : Int
  hi : Int
instance : DecidableEq Fold := fun x y => if h : x.k = y.k ∧ x.c = y.c then isTrue (by cases x; cases y; simp_all) else isFalse (fun e => h (by rw [e]; exact ⟨rfl, rfl⟩))
instance : DecidableEq Leaf := fun x y => if h : x.c = y.c ∧ x.r = y.r ∧ x.o = y.o ∧ x.t = y.t then isTrue (by cases x; cases y; simp_all) else isFalse (fun e => h (by rw [e]; exact ⟨rfl, rfl, rfl, rfl⟩))
instance : DecidableEq Page := fun x y => if h : x.p = y.p ∧ x.t = y.t then isTrue (by cases x; cases y; simp_all) else isFalse (fun e => h (by rw [e]; exact ⟨rfl, rfl⟩))
instance : DecidableEq Cell := fun x y => if h : x.f = y.f ∧ x.ft = y.ft ∧ x.b = y.b ∧ x.bt = y.bt then isTrue (by cases x; cases y; simp_all) else isFalse (fun e => h (by rw [e]; exact ⟨rfl, rfl, rfl, rfl⟩))
instance : DecidableEq Rng := fun x y => if h : x.lo = y.lo ∧ x.hi = y.hi then isTrue (by cases x; cases y; simp_all) else isFalse (fun e => h (by rw [e]; exact ⟨rfl, rfl⟩))
def Fold.l (x : Fold) : List Int := [x.k, x.c]
def Leaf.l (x : Leaf) : List Int := [x.c, x.r, x.o, x.t]
def Page.l (x : Page) : List Int := [x.p, x.t]
def Cell.l (x : Cell) : List Int := [x.f, x.ft, x.b, x.bt]
def Rng.l (x : Rng) : List Int := [x.lo, x.hi]
instance : Inhabited Fold := ⟨⟨0, 0⟩⟩
instance : Inhabited Leaf := ⟨⟨0, 0, 0, 0⟩⟩
instance : Inhabited Page := ⟨⟨0, 0⟩⟩
instance : Inhabited Cell := ⟨⟨0, 0, 0, 0⟩⟩
instance : Inhabited Rng := ⟨⟨0, 0⟩⟩
theorem tFold : ElT 2 16 23 59 (.agg #[.int .i64 0, .int .i64 0]) := ⟨Tryz.underlying23, by kernel_rfl, rfl, by decide, by decide⟩
theorem tLeaf : ElT 4 32 69 77 (.agg #[.int .i64 0, .int .i64 0, .int .i64 0, .int .i64 0]) := ⟨Tryz.underlying69, by kernel_rfl, rfl, by decide, by decide⟩
theorem tPage : ElT 2 16 43 79 (.agg #[.int .i64 0, .int .i64 0]) := ⟨Tryz.underlying43, by kernel_rfl, rfl, by decide, by decide⟩
theorem tCell : ElT 4 32 27 57 (.agg #[.int .i64 0, .int .i64 0, .int .i64 0, .int .i64 0]) := ⟨Tryz.underlying27, by kernel_rfl, rfl, by decide, by decide⟩
theorem tInt : ElT 1 8 130 3 (.int .i64 0) := ⟨Tryz.underlying130, by kernel_rfl, rfl, by decide, by decide⟩
theorem fold_l (x : Fold) : x.l.length = 2 := rfl
theorem leaf_l (x : Leaf) : x.l.length = 4 := rfl
theorem page_l (x : Page) : x.l.length = 2 := rfl
theorem cell_l (x : Cell) : x.l.length = 4 := rfl
theorem rng_l (x : Rng) : x.l.length = 2 := rfl
def intL (x : Int) : List Int := [x]
theorem int_l (x : Int) : (intL x).length = 1 := rfl
section
variable {w : World} {a : Option Addr}
theorem RowsAt.fold {L : List Fold} (h : RowsAt 2 Fold.l w a L) {k : Nat} (hk : k < L.length) : ∃ ad, a = some ad ∧ ad.block < w.heap.size ∧ w.cell? (ad.add (k * 2)) = some (.int .i64 L[k].k) ∧ w.cell? ⟨(ad.add (k * 2)).block, (ad.add (k * 2)).off + 1, none⟩ = some (.int .i64 L[k].c) := by
  obtain ⟨ad, e, hlt, hs⟩ := h k hk
  exact ⟨ad, e, hlt, hs 0 (by decide), hs 1 (by decide)⟩
theorem RowsAt.page {L : List Page} (h : RowsAt 2 Page.l w a L) {k : Nat} (hk : k < L.length) : ∃ ad, a = some ad ∧ ad.block < w.heap.size ∧ w.cell? (ad.add (k * 2)) = some (.int .i64 L[k].p) ∧ w.cell? ⟨(ad.add (k * 2)).block, (ad.add (k * 2)).off + 1, none⟩ = some (.int .i64 L[k].t) := by
  obtain ⟨ad, e, hlt, hs⟩ := h k hk
  exact ⟨ad, e, hlt, hs 0 (by decide), hs 1 (by decide)⟩
theorem RowsAt.rng {L : List Rng} (h : RowsAt 2 Rng.l w a L) {k : Nat} (hk : k < L.length) : ∃ ad, a = some ad ∧ ad.block < w.heap.size ∧ w.cell? (ad.add (k * 2)) = some (.int .i64 L[k].lo) ∧ w.cell? ⟨(ad.add (k * 2)).block, (ad.add (k * 2)).off + 1, none⟩ = some (.int .i64 L[k].hi) := by
  obtain ⟨ad, e, hlt, hs⟩ := h k hk
  exact ⟨ad, e, hlt, hs 0 (by decide), hs 1 (by decide)⟩
theorem RowsAt.leaf {L : List Leaf} (h : RowsAt 4 Leaf.l w a L) {k : Nat} (hk : k < L.length) : ∃ ad, a = some ad ∧ ad.block < w.heap.size ∧ w.cell? (ad.add (k * 4)) = some (.int .i64 L[k].c) ∧ w.cell? ⟨(ad.add (k * 4)).block, (ad.add (k * 4)).off + 1, none⟩ = some (.int .i64 L[k].r) ∧ w.cell? ⟨(ad.add (k * 4)).block, (ad.add (k * 4)).off + 2, none⟩ = some (.int .i64 L[k].o) ∧ w.cell? ⟨(ad.add (k * 4)).block, (ad.add (k * 4)).off + 3, none⟩ = some (.int .i64 L[k].t) := by
  obtain ⟨ad, e, hlt, hs⟩ := h k hk
  exact ⟨ad, e, hlt, hs 0 (by decide), hs 1 (by decide), hs 2 (by decide), hs 3 (by decide)⟩
theorem RowsAt.cell {L : List Cell} (h : RowsAt 4 Cell.l w a L) {k : Nat} (hk : k < L.length) : ∃ ad, a = some ad ∧ ad.block < w.heap.size ∧ w.cell? (ad.add (k * 4)) = some (.int .i64 L[k].f) ∧ w.cell? ⟨(ad.add (k * 4)).block, (ad.add (k * 4)).off + 1, none⟩ = some (.int .i64 L[k].ft) ∧ w.cell? ⟨(ad.add (k * 4)).block, (ad.add (k * 4)).off + 2, none⟩ = some (.int .i64 L[k].b) ∧ w.cell? ⟨(ad.add (k * 4)).block, (ad.add (k * 4)).off + 3, none⟩ = some (.int .i64 L[k].bt) := by
  obtain ⟨ad, e, hlt, hs⟩ := h k hk
  exact ⟨ad, e, hlt, hs 0 (by decide), hs 1 (by decide), hs 2 (by decide), hs 3 (by decide)⟩
theorem RowsAt.int {L : List Int} (h : RowsAt 1 intL w a L) {k : Nat} (hk : k < L.length) : ∃ ad, a = some ad ∧ ad.block < w.heap.size ∧ w.cell? (ad.add k) = some (.int .i64 L[k]) := by
  obtain ⟨ad, e, hlt, hs⟩ := h k hk
  exact ⟨ad, e, hlt, by have := hs 0 (by decide); rw [Nat.mul_one] at this; exact this⟩
end
/-- The error of the sides of a sheet. -/
def sideErr (C R : Int) : Int := if inB C 1 8 = true ∧ inB R 1 8 = true then (if 32 < C * R then 8 else 0) else 2
/-- The side along which a fold goes. -/
def alongI (C R k : Int) : Int := if k = 1 ∨ k = 2 then C else R
def foldErr (C R : Int) (f : Fold) : Int :=
  if inB f.k 1 6 = false then 15 else if f.k = 5 ∨ f.k = 6 then (if f.c ≠ 0 then 2 else 0) else if f.c < 1 then 2 else if alongI C R f.k - f.c < f.c then 26 else 0
def afterC (C : Int) (f : Fold) : Int := if f.k = 1 ∨ f.k = 2 then C - f.c else C
def afterR (R : Int) (f : Fold) : Int := if f.k = 3 ∨ f.k = 4 then R - f.c else R
/-- Where a column comes to, and 1 if it is laid over. -/
def laidT (c e : Int) : Int := if c < e then c else 2 * e - 1 - c
def laidO (c e : Int) : Int := if c < e then 0 else 1
structure Way where
  c : Int
  r : Int
  o : Int
  t : Int
def wayOf (C R : Int) (f : Fold) (c r : Int) : Way :=
  if f.k = 1 then ⟨laidT c (C - f.c), r, laidO c (C - f.c), 0⟩
  else if f.k = 2 then ⟨C - 1 - f.c - laidT (C - 1 - c) (C - f.c), r, laidO (C - 1 - c) (C - f.c), 0⟩
  else if f.k = 3 then ⟨c, laidT r (R - f.c), laidO r (R - f.c), laidO r (R - f.c)⟩
  else if f.k = 4 then ⟨c, R - 1 - f.c - laidT (R - 1 - r) (R - f.c), laidO (R - 1 - r) (R - f.c), laidO (R - 1 - r) (R - f.c)⟩
  else if f.k = 5 then ⟨C - 1 - c, r, 1, 0⟩
  else ⟨C - 1 - c, R - 1 - r, 0, 1⟩

set_option maxHeartbeats 400000 in
theorem isFrom_any (lo hi n : Int) (w : World) :
    Calls Tryz.prog 70 #[.int .i64 lo, .int .i64 hi, .int .i64 n] w fun e w' => e = .returned (.bool (inB n lo hi)) ∧ w = w' := by
  go_enter Tryz.func70, Tryz.ntmps70
  go_wp2
  all_goals go_ret
  all_goals exact ⟨ret_bool (by rw [Bool.eq_iff_iff]; simp [inB]; try omega), rfl⟩
set_option maxHeartbeats 400000 in
theorem within_any (n lo hi : Int) (w : World) :
    Calls Tryz.prog 54 #[.int .i64 n, .int .i64 lo, .int .i64 hi] w fun e w' => e = .returned (.bool (inB n lo hi)) ∧ w = w' := by
  go_enter Tryz.func54, Tryz.ntmps54
  go_wp2
  all_goals go_ret
  all_goals exact ⟨ret_bool (by rw [Bool.eq_iff_iff]; simp [inB]; try omega), rfl⟩
def allB (k : Int) : Bool := decide (k = 5 ∨ k = 6)
set_option maxHeartbeats 400000 in
theorem turnsAll_any (k : Int) (w : World) :
    Calls Tryz.prog 68 #[.int .i64 k] w fun e w' => e = .returned (.bool (allB k)) ∧ w = w' := by
  go_enter Tryz.func68, Tryz.ntmps68
  go_wp2
  all_goals go_ret
  all_goals exact ⟨ret_bool (by rw [Bool.eq_iff_iff]; simp [allB]; try omega), rfl⟩
set_option maxHeartbeats 400000 in
theorem cells_any (C R n : Int) (w : World) (h : C * R = n) (h0 : -1000000 ≤ C * R) (h1 : C * R ≤ 1000000) :
    Calls Tryz.prog 25 #[.agg #[.int .i64 C, .int .i64 R]] w fun e w' => e = .returned (.int .i64 n) ∧ Below w.heap.size w w' := by
  have H := Lib.hid h; clear h
  go_enter Tryz.func25, Tryz.ntmps25
  go_wp2
  go_ret
  exact ⟨ret_int H.out, (Below.refl _ _).alloc (Nat.le_refl _) _⟩
set_option maxHeartbeats 400000 in
theorem at_any (C R c r n : Int) (w : World) (h : r * C + c = n) (h0 : -1000000 ≤ r * C) (h1 : r * C ≤ 1000000) (h2 : -1000000 ≤ c) (h3 : c ≤ 1000000) :
    Calls Tryz.prog 27 #[.agg #[.int .i64 C, .int .i64 R], .int .i64 c, .int .i64 r] w fun e w' => e = .returned (.int .i64 n) ∧ Below w.heap.size w w' := by
  have H := Lib.hid h; clear h
  go_enter Tryz.func27, Tryz.ntmps27
  go_wp2
  go_ret
  exact ⟨ret_int H.out, (Below.refl _ _).alloc (Nat.le_refl _) _⟩
set_option maxHeartbeats 400000 in
theorem sizeOf_any (C R : Int) (w : World) :
    Calls Tryz.prog 24 #[.agg #[.int .i64 C, .int .i64 R]] w fun e w' => e = .returned (.agg #[.int .i64 C, .int .i64 R]) ∧ Below w.heap.size w w' := by
  go_enter Tryz.func24, Tryz.ntmps24
  go_wp2
  exact bodyPost_ret (v := .agg #[.int .i64 C, .int .i64 R]) (by simp [results, Tryz.results24, go_sem]) rfl ⟨rfl, ((Below.refl _ _).alloc (Nat.le_refl _) _).alloc (by simp) _⟩
set_option maxHeartbeats 400000 in
theorem along_any (C R k : Int) (w : World) :
    Calls Tryz.prog 72 #[.agg #[.int .i64 C, .int .i64 R], .int .i64 k] w fun e w' => e = .returned (.int .i64 (alongI C R k)) ∧ Below w.heap.size w w' := by
  have hb := (Below.refl w.heap.size w).alloc (Nat.le_refl _) (.cells #[.int .i64 C, .int .i64 R] 73)
  by_cases h : k = 1 ∨ k = 2
  · have HE := Lib.hid (show alongI C R k = C by unfold alongI; rw [if_pos h])
    rcases h with rfl | rfl
    all_goals
      go_enter Tryz.func72, Tryz.ntmps72
      go_wp2
      go_ret
      exact ⟨ret_int HE.out.symm, hb⟩
  · have HE := Lib.hid (show alongI C R k = R by unfold alongI; rw [if_neg h])
    have h1 : (k == 1) = false := by simp; omega
    have h2 : (k == 2) = false := by simp; omega
    clear h
    go_enter Tryz.func72, Tryz.ntmps72
    go_wp2
    go_ret
    exact ⟨ret_int HE.out.symm, hb⟩
set_option maxHeartbeats 400000 in
theorem laidBack_any (c e : Int) (w : World) (h0 : -1000 ≤ c) (h1 : c ≤ 1000) (h2 : -1000 ≤ e) (h3 : e ≤ 1000) :
    Calls Tryz.prog 93 #[.int .i64 c, .int .i64 e] w fun en w' => en = .returned (.tuple #[.int .i64 (laidT c e), .int .i64 (laidO c e)]) ∧ w = w' := by
  by_cases h : c < e
  · have HE := Lib.hid (show laidT c e = c ∧ laidO c e = 0 by unfold laidT laidO; rw [if_pos h, if_pos h]; exact ⟨rfl, rfl⟩)
    rw [HE.out.1, HE.out.2]
    go_enter Tryz.func93, Tryz.ntmps93
    go_wp2
    go_ret2
    exact ⟨rfl, rfl⟩
  · have HE := Lib.hid (show laidT c e = 2 * e - 1 - c ∧ laidO c e = 1 by unfold laidT laidO; rw [if_neg h, if_neg h]; exact ⟨rfl, rfl⟩)
    rw [HE.out.1, HE.out.2]
    have h' : decide (c < e) = false := by simpa using h
    go_enter Tryz.func93, Tryz.ntmps93
    go_wp2
    go_ret2
    exact ⟨rfl, rfl⟩
end Go.Proofs.YtgoandhlcekmiaaGreatDoor

namespace Go.Proofs.YtgoandhlcekmiaaGreatDoor
open Go.RowKit

set_option maxHeartbeats 1000000 in
theorem errorOfSides_any (C R : Int) (w : World) :
    Calls Tryz.prog 40 #[.agg #[.int .i64 C, .int .i64 R]] w fun e w' => e = .returned (.int .i64 (sideErr C R)) ∧ Below w.heap.size w w' := by
  have hb := (Below.refl w.heap.size w).alloc (Nat.le_refl _) (.cells #[.int .i64 C, .int .i64 R] 73)
  cases h1 : inB C 1 8
  · have HE := Lib.hid (show sideErr C R = 2 by unfold sideErr; rw [if_neg (by simp [h1])])
    go_enter Tryz.func40, Tryz.ntmps40
    go_wp2_with (go_at_call 70; refine (isFrom_any _ _ _ _).mono ?_; rintro e w' ⟨rfl, rfl⟩)
    go_ret
    exact ⟨ret_int HE.out.symm, hb⟩
  cases h2 : inB R 1 8
  · have HE := Lib.hid (show sideErr C R = 2 by unfold sideErr; rw [if_neg (by simp [h2])])
    go_enter Tryz.func40, Tryz.ntmps40
    go_wp2_with (go_at_call 70; refine (isFrom_any _ _ _ _).mono ?_; rintro e w' ⟨rfl, rfl⟩)
    go_ret
    exact ⟨ret_int HE.out.symm, hb⟩
  have g1 := inB_iff.1 h1
  have g2 := inB_iff.1 h2
  have hm : 0 ≤ C * R ∧ C * R ≤ 64 := ⟨Int.mul_nonneg (by omega) (by omega), by
    have := Int.mul_le_mul (show C ≤ 8 by omega) (show R ≤ 8 by omega) (by omega) (by omega); omega⟩
  obtain ⟨n, hn⟩ : ∃ n, C * R = n := ⟨_, rfl⟩
  have HE := Lib.hid (show sideErr C R = if 32 < n then 8 else 0 by unfold sideErr; rw [if_pos ⟨h1, h2⟩, hn])
  obtain ⟨m1, m2⟩ := hm
  have HN := Lib.hid hn
  clear g1 g2
  by_cases h3 : 32 < n
  · have HX := Lib.hid (show sideErr C R = 8 by rw [HE.out, if_pos h3])
    go_enter Tryz.func40, Tryz.ntmps40
    clear hn
    go_wp2_with (first | (go_at_call 70; refine (isFrom_any _ _ _ _).mono ?_; rintro e w' ⟨rfl, rfl⟩) | (go_at_call 25; refine (cells_any _ _ _ _ HN.out (by omega) (by omega)).mono ?_; rintro e w' ⟨rfl, hb2⟩))
    go_ret
    exact ⟨ret_int HX.out.symm, hb.trans (hb2.mono (by simp))⟩
  · have HX := Lib.hid (show sideErr C R = 0 by rw [HE.out, if_neg h3])
    go_enter Tryz.func40, Tryz.ntmps40
    clear hn
    go_wp2_with (first | (go_at_call 70; refine (isFrom_any _ _ _ _).mono ?_; rintro e w' ⟨rfl, rfl⟩) | (go_at_call 25; refine (cells_any _ _ _ _ HN.out (by omega) (by omega)).mono ?_; rintro e w' ⟨rfl, hb2⟩))
    go_ret
    exact ⟨ret_int HX.out.symm, hb.trans (hb2.mono (by simp))⟩

/-- A number that an int can hold. -/
def OkI (n : Int) : Prop := (Lit.int .i64 n).wf = true
theorem OkI.le {n : Int} (h : OkI n) : n ≤ 9223372036854775807 ∧ -9223372036854775808 ≤ n := by
  have := (Lit.wf_int_iff .i64 n).1 h
  have h1 : IntKind.i64.min = -9223372036854775808 := by decide
  have h2 : IntKind.i64.max = 9223372036854775807 := by decide
  omega
theorem fold_kind {C R : Int} {f : Fold} (h : inB f.k 1 6 = false) : foldErr C R f = 15 := by unfold foldErr; rw [if_pos h]
theorem fold_all {C R : Int} {f : Fold} (h : inB f.k 1 6 = true) (h2 : f.k = 5 ∨ f.k = 6) : foldErr C R f = if f.c ≠ 0 then 2 else 0 := by unfold foldErr; rw [if_neg (by simp [h]), if_pos h2]
theorem fold_side {C R : Int} {f : Fold} (h : inB f.k 1 6 = true) (h2 : ¬ (f.k = 5 ∨ f.k = 6)) : foldErr C R f = if f.c < 1 then 2 else if alongI C R f.k - f.c < f.c then 26 else 0 := by unfold foldErr; rw [if_neg (by simp [h]), if_neg h2]
set_option maxHeartbeats 2000000 in
theorem errorOfFold_any (C R : Int) (f : Fold) (w : World) (hC : 1 ≤ C ∧ C ≤ 8) (hR : 1 ≤ R ∧ R ≤ 8) (hc : OkI f.c) :
    Calls Tryz.prog 52 #[.agg #[.int .i64 C, .int .i64 R], .agg #[.int .i64 f.k, .int .i64 f.c]] w fun e w' => e = .returned (.int .i64 (foldErr C R f)) ∧ Below w.heap.size w w' := by
  have hb := ((Below.refl w.heap.size w).alloc (Nat.le_refl _) (.cells #[.int .i64 C, .int .i64 R] 73)).alloc (by simp) (.cells #[.int .i64 f.k, .int .i64 f.c] 59)
  obtain ⟨k, c⟩ := f
  have hc : OkI c := hc
  cases h1 : inB k 1 6
  · have HE := Lib.hid (fold_kind (C := C) (R := R) (f := ⟨k, c⟩) h1)
    clear hc hC hR
    go_enter Tryz.func52, Tryz.ntmps52
    go_wp2_with (go_at_call 70; refine (isFrom_any _ _ _ _).mono ?_; rintro e w' ⟨rfl, rfl⟩)
    go_ret
    exact ⟨ret_int HE.out.symm, hb⟩
  by_cases h2 : k = 5 ∨ k = 6
  · have HE := Lib.hid (fold_all (C := C) (R := R) (f := ⟨k, c⟩) h1 h2)
    have h2' : allB k = true := decide_eq_true h2
    clear hc hC hR h2
    by_cases h3 : c = 0
    · subst h3
      go_enter Tryz.func52, Tryz.ntmps52
      go_wp2_with (first | (go_at_call 70; refine (isFrom_any _ _ _ _).mono ?_; rintro e w' ⟨rfl, rfl⟩) | (go_at_call 68; refine (turnsAll_any _ _).mono ?_; rintro e w' ⟨rfl, rfl⟩))
      go_ret
      exact ⟨ret_int HE.out.symm, hb⟩
    · have HX := Lib.hid (show foldErr C R ⟨k, c⟩ = 2 by rw [HE.out]; exact if_pos h3)
      have h3' : (c != 0) = true := by simpa using h3
      clear h3
      go_enter Tryz.func52, Tryz.ntmps52
      go_wp2_with (first | (go_at_call 70; refine (isFrom_any _ _ _ _).mono ?_; rintro e w' ⟨rfl, rfl⟩) | (go_at_call 68; refine (turnsAll_any _ _).mono ?_; rintro e w' ⟨rfl, rfl⟩))
      go_ret
      exact ⟨ret_int HX.out.symm, hb⟩
  have HE := Lib.hid (fold_side (C := C) (R := R) (f := ⟨k, c⟩) h1 h2)
  have h2' : allB k = false := decide_eq_false h2
  clear h2
  by_cases h3 : c < 1
  · have HX := Lib.hid (show foldErr C R ⟨k, c⟩ = 2 by rw [HE.out]; exact if_pos h3)
    clear hc hC hR
    go_enter Tryz.func52, Tryz.ntmps52
    go_wp2_with (first | (go_at_call 70; refine (isFrom_any _ _ _ _).mono ?_; rintro e w' ⟨rfl, rfl⟩) | (go_at_call 68; refine (turnsAll_any _ _).mono ?_; rintro e w' ⟨rfl, rfl⟩))
    go_ret
    exact ⟨ret_int HX.out.symm, hb⟩
  have hA : 1 ≤ alongI C R k ∧ alongI C R k ≤ 8 := by unfold alongI; split <;> omega
  have h3' : decide (c < 1) = false := by simpa using h3
  have HI := Lib.hid hc.le
  have hs : IntKind.i64.wrap (alongI C R k - c) = alongI C R k - c := IntWalk.i64_in _ (by have := HI.out; omega)
  obtain ⟨A, hAe⟩ : ∃ A, A = alongI C R k := ⟨_, rfl⟩
  have HA := Lib.hid hAe
  rw [← hAe] at hs
  have HE2 := Lib.hid (show foldErr C R ⟨k, c⟩ = if A - c < c then 26 else 0 by rw [HE.out, hAe]; exact if_neg h3)
  clear hc hC hR hA h3 hAe HE
  have halong := fun (W : World) => (along_any C R k W)
  rw [← HA.out] at halong
  have HAL := Lib.hid halong
  clear halong
  by_cases h4 : A - c < c
  · have HX := Lib.hid (show foldErr C R ⟨k, c⟩ = 26 by rw [HE2.out]; exact if_pos h4)
    go_enter Tryz.func52, Tryz.ntmps52
    go_wp2_with (first | (go_at_call 70; refine (isFrom_any _ _ _ _).mono ?_; rintro e w' ⟨rfl, rfl⟩) | (go_at_call 68; refine (turnsAll_any _ _).mono ?_; rintro e w' ⟨rfl, rfl⟩))
    go_region_held3 (fun w' => w'.cell? ⟨w.heap.size, 0, none⟩ = some (.int .i64 C) ∧ w'.cell? ⟨w.heap.size, 1, none⟩ = some (.int .i64 R) ∧ w'.cell? ⟨w.heap.size + 1, 0, none⟩ = some (.int .i64 k) ∧ w'.cell? ⟨w.heap.size + 1, 1, none⟩ = some (.int .i64 c)) (go_keep)
      ((go_at_call 72; refine (HAL.out _).mono ?_; rintro e w8 ⟨rfl, hb8⟩; have k0 := (hb8.cell (p := ⟨w.heap.size, 0, none⟩) (by simp; omega)); have k1 := (hb8.cell (p := ⟨w.heap.size, 1, none⟩) (by simp; omega)); have k2 := (hb8.cell (p := ⟨w.heap.size + 1, 0, none⟩) (by simp)); have k3 := (hb8.cell (p := ⟨w.heap.size + 1, 1, none⟩) (by simp)); simp at k0 k1 k2 k3))
    go_wp2
    go_ret
    exact ⟨ret_int HX.out.symm, hb.drew.trans (hb8.mono (by simp <;> omega))⟩
  · have HX := Lib.hid (show foldErr C R ⟨k, c⟩ = 0 by rw [HE2.out]; exact if_neg h4)
    go_enter Tryz.func52, Tryz.ntmps52
    go_wp2_with (first | (go_at_call 70; refine (isFrom_any _ _ _ _).mono ?_; rintro e w' ⟨rfl, rfl⟩) | (go_at_call 68; refine (turnsAll_any _ _).mono ?_; rintro e w' ⟨rfl, rfl⟩))
    go_region_held3 (fun w' => w'.cell? ⟨w.heap.size, 0, none⟩ = some (.int .i64 C) ∧ w'.cell? ⟨w.heap.size, 1, none⟩ = some (.int .i64 R) ∧ w'.cell? ⟨w.heap.size + 1, 0, none⟩ = some (.int .i64 k) ∧ w'.cell? ⟨w.heap.size + 1, 1, none⟩ = some (.int .i64 c)) (go_keep)
      ((go_at_call 72; refine (HAL.out _).mono ?_; rintro e w8 ⟨rfl, hb8⟩; have k0 := (hb8.cell (p := ⟨w.heap.size, 0, none⟩) (by simp; omega)); have k1 := (hb8.cell (p := ⟨w.heap.size, 1, none⟩) (by simp; omega)); have k2 := (hb8.cell (p := ⟨w.heap.size + 1, 0, none⟩) (by simp)); have k3 := (hb8.cell (p := ⟨w.heap.size + 1, 1, none⟩) (by simp)); simp at k0 k1 k2 k3))
    go_wp2
    go_ret
    exact ⟨ret_int HX.out.symm, hb.drew.trans (hb8.mono (by simp <;> omega))⟩
end Go.Proofs.YtgoandhlcekmiaaGreatDoor
