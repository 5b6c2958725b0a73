/-
  Package tympanref06: what a pile reads.
-/
import Derived.Test.YtgoandhlcekmiaaGreatDoorYB
import Derived.Test.YtgoandhlcekmiaaGreatDoorRA
import Derived.Test.YtgoandhlcekmiaaGreatDoorKG
namespace Go.Proofs.YtgoandhlcekmiaaGreatDoor
open Go.RowKit

theorem bits_wrap {a b : Int} (ha : Bit a) (hb : Bit b) : IntKind.i64.wrap (a + b) = a + b := by rcases ha with rfl | rfl <;> rcases hb with rfl | rfl <;> decide
def cellAt (C : Int) (L : List Cell) (x : Leaf) : Cell := L.getD (x.r * C + x.c).toNat default
/-- The two pages of a leaf, the upper one first. -/
def rdP (C : Int) (L : List Cell) (x : Leaf) : List Page :=
  if x.o = 1 then [⟨(cellAt C L x).b, xr (cellAt C L x).bt x.t⟩, ⟨(cellAt C L x).f, xr (cellAt C L x).ft x.t⟩] else [⟨(cellAt C L x).f, xr (cellAt C L x).ft x.t⟩, ⟨(cellAt C L x).b, xr (cellAt C L x).bt x.t⟩]
def rdTo (C : Int) (L : List Cell) (M : List Leaf) (k : Nat) : List Page := (M.take k).flatMap (rdP C L)
theorem rdP_len (C : Int) (L : List Cell) (x : Leaf) : (rdP C L x).length = 2 := by unfold rdP; split <;> rfl
theorem rdTo_len {C : Int} {L : List Cell} {M : List Leaf} {k : Nat} (hk : k ≤ M.length) : (rdTo C L M k).length = 2 * k := by
  unfold rdTo
  rw [List.length_flatMap]
  have : (M.take k).map (fun x => (rdP C L x).length) = (M.take k).map fun _ => 2 := List.map_congr_left fun x _ => rdP_len C L x
  rw [this, List.map_const', List.sum_replicate_nat, List.length_take, Nat.min_eq_left hk, Nat.mul_comm]
theorem rdTo_succ {C : Int} {L : List Cell} {M : List Leaf} {k : Nat} (hk : k < M.length) : rdTo C L M k ++ rdP C L M[k] = rdTo C L M (k + 1) := by
  unfold rdTo; rw [List.take_succ_eq_append_getElem hk, List.flatMap_append]; simp
def PagesPost (w : World) (P : List Page) (e : Ending) (w' : World) : Prop :=
  ∃ (a : Option Addr) (n c : Nat), e = .returned (.slice a n c) ∧ n = P.length ∧ RowsAt 2 Page.l w' a P ∧ (a = none → c = 0) ∧ Below w.heap.size w w'
structure PgEnv (w : World) (C R : Nat) (a : Option Addr) (n c : Nat) (v : Value) (M : List Page) (wr : World) : Prop where
  bs : BoxAt wr w.heap.size #[.int .i64 C, .int .i64 R, .slice a n c] 29
  own : OwnR 2 79 Page.l wr (w.heap.size + 1) v M
  low : Below w.heap.size w wr
theorem PgEnv.below {w : World} {C R : Nat} {a : Option Addr} {n c : Nat} {v : Value} {M : List Page} {wr w1 : World} (h : PgEnv w C R a n c v M wr) (hb : Below wr.heap.size wr w1) : PgEnv w C R a n c v M w1 :=
  ⟨h.bs.below hb, h.own.below hb, h.low.trans (hb.mono h.low.size)⟩
end Go.Proofs.YtgoandhlcekmiaaGreatDoor

namespace Go.Proofs.YtgoandhlcekmiaaGreatDoor
open Go.RowKit

def hasB (L : List Int) (n : Int) : Bool := L.contains n
theorem contains_far {L : List Int} {n : Int} (h : ∀ j, j < L.length → L[j]? ≠ some n) : L.contains n = false := by
  rw [Bool.eq_false_iff]
  intro hc
  have hm : n ∈ L := by simpa using hc
  obtain ⟨j, hj, e⟩ := List.getElem_of_mem hm
  exact h j hj (by rw [List.getElem?_eq_getElem hj, e])
theorem RowsAt.twoI (w : World) (x y : Int) (T : TypeId) : RowsAt 1 intL (w.alloc (.cells #[.int .i64 x, .int .i64 y] T)) (some ⟨w.heap.size, 0, none⟩) [x, y] := by
  have hb := BoxAt.new w #[.int .i64 x, .int .i64 y] T
  intro k hk
  have hk2 : k = 0 ∨ k = 1 := by simp at hk; omega
  refine ⟨_, rfl, hb.lt, fun j hj => ?_⟩
  have hj2 : j = 0 := by omega
  rw [add0, fld_own, hb.cell]
  rcases hk2 with rfl | rfl <;> subst hj2 <;> rfl
theorem RowsAt.twoG {w : World} {g : Nat} (hg : w.heap.size = g) (x y : Int) (T : TypeId) : RowsAt 1 intL (w.alloc (.cells #[.int .i64 x, .int .i64 y] T)) (some ⟨g, 0, none⟩) [x, y] := by subst hg; exact RowsAt.twoI w x y T
theorem cellB_split (m : Int) (x : Cell) : cellB m x = (inB x.f 1 m && inB x.b 1 m && inB x.ft 0 1 && inB x.bt 0 1) := by
  unfold cellB pageB
  simp only [List.all_cons, List.all_nil, Bool.and_true]
  cases inB x.f 1 m <;> cases inB x.b 1 m <;> cases inB x.ft 0 1 <;> cases inB x.bt 0 1 <;> rfl
end Go.Proofs.YtgoandhlcekmiaaGreatDoor

namespace Go.Proofs.YtgoandhlcekmiaaGreatDoor
open Go.RowKit

theorem lt_ne {b c : Nat} (h : b < c) : ¬ b = c ∧ ¬ c = b := ⟨Nat.ne_of_lt h, Nat.ne_of_gt h⟩
theorem keep_same {a w v : World} (hq : Below a.heap.size a w) (hbv : Below w.heap.size w v) : Below a.heap.size a v := hq.trans (hbv.mono hq.size)
theorem keep_new {a w v : World} {o : Obj} (hq : Below a.heap.size a w) (hbv : Below (w.alloc o).heap.size (w.alloc o) v) : Below a.heap.size a v := (hq.alloc hq.size o).trans (hbv.mono (by have := hq.size; simp; omega))
theorem box_new {w v : World} {cs : Array Value} {T : TypeId} (hbv : Below (w.alloc (.cells cs T)).heap.size (w.alloc (.cells cs T)) v) : BoxAt v w.heap.size cs T := (BoxAt.new w cs T).below hbv
theorem keep_newD {w v : World} {o : Obj} (hbv : Below (w.alloc o).drew.heap.size (w.alloc o).drew v) : Below w.heap.size w v := (((Below.refl w.heap.size w).alloc (Nat.le_refl _) o).drew).trans (hbv.mono (by simp))
theorem box_newD {w v : World} {cs : Array Value} {T : TypeId} (hbv : Below (w.alloc (.cells cs T)).drew.heap.size (w.alloc (.cells cs T)).drew v) : BoxAt v w.heap.size cs T := (BoxAt.new w cs T).below (w' := v) (show Below (w.alloc (.cells cs T)).heap.size (w.alloc (.cells cs T)) v from ((Below.refl _ _).drew).trans hbv)
theorem keep_new2 {a w v : World} {o1 o2 : Obj} (hq : Below a.heap.size a w) (hbv : Below ((w.alloc o1).alloc o2).heap.size ((w.alloc o1).alloc o2) v) : Below a.heap.size a v := ((hq.alloc hq.size o1).alloc (by have := hq.size; simp; omega) o2).trans (hbv.mono (by have := hq.size; simp; omega))
theorem keep_new2D {w v : World} {o1 o2 : Obj} (hbv : Below ((w.alloc o1).alloc o2).drew.heap.size ((w.alloc o1).alloc o2).drew v) : Below w.heap.size w v := ((((Below.refl w.heap.size w).alloc (Nat.le_refl _) o1).alloc (by simp) o2).drew).trans (hbv.mono (by simp; omega))
theorem box_low {w v : World} {o : Obj} {b : Nat} {cs : Array Value} {T : TypeId} (h : BoxAt w b cs T) (hbv : Below (w.alloc o).heap.size (w.alloc o) v) : BoxAt v b cs T := (h.alloc o).below hbv
theorem box_new2a {w v : World} {cs : Array Value} {T : TypeId} {o2 : Obj} (hbv : Below ((w.alloc (.cells cs T)).alloc o2).heap.size ((w.alloc (.cells cs T)).alloc o2) v) : BoxAt v w.heap.size cs T := ((BoxAt.new w cs T).alloc o2).below hbv
theorem box_new2b {w v : World} {cs : Array Value} {T : TypeId} {o1 : Obj} (hbv : Below ((w.alloc o1).alloc (.cells cs T)).heap.size ((w.alloc o1).alloc (.cells cs T)) v) : BoxAt v (w.heap.size + 1) cs T := by
  have := (BoxAt.new (w.alloc o1) cs T).below hbv
  simpa using this
theorem box_new2aD {w v : World} {cs : Array Value} {T : TypeId} {o2 : Obj} (hbv : Below ((w.alloc (.cells cs T)).alloc o2).drew.heap.size ((w.alloc (.cells cs T)).alloc o2).drew v) : BoxAt v w.heap.size cs T := box_new2a (((Below.refl _ _).drew).trans hbv)
theorem box_new2bD {w v : World} {cs : Array Value} {T : TypeId} {o1 : Obj} (hbv : Below ((w.alloc o1).alloc (.cells cs T)).drew.heap.size ((w.alloc o1).alloc (.cells cs T)).drew v) : BoxAt v (w.heap.size + 1) cs T := box_new2b (((Below.refl _ _).drew).trans hbv)
theorem box_put2 {w : World} {b : Nat} {x0 x1 u0 u1 : Value} {T : TypeId} (h : BoxAt w b #[x0, x1] T) : BoxAt ((w.setCell ⟨b, 0, none⟩ u0).setCell ⟨b, 1, none⟩ u1) b #[u0, u1] T := (h.set 0 u0).set 1 u1
theorem box_at {w : World} {g : Nat} {cs : Array Value} {T : TypeId} (h : w.heap.size = g) : BoxAt (w.alloc (.cells cs T)) g cs T := by subst h; exact BoxAt.new _ _ _
/-- The two boxes of a leaf's pages: the ways in which they are made. -/
theorem fin1 {wc v : World} {c9 c10 : Array Value} {T : TypeId} (hq : Below wc.heap.size wc v) : ∃ b9 b10, Value.pointer (some ⟨v.heap.size, 0, none⟩) = .pointer (some ⟨b9, 0, none⟩) ∧ Value.pointer (some ⟨v.heap.size + 1, 0, none⟩) = .pointer (some ⟨b10, 0, none⟩) ∧
    BoxAt ((v.alloc (.cells c9 T)).alloc (.cells c10 T)) b9 c9 T ∧ BoxAt ((v.alloc (.cells c9 T)).alloc (.cells c10 T)) b10 c10 T ∧ ¬ b9 = b10 ∧ wc.heap.size ≤ b9 ∧ wc.heap.size ≤ b10 ∧ Below wc.heap.size wc ((v.alloc (.cells c9 T)).alloc (.cells c10 T)) :=
  ⟨_, _, rfl, rfl, (BoxAt.new v _ _).alloc _, box_at (by simp), by omega, hq.size, Nat.le_succ_of_le hq.size, (hq.alloc hq.size _).alloc (by have := hq.size; simp; omega) _⟩
theorem fin1' {wc v : World} {c9 c10 : Array Value} {T : TypeId} (hq : Below wc.heap.size wc v) : ∃ b9 b10, Value.pointer (some ⟨v.heap.size + 1, 0, none⟩) = .pointer (some ⟨b9, 0, none⟩) ∧ Value.pointer (some ⟨v.heap.size, 0, none⟩) = .pointer (some ⟨b10, 0, none⟩) ∧
    BoxAt ((v.alloc (.cells c10 T)).alloc (.cells c9 T)) b9 c9 T ∧ BoxAt ((v.alloc (.cells c10 T)).alloc (.cells c9 T)) b10 c10 T ∧ ¬ b9 = b10 ∧ wc.heap.size ≤ b9 ∧ wc.heap.size ≤ b10 ∧ Below wc.heap.size wc ((v.alloc (.cells c10 T)).alloc (.cells c9 T)) :=
  ⟨_, _, rfl, rfl, box_at (by simp), (BoxAt.new v _ _).alloc _, by omega, Nat.le_succ_of_le hq.size, hq.size, (hq.alloc hq.size _).alloc (by have := hq.size; simp; omega) _⟩
theorem fin2 {wc v : World} {g : Nat} {x0 x1 u0 u1 : Value} {c10 : Array Value} {T : TypeId} (hA : BoxAt v g #[x0, x1] T) (hle : wc.heap.size ≤ g) (hq : Below wc.heap.size wc v) : ∃ b9 b10, Value.pointer (some ⟨g, 0, none⟩) = .pointer (some ⟨b9, 0, none⟩) ∧ Value.pointer (some ⟨v.heap.size, 0, none⟩) = .pointer (some ⟨b10, 0, none⟩) ∧
    BoxAt (((v.setCell ⟨g, 0, none⟩ u0).setCell ⟨g, 1, none⟩ u1).alloc (.cells c10 T)) b9 #[u0, u1] T ∧ BoxAt (((v.setCell ⟨g, 0, none⟩ u0).setCell ⟨g, 1, none⟩ u1).alloc (.cells c10 T)) b10 c10 T ∧ ¬ b9 = b10 ∧ wc.heap.size ≤ b9 ∧ wc.heap.size ≤ b10 ∧ Below wc.heap.size wc (((v.setCell ⟨g, 0, none⟩ u0).setCell ⟨g, 1, none⟩ u1).alloc (.cells c10 T)) :=
  ⟨_, _, rfl, rfl, (box_put2 hA).alloc _, box_at (by simp), Nat.ne_of_lt hA.lt, hle, hq.size, ((hq.setCell (p := ⟨g, 0, none⟩) hle _).setCell (p := ⟨g, 1, none⟩) hle _).alloc (by have := hq.size; simpa using this) _⟩
theorem fin2' {wc v : World} {g : Nat} {x0 x1 u0 u1 : Value} {c9 : Array Value} {T : TypeId} (hA : BoxAt v g #[x0, x1] T) (hle : wc.heap.size ≤ g) (hq : Below wc.heap.size wc v) : ∃ b9 b10, Value.pointer (some ⟨v.heap.size, 0, none⟩) = .pointer (some ⟨b9, 0, none⟩) ∧ Value.pointer (some ⟨g, 0, none⟩) = .pointer (some ⟨b10, 0, none⟩) ∧
    BoxAt (((v.setCell ⟨g, 0, none⟩ u0).setCell ⟨g, 1, none⟩ u1).alloc (.cells c9 T)) b9 c9 T ∧ BoxAt (((v.setCell ⟨g, 0, none⟩ u0).setCell ⟨g, 1, none⟩ u1).alloc (.cells c9 T)) b10 #[u0, u1] T ∧ ¬ b9 = b10 ∧ wc.heap.size ≤ b9 ∧ wc.heap.size ≤ b10 ∧ Below wc.heap.size wc (((v.setCell ⟨g, 0, none⟩ u0).setCell ⟨g, 1, none⟩ u1).alloc (.cells c9 T)) :=
  ⟨_, _, rfl, rfl, box_at (by simp), (box_put2 hA).alloc _, Nat.ne_of_gt hA.lt, hq.size, hle, ((hq.setCell (p := ⟨g, 0, none⟩) hle _).setCell (p := ⟨g, 1, none⟩) hle _).alloc (by have := hq.size; simpa using this) _⟩
theorem fin3 {wc v : World} {g h : Nat} {x0 x1 y0 y1 u0 u1 t0 t1 : Value} {T : TypeId} (hA : BoxAt v g #[x0, x1] T) (hB : BoxAt v h #[y0, y1] T) (hne : ¬ g = h) (hg : wc.heap.size ≤ g) (hh : wc.heap.size ≤ h) (hq : Below wc.heap.size wc v) : ∃ b9 b10, Value.pointer (some ⟨g, 0, none⟩) = .pointer (some ⟨b9, 0, none⟩) ∧ Value.pointer (some ⟨h, 0, none⟩) = .pointer (some ⟨b10, 0, none⟩) ∧
    BoxAt ((((v.setCell ⟨g, 0, none⟩ u0).setCell ⟨g, 1, none⟩ u1).setCell ⟨h, 0, none⟩ t0).setCell ⟨h, 1, none⟩ t1) b9 #[u0, u1] T ∧ BoxAt ((((v.setCell ⟨g, 0, none⟩ u0).setCell ⟨g, 1, none⟩ u1).setCell ⟨h, 0, none⟩ t0).setCell ⟨h, 1, none⟩ t1) b10 #[t0, t1] T ∧ ¬ b9 = b10 ∧ wc.heap.size ≤ b9 ∧ wc.heap.size ≤ b10 ∧ Below wc.heap.size wc ((((v.setCell ⟨g, 0, none⟩ u0).setCell ⟨g, 1, none⟩ u1).setCell ⟨h, 0, none⟩ t0).setCell ⟨h, 1, none⟩ t1) :=
  ⟨_, _, rfl, rfl, ((box_put2 hA).set_other (p := ⟨h, 0, none⟩) hne _).set_other (p := ⟨h, 1, none⟩) hne _, box_put2 ((hB.set_other (p := ⟨g, 0, none⟩) (Ne.symm hne) _).set_other (p := ⟨g, 1, none⟩) (Ne.symm hne) _), hne, hg, hh,
    (((hq.setCell (p := ⟨g, 0, none⟩) hg _).setCell (p := ⟨g, 1, none⟩) hg _).setCell (p := ⟨h, 0, none⟩) hh _).setCell (p := ⟨h, 1, none⟩) hh _⟩
end Go.Proofs.YtgoandhlcekmiaaGreatDoor
