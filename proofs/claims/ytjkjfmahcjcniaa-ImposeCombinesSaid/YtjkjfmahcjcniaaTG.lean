/-
  Package impose: both halves of a sheet under way in memory.
-/
import Derived.Test.YtjkjfmahcjcniaaTC
namespace Go.Proofs.Ytjkjfmahcjcniaa
open Go.RowKit

structure HvEnv (w : World) (C R hc hr : Nat) (a : Option Addr) (L : List Cell) (c g6 g : Nat) (v1 : Value) (M1 : List Cell) (v2 : Value) (M2 : List Cell) (wr : World) : Prop where
  bs : BoxAt wr w.heap.size #[.int .i64 C, .int .i64 R, .slice a L.length c] 43
  br : BoxAt wr (w.heap.size + 1) #[.int .i64 0, .int .i64 0, .slice none 0 0, .int .i64 0, .int .i64 0, .slice none 0 0] 80
  bz : BoxAt wr g6 #[.int .i64 C, .int .i64 R] 122
  bh : BoxAt wr g #[.int .i64 hc, .int .i64 hr] 122
  b1 : BoxAt wr (g + 1) #[.int .i64 hc, .int .i64 hr, v1] 43
  b2 : BoxAt wr (g + 1 + 1) #[.int .i64 hc, .int .i64 hr, v2] 43
  o1 : OwnR 4 91 Cell.l wr (g + 1 + 1 + 1) v1 M1
  o2 : OwnR 4 91 Cell.l wr (g + 1 + 1 + 1) v2 M2
  ap : ∀ q, v1.ownBlock = some q → v2.ownBlock ≠ some q
  low : Below w.heap.size w wr
section
variable {w wr wm wg : World} {C R hc hr : Nat} {a : Option Addr} {L : List Cell} {c g6 g : Nat} {v1 v2 v' : Value} {M1 M2 M' : List Cell}
theorem HvEnv.below (E : HvEnv w C R hc hr a L c g6 g v1 M1 v2 M2 wr) (hb : Below wr.heap.size wr wm) : HvEnv w C R hc hr a L c g6 g v1 M1 v2 M2 wm :=
  ⟨E.bs.below hb, E.br.below hb, E.bz.below hb, E.bh.below hb, E.b1.below hb, E.b2.below hb, E.o1.below hb, E.o2.below hb, E.ap, E.low.trans (hb.mono E.low.size)⟩
theorem HvEnv.app1 (E : HvEnv w C R hc hr a L c g6 g v1 M1 v2 M2 wm) (h1 : w.heap.size + 1 < g6) (h2 : g6 < g) (hO : OwnR 4 91 Cell.l wg (g + 1 + 1 + 1) v' M') (hg : wm.grownBy wg v1.ownBlock) (hb : Below (g + 1 + 1 + 1) wm wg)
    (hor : v'.ownBlock = v1.ownBlock ∨ v'.ownBlock = some wm.heap.size) : HvEnv w C R hc hr a L c g6 g v' M' v2 M2 (wg.setCell ⟨g + 1, 2, none⟩ v') := by
  have hne : ∀ q, q < g + 1 + 1 + 1 → some q ≠ v1.ownBlock := fun q hq e => by have := (E.o1.lt q e.symm).1; omega
  have hap : ∀ q, v'.ownBlock = some q → v2.ownBlock ≠ some q := fun q e e2 => by
    rcases hor with h | h
    · exact E.ap q (h.symm.trans e) e2
    · rw [h] at e; have := Option.some.inj e; have := (E.o2.lt q e2).2; omega
  refine ⟨?_, ?_, ?_, ?_, ?_, ?_, ?_, ?_, hap, ?_⟩
  · exact (E.bs.grown hg (hne _ (by omega))).set_other (p := ⟨g + 1, 2, none⟩) (by show w.heap.size ≠ g + 1; omega) _
  · exact (E.br.grown hg (hne _ (by omega))).set_other (p := ⟨g + 1, 2, none⟩) (by show w.heap.size + 1 ≠ g + 1; omega) _
  · exact (E.bz.grown hg (hne _ (by omega))).set_other (p := ⟨g + 1, 2, none⟩) (by show g6 ≠ g + 1; omega) _
  · exact (E.bh.grown hg (hne _ (by omega))).set_other (p := ⟨g + 1, 2, none⟩) (by show g ≠ g + 1; omega) _
  · exact (E.b1.grown hg (hne _ (by omega))).set 2 v'
  · exact (E.b2.grown hg (hne _ (by omega))).set_other (p := ⟨g + 1, 2, none⟩) (by show g + 1 + 1 ≠ g + 1; omega) _
  · exact hO.set (p := ⟨g + 1, 2, none⟩) (fun e => by have := (hO.lt _ e).1; simp at this; omega) _
  · exact (E.o2.grown hg (fun q e e2 => E.ap q e2.symm e)).set (p := ⟨g + 1, 2, none⟩) (fun e => by have := (E.o2.lt _ e).1; simp at this; omega) _
  · exact (E.low.trans (hb.mono (by omega))).setCell (p := ⟨g + 1, 2, none⟩) (by show w.heap.size ≤ g + 1; omega) _
theorem HvEnv.app2 (E : HvEnv w C R hc hr a L c g6 g v1 M1 v2 M2 wm) (h1 : w.heap.size + 1 < g6) (h2 : g6 < g) (hO : OwnR 4 91 Cell.l wg (g + 1 + 1 + 1) v' M') (hg : wm.grownBy wg v2.ownBlock) (hb : Below (g + 1 + 1 + 1) wm wg)
    (hor : v'.ownBlock = v2.ownBlock ∨ v'.ownBlock = some wm.heap.size) : HvEnv w C R hc hr a L c g6 g v1 M1 v' M' (wg.setCell ⟨g + 1 + 1, 2, none⟩ v') := by
  have hne : ∀ q, q < g + 1 + 1 + 1 → some q ≠ v2.ownBlock := fun q hq e => by have := (E.o2.lt q e.symm).1; omega
  have hap : ∀ q, v1.ownBlock = some q → v'.ownBlock ≠ some q := fun q e e2 => by
    rcases hor with h | h
    · exact E.ap q e (h.symm.trans e2)
    · rw [h] at e2; have := Option.some.inj e2; have := (E.o1.lt q e).2; omega
  refine ⟨?_, ?_, ?_, ?_, ?_, ?_, ?_, ?_, hap, ?_⟩
  · exact (E.bs.grown hg (hne _ (by omega))).set_other (p := ⟨g + 1 + 1, 2, none⟩) (by show w.heap.size ≠ g + 1 + 1; omega) _
  · exact (E.br.grown hg (hne _ (by omega))).set_other (p := ⟨g + 1 + 1, 2, none⟩) (by show w.heap.size + 1 ≠ g + 1 + 1; omega) _
  · exact (E.bz.grown hg (hne _ (by omega))).set_other (p := ⟨g + 1 + 1, 2, none⟩) (by show g6 ≠ g + 1 + 1; omega) _
  · exact (E.bh.grown hg (hne _ (by omega))).set_other (p := ⟨g + 1 + 1, 2, none⟩) (by show g ≠ g + 1 + 1; omega) _
  · exact (E.b1.grown hg (hne _ (by omega))).set_other (p := ⟨g + 1 + 1, 2, none⟩) (by show g + 1 ≠ g + 1 + 1; omega) _
  · exact (E.b2.grown hg (hne _ (by omega))).set 2 v'
  · exact (E.o1.grown hg (fun q e e2 => E.ap q e e2.symm)).set (p := ⟨g + 1 + 1, 2, none⟩) (fun e => by have := (E.o1.lt _ e).1; simp at this; omega) _
  · exact hO.set (p := ⟨g + 1 + 1, 2, none⟩) (fun e => by have := (hO.lt _ e).1; simp at this; omega) _
  · exact (E.low.trans (hb.mono (by omega))).setCell (p := ⟨g + 1 + 1, 2, none⟩) (by show w.heap.size ≤ g + 1 + 1; omega) _
end
/-- The result's six cells are set. -/
def set6 (v : World) (b : Nat) (x0 x1 x2 x3 x4 x5 : Value) : World := (((((v.setCell ⟨b, 0, none⟩ x0).setCell ⟨b, 1, none⟩ x1).setCell ⟨b, 2, none⟩ x2).setCell ⟨b, 3, none⟩ x3).setCell ⟨b, 4, none⟩ x4).setCell ⟨b, 5, none⟩ x5
theorem below_set6 {w v : World} (hB : Below w.heap.size w v) {b : Nat} (hb : w.heap.size ≤ b) (x0 x1 x2 x3 x4 x5 : Value) : Below w.heap.size w (set6 v b x0 x1 x2 x3 x4 x5) :=
  (((((hB.setCell (p := ⟨b, 0, none⟩) hb _).setCell (p := ⟨b, 1, none⟩) hb _).setCell (p := ⟨b, 2, none⟩) hb _).setCell (p := ⟨b, 3, none⟩) hb _).setCell (p := ⟨b, 4, none⟩) hb _).setCell (p := ⟨b, 5, none⟩) hb _
theorem rows_set6 {v : World} {a : Option Addr} {M : List Cell} (h : RowsAt 4 Cell.l v a M) {b : Nat} (hb : ∀ ad, a = some ad → ad.block ≠ b) (x0 x1 x2 x3 x4 x5 : Value) : RowsAt 4 Cell.l (set6 v b x0 x1 x2 x3 x4 x5) a M :=
  (((((h.set (p := ⟨b, 0, none⟩) hb _).set (p := ⟨b, 1, none⟩) hb _).set (p := ⟨b, 2, none⟩) hb _).set (p := ⟨b, 3, none⟩) hb _).set (p := ⟨b, 4, none⟩) hb _).set (p := ⟨b, 5, none⟩) hb _
theorem hv_fail {w v : World} (hB : Below w.heap.size w v) {q : Int} {D : Int × Int} {H1 H2 : List Cell} (hD : D = (0, 0)) (h1 : H1 = []) (h2 : H2 = []) :
    HalvesPost w q D H1 H2 (.returned (.tuple #[.agg #[.int .i64 0, .int .i64 0, .slice none 0 0, .int .i64 0, .int .i64 0, .slice none 0 0], .int .i64 q])) v := by
  subst hD h1 h2
  exact ⟨none, 0, 0, none, 0, 0, rfl, rfl, rfl, RowsAt.nil _ _, RowsAt.nil _ _, fun _ => rfl, fun _ => rfl, hB⟩
theorem hv_end {w v : World} {C R hc hr : Nat} {a : Option Addr} {L : List Cell} {c g6 g : Nat} {a1 a2 : Option Addr} {n1 n2 c1 c2 : Nat} {M1 M2 : List Cell} (E : HvEnv w C R hc hr a L c g6 g (.slice a1 n1 c1) M1 (.slice a2 n2 c2) M2 v) (h1 : w.heap.size + 1 < g6) (h2 : g6 < g)
    (e1 : n1 = M1.length) (e2 : n2 = M2.length) (x0 x1 x2 x3 x4 x5 : Value) :
    HalvesPost w 0 ((hc : Int), (hr : Int)) M1 M2 (.returned (.tuple #[.agg #[.int .i64 hc, .int .i64 hr, .slice a1 n1 c1, .int .i64 hc, .int .i64 hr, .slice a2 n2 c2], .int .i64 0])) (set6 v (w.heap.size + 1) x0 x1 x2 x3 x4 x5) := by
  obtain ⟨b1, d1, f1, r1, -, -, k1, g1⟩ := E.o1.rows cell_l
  obtain ⟨b2, d2, f2, r2, -, -, k2, g2⟩ := E.o2.rows cell_l
  injection f1 with f1 f1' f1''; injection f2 with f2 f2' f2''
  subst f1 f1'' f2 f2''
  exact ⟨a1, n1, c1, a2, n2, c2, rfl, e1, e2, rows_set6 r1 (fun ad e => by have := g1 ad e; omega) _ _ _ _ _ _, rows_set6 r2 (fun ad e => by have := g2 ad e; omega) _ _ _ _ _ _, k1, k2, below_set6 E.low (by omega) _ _ _ _ _ _⟩
end Go.Proofs.Ytjkjfmahcjcniaa
