/-
  Package impose: both halves of a sheet under way in the reference's memory.
-/
import Derived.Test.YtjkjfmahcjcniaaTG
namespace Go.Proofs.Ytjkjfmahcjcniaa
open Go.RowKit

structure RvEnv (w : World) (C R hc hr : Nat) (a : Option Addr) (L : List Cell) (c : Nat) (v1 : Value) (M1 : List Cell) (v2 : Value) (M2 : List Cell) (wr : World) : Prop where
  bs : BoxAt wr w.heap.size #[.int .i64 C, .int .i64 R, .slice a L.length c] 43
  br : BoxAt wr (w.heap.size + 1) #[.int .i64 0, .int .i64 0, .slice none 0 0, .int .i64 0, .int .i64 0, .slice none 0 0] 80
  bo : BoxAt wr (w.heap.size + 1 + 1 + 1) #[.int .i64 hc, .int .i64 hr, v1, .int .i64 hc, .int .i64 hr, v2] 80
  o1 : OwnR 4 91 Cell.l wr (w.heap.size + 1 + 1 + 1 + 1) v1 M1
  o2 : OwnR 4 91 Cell.l wr (w.heap.size + 1 + 1 + 1 + 1) v2 M2
  ap : ∀ q, v1.ownBlock = some q → v2.ownBlock ≠ some q
  low : Below w.heap.size w wr
section
variable {w wr wm wg : World} {C R hc hr : Nat} {a : Option Addr} {L : List Cell} {c : Nat} {v1 v2 v' : Value} {M1 M2 M' : List Cell}
theorem RvEnv.below (E : RvEnv w C R hc hr a L c v1 M1 v2 M2 wr) (hb : Below wr.heap.size wr wm) : RvEnv w C R hc hr a L c v1 M1 v2 M2 wm :=
  ⟨E.bs.below hb, E.br.below hb, E.bo.below hb, E.o1.below hb, E.o2.below hb, E.ap, E.low.trans (hb.mono E.low.size)⟩
theorem RvEnv.app1 (E : RvEnv w C R hc hr a L c v1 M1 v2 M2 wm) (hO : OwnR 4 91 Cell.l wg (w.heap.size + 1 + 1 + 1 + 1) v' M') (hg : wm.grownBy wg v1.ownBlock) (hb : Below (w.heap.size + 1 + 1 + 1 + 1) wm wg)
    (hor : v'.ownBlock = v1.ownBlock ∨ v'.ownBlock = some wm.heap.size) : RvEnv w C R hc hr a L c v' M' v2 M2 (wg.setCell ⟨w.heap.size + 1 + 1 + 1, 2, none⟩ v') := by
  have hne : ∀ q, q < w.heap.size + 1 + 1 + 1 + 1 → some q ≠ v1.ownBlock := fun q hq e => by have := (E.o1.lt q e.symm).1; omega
  have hap : ∀ q, v'.ownBlock = some q → v2.ownBlock ≠ some q := fun q e e2 => by
    rcases hor with h | h
    · exact E.ap q (h.symm.trans e) e2
    · rw [h] at e; have := Option.some.inj e; have := (E.o2.lt q e2).2; omega
  refine ⟨?_, ?_, ?_, ?_, ?_, hap, ?_⟩
  · exact (E.bs.grown hg (hne _ (by omega))).set_other (p := ⟨w.heap.size + 1 + 1 + 1, 2, none⟩) (by show w.heap.size ≠ w.heap.size + 1 + 1 + 1; omega) _
  · exact (E.br.grown hg (hne _ (by omega))).set_other (p := ⟨w.heap.size + 1 + 1 + 1, 2, none⟩) (by show w.heap.size + 1 ≠ w.heap.size + 1 + 1 + 1; omega) _
  · exact (E.bo.grown hg (hne _ (by omega))).set 2 v'
  · exact hO.set (p := ⟨w.heap.size + 1 + 1 + 1, 2, none⟩) (fun e => by have := (hO.lt _ e).1; simp at this; omega) _
  · exact (E.o2.grown hg (fun q e e2 => E.ap q e2.symm e)).set (p := ⟨w.heap.size + 1 + 1 + 1, 2, none⟩) (fun e => by have := (E.o2.lt _ e).1; simp at this; omega) _
  · exact (E.low.trans (hb.mono (by omega))).setCell (p := ⟨w.heap.size + 1 + 1 + 1, 2, none⟩) (by show w.heap.size ≤ w.heap.size + 1 + 1 + 1; omega) _
theorem RvEnv.app2 (E : RvEnv w C R hc hr a L c v1 M1 v2 M2 wm) (hO : OwnR 4 91 Cell.l wg (w.heap.size + 1 + 1 + 1 + 1) v' M') (hg : wm.grownBy wg v2.ownBlock) (hb : Below (w.heap.size + 1 + 1 + 1 + 1) wm wg)
    (hor : v'.ownBlock = v2.ownBlock ∨ v'.ownBlock = some wm.heap.size) : RvEnv w C R hc hr a L c v1 M1 v' M' (wg.setCell ⟨w.heap.size + 1 + 1 + 1, 5, none⟩ v') := by
  have hne : ∀ q, q < w.heap.size + 1 + 1 + 1 + 1 → some q ≠ v2.ownBlock := fun q hq e => by have := (E.o2.lt q e.symm).1; omega
  have hap : ∀ q, v1.ownBlock = some q → v'.ownBlock ≠ some q := fun q e e2 => by
    rcases hor with h | h
    · exact E.ap q e (h.symm.trans e2)
    · rw [h] at e2; have := Option.some.inj e2; have := (E.o1.lt q e).2; omega
  refine ⟨?_, ?_, ?_, ?_, ?_, hap, ?_⟩
  · exact (E.bs.grown hg (hne _ (by omega))).set_other (p := ⟨w.heap.size + 1 + 1 + 1, 5, none⟩) (by show w.heap.size ≠ w.heap.size + 1 + 1 + 1; omega) _
  · exact (E.br.grown hg (hne _ (by omega))).set_other (p := ⟨w.heap.size + 1 + 1 + 1, 5, none⟩) (by show w.heap.size + 1 ≠ w.heap.size + 1 + 1 + 1; omega) _
  · exact (E.bo.grown hg (hne _ (by omega))).set 5 v'
  · exact (E.o1.grown hg (fun q e e2 => E.ap q e e2.symm)).set (p := ⟨w.heap.size + 1 + 1 + 1, 5, none⟩) (fun e => by have := (E.o1.lt _ e).1; simp at this; omega) _
  · exact hO.set (p := ⟨w.heap.size + 1 + 1 + 1, 5, none⟩) (fun e => by have := (hO.lt _ e).1; simp at this; omega) _
  · exact (E.low.trans (hb.mono (by omega))).setCell (p := ⟨w.heap.size + 1 + 1 + 1, 5, none⟩) (by show w.heap.size ≤ w.heap.size + 1 + 1 + 1; omega) _
theorem RvEnv.put (E : RvEnv w C R hc hr a L c v1 M1 v2 M2 wm) {b : Nat} (hb : w.heap.size + 1 + 1 + 1 < b) (h1 : v1.ownBlock ≠ some b) (h2 : v2.ownBlock ≠ some b) (j : Nat) (u : Value) : RvEnv w C R hc hr a L c v1 M1 v2 M2 (wm.setCell ⟨b, j, none⟩ u) :=
  ⟨E.bs.set_other (p := ⟨b, j, none⟩) (by show w.heap.size ≠ b; omega) _, E.br.set_other (p := ⟨b, j, none⟩) (by show w.heap.size + 1 ≠ b; omega) _, E.bo.set_other (p := ⟨b, j, none⟩) (by show w.heap.size + 1 + 1 + 1 ≠ b; omega) _, E.o1.set (p := ⟨b, j, none⟩) h1 _, E.o2.set (p := ⟨b, j, none⟩) h2 _, E.ap, E.low.setCell (p := ⟨b, j, none⟩) (by show w.heap.size ≤ b; omega) _⟩
end
theorem rv_end {w v : World} {C R hc hr : Nat} {a : Option Addr} {L : List Cell} {c : Nat} {a1 a2 : Option Addr} {n1 n2 c1 c2 : Nat} {M1 M2 : List Cell} (E : RvEnv w C R hc hr a L c (.slice a1 n1 c1) M1 (.slice a2 n2 c2) M2 v)
    (e1 : n1 = M1.length) (e2 : n2 = M2.length) (x0 x1 x2 x3 x4 x5 : Value) :
    HalvesPost w 0 ((hc : Int), (hr : Int)) M1 M2 (.returned (.tuple #[.agg #[.int .i64 hc, .int .i64 hr, .slice a1 n1 c1, .int .i64 hc, .int .i64 hr, .slice a2 n2 c2], .int .i64 0])) (set6 v (w.heap.size + 1) x0 x1 x2 x3 x4 x5) := by
  obtain ⟨b1, d1, f1, r1, -, -, k1, g1⟩ := E.o1.rows cell_l
  obtain ⟨b2, d2, f2, r2, -, -, k2, g2⟩ := E.o2.rows cell_l
  injection f1 with f1 f1' f1''; injection f2 with f2 f2' f2''
  subst f1 f1'' f2 f2''
  exact ⟨a1, n1, c1, a2, n2, c2, rfl, e1, e2, rows_set6 r1 (fun ad e => by have := g1 ad e; omega) _ _ _ _ _ _, rows_set6 r2 (fun ad e => by have := g2 ad e; omega) _ _ _ _ _ _, k1, k2, below_set6 E.low (by omega) _ _ _ _ _ _⟩
end Go.Proofs.Ytjkjfmahcjcniaa
