/-
  Package impose: maths of both halves of a sheet.
-/
import Derived.Test.YtgoandhlcekmiaaGreatDoorKN
import Derived.Test.YtgoandhlcekmiaaGreatDoorKM
import Derived.Test.YtgoandhlcekmiaaGreatDoorYB
import Derived.Test.YtgoandhlcekmiaaGreatDoorRA
namespace Go.Proofs.YtgoandhlcekmiaaGreatDoor
open Go.RowKit

def h1Cell (C w : Nat) (L : List Cell) (p : Nat) : Cell := L.getD (p / w * C + p % w) default
def h2Cell (C R w : Nat) (b : Bool) (L : List Cell) (p : Nat) : Cell := ovCell b (L.getD (oppN C R (p / w * C + p % w) b) default)
/-- What is laid of the first, and of the second, half: y rows and x cells. -/
def hOne (C w : Nat) (L : List Cell) (y x : Nat) : List Cell := (List.range (y * w + x)).map (h1Cell C w L)
def hTwo (C R w : Nat) (b : Bool) (L : List Cell) (y x : Nat) : List Cell := (List.range (y * w + x)).map (h2Cell C R w b L)
theorem hOne_len (C w : Nat) (L : List Cell) (y x : Nat) : (hOne C w L y x).length = y * w + x := by simp [hOne]
theorem hTwo_len (C R w : Nat) (b : Bool) (L : List Cell) (y x : Nat) : (hTwo C R w b L y x).length = y * w + x := by simp [hTwo]
theorem hOne_row (C w : Nat) (L : List Cell) (y : Nat) : hOne C w L y w = hOne C w L (y + 1) 0 := by unfold hOne; rw [Nat.succ_mul, Nat.add_zero]
theorem hTwo_row (C R w : Nat) (b : Bool) (L : List Cell) (y : Nat) : hTwo C R w b L y w = hTwo C R w b L (y + 1) 0 := by unfold hTwo; rw [Nat.succ_mul, Nat.add_zero]
theorem divmod_at {w y x : Nat} (hx : x < w) : (y * w + x) / w = y ∧ (y * w + x) % w = x :=
  ⟨by rw [Nat.mul_comm, Nat.mul_add_div (by omega), Nat.div_eq_of_lt hx, Nat.add_zero], by rw [Nat.mul_comm, Nat.mul_add_mod, Nat.mod_eq_of_lt hx]⟩
theorem hOne_succ {C w : Nat} {L : List Cell} {y x : Nat} (hx : x < w) : hOne C w L y x ++ [L.getD (y * C + x) default] = hOne C w L y (x + 1) := by
  unfold hOne
  rw [← Nat.add_assoc, List.range_succ, List.map_append]
  unfold h1Cell
  simp only [List.map_cons, List.map_nil, (divmod_at hx).1, (divmod_at hx).2]
theorem hTwo_succ {C R w : Nat} {b : Bool} {L : List Cell} {y x : Nat} (hx : x < w) : hTwo C R w b L y x ++ [ovCell b (L.getD (oppN C R (y * C + x) b) default)] = hTwo C R w b L y (x + 1) := by
  unfold hTwo
  rw [← Nat.add_assoc, List.range_succ, List.map_append]
  unfold h2Cell
  simp only [List.map_cons, List.map_nil, (divmod_at hx).1, (divmod_at hx).2]
def cellPB (x : Cell) : Bool := pageB 4000 ⟨x.f, x.ft⟩ && pageB 4000 ⟨x.b, x.bt⟩
def hvErr (C R : Int) (L : List Cell) (b : Bool) : Int :=
  if cellsErr C R L.length ≠ 0 then cellsErr C R L.length else if L.all cellPB = true then (if evenB C.toNat R.toNat b = true then 0 else 25) else 2
def hvD (C R : Int) (L : List Cell) (b : Bool) : Int × Int := if hvErr C R L b = 0 then ((halfC C.toNat b : Nat), (halfR R.toNat b : Nat)) else (0, 0)
def hv1 (C R : Int) (L : List Cell) (b : Bool) : List Cell := if hvErr C R L b = 0 then hOne C.toNat (halfC C.toNat b) L (halfR R.toNat b) 0 else []
def hv2 (C R : Int) (L : List Cell) (b : Bool) : List Cell := if hvErr C R L b = 0 then hTwo C.toNat R.toNat (halfC C.toNat b) b L (halfR R.toNat b) 0 else []
theorem cellPB_bits {x : Cell} (h : cellPB x = true) : Bit x.ft ∧ Bit x.bt := by
  unfold cellPB pageB at h
  simp only [Bool.and_eq_true] at h
  have h1 := inB_iff.1 h.1.2; have h2 := inB_iff.1 h.2.2
  unfold Bit; omega
/-- A sheet turned over, from left to right. -/
def ovTo (C R : Nat) (L : List Cell) (j : Nat) : List Cell := (List.range L.length).map fun i => if i < j then ovCell false (L.getD (oppN C R i false) default) else L.getD i default
theorem ovTo_len (C R : Nat) (L : List Cell) (j : Nat) : (ovTo C R L j).length = L.length := by simp [ovTo]
theorem ovTo_get (C R : Nat) (L : List Cell) (j : Nat) {i : Nat} (h : i < (ovTo C R L j).length) : (ovTo C R L j)[i] = if i < j then ovCell false (L.getD (oppN C R i false) default) else L.getD i default := by simp [ovTo]
theorem ovTo_zero (C R : Nat) (L : List Cell) : ovTo C R L 0 = L := by
  apply List.ext_getElem
  · exact ovTo_len C R L 0
  · intro i h1 h2
    rw [ovTo_get, if_neg (by omega), getD_in default h2]
theorem ovTo_set {C R : Nat} {L : List Cell} {j : Nat} : (ovTo C R L j).set j (ovCell false (L.getD (oppN C R j false) default)) = ovTo C R L (j + 1) := by
  apply List.ext_getElem
  · rw [List.length_set, ovTo_len, ovTo_len]
  · intro i h1 h2
    rw [ovTo_len] at h2
    rw [List.getElem_set, ovTo_get, ovTo_get]
    by_cases e : j = i
    · subst e; rw [if_pos rfl, if_pos (by omega)]
    · rw [if_neg e]
      by_cases h3 : i < j
      · rw [if_pos h3, if_pos (by omega)]
      · rw [if_neg h3, if_neg (by omega)]
theorem ovTo_at {C R : Nat} {L : List Cell} {i : Nat} (hi : i < L.length) : (ovTo C R L L.length).getD i default = ovCell false (L.getD (oppN C R i false) default) := by
  rw [getD_in default (by rw [ovTo_len]; exact hi), ovTo_get, if_pos hi]
theorem opp_back2 {C R k : Nat} (hC : 1 ≤ C) : oppN C R (oppN C R k false) false = k := by
  have h1 : k % C < C := Nat.mod_lt _ hC
  have h2 := (opp_at (C := C) (R := R) (y := k / C) (x := k % C) h1).1
  have h3 := (opp_at (C := C) (R := R) (y := k / C) (x := C - 1 - k % C) (by omega)).1
  have h4 : k / C * C + k % C = k := by rw [Nat.mul_comm]; exact Nat.div_add_mod k C
  rw [h4] at h2
  rw [h2, h3, show C - 1 - (C - 1 - k % C) = k % C by omega, h4]
theorem ov_ov {x : Cell} (h1 : Bit x.ft) (h2 : Bit x.bt) : ovCell false (ovCell false x) = x := by
  obtain ⟨f, ft, b, bt⟩ := x
  have e1 : xr ft (roundB false) = ft := xr_zero h1
  have e2 : xr bt (roundB false) = bt := xr_zero h2
  unfold ovCell
  simp only [e1, e2]
theorem mem_getD {α : Type} {d : α} {L : List α} {i : Nat} (hi : i < L.length) : L.getD i d ∈ L := by rw [getD_in d hi]; exact List.getElem_mem hi
/-- The halves of the sheet turned over are those of the sheet, the other way round. -/
theorem half_over {C R w y : Nat} {L : List Cell} (hC : 1 ≤ C) (hw : w ≤ C) (hy : y ≤ R) (hlen : L.length = C * R) (hb : L.all cellPB = true) :
    hOne C w (ovTo C R L L.length) y 0 = hTwo C R w false L y 0 ∧ hTwo C R w false (ovTo C R L L.length) y 0 = hOne C w L y 0 := by
  have key : ∀ p, p < y * w → p / w * C + p % w < L.length := by
    intro p hp
    have hw0 : 0 < w := by
      rcases Nat.eq_zero_or_pos w with e | e
      · subst e; omega
      · exact e
    have h1 : p % w < w := Nat.mod_lt _ hw0
    have h2 : p / w < y := Nat.div_lt_of_lt_mul (by rw [Nat.mul_comm]; exact hp)
    rw [hlen]
    exact mul_lt (show p / w < R by omega) (by omega)
  constructor
  · unfold hOne hTwo
    apply List.map_congr_left
    intro p hp
    rw [List.mem_range, Nat.add_zero] at hp
    unfold h1Cell h2Cell
    rw [ovTo_at (key p hp)]
  · unfold hOne hTwo
    apply List.map_congr_left
    intro p hp
    rw [List.mem_range, Nat.add_zero] at hp
    unfold h1Cell h2Cell
    have hk := key p hp
    have ho : oppN C R (p / w * C + p % w) false < L.length := by rw [hlen] at hk ⊢; exact oppN_lt false hC hk
    rw [ovTo_at ho, opp_back2 hC]
    have hx := cellPB_bits (List.all_eq_true.1 hb _ (mem_getD (d := default) hk))
    exact ov_ov hx.1 hx.2
theorem ov_right {C R : Nat} {L : List Cell} (hC : 1 ≤ C) (hlen : L.length = C * R) (hb : L.all cellPB = true) : (ovTo C R L L.length).all cellPB = true := by
  rw [List.all_eq_true]
  intro x hx
  obtain ⟨i, hi, rfl⟩ := List.getElem_of_mem hx
  rw [ovTo_len] at hi
  have e := ovTo_at (C := C) (R := R) hi
  rw [getD_in default (by rw [ovTo_len]; exact hi)] at e
  rw [e]
  have ho : oppN C R i false < L.length := by rw [hlen] at hi ⊢; exact oppN_lt false hC hi
  have h0 := List.all_eq_true.1 hb _ (mem_getD (d := default) ho)
  have h1 := cellPB_bits h0
  unfold cellPB at h0 ⊢
  unfold ovCell
  have e1 : xr (L.getD (oppN C R i false) default).ft (roundB false) = (L.getD (oppN C R i false) default).ft := xr_zero h1.1
  have e2 : xr (L.getD (oppN C R i false) default).bt (roundB false) = (L.getD (oppN C R i false) default).bt := xr_zero h1.2
  simp only [e1, e2]
  rw [Bool.and_comm]; exact h0
/-- What Halves returns. -/
def HalvesPost (w : World) (q : Int) (D : Int × Int) (H1 H2 : List Cell) (e : Ending) (w' : World) : Prop :=
  ∃ (a1 : Option Addr) (n1 c1 : Nat) (a2 : Option Addr) (n2 c2 : Nat), e = .returned (.tuple #[.agg #[.int .i64 D.1, .int .i64 D.2, .slice a1 n1 c1, .int .i64 D.1, .int .i64 D.2, .slice a2 n2 c2], .int .i64 q]) ∧ n1 = H1.length ∧ n2 = H2.length ∧ RowsAt 4 Cell.l w' a1 H1 ∧ RowsAt 4 Cell.l w' a2 H2 ∧ (a1 = none → c1 = 0) ∧ (a2 = none → c2 = 0) ∧ Below w.heap.size w w'
end Go.Proofs.YtgoandhlcekmiaaGreatDoor

namespace Go.Proofs.YtgoandhlcekmiaaGreatDoor
open Go.RowKit

structure HvEnv (w : World) (C R hc hr : Nat) (a : Option Addr) (L : List Cell) (c g6 g : Nat) (v1 : Value) (M1 : List Cell) (v2 : Value) (M2 : List Cell) (wr : World) : Prop where
  bs : BoxAt wr w.heap.size #[.int .i64 C, .int .i64 R, .slice a L.length c] 29
  br : BoxAt wr (w.heap.size + 1) #[.int .i64 0, .int .i64 0, .slice none 0 0, .int .i64 0, .int .i64 0, .slice none 0 0] 49
  bz : BoxAt wr g6 #[.int .i64 C, .int .i64 R] 73
  bh : BoxAt wr g #[.int .i64 hc, .int .i64 hr] 73
  b1 : BoxAt wr (g + 1) #[.int .i64 hc, .int .i64 hr, v1] 29
  b2 : BoxAt wr (g + 1 + 1) #[.int .i64 hc, .int .i64 hr, v2] 29
  o1 : OwnR 4 57 Cell.l wr (g + 1 + 1 + 1) v1 M1
  o2 : OwnR 4 57 Cell.l wr (g + 1 + 1 + 1) v2 M2
  ap : ∀ q, v1.ownBlock = some q → v2.ownBlock ≠ some q
  low : Below w.heap.size w wr
section
variable {w wr wm wg : World} {C R hc hr : Nat} {a : Option Addr} {L : List Cell} {c g6 g : Nat} {v1 v2 v' : Value} {M1 M2 M' : List Cell}
theorem HvEnv.below (E : HvEnv w C R hc hr a L c g6 g v1 M1 v2 M2 wr) (hb : Below wr.heap.size wr wm) : HvEnv w C R hc hr a L c g6 g v1 M1 v2 M2 wm :=
  ⟨E.bs.below hb, E.br.below hb, E.bz.below hb, E.bh.below hb, E.b1.below hb, E.b2.below hb, E.o1.below hb, E.o2.below hb, E.ap, E.low.trans (hb.mono E.low.size)⟩
theorem HvEnv.app1 (E : HvEnv w C R hc hr a L c g6 g v1 M1 v2 M2 wm) (h1 : w.heap.size + 1 < g6) (h2 : g6 < g) (hO : OwnR 4 57 Cell.l wg (g + 1 + 1 + 1) v' M') (hg : wm.grownBy wg v1.ownBlock) (hb : Below (g + 1 + 1 + 1) wm wg)
    (hor : v'.ownBlock = v1.ownBlock ∨ v'.ownBlock = some wm.heap.size) : HvEnv w C R hc hr a L c g6 g v' M' v2 M2 (wg.setCell ⟨g + 1, 2, none⟩ v') := by
  have hne : ∀ q, q < g + 1 + 1 + 1 → some q ≠ v1.ownBlock := fun q hq e => by have := (E.o1.lt q e.symm).1; omega
  have hap : ∀ q, v'.ownBlock = some q → v2.ownBlock ≠ some q := fun q e e2 => by
    rcases hor with h | h
    · exact E.ap q (h.symm.trans e) e2
    · rw [h] at e; have := Option.some.inj e; have := (E.o2.lt q e2).2; omega
  refine ⟨?_, ?_, ?_, ?_, ?_, ?_, ?_, ?_, hap, ?_⟩
  · exact (E.bs.grown hg (hne _ (by omega))).set_other (p := ⟨g + 1, 2, none⟩) (by show w.heap.size ≠ g + 1; omega) _
  · exact (E.br.grown hg (hne _ (by omega))).set_other (p := ⟨g + 1, 2, none⟩) (by show w.heap.size + 1 ≠ g + 1; omega) _
  · exact (E.bz.grown hg (hne _ (by omega))).set_other (p := ⟨g + 1, 2, none⟩) (by show g6 ≠ g + 1; omega) _
  · exact (E.bh.grown hg (hne _ (by omega))).set_other (p := ⟨g + 1, 2, none⟩) (by show g ≠ g + 1; omega) _
  · exact (E.b1.grown hg (hne _ (by omega))).set 2 v'
  · exact (E.b2.grown hg (hne _ (by omega))).set_other (p := ⟨g + 1, 2, none⟩) (by show g + 1 + 1 ≠ g + 1; omega) _
  · exact hO.set (p := ⟨g + 1, 2, none⟩) (fun e => by have := (hO.lt _ e).1; simp at this; omega) _
  · exact (E.o2.grown hg (fun q e e2 => E.ap q e2.symm e)).set (p := ⟨g + 1, 2, none⟩) (fun e => by have := (E.o2.lt _ e).1; simp at this; omega) _
  · exact (E.low.trans (hb.mono (by omega))).setCell (p := ⟨g + 1, 2, none⟩) (by show w.heap.size ≤ g + 1; omega) _
theorem HvEnv.app2 (E : HvEnv w C R hc hr a L c g6 g v1 M1 v2 M2 wm) (h1 : w.heap.size + 1 < g6) (h2 : g6 < g) (hO : OwnR 4 57 Cell.l wg (g + 1 + 1 + 1) v' M') (hg : wm.grownBy wg v2.ownBlock) (hb : Below (g + 1 + 1 + 1) wm wg)
    (hor : v'.ownBlock = v2.ownBlock ∨ v'.ownBlock = some wm.heap.size) : HvEnv w C R hc hr a L c g6 g v1 M1 v' M' (wg.setCell ⟨g + 1 + 1, 2, none⟩ v') := by
  have hne : ∀ q, q < g + 1 + 1 + 1 → some q ≠ v2.ownBlock := fun q hq e => by have := (E.o2.lt q e.symm).1; omega
  have hap : ∀ q, v1.ownBlock = some q → v'.ownBlock ≠ some q := fun q e e2 => by
    rcases hor with h | h
    · exact E.ap q e (h.symm.trans e2)
    · rw [h] at e2; have := Option.some.inj e2; have := (E.o1.lt q e).2; omega
  refine ⟨?_, ?_, ?_, ?_, ?_, ?_, ?_, ?_, hap, ?_⟩
  · exact (E.bs.grown hg (hne _ (by omega))).set_other (p := ⟨g + 1 + 1, 2, none⟩) (by show w.heap.size ≠ g + 1 + 1; omega) _
  · exact (E.br.grown hg (hne _ (by omega))).set_other (p := ⟨g + 1 + 1, 2, none⟩) (by show w.heap.size + 1 ≠ g + 1 + 1; omega) _
  · exact (E.bz.grown hg (hne _ (by omega))).set_other (p := ⟨g + 1 + 1, 2, none⟩) (by show g6 ≠ g + 1 + 1; omega) _
  · exact (E.bh.grown hg (hne _ (by omega))).set_other (p := ⟨g + 1 + 1, 2, none⟩) (by show g ≠ g + 1 + 1; omega) _
  · exact (E.b1.grown hg (hne _ (by omega))).set_other (p := ⟨g + 1 + 1, 2, none⟩) (by show g + 1 ≠ g + 1 + 1; omega) _
  · exact (E.b2.grown hg (hne _ (by omega))).set 2 v'
  · exact (E.o1.grown hg (fun q e e2 => E.ap q e e2.symm)).set (p := ⟨g + 1 + 1, 2, none⟩) (fun e => by have := (E.o1.lt _ e).1; simp at this; omega) _
  · exact hO.set (p := ⟨g + 1 + 1, 2, none⟩) (fun e => by have := (hO.lt _ e).1; simp at this; omega) _
  · exact (E.low.trans (hb.mono (by omega))).setCell (p := ⟨g + 1 + 1, 2, none⟩) (by show w.heap.size ≤ g + 1 + 1; omega) _
end
/-- The result's six cells are set. -/
def set6 (v : World) (b : Nat) (x0 x1 x2 x3 x4 x5 : Value) : World := (((((v.setCell ⟨b, 0, none⟩ x0).setCell ⟨b, 1, none⟩ x1).setCell ⟨b, 2, none⟩ x2).setCell ⟨b, 3, none⟩ x3).setCell ⟨b, 4, none⟩ x4).setCell ⟨b, 5, none⟩ x5
theorem below_set6 {w v : World} (hB : Below w.heap.size w v) {b : Nat} (hb : w.heap.size ≤ b) (x0 x1 x2 x3 x4 x5 : Value) : Below w.heap.size w (set6 v b x0 x1 x2 x3 x4 x5) :=
  (((((hB.setCell (p := ⟨b, 0, none⟩) hb _).setCell (p := ⟨b, 1, none⟩) hb _).setCell (p := ⟨b, 2, none⟩) hb _).setCell (p := ⟨b, 3, none⟩) hb _).setCell (p := ⟨b, 4, none⟩) hb _).setCell (p := ⟨b, 5, none⟩) hb _
theorem rows_set6 {v : World} {a : Option Addr} {M : List Cell} (h : RowsAt 4 Cell.l v a M) {b : Nat} (hb : ∀ ad, a = some ad → ad.block ≠ b) (x0 x1 x2 x3 x4 x5 : Value) : RowsAt 4 Cell.l (set6 v b x0 x1 x2 x3 x4 x5) a M :=
  (((((h.set (p := ⟨b, 0, none⟩) hb _).set (p := ⟨b, 1, none⟩) hb _).set (p := ⟨b, 2, none⟩) hb _).set (p := ⟨b, 3, none⟩) hb _).set (p := ⟨b, 4, none⟩) hb _).set (p := ⟨b, 5, none⟩) hb _
theorem hv_fail {w v : World} (hB : Below w.heap.size w v) {q : Int} {D : Int × Int} {H1 H2 : List Cell} (hD : D = (0, 0)) (h1 : H1 = []) (h2 : H2 = []) :
    HalvesPost w q D H1 H2 (.returned (.tuple #[.agg #[.int .i64 0, .int .i64 0, .slice none 0 0, .int .i64 0, .int .i64 0, .slice none 0 0], .int .i64 q])) v := by
  subst hD h1 h2
  exact ⟨none, 0, 0, none, 0, 0, rfl, rfl, rfl, RowsAt.nil _ _, RowsAt.nil _ _, fun _ => rfl, fun _ => rfl, hB⟩
theorem hv_end {w v : World} {C R hc hr : Nat} {a : Option Addr} {L : List Cell} {c g6 g : Nat} {a1 a2 : Option Addr} {n1 n2 c1 c2 : Nat} {M1 M2 : List Cell} (E : HvEnv w C R hc hr a L c g6 g (.slice a1 n1 c1) M1 (.slice a2 n2 c2) M2 v) (h1 : w.heap.size + 1 < g6) (h2 : g6 < g)
    (e1 : n1 = M1.length) (e2 : n2 = M2.length) (x0 x1 x2 x3 x4 x5 : Value) :
    HalvesPost w 0 ((hc : Int), (hr : Int)) M1 M2 (.returned (.tuple #[.agg #[.int .i64 hc, .int .i64 hr, .slice a1 n1 c1, .int .i64 hc, .int .i64 hr, .slice a2 n2 c2], .int .i64 0])) (set6 v (w.heap.size + 1) x0 x1 x2 x3 x4 x5) := by
  obtain ⟨b1, d1, f1, r1, -, -, k1, g1⟩ := E.o1.rows cell_l
  obtain ⟨b2, d2, f2, r2, -, -, k2, g2⟩ := E.o2.rows cell_l
  injection f1 with f1 f1' f1''; injection f2 with f2 f2' f2''
  subst f1 f1'' f2 f2''
  exact ⟨a1, n1, c1, a2, n2, c2, rfl, e1, e2, rows_set6 r1 (fun ad e => by have := g1 ad e; omega) _ _ _ _ _ _, rows_set6 r2 (fun ad e => by have := g2 ad e; omega) _ _ _ _ _ _, k1, k2, below_set6 E.low (by omega) _ _ _ _ _ _⟩
end Go.Proofs.YtgoandhlcekmiaaGreatDoor
