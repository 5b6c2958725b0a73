/-
  Package impose, ahead of all: rows of structs of numbers in memory (read, owned, made, appended to); what stays as it was.
-/
import Derived.Test.YtdgegebplebeoaaGreatDoorProg
import Derived.WalkKit
import Derived.WalkSpells
import Derived.WalkLawsBesides
import Derived.BigQuiet
import Derived.Deep.QuietTactic
import Derived.Lib.Hide
import Derived.Laws.Rows
import Derived.Deep.OwnRows
import Derived.RegionTactic
import Derived.BigRegion
import Derived.Deep.RegionHeld3
import Derived.Deep.RegionLaw
import Derived.Deep.AppendLies
import Derived.Laws.AppendOwnNone
import Derived.StillTailTactics
namespace Go.Proofs.YtdgegebplebeoaaGreatDoor
open Go.RowKit

theorem ret_bool {a b : Bool} (h : a = b) : Ending.returned (.bool a) = .returned (.bool b) := by rw [h]
theorem ret_int {k : IntKind} {a b : Int} (h : a = b) : Ending.returned (.int k a) = .returned (.int k b) := by rw [h]
theorem bcell {W w1 : World} {B : Nat} (hb : Below B W w1) : (∀ b o, b < B → w1.cell? ⟨b, o, none⟩ = W.cell? ⟨b, o, none⟩) ∧ (∀ b o, b < B → w1.frozen? ⟨b, o, none⟩ = W.frozen? ⟨b, o, none⟩) :=
  ⟨fun b o h => hb.cell (p := ⟨b, o, none⟩) h, fun b o h => hb.frozen (p := ⟨b, o, none⟩) h⟩
theorem add_block (a : Addr) (n : Nat) : (a.add n).block = a.block := by unfold Addr.add; split <;> rfl
theorem add0 (g k : Nat) : (⟨g, 0, none⟩ : Addr).add k = ⟨g, k, none⟩ := by
  unfold Addr.add; split
  · rename_i h0; rw [h0]
  · simp
def inB (n lo hi : Int) : Bool := decide (lo ≤ n ∧ n ≤ hi)
theorem inB_iff {n lo hi : Int} : inB n lo hi = true ↔ lo ≤ n ∧ n ≤ hi := by unfold inB; simp
theorem inB_no {n lo hi : Int} (h : ¬ (lo ≤ n ∧ n ≤ hi)) : inB n lo hi = false := by unfold inB; exact decide_eq_false h
theorem inB_yes {n lo hi : Int} (h : lo ≤ n ∧ n ≤ hi) : inB n lo hi = true := by unfold inB; exact decide_eq_true h

/-- The world wr is w0 behind some draws. -/
def Drew (w0 wr : World) : Prop := ∃ n, wr = w0.drewN n
theorem Drew.refl (w : World) : Drew w w := ⟨0, rfl⟩
theorem Drew.drew {w0 wr : World} (h : Drew w0 wr) : Drew w0 wr.drew := by obtain ⟨n, rfl⟩ := h; exact ⟨n + 1, rfl⟩
theorem Drew.drewN {w0 wr : World} (h : Drew w0 wr) (m : Nat) : Drew w0 (wr.drewN m) := by obtain ⟨n, rfl⟩ := h; exact ⟨n + m, by rw [World.drewN_drewN]⟩
theorem Drew.cell {w0 wr : World} (h : Drew w0 wr) {p : Addr} {v : Value} (hi : w0.cell? p = some v) : wr.cell? p = some v := by obtain ⟨n, rfl⟩ := h; exact hi
theorem Drew.size {w0 wr : World} (h : Drew w0 wr) : wr.heap.size = w0.heap.size := by obtain ⟨n, rfl⟩ := h; rfl
theorem below_drewN {B : Nat} {a w : World} (h : Below B a w) (n : Nat) : Below B a (w.drewN n) := ⟨h.os, h.tape, h.output, h.size, h.block⟩
theorem Drew.below {w0 wr : World} (h : Drew w0 wr) {B : Nat} {a : World} (hb : Below B a w0) : Below B a wr := by obtain ⟨n, rfl⟩ := h; exact below_drewN hb n

/-- The j-th number of a struct at p. -/
def fld (p : Addr) : Nat → Addr
  | 0 => p
  | j + 1 => ⟨p.block, p.off + (j + 1), none⟩
theorem fld_block (p : Addr) (j : Nat) : (fld p j).block = p.block := by cases j <;> rfl
theorem fld_own (g k j : Nat) : fld ⟨g, k, none⟩ j = ⟨g, k + j, none⟩ := by cases j <;> rfl
/-- A slice of structs of n numbers each: where it lies, what it reads. -/
def RowsAt {α : Type} (n : Nat) (g : α → List Int) (w : World) (a : Option Addr) (L : List α) : Prop :=
  ∀ k (hk : k < L.length), ∃ ad, a = some ad ∧ ad.block < w.heap.size ∧ ∀ j, j < n → w.cell? (fld (ad.add (k * n)) j) = some (.int .i64 ((g L[k]).getD j 0))
section
variable {α : Type} {n : Nat} {g : α → List Int} {w w' : World} {a : Option Addr} {L : List α}
theorem RowsAt.below (h : RowsAt n g w a L) (hb : Below w.heap.size w w') : RowsAt n g w' a L := fun k hk => by
  obtain ⟨ad, e, hlt, hs⟩ := h k hk
  exact ⟨ad, e, Nat.lt_of_lt_of_le hlt hb.size, fun j hj => (hb.cell (by rw [fld_block, add_block]; exact hlt)).trans (hs j hj)⟩
theorem RowsAt.alloc (h : RowsAt n g w a L) (o : Obj) : RowsAt n g (w.alloc o) a L := h.below ((Below.refl _ _).alloc (Nat.le_refl _) o)
theorem RowsAt.drew (h : RowsAt n g w a L) : RowsAt n g w.drew a L := h
theorem RowsAt.drewN (h : RowsAt n g w a L) (m : Nat) : RowsAt n g (w.drewN m) a L := h
theorem Drew.rows {w0 wr : World} (h : Drew w0 wr) (hi : RowsAt n g w0 a L) : RowsAt n g wr a L := by obtain ⟨n, rfl⟩ := h; exact hi
theorem RowsAt.set (h : RowsAt n g w a L) {p : Addr} (hp : ∀ ad, a = some ad → ad.block ≠ p.block) (u : Value) : RowsAt n g (w.setCell p u) a L := fun k hk => by
  obtain ⟨ad, e, hlt, hs⟩ := h k hk
  refine ⟨ad, e, by rw [World.size_setCell]; exact hlt, fun j hj => ?_⟩
  rw [World.cell?_setCell_other _ _ _ _ (fun e2 => hp ad e (by have := congrArg Addr.block e2; rw [fld_block, add_block] at this; exact this.symm))]
  exact hs j hj
theorem RowsAt.nil (w : World) (a : Option Addr) : RowsAt n g w a [] := fun _ hk => absurd hk (Nat.not_lt_zero _)
theorem RowsAt.drop_none (h : RowsAt n g w none L) : L = [] := by
  cases L with
  | nil => rfl
  | cons x r => obtain ⟨ad, e, _⟩ := h 0 (Nat.succ_pos _); cases e
end

def vals (l : List Int) : List Value := l.map (Value.int .i64)
theorem vals_app (l m : List Int) : vals (l ++ m) = vals l ++ vals m := by unfold vals; rw [List.map_append]
theorem vals_at {l : List Int} {k : Nat} (h : k < l.length) : (vals l)[k]? = some (.int .i64 l[k]) := by
  unfold vals; rw [List.getElem?_map, List.getElem?_eq_getElem h]; rfl
theorem vals_one (l : List Int) : ∀ u ∈ vals l, u.oneCell' = true := by
  intro u hu
  obtain ⟨x, _, rfl⟩ := List.mem_map.1 hu
  rfl
theorem flat_len {α : Type} {n : Nat} {g : α → List Int} (hg : ∀ x, (g x).length = n) : ∀ L : List α, (L.flatMap g).length = L.length * n
  | [] => by simp
  | x :: L => by rw [List.flatMap_cons, List.length_append, hg x, flat_len hg L, List.length_cons, Nat.succ_mul]; omega
theorem flat_at {α : Type} {n : Nat} {g : α → List Int} (hg : ∀ x, (g x).length = n) : ∀ (L : List α) (k j : Nat) (hk : k < L.length), j < n → (L.flatMap g)[k * n + j]? = some ((g L[k]).getD j 0)
  | [], _, _, hk, _ => absurd hk (Nat.not_lt_zero _)
  | x :: L, 0, j, _, hj => by
    rw [List.flatMap_cons, Nat.zero_mul, Nat.zero_add, List.getElem?_append_left (by rw [hg x]; exact hj), List.getD_eq_getElem?_getD, List.getElem?_eq_getElem (by rw [hg x]; exact hj)]
    simp [List.getElem?_eq_getElem (show j < (g x).length by rw [hg x]; exact hj)]
  | x :: L, k + 1, j, hk, hj => by
    rw [List.flatMap_cons, List.getElem?_append_right (by rw [hg x, Nat.succ_mul]; omega), hg x, show (k + 1) * n + j - n = k * n + j by rw [Nat.succ_mul]; omega]
    exact flat_at hg L k j (by simpa using hk) hj

/-- A slice of structs of the call's own, from block B on. -/
def OwnR {α : Type} (n : Nat) (E : TypeId) (g : α → List Int) (w : World) (B : Nat) (v : Value) (L : List α) : Prop := w.ownsRow B E n v L.length (vals (L.flatMap g))
/-- How a slice of structs reads. -/
def RView {α : Type} (n : Nat) (g : α → List Int) (w : World) (B : Nat) (v : Value) (L : List α) : Prop :=
  ∃ (a : Option Addr) (c : Nat), v = .slice a L.length c ∧ RowsAt n g w a L ∧ L.length ≤ c ∧ c ≤ maxLen ∧ (a = none → c = 0) ∧ ∀ ad, a = some ad → B ≤ ad.block
section
variable {α : Type} {n : Nat} {E : TypeId} {g : α → List Int} {w w' : World} {B B' : Nat} {v : Value} {L : List α}
theorem OwnR.nil (w : World) (B : Nat) : OwnR n E g w B (.slice none 0 0) [] := World.ownsRow_nil _ _ _ _
theorem OwnR.rows (h : OwnR n E g w B v L) (hg : ∀ x, (g x).length = n) : RView n g w B v L := by
  have h' : w.ownsRow B E n v L.length (vals (L.flatMap g)) := h
  rcases h'.2 with ⟨e1, e2⟩ | ⟨gg, cap, cur, e1, hB, hh, hc, hm, _⟩
  · exact ⟨none, 0, by rw [e1, e2], fun k hk => by omega, by omega, Nat.zero_le _, fun _ => rfl, fun _ e => (by cases e)⟩
  · subst e1
    refine ⟨_, cap, rfl, fun k hk => ⟨_, rfl, (h'.lt gg rfl).2, fun j hj => ?_⟩, hc, hm, fun e => (by cases e), fun ad e => (by cases e; exact hB)⟩
    rw [add0, fld_own]
    have e1 := h'.cells (g := gg) rfl (k * n + j) (.int .i64 ((g L[k]).getD j 0)) (by
      unfold vals; rw [List.getElem?_map, flat_at hg L k j hk hj]; rfl)
    rw [add0] at e1; exact e1
theorem OwnR.lt (h : OwnR n E g w B v L) : ∀ k, v.ownBlock = some k → B ≤ k ∧ k < w.heap.size := World.ownsRow.lt h
theorem OwnR.below (h : OwnR n E g w B v L) (hb : Below w.heap.size w w') : OwnR n E g w' B v L := by
  rcases h.2 with ⟨e1, e2⟩ | ⟨gg, cap, cur, e1, e2, e3, e4⟩
  · exact ⟨h.1, Or.inl ⟨e1, e2⟩⟩
  · exact ⟨h.1, Or.inr ⟨gg, cap, cur, e1, e2, (hb.block gg ((h.lt gg (by rw [e1]; rfl)).2)).trans e3, e4⟩⟩
theorem OwnR.mono (h : OwnR n E g w B v L) (hB : B' ≤ B) : OwnR n E g w B' v L := by
  rcases h.2 with ⟨e1, e2⟩ | ⟨gg, cap, cur, e1, e2, e3, e4⟩
  · exact ⟨h.1, Or.inl ⟨e1, e2⟩⟩
  · exact ⟨h.1, Or.inr ⟨gg, cap, cur, e1, Nat.le_trans hB e2, e3, e4⟩⟩
theorem OwnR.drew (h : OwnR n E g w B v L) : OwnR n E g w.drew B v L := h
theorem OwnR.drewN (h : OwnR n E g w B v L) (m : Nat) : OwnR n E g (w.drewN m) B v L := h
theorem OwnR.alloc (h : OwnR n E g w B v L) (o : Obj) : OwnR n E g (w.alloc o) B v L := h.below ((Below.refl _ _).alloc (Nat.le_refl _) o)
/-- A store elsewhere. -/
theorem OwnR.set (h : OwnR n E g w B v L) {p : Addr} (hp : v.ownBlock ≠ some p.block) (u : Value) : OwnR n E g (w.setCell p u) B v L := by
  rcases h.2 with ⟨e1, e2⟩ | ⟨gg, cap, cur, e1, e2, e3, e4⟩
  · exact ⟨h.1, Or.inl ⟨e1, e2⟩⟩
  · exact ⟨h.1, Or.inr ⟨gg, cap, cur, e1, e2, (Below.heap_setCell _ _ _ _ (fun e => hp (by rw [e1]; show some gg = _; rw [e]))).trans e3, e4⟩⟩
theorem OwnR.grown (h : OwnR n E g w B v L) {row : Option Nat} (hg : w.grownBy w' row) (hne : ∀ q, v.ownBlock = some q → some q ≠ row) : OwnR n E g w' B v L := by
  rcases h.2 with ⟨e1, e2⟩ | ⟨gg, cap, cur, e1, e2, e3, e4⟩
  · exact ⟨h.1, Or.inl ⟨e1, e2⟩⟩
  · exact ⟨h.1, Or.inr ⟨gg, cap, cur, e1, e2, (hg.block gg ((h.lt gg (by rw [e1]; rfl)).2) (hne gg (by rw [e1]; rfl))).trans e3, e4⟩⟩
end
/-- What is known of an element type and its slice type. -/
structure ElT (n by_ : Nat) (ST E : TypeId) (z : Value) : Prop where
  sl : Tryz.prog.underlying ST = some (.slice E)
  info : (Tryz.prog.info? E).map (fun i => (i.zero, i.size, i.bytes)) = some (some z, n, by_)
  zs : z.cells.size = n
  pos : 0 < n
  by64 : by_ ≤ 64
section
variable {α : Type} {n by_ : Nat} {ST E : TypeId} {z : Value} {g : α → List Int}
/-- 'l = append(l, x)' at a slice of the call's own. -/
theorem wpList_appX (T : ElT n by_ ST E z) (hg : ∀ x, (g x).length = n) {ops : Array Oper} {rest : List Oper} {o : Oper} {a : Act} {Q : Exit → Act → World → Prop} (w0 : World) (x : α) (cs : Array Value) (hcs : cs = (vals (g x)).toArray) (hgd : o.guard = none) (s xo : Operand)
    (ho : o.op = .call { callee := .builtin .append, args := #[s, xo], argTypes := #[ST, ST] }) (B : Nat) (v : Value) (L : List α) (hs : a.eval s = v) (hown : OwnR n E g w0 B v L)
    (hx : a.eval xo = .slice (some ⟨w0.heap.size, 0, none⟩) 1 1) (hl : L.length ≤ 1000000) (hB : B ≤ w0.heap.size)
    (h : ∀ gg c w', OwnR n E g w' B (.slice (some ⟨gg, 0, none⟩) (L.length + 1) c) (L ++ [x]) → w0.grownBy w' v.ownBlock → Below B w0 w' → wpList Tryz.prog ops Q rest (a.put o.dst (.slice (some ⟨gg, 0, none⟩) (L.length + 1) c)) w') :
    wpList Tryz.prog ops Q (o :: rest) a (w0.alloc (.cells cs E)) := by
  obtain ⟨i0, hi0, hz0, hz1, hz2⟩ := info_parts T.info
  subst hcs
  have hbl := T.by64
  refine wpList_append_lies _ hgd s xo ST ho B E i0 z n by_ T.sl hi0 hz0 hz1 hz2 T.zs T.pos v L.length (vals (L.flatMap g)) hs (World.ownsRow.alloc hown _) ⟨w0.heap.size, 0, none⟩ 1 1 (vals (g x)) hx (by simp [vals, hg x])
    (by simpa using World.news_of_block (cs := (vals (g x)).toArray) (t := E) (fr := (0, 0)) (heap_alloc_new w0 _)) (vals_one _) (by omega) (by unfold maxLen; omega) (Nat.le_trans (Nat.mul_le_mul_left _ hbl) (by omega)) (by simp; omega) (w0.heap.size + 1) (by simp) ?_
  intro gg cap w' hown' hgrow' _ _
  rw [show vals (L.flatMap g) ++ vals (g x) = vals ((L ++ [x]).flatMap g) by rw [← vals_app]; simp] at hown'
  refine h gg cap w' (by unfold OwnR; rw [List.length_append]; exact hown') ((World.grownBy_alloc w0 _ _).trans hgrow') (((Below.refl B w0).alloc hB _).grown hgrow' (by simp; omega) (fun k hk => (hown.lt k hk).1))
/-- 'append(l, m...)' at a slice of the call's own. -/
theorem wpList_appL (T : ElT n by_ ST E z) (hg : ∀ x, (g x).length = n) {ops : Array Oper} {rest : List Oper} {o : Oper} {a : Act} {Q : Exit → Act → World → Prop} (w : World) (hgd : o.guard = none) (s xo : Operand)
    (ho : o.op = .call { callee := .builtin .append, args := #[s, xo], argTypes := #[ST, ST] }) (B : Nat) (v : Value) (L : List α) (hs : a.eval s = v) (hown : OwnR n E g w B v L)
    (b : Option Addr) (M : List α) (c : Nat) (hx : a.eval xo = .slice b M.length c) (hM : RowsAt n g w b M) (hbc : b = none → c = 0) (hl : L.length ≤ 1000000) (hl2 : M.length ≤ 1000000) (hB : B ≤ w.heap.size)
    (h : ∀ v' w', OwnR n E g w' B v' (L ++ M) → w.grownBy w' v.ownBlock → Below B w w' → (v'.ownBlock = v.ownBlock ∨ v'.ownBlock = some w.heap.size) → wpList Tryz.prog ops Q rest (a.put o.dst v') w') :
    wpList Tryz.prog ops Q (o :: rest) a w := by
  obtain ⟨i0, hi0, hz0, hz1, hz2⟩ := info_parts T.info
  have hbl := T.by64
  cases b with
  | none =>
    have hM0 := hM.drop_none
    subst hM0
    have hc := hbc rfl
    subst hc
    refine wpList_append_own_none hgd s xo ST ho B E i0 n T.sl hi0 v L.length (vals (L.flatMap g)) hs hown hx (h v w (by rw [List.append_nil]; exact hown) ⟨rfl, rfl, rfl, Nat.le_refl _, fun _ _ _ => rfl⟩ (Below.refl _ _) (Or.inl rfl))
  | some ad =>
    refine wpList_plain hgd fun K hK => ?_
    obtain ⟨v', w', hr, h2, h3, h4, h5⟩ := run_append_own_at (P := Tryz.prog) w B ST o.type E i0 z n by_ T.sl hi0 hz0 hz1 hz2 T.zs T.pos v L.length (vals (L.flatMap g)) hown ad M.length c (vals (M.flatMap g))
      (by simp [vals, flat_len hg M]) (fun j u hj => by
        have hjl : j < M.length * n := by
          have := (List.getElem?_eq_some_iff.1 hj).1
          simpa [vals, flat_len hg M] using this
        have hn := T.pos
        have hk : j / n < M.length := Nat.div_lt_of_lt_mul (by rw [Nat.mul_comm]; exact hjl)
        have hjn : j % n < n := Nat.mod_lt _ hn
        have ej : j / n * n + j % n = j := by rw [Nat.mul_comm]; exact Nat.div_add_mod j n
        obtain ⟨ad', e, _, hs⟩ := hM (j / n) hk
        cases e
        have e1 := hs (j % n) hjn
        have e2 := flat_at hg M (j / n) (j % n) hk hjn
        rw [ej] at e2
        unfold vals at hj
        rw [List.getElem?_map, e2] at hj
        have e3 : fld (ad.add (j / n * n)) (j % n) = ad.add j := by
          rcases Nat.eq_zero_or_pos (j % n) with h0 | h0
          · rw [h0]; show ad.add _ = _; rw [← ej, h0, Nat.add_zero, Nat.mul_div_cancel _ hn]
          · obtain ⟨q, hq⟩ : ∃ q, j % n = q + 1 := ⟨j % n - 1, by omega⟩
            rw [hq]
            show (⟨(ad.add (j / n * n)).block, (ad.add (j / n * n)).off + (q + 1), none⟩ : Addr) = ad.add j
            rw [← hq]
            unfold Addr.add
            by_cases hz : j / n * n = 0
            · rw [if_pos hz, if_neg (by omega)]
              have : j % n = j := by omega
              rw [this]
            · rw [if_neg hz, if_neg (by omega)]
              show (⟨ad.block, ad.off + j / n * n + j % n, none⟩ : Addr) = ⟨ad.block, ad.off + j, none⟩
              rw [Nat.add_assoc, ej]
        rw [← e3, e1, ← hj]; rfl) (vals_one _) (by unfold maxLen; omega) (Nat.le_trans (Nat.mul_le_mul_left _ hbl) (by omega)) hB
    unfold Oper.wp execOp
    simp only [ho, resolve, invoke, builtin, Sem.run_bind, Sem.run_pure, Result.andThen_ok, List.map_toArray, List.map_cons, List.map_nil, hs, hx, hr]
    refine hK _ _ (h v' w' ?_ h3 ((Below.refl B w).grown h3 hB (fun k hk => (hown.lt k hk).1)) h5)
    unfold OwnR
    rw [List.flatMap_append, vals_app, List.length_append]
    exact h2
end
end Go.Proofs.YtdgegebplebeoaaGreatDoor
