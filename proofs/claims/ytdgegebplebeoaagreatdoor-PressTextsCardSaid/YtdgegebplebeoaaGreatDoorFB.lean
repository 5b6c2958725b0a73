/-
  Rows of structs of any values in memory, one's own: made, appended to, kept.
-/
import Derived.Test.YtdgegebplebeoaaGreatDoorIA
namespace Go.Proofs.YtdgegebplebeoaaGreatDoor
open Go.RowKit

/-- A slice of structs of the call's own; each has n cells. -/
def OwnG {α : Type} (n : Nat) (E : TypeId) (g : α → List Value) (w : World) (B : Nat) (v : Value) (L : List α) : Prop := w.ownsRow B E n v L.length (L.flatMap g)
/-- A slice of structs, read. -/
def RowsG {α : Type} (n : Nat) (g : α → List Value) (w : World) (a : Option Addr) (L : List α) : Prop :=
  ∀ k (hk : k < L.length), ∃ ad, a = some ad ∧ ad.block < w.heap.size ∧ ∀ j, j < n → w.cell? (fld (ad.add (k * n)) j) = some ((g L[k]).getD j (.int .i64 0))
/-- What is known of an element type and its slice type. -/
structure ElG (n by_ : Nat) (ST E : TypeId) (z : Value) : Prop where
  sl : Tryz.prog.underlying ST = some (.slice E)
  info : (Tryz.prog.info? E).map (fun i => (i.zero, i.size, i.bytes)) = some (some z, n, by_)
  zs : z.cells.size = n
  pos : 0 < n
  by64 : by_ ≤ 64
theorem flatG_len {α : Type} {n : Nat} {g : α → List Value} (hg : ∀ x, (g x).length = n) : ∀ L : List α, (L.flatMap g).length = L.length * n
  | [] => by simp
  | x :: L => by rw [List.flatMap_cons, List.length_append, hg x, flatG_len hg L, List.length_cons, Nat.succ_mul]; omega
theorem flatG_at {α : Type} {n : Nat} {g : α → List Value} (hg : ∀ x, (g x).length = n) : ∀ (L : List α) (k j : Nat) (hk : k < L.length), j < n → (L.flatMap g)[k * n + j]? = some ((g L[k]).getD j (.int .i64 0))
  | [], _, _, hk, _ => absurd hk (Nat.not_lt_zero _)
  | x :: L, 0, j, _, hj => by
    rw [List.flatMap_cons, Nat.zero_mul, Nat.zero_add, List.getElem?_append_left (by rw [hg x]; exact hj), List.getD_eq_getElem?_getD, List.getElem?_eq_getElem (by rw [hg x]; exact hj)]
    simp [List.getElem?_eq_getElem (show j < (g x).length by rw [hg x]; exact hj)]
  | x :: L, k + 1, j, hk, hj => by
    rw [List.flatMap_cons, List.getElem?_append_right (by rw [hg x, Nat.succ_mul]; omega), hg x, show (k + 1) * n + j - n = k * n + j by rw [Nat.succ_mul]; omega]
    exact flatG_at hg L k j (by simpa using hk) hj
theorem flatG_one {α : Type} {g : α → List Value} (ho : ∀ x, ∀ u ∈ g x, u.oneCell' = true) (L : List α) : ∀ u ∈ L.flatMap g, u.oneCell' = true := by
  intro u hu
  obtain ⟨x, _, hx⟩ := List.mem_flatMap.1 hu
  exact ho x u hx
section
variable {α : Type} {n by_ : Nat} {ST E : TypeId} {z : Value} {g : α → List Value} {w w' : World} {B B' : Nat} {v : Value} {L : List α} {a : Option Addr}
theorem RowsG.below (h : RowsG n g w a L) (hb : Below w.heap.size w w') : RowsG n g w' a L := fun k hk => by
  obtain ⟨ad, e, hlt, hs⟩ := h k hk
  exact ⟨ad, e, Nat.lt_of_lt_of_le hlt hb.size, fun j hj => (hb.cell (by rw [fld_block, add_block]; exact hlt)).trans (hs j hj)⟩
theorem RowsG.alloc (h : RowsG n g w a L) (o : Obj) : RowsG n g (w.alloc o) a L := h.below ((Below.refl _ _).alloc (Nat.le_refl _) o)
theorem RowsG.drop_none (h : RowsG n g w none L) : L = [] := by
  cases L with
  | nil => rfl
  | cons x r => obtain ⟨ad, e, _⟩ := h 0 (Nat.succ_pos _); cases e
theorem OwnG.nil (w : World) (B : Nat) : OwnG n E g w B (.slice none 0 0) [] := World.ownsRow_nil _ _ _ _
theorem OwnG.rows (h : OwnG n E g w B v L) (hg : ∀ x, (g x).length = n) : ∃ (a : Option Addr) (c : Nat), v = .slice a L.length c ∧ RowsG n g w a L ∧ (a = none → c = 0) ∧ ∀ ad, a = some ad → B ≤ ad.block := by
  have h' : w.ownsRow B E n v L.length (L.flatMap g) := h
  rcases h'.2 with ⟨e1, e2⟩ | ⟨gg, cap, cur, e1, hB, hh, hc, hm, _⟩
  · exact ⟨none, 0, by rw [e1, e2], fun k hk => by omega, fun _ => rfl, fun _ e => (by cases e)⟩
  · subst e1
    refine ⟨_, cap, rfl, fun k hk => ⟨_, rfl, (h'.lt gg rfl).2, fun j hj => ?_⟩, fun e => (by cases e), fun ad e => (by cases e; exact hB)⟩
    rw [add0, fld_own]
    have e1 := h'.cells (g := gg) rfl (k * n + j) ((g L[k]).getD j (.int .i64 0)) (flatG_at hg L k j hk hj)
    rw [add0] at e1; exact e1
theorem OwnG.lt (h : OwnG n E g w B v L) : ∀ k, v.ownBlock = some k → B ≤ k ∧ k < w.heap.size := World.ownsRow.lt h
theorem OwnG.below (h : OwnG n E g w B v L) (hb : Below w.heap.size w w') : OwnG n E g w' B v L := by
  rcases h.2 with ⟨e1, e2⟩ | ⟨gg, cap, cur, e1, e2, e3, e4⟩
  · exact ⟨h.1, Or.inl ⟨e1, e2⟩⟩
  · exact ⟨h.1, Or.inr ⟨gg, cap, cur, e1, e2, (hb.block gg ((h.lt gg (by rw [e1]; rfl)).2)).trans e3, e4⟩⟩
theorem OwnG.mono (h : OwnG n E g w B v L) (hB : B' ≤ B) : OwnG n E g w B' v L := by
  rcases h.2 with ⟨e1, e2⟩ | ⟨gg, cap, cur, e1, e2, e3, e4⟩
  · exact ⟨h.1, Or.inl ⟨e1, e2⟩⟩
  · exact ⟨h.1, Or.inr ⟨gg, cap, cur, e1, Nat.le_trans hB e2, e3, e4⟩⟩
theorem OwnG.drew (h : OwnG n E g w B v L) : OwnG n E g w.drew B v L := h
theorem OwnG.alloc (h : OwnG n E g w B v L) (o : Obj) : OwnG n E g (w.alloc o) B v L := h.below ((Below.refl _ _).alloc (Nat.le_refl _) o)
theorem OwnG.set (h : OwnG n E g w B v L) {p : Addr} (hp : v.ownBlock ≠ some p.block) (u : Value) : OwnG n E g (w.setCell p u) B v L := by
  rcases h.2 with ⟨e1, e2⟩ | ⟨gg, cap, cur, e1, e2, e3, e4⟩
  · exact ⟨h.1, Or.inl ⟨e1, e2⟩⟩
  · exact ⟨h.1, Or.inr ⟨gg, cap, cur, e1, e2, (Below.heap_setCell _ _ _ _ (fun e => hp (by rw [e1]; show some gg = _; rw [e]))).trans e3, e4⟩⟩
theorem OwnG.grown (h : OwnG n E g w B v L) {row : Option Nat} (hg : w.grownBy w' row) (hne : ∀ q, v.ownBlock = some q → some q ≠ row) : OwnG n E g w' B v L := by
  rcases h.2 with ⟨e1, e2⟩ | ⟨gg, cap, cur, e1, e2, e3, e4⟩
  · exact ⟨h.1, Or.inl ⟨e1, e2⟩⟩
  · exact ⟨h.1, Or.inr ⟨gg, cap, cur, e1, e2, (hg.block gg ((h.lt gg (by rw [e1]; rfl)).2) (hne gg (by rw [e1]; rfl))).trans e3, e4⟩⟩
/-- 'append(l, x)' at a slice of the call's own, x lying in a block made ahead of it. -/
theorem wpList_appG1 (T : ElG n by_ ST E z) (hg : ∀ x, (g x).length = n) (ho1 : ∀ x, ∀ u ∈ g x, u.oneCell' = true) {ops : Array Oper} {rest : List Oper} {o : Oper} {a : Act} {Q : Exit → Act → World → Prop} (w0 : World) (x : α) (cs : Array Value) (hcs : cs = (g x).toArray) (hgd : o.guard = none) (s xo : Operand)
    (ho : o.op = .call { callee := .builtin .append, args := #[s, xo], argTypes := #[ST, ST] }) (B : Nat) (v : Value) (L : List α) (hs : a.eval s = v) (hown : OwnG n E g w0 B v L)
    (hx : a.eval xo = .slice (some ⟨w0.heap.size, 0, none⟩) 1 1) (hl : L.length ≤ 1000000) (hB : B ≤ w0.heap.size)
    (h : ∀ v' w', OwnG n E g w' B v' (L ++ [x]) → w0.grownBy w' v.ownBlock → Below B w0 w' → (v'.ownBlock = v.ownBlock ∨ ∃ q, v'.ownBlock = some q ∧ w0.heap.size ≤ q) → wpList Tryz.prog ops Q rest (a.put o.dst v') w') :
    wpList Tryz.prog ops Q (o :: rest) a (w0.alloc (.cells cs E)) := by
  obtain ⟨i0, hi0, hz0, hz1, hz2⟩ := info_parts T.info
  subst hcs
  have hbl := T.by64
  refine wpList_append_lies _ hgd s xo ST ho B E i0 z n by_ T.sl hi0 hz0 hz1 hz2 T.zs T.pos v L.length (L.flatMap g) hs (World.ownsRow.alloc hown _) ⟨w0.heap.size, 0, none⟩ 1 1 (g x) hx (by simp [hg x])
    (by simpa using World.news_of_block (cs := (g x).toArray) (t := E) (fr := (0, 0)) (heap_alloc_new w0 _)) (ho1 x) (by omega) (by unfold maxLen; omega) (Nat.le_trans (Nat.mul_le_mul_left _ hbl) (by omega)) (by simp; omega) (w0.heap.size + 1) (by simp) ?_
  intro gg cap w' hown' hgrow' hor _
  rw [show L.flatMap g ++ g x = (L ++ [x]).flatMap g by simp] at hown'
  refine h (.slice (some ⟨gg, 0, none⟩) (L.length + 1) cap) w' (by unfold OwnG; rw [List.length_append]; exact hown') ((World.grownBy_alloc w0 _ _).trans hgrow') (((Below.refl B w0).alloc hB _).grown hgrow' (by simp; omega) (fun k hk => (hown.lt k hk).1)) ?_
  rcases hor with hor | hor
  · exact Or.inl hor.symm
  · exact Or.inr ⟨gg, rfl, by omega⟩
/-- 'append(l, m...)' at a slice of the call's own. -/
theorem wpList_appG (T : ElG n by_ ST E z) (hg : ∀ x, (g x).length = n) (ho1 : ∀ x, ∀ u ∈ g x, u.oneCell' = true) {ops : Array Oper} {rest : List Oper} {o : Oper} {a : Act} {Q : Exit → Act → World → Prop} (w : World) (hgd : o.guard = none) (s xo : Operand)
    (ho : o.op = .call { callee := .builtin .append, args := #[s, xo], argTypes := #[ST, ST] }) (B : Nat) (v : Value) (L : List α) (hs : a.eval s = v) (hown : OwnG n E g w B v L)
    (b : Option Addr) (M : List α) (m c : Nat) (hm : m = M.length) (hx : a.eval xo = .slice b m c) (hM : RowsG n g w b M) (hbc : b = none → c = 0) (hl : L.length ≤ 1000000) (hl2 : M.length ≤ 1000000) (hB : B ≤ w.heap.size)
    (h : ∀ v' w', OwnG n E g w' B v' (L ++ M) → w.grownBy w' v.ownBlock → Below B w w' → (v'.ownBlock = v.ownBlock ∨ v'.ownBlock = some w.heap.size) → wpList Tryz.prog ops Q rest (a.put o.dst v') w') :
    wpList Tryz.prog ops Q (o :: rest) a w := by
  subst hm
  obtain ⟨i0, hi0, hz0, hz1, hz2⟩ := info_parts T.info
  have hbl := T.by64
  cases b with
  | none =>
    have hM0 := hM.drop_none
    subst hM0
    have hc := hbc rfl
    subst hc
    refine wpList_append_own_none hgd s xo ST ho B E i0 n T.sl hi0 v L.length (L.flatMap g) hs hown hx (h v w (by rw [List.append_nil]; exact hown) ⟨rfl, rfl, rfl, Nat.le_refl _, fun _ _ _ => rfl⟩ (Below.refl _ _) (Or.inl rfl))
  | some ad =>
    refine wpList_plain hgd fun K hK => ?_
    obtain ⟨v', w', hr, h2, h3, h4, h5⟩ := run_append_own_at (P := Tryz.prog) w B ST o.type E i0 z n by_ T.sl hi0 hz0 hz1 hz2 T.zs T.pos v L.length (L.flatMap g) hown ad M.length c (M.flatMap g)
      (flatG_len hg M) (fun j u hj => by
        have hjl : j < M.length * n := by
          have := (List.getElem?_eq_some_iff.1 hj).1
          simpa [flatG_len hg M] using this
        have hn := T.pos
        have hk : j / n < M.length := Nat.div_lt_of_lt_mul (by rw [Nat.mul_comm]; exact hjl)
        have hjn : j % n < n := Nat.mod_lt _ hn
        have ej : j / n * n + j % n = j := by rw [Nat.mul_comm]; exact Nat.div_add_mod j n
        obtain ⟨ad', e, _, hs⟩ := hM (j / n) hk
        cases e
        have e1 := hs (j % n) hjn
        have e2 := flatG_at hg M (j / n) (j % n) hk hjn
        rw [ej] at e2
        rw [e2] at hj
        have e3 : fld (ad.add (j / n * n)) (j % n) = ad.add j := by
          rcases Nat.eq_zero_or_pos (j % n) with h0 | h0
          · rw [h0]; show ad.add _ = _; rw [← ej, h0, Nat.add_zero, Nat.mul_div_cancel _ hn]
          · obtain ⟨q, hq⟩ : ∃ q, j % n = q + 1 := ⟨j % n - 1, by omega⟩
            rw [hq]
            show (⟨(ad.add (j / n * n)).block, (ad.add (j / n * n)).off + (q + 1), none⟩ : Addr) = ad.add j
            rw [← hq]
            unfold Addr.add
            by_cases hz : j / n * n = 0
            · rw [if_pos hz, if_neg (by omega)]
              have : j % n = j := by omega
              rw [this]
            · rw [if_neg hz, if_neg (by omega)]
              show (⟨ad.block, ad.off + j / n * n + j % n, none⟩ : Addr) = ⟨ad.block, ad.off + j, none⟩
              rw [Nat.add_assoc, ej]
        rw [← e3, e1]; exact hj) (flatG_one ho1 M) (by unfold maxLen; omega) (Nat.le_trans (Nat.mul_le_mul_left _ hbl) (by omega)) hB
    unfold Oper.wp execOp
    simp only [ho, resolve, invoke, builtin, Sem.run_bind, Sem.run_pure, Result.andThen_ok, List.map_toArray, List.map_cons, List.map_nil, hs, hx, hr]
    refine hK _ _ (h v' w' ?_ h3 ((Below.refl B w).grown h3 hB (fun k hk => (hown.lt k hk).1)) h5)
    unfold OwnG
    rw [List.flatMap_append, List.length_append]
    exact h2
end
end Go.Proofs.YtdgegebplebeoaaGreatDoor
