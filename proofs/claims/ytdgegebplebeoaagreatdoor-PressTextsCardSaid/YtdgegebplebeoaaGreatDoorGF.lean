/-
  Package press: a tree of orders grows: what lies in memory between two rounds. No program is walked here.
-/
import Derived.Test.YtdgegebplebeoaaGreatDoorGD
namespace Go.Proofs.YtdgegebplebeoaaGreatDoor
open Go.RowKit Go.Maps Go.Shelf

theorem TS.tree {w0 W : World} {b : Nat} {x : Cols} {bnd : Int} {O : List Int} {m : Nat} {nv ov : Value} {xs : List Value} (h : TS w0 W b x bnd O m nv ov xs) (hx : ColsAt w0 x) : TreeAt W w0.heap.size b ⟨x, bnd, nv, ov, O⟩ := ⟨h.box, hx.below h.low, h.own⟩
theorem box_ne_own {w : World} {B E T size n b : Nat} {v : Value} {xs : List Value} {cs : Array Value} (h : w.ownsRow B E size v n xs) (hb : BoxAt w b cs T) (hE : E ≠ T) : v.ownBlock ≠ some b := fun e => by
  obtain ⟨c2, h2⟩ := own_block h b e
  rw [hb] at h2; injection h2 with h2; injection h2 with _ h2; exact hE h2.symm
theorem rows_apart {w : World} {B B' E E' size size' n n' : Nat} {v v' : Value} {xs xs' : List Value} (h : w.ownsRow B E size v n xs) (h' : w.ownsRow B' E' size' v' n' xs') (hE : E ≠ E') : ∀ q, v.ownBlock = some q → v'.ownBlock ≠ some q := fun q e e' => by
  obtain ⟨c1, h1⟩ := own_block h q e
  obtain ⟨c2, h2⟩ := own_block h' q e'
  rw [h1] at h2; injection h2 with h2; injection h2 with _ h2; exact hE h2
theorem TS.addN {w0 wr wg : World} {b : Nat} {x : Cols} {bnd : Int} {O : List Int} {m : Nat} {nv ov : Value} {xs xs1 : List Value} {gg c1 : Nat} (ht : TS w0 wr b x bnd O m nv ov xs) (hN : wg.ownsRow w0.heap.size 126 2 (.slice (some ⟨gg, 0, none⟩) (m + 1) c1) (m + 1) xs1) (hg : wr.drew.grownBy wg nv.ownBlock) (hb : Below w0.heap.size wr.drew wg) (hat : nv.ownBlock = some gg ∨ gg = wr.drew.heap.size + 1) :
    TS w0 (wg.setCell ⟨b, 3, none⟩ (.slice (some ⟨gg, 0, none⟩) (m + 1) c1)) b x bnd O (m + 1) (.slice (some ⟨gg, 0, none⟩) (m + 1) c1) ov xs1 ∧
    (∀ q, q < wr.heap.size → q ≠ b → nv.ownBlock ≠ some q → (wg.setCell ⟨b, 3, none⟩ (.slice (some ⟨gg, 0, none⟩) (m + 1) c1)).heap[q]? = wr.heap[q]?) ∧ wr.heap.size ≤ (wg.setCell ⟨b, 3, none⟩ (.slice (some ⟨gg, 0, none⟩) (m + 1) c1)).heap.size ∧
    (∀ q, (Value.slice (some ⟨gg, 0, none⟩) (m + 1) c1).ownBlock = some q → nv.ownBlock = some q ∨ wr.heap.size ≤ q) ∧ KeepsFrom 0 wr (wg.setCell ⟨b, 3, none⟩ (.slice (some ⟨gg, 0, none⟩) (m + 1) c1)) := by
  have Bg : BoxAt wg b #[.slice x.ma x.m.length x.mc, .slice x.da x.T.length x.dc, .int .i64 bnd, nv, ov] 91 := BoxAt.grown (w := wr.drew) ht.box hg (fun e => box_ne_own ht.nod ht.box (by decide) e.symm)
  have hbb : Below w0.heap.size w0 wg := ht.low.drew.trans hb
  have hkk : ∀ q, q < wr.heap.size → q ≠ b → nv.ownBlock ≠ some q → (wg.setCell ⟨b, 3, none⟩ (.slice (some ⟨gg, 0, none⟩) (m + 1) c1)).heap[q]? = wr.heap[q]? := fun q hq h1 h2 => by
    rw [Below.heap_setCell _ _ _ _ (by show q ≠ b; exact h1)]
    exact hg.block q hq (fun e => h2 e.symm)
  have hsz : wr.heap.size ≤ (wg.setCell ⟨b, 3, none⟩ (.slice (some ⟨gg, 0, none⟩) (m + 1) c1)).heap.size := by have := hb.size; simp; exact this
  refine ⟨⟨Bg.set 3 _, ?_, ?_, hbb.setCell (p := ⟨b, 3, none⟩) ht.ge _, ht.ge⟩, hkk, hsz, fun q e => ?_, hsz, fun q o _ h hc => ?_⟩
  · exact ht.own.same (fun q e => hkk q (ht.own.lt q e).2 (fun e2 => own_ne ht.own ht.box (by decide) (by rw [e, e2])) (fun e2 => rows_apart ht.nod ht.own (by decide) q e2 e))
  · exact own_same hN (fun q e => Below.heap_setCell _ _ _ _ (fun e2 => box_ne_own hN Bg (by decide) (by have e2 : q = b := e2; rw [e, e2])))
  · have e : gg = q := by simpa [Value.ownBlock] using e
    subst e
    rcases hat with h | h
    · exact Or.inl h
    · right; rw [h]; show wr.heap.size ≤ wr.heap.size + 1; omega
  · refine (hkk q (heap_lt h) (fun e2 => ?_) (fun e2 => ?_)).trans h
    · have h2 := ht.box
      unfold BoxAt at h2
      rw [← e2, h] at h2; cases h2; cases hc
    · obtain ⟨cs, hcs⟩ := own_block ht.nod q e2
      rw [h] at hcs; cases hcs; cases hc

theorem below_size {B : Nat} {w w' : World} (h : KeepsFrom B w w') : w.heap.size ≤ w'.heap.size := h.size
theorem box_ne {w : World} {b b' : Nat} {cs cs' : Array Value} {T T' : TypeId} (h : BoxAt w b cs T) (h' : BoxAt w b' cs' T') (hE : T ≠ T') : b ≠ b' := fun e => by
  unfold BoxAt at h h'
  rw [e, h'] at h; injection h with h; injection h with _ h; exact hE h.symm
theorem box_uni {w : World} {b : Nat} {cs cs' : Array Value} {T T' : TypeId} (h : BoxAt w b cs T) (h' : BoxAt w b cs' T') : cs = cs' := by
  unfold BoxAt at h h'
  rw [h'] at h; injection h with h; injection h with h _; exact h.symm
/-- What lies between two rounds of grow: the box of next and its row, the pointers, the tree's frame. -/
structure GrI (w0 W : World) (b N : Nat) (nv0 ov0 : Value) (K : Nat) (ov nx nv : Value) (S : List Int) (X : World) : Prop where
  box : BoxAt X N #[nx] 49
  row : OwnR 1 3 intL X K nx S
  ne : ∀ q, nx.ownBlock = some q → ov.ownBlock ≠ some q
  ptr : BoxAt X W.heap.size #[.pointer (some ⟨b, 0, none⟩)] 124
  pbx : BoxAt X (N + 1) #[.pointer (some ⟨b, 0, none⟩)] 124
  nod : ∃ cs, BoxAt X b cs 91 ∧ cs[3]? = some nv
  nvn : ∀ q, nv.ownBlock = some q → nv0.ownBlock = some q ∨ W.heap.size ≤ q
  ovn : ∀ q, ov.ownBlock = some q → ov0.ownBlock = some q ∨ W.heap.size ≤ q
  keep : ∀ q, q < W.heap.size → q ≠ b → ov0.ownBlock ≠ some q → nv0.ownBlock ≠ some q → X.heap[q]? = W.heap[q]?
  from_ : KeepsFrom 0 W X
  lo : N + 2 ≤ X.heap.size
section
variable {w0 W : World} {b N : Nat} {nv0 ov0 : Value} {K : Nat} {ov nx nv : Value} {S : List Int} {X Y : World}
theorem GrI.kept (h : GrI w0 W b N nv0 ov0 K ov nx nv S X) {row : Option Nat} {B : Nat} (hg : X.grownBy Y row) (hr : ∀ r, row = some r → B ≤ r ∧ ∃ o : Obj, X.heap[r]? = some o ∧ o.isCells = false) (hB : W.heap.size ≤ B) : GrI w0 W b N nv0 ov0 K ov nx nv S Y := by
  refine ⟨box_kept h.box hg (fun r e => (hr r e).2), h.row.kept hg (fun r e => (hr r e).2), h.ne, box_kept h.ptr hg (fun r e => (hr r e).2), box_kept h.pbx hg (fun r e => (hr r e).2), ?_, h.nvn, h.ovn, fun q hq h1 h2 h3 => ?_, ?_, Nat.le_trans h.lo hg.size⟩
  · obtain ⟨cs, h1, h2⟩ := h.nod
    exact ⟨cs, box_kept h1 hg (fun r e => (hr r e).2), h2⟩
  · refine (hg.block q (Nat.lt_of_lt_of_le hq h.from_.size) (fun e => ?_)).trans (h.keep q hq h1 h2 h3)
    have := (hr q e.symm).1
    omega
  · refine ⟨Nat.le_trans h.from_.size hg.size, fun k o _ hk hc => (hg.block k (Nat.lt_of_lt_of_le (heap_lt hk) h.from_.size) (fun e => ?_)).trans (h.from_.same k o (Nat.zero_le _) hk hc)⟩
    have h1 := (hr k e.symm).1
    have h2 := heap_lt hk
    omega
/-- The tree goes on: the box, the order's row and the nodes' row alone are turned. -/
theorem GrI.move {x : Cols} {bnd : Int} {O O' : List Int} {m m' : Nat} {ov' nv' : Value} {xs xs' : List Value} (h : GrI w0 W b N nv0 ov0 K ov nx nv S X) (ht : TS w0 X b x bnd O m nv ov xs) (ht' : TS w0 Y b x bnd O' m' nv' ov' xs')
    (hk : ∀ q, q < X.heap.size → q ≠ b → ov.ownBlock ≠ some q → nv.ownBlock ≠ some q → Y.heap[q]? = X.heap[q]?) (hf : KeepsFrom 0 X Y)
    (ho : ∀ q, ov'.ownBlock = some q → ov.ownBlock = some q ∨ X.heap.size ≤ q) (hn : ∀ q, nv'.ownBlock = some q → nv.ownBlock = some q ∨ X.heap.size ≤ q) : GrI w0 W b N nv0 ov0 K ov' nx nv' S Y := by
  have hb : ∀ {b' : Nat} {cs : Array Value} {T : TypeId}, BoxAt X b' cs T → T ≠ 91 → 3 ≠ T → 126 ≠ T → BoxAt Y b' cs T := fun h h1 h2 h3 => (hk _ h.lt (box_ne h ht.box h1) (own_ne ht.own h h2) (box_ne_own ht.nod h h3)).trans h
  have hrk : ∀ q, nx.ownBlock = some q → Y.heap[q]? = X.heap[q]? := fun q e => hk q (h.row.lt q e).2 (fun e2 => own_ne h.row ht.box (by decide) (by rw [e, e2])) (h.ne q e) (fun e2 => rows_apart ht.nod h.row (by decide) q e2 e)
  have hsz := h.from_.size
  refine ⟨hb h.box (by decide) (by decide) (by decide), h.row.same hrk, fun q e e2 => ?_, hb h.ptr (by decide) (by decide) (by decide), hb h.pbx (by decide) (by decide) (by decide), ⟨_, ht'.box, rfl⟩, fun q e => ?_, fun q e => ?_, fun q hq h1 h2 h3 => ?_, h.from_.trans hf, Nat.le_trans h.lo hf.size⟩
  · rcases ho q e2 with h3 | h3
    · exact h.ne q e h3
    · have := (h.row.lt q e).2; omega
  · rcases hn q e with h3 | h3
    · exact h.nvn q h3
    · right; omega
  · rcases ho q e with h3 | h3
    · exact h.ovn q h3
    · right; omega
  · refine (hk q (by omega) h1 (fun e => ?_) (fun e => ?_)).trans (h.keep q hq h1 h2 h3)
    · rcases h.ovn q e with h4 | h4
      · exact h2 h4
      · omega
    · rcases h.nvn q e with h4 | h4
      · exact h3 h4
      · omega
theorem GrI.drew (h : GrI w0 W b N nv0 ov0 K ov nx nv S X) : GrI w0 W b N nv0 ov0 K ov nx nv S X.drew :=
  ⟨h.box, h.row, h.ne, h.ptr, h.pbx, h.nod, h.nvn, h.ovn, h.keep, ⟨h.from_.size, h.from_.same⟩, h.lo⟩
theorem TS.drew {x : Cols} {bnd : Int} {O : List Int} {m : Nat} {xs : List Value} (h : TS w0 X b x bnd O m nv ov xs) : TS w0 X.drew b x bnd O m nv ov xs := ⟨h.box, h.own.drew, h.nod, h.low.drew, h.ge⟩
theorem GrI.nv_eq {x : Cols} {bnd : Int} {O : List Int} {m : Nat} {nv2 : Value} {xs : List Value} (h : GrI w0 W b N nv0 ov0 K ov nx nv S X) (ht : TS w0 X b x bnd O m nv2 ov xs) : nv2 = nv := by
  obtain ⟨cs, h1, h2⟩ := h.nod
  have e := box_uni h1 ht.box
  subst e
  injection h2
theorem keeps_turn {x : Cols} {bnd : Int} {O : List Int} {m : Nat} {xs : List Value} {ov' : Value} (ht : TS w0 X b x bnd O m nv ov xs) (hy : TreeTurn b ov ov' X Y) : KeepsFrom 0 X Y :=
  ⟨hy.size, fun q o _ h hc => (hy.block q (heap_lt h) (fun e => by
      have h2 := ht.box
      unfold BoxAt at h2
      rw [← e, h] at h2; cases h2; cases hc) (fun e => by
      obtain ⟨cs, hcs⟩ := own_block ht.own q e
      rw [h] at hcs; cases hcs; cases hc)).trans h⟩
theorem GrI.turn {x : Cols} {bnd : Int} {O O' : List Int} {m m' : Nat} {ov' nv2 : Value} {xs xs' : List Value} (h : GrI w0 W b N nv0 ov0 K ov nx nv S X) (ht : TS w0 X b x bnd O m nv2 ov xs) (ht' : TS w0 Y b x bnd O' m' nv2 ov' xs') (hy : TreeTurn b ov ov' X Y) : GrI w0 W b N nv0 ov0 K ov' nx nv S Y := by
  obtain rfl := h.nv_eq ht
  exact h.move ht ht' (fun q hq h1 h2 _ => hy.block q hq h1 h2) (keeps_turn ht hy) hy.row (fun q e => Or.inl e)
/-- One number more in next. -/
theorem GrI.app {x : Cols} {bnd : Int} {O : List Int} {m gg cg : Nat} {r : Int} {xs : List Value} {wg : World} (h : GrI w0 W b N nv0 ov0 K ov nx nv S X) (ht : TS w0 X b x bnd O m nv ov xs) (hK : N + 2 ≤ K) (hKX : K ≤ X.heap.size) (hWN : W.heap.size ≤ N) (hwN : w0.heap.size ≤ N)
    (hO : OwnR 1 3 intL wg K (.slice (some ⟨gg, 0, none⟩) (S.length + 1) cg) (S ++ [r])) (hg : X.grownBy wg nx.ownBlock) (hb : Below K X wg) (hat : nx.ownBlock = some gg ∨ gg = X.heap.size + 1) :
    GrI w0 W b N nv0 ov0 K ov (.slice (some ⟨gg, 0, none⟩) (S.length + 1) cg) nv (S ++ [r]) (wg.setCell ⟨N, 0, none⟩ (.slice (some ⟨gg, 0, none⟩) (S.length + 1) cg)) ∧
    TS w0 (wg.setCell ⟨N, 0, none⟩ (.slice (some ⟨gg, 0, none⟩) (S.length + 1) cg)) b x bnd O m nv ov xs ∧
    (∀ q, q < K → q ≠ N → (wg.setCell ⟨N, 0, none⟩ (.slice (some ⟨gg, 0, none⟩) (S.length + 1) cg)).heap[q]? = X.heap[q]?) ∧ KeepsFrom 0 X (wg.setCell ⟨N, 0, none⟩ (.slice (some ⟨gg, 0, none⟩) (S.length + 1) cg)) := by
  have hz : X.heap.size ≤ wg.heap.size := hb.size
  have hkk : ∀ q, q < X.heap.size → nx.ownBlock ≠ some q → q ≠ N → (wg.setCell ⟨N, 0, none⟩ (.slice (some ⟨gg, 0, none⟩) (S.length + 1) cg)).heap[q]? = X.heap[q]? := fun q hq h1 h2 => by
    rw [Below.heap_setCell _ _ _ _ (by show q ≠ N; exact h2)]
    exact hg.block q hq (fun e => h1 e.symm)
  have hlow : ∀ q, q < K → nx.ownBlock ≠ some q := fun q hq e => by have := (h.row.lt q e).1; omega
  have Bg : BoxAt wg N #[nx] 49 := BoxAt.grown (w := X) h.box hg (fun e => own_ne h.row h.box (by decide) e.symm)
  have hbx : ∀ {b' : Nat} {cs : Array Value} {T : TypeId}, BoxAt X b' cs T → T ≠ 49 → 3 ≠ T → BoxAt (wg.setCell ⟨N, 0, none⟩ (.slice (some ⟨gg, 0, none⟩) (S.length + 1) cg)) b' cs T := fun h2 h3 h4 => (hkk _ h2.lt (own_ne h.row h2 h4) (box_ne h2 h.box h3)).trans h2
  have hT : TS w0 (wg.setCell ⟨N, 0, none⟩ (.slice (some ⟨gg, 0, none⟩) (S.length + 1) cg)) b x bnd O m nv ov xs := by
    refine ⟨hbx ht.box (by decide) (by decide), ht.own.same (fun q e => hkk q (ht.own.lt q e).2 (fun e2 => h.ne q e2 e) (fun e2 => own_ne ht.own h.box (by decide) (by rw [e, e2]))), own_same ht.nod (fun q e => hkk q (World.ownsRow.lt ht.nod q e).2 (fun e2 => rows_apart ht.nod h.row (by decide) q e e2) (fun e2 => box_ne_own ht.nod h.box (by decide) (by rw [e, e2]))), ?_, ht.ge⟩
    exact (ht.low.trans (hb.mono (by omega))).setCell (p := ⟨N, 0, none⟩) hwN _
  have hk : KeepsFrom 0 X (wg.setCell ⟨N, 0, none⟩ (.slice (some ⟨gg, 0, none⟩) (S.length + 1) cg)) := by
    refine ⟨by simp; exact hz, fun q o _ hq hc => (hkk q (heap_lt hq) (fun e => ?_) (fun e => ?_)).trans hq⟩
    · obtain ⟨cs, hcs⟩ := own_block h.row q e
      rw [hq] at hcs; cases hcs; cases hc
    · have h2 := h.box
      unfold BoxAt at h2
      rw [← e, hq] at h2; cases h2; cases hc
  refine ⟨⟨Bg.set 0 _, hO.set (own_ne hO Bg (by decide)) _, fun q e => ?_, hbx h.ptr (by decide) (by decide), hbx h.pbx (by decide) (by decide), ⟨_, hT.box, rfl⟩, h.nvn, h.ovn, fun q hq h1 h2 h3 => ?_, h.from_.trans hk, ?_⟩, hT, fun q hq h1 => hkk q (by omega) (hlow q hq) h1, hk⟩
  · have e : gg = q := by simpa [Value.ownBlock] using e
    subst e
    intro e2
    rcases hat with h3 | h3
    · exact h.ne gg h3 e2
    · have h4 := (ht.own.lt gg e2).2
      have h5 : gg = X.heap.size + 1 := h3
      omega
  · exact (hkk q (by omega) (hlow q (by omega)) (by omega)).trans (h.keep q hq h1 h2 h3)
  · have := h.lo; simp; omega
end
theorem TS.setN {w0 X : World} {b : Nat} {x : Cols} {bnd : Int} {O : List Int} {m g c : Nat} {ov : Value} {xs : List Value} (ht : TS w0 X b x bnd O m (.slice (some ⟨g, 0, none⟩) m c) ov xs) (j : Nat) (u : Value) :
    TS w0 (X.setCell ⟨g, j, none⟩ u) b x bnd O m (.slice (some ⟨g, 0, none⟩) m c) ov (xs.set j u) ∧ (∀ q, q ≠ g → (X.setCell ⟨g, j, none⟩ u).heap[q]? = X.heap[q]?) ∧ KeepsFrom 0 X (X.setCell ⟨g, j, none⟩ u) := by
  have hk : ∀ q, q ≠ g → (X.setCell ⟨g, j, none⟩ u).heap[q]? = X.heap[q]? := fun q h => Below.heap_setCell _ _ _ _ h
  refine ⟨⟨?_, ?_, own_cell ht.nod j u, ?_, ht.ge⟩, hk, ⟨by simp, fun q o _ hq hc => (hk q (fun e => ?_)).trans hq⟩⟩
  · exact (hk b (fun e => box_ne_own ht.nod ht.box (by decide) (by rw [e]; rfl))).trans ht.box
  · exact ht.own.same (fun q e => hk q (fun e2 => rows_apart ht.nod ht.own (by decide) q (by rw [e2]; rfl) e))
  · exact ht.low.setCell (p := ⟨g, j, none⟩) (ht.nod.lt g rfl).1 _
  · obtain ⟨cs, hcs⟩ := own_block ht.nod g rfl
    rw [← e, hq] at hcs; cases hcs; cases hc
theorem TS.putD {w0 X : World} {b : Nat} {x : Cols} {bnd : Int} {O : List Int} {m D : Nat} {nv ov : Value} {xs : List Value} {o : Obj} (ht : TS w0 X b x bnd O m nv ov xs) (hD : w0.heap.size ≤ D) (hK : X.heap[D]? = some o) (ho : o.isCells = false) (o' : Obj) : TS w0 (X.putObj D o') b x bnd O m nv ov xs :=
  ht.keep (fun q o2 h hc => (World.putObj_heap_other (fun e => by rw [e, hK] at h; cases h; rw [ho] at hc; cases hc)).trans h) (below_putObj ht.low hD _)
end Go.Proofs.YtdgegebplebeoaaGreatDoor
