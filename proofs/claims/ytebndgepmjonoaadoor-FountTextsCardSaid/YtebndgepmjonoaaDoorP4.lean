/-
  A reader of founts: what it holds; the steps that read a name, a body, a text.
-/
import Derived.Test.YtebndgepmjonoaaDoorP3
namespace Go.Proofs.YtebndgepmjonoaaDoor
open Go.RowKit Go.Maps

/-- What a reader holds: the fount so far, the sort of its line. -/
structure Rd where
  nm : ByteArray
  body : Int
  v : Value
  l : List TS
  sn : ByteArray
  st : ByteArray
  sk : Int
  sw : Int
def Rd.cells (r : Rd) (b1 b2 : Nat) : Array Value := #[.map (some b1), .map (some b2), .string r.nm, .int .i64 r.body, r.v, .string r.sn, .string r.st, .int .i64 r.sk, .int .i64 r.sw]
structure RdAt (w : World) (B b b1 b2 : Nat) (r : Rd) : Prop where
  block : w.heap[b]? = some (.cells (r.cells b1 b2) 95 (0, 0))
  known : KnownAt w b1 b2 r.l
  own : w.ownsRow B 63 4 r.v r.l.length (sVals r.l)
  hb : B ≤ b
  hb1 : B ≤ b1
  hb2 : B ≤ b2
/-- Of the rows that are none of sorts nothing has turned but the block b. -/
def Keep (b : Nat) (w w' : World) : Prop := ∀ k cs T fr, k ≠ b → w.heap[k]? = some (.cells cs T fr) → T ≠ 63 → w'.heap[k]? = w.heap[k]?
theorem Keep.refl (b : Nat) (w : World) : Keep b w w := fun _ _ _ _ _ _ _ => rfl
theorem Keep.trans {b : Nat} {w w' w'' : World} (h : Keep b w w') (k : Keep b w' w'') : Keep b w w'' := fun i cs T fr hi hc hT =>
  (k i cs T fr hi ((h i cs T fr hi hc hT).trans hc) hT).trans (h i cs T fr hi hc hT)
theorem Keep.of_below {b : Nat} {w w' : World} (h : Below w.heap.size w w') : Keep b w w' := fun k cs T fr _ hc _ => by
  refine h.block k ?_
  rcases Nat.lt_or_ge k w.heap.size with h1 | h1
  · exact h1
  · rw [Array.getElem?_eq_none h1] at hc; cases hc
theorem Keep.set_ (b : Nat) (w : World) (j : Nat) (u : Value) : Keep b w (w.setCell ⟨b, j, none⟩ u) := fun _ _ _ _ hk _ _ => Below.heap_setCell _ _ _ _ hk
theorem Keep.row {b : Nat} {w w' : World} (h : Keep b w w') {k : Nat} {cs : Array Value} {T : TypeId} {fr : Nat × Nat} (hk : k ≠ b) (hc : w.heap[k]? = some (.cells cs T fr)) (hT : T ≠ 63) : w'.heap[k]? = some (.cells cs T fr) := (h k cs T fr hk hc hT).trans hc
theorem heap_set {w : World} {b : Nat} {cs : Array Value} {T : TypeId} {fr : Nat × Nat} (h : w.heap[b]? = some (.cells cs T fr)) (j : Nat) (u : Value) : (w.setCell ⟨b, j, none⟩ u).heap[b]? = some (.cells (cs.setIfInBounds j u) T fr) := by
  simp [World.setCell, Array.getElem?_modify, h]
theorem block_lt {w : World} {b : Nat} {o : Obj} (h : w.heap[b]? = some o) : b < w.heap.size := by
  rcases Nat.lt_or_ge b w.heap.size with h1 | h1
  · exact h1
  · rw [Array.getElem?_eq_none h1] at h; cases h
section
variable {w w' : World} {B b b1 b2 : Nat} {r : Rd}
theorem RdAt.lt (h : RdAt w B b b1 b2 r) : b < w.heap.size := block_lt h.block
theorem RdAt.cell (h : RdAt w B b b1 b2 r) {j : Nat} {u : Value} (hj : (r.cells b1 b2)[j]? = some u) : w.cell? ⟨b, j, none⟩ = some u := by
  rw [cell_of_row w b j _ _ (0, 0) h.block]; exact hj
theorem RdAt.frozen (h : RdAt w B b b1 b2 r) (j : Nat) : w.frozen? ⟨b, j, none⟩ = false := by simp [World.frozen?, h.block]
theorem ownsRow_below {base e n : Nat} {size : Nat} {v : Value} {xs : List Value} (h : w.ownsRow base e size v n xs) (hb : Below w.heap.size w w') : w'.ownsRow base e size v n xs := by
  obtain ⟨h1, h2⟩ := h
  refine ⟨h1, ?_⟩
  rcases h2 with h2 | ⟨g, cap, cur, hv, hg, hh, q⟩
  · exact .inl h2
  · exact .inr ⟨g, cap, cur, hv, hg, (hb.block g (block_lt hh)).trans hh, q⟩
theorem RdAt.below (h : RdAt w B b b1 b2 r) (hb : Below w.heap.size w w') : RdAt w' B b b1 b2 r :=
  ⟨(hb.block b h.lt).trans h.block, h.known.below hb h.known.lt.1 h.known.lt.2, ownsRow_below h.own hb, h.hb, h.hb1, h.hb2⟩
theorem RdAt.drewN (h : RdAt w B b b1 b2 r) (n : Nat) : RdAt (w.drewN n) B b b1 b2 r := ⟨h.block, h.known, h.own, h.hb, h.hb1, h.hb2⟩
theorem ownsMap_obj {k e : TypeId} {n : Nat} {D : DataW Unit} (h : w.ownsMap Tryd.prog k (plainElem Tryd.prog e) b n D) {cs : Array Value} {T : TypeId} {fr : Nat × Nat} (hc : w.heap[b]? = some (.cells cs T fr)) : False := by
  obtain ⟨es, c, h1, _⟩ := h
  rw [hc] at h1; cases h1
theorem RdAt.ne1 (h : RdAt w B b b1 b2 r) : b ≠ b1 := fun e => by
  obtain ⟨_, D1, D2, a, _⟩ := h.known
  rw [← e] at a
  exact ownsMap_obj a h.block
theorem RdAt.ne2 (h : RdAt w B b b1 b2 r) : b ≠ b2 := fun e => by
  obtain ⟨_, D1, D2, _, a, _⟩ := h.known
  rw [← e] at a
  exact ownsMap_obj a h.block
theorem RdAt.neOwn (h : RdAt w B b b1 b2 r) : r.v.ownBlock ≠ some b := fun e => by
  rcases h.own.2 with ⟨e1, _⟩ | ⟨g, cap, cur, e1, _, hh, _⟩
  · rw [e1] at e; cases e
  · rw [e1] at e
    have : g = b := by simpa [Value.ownBlock] using e
    rw [this, h.block] at hh
    injection hh with hh
    injection hh with _ hh _
    cases hh
theorem own_setCell {base e n size : Nat} {v : Value} {xs : List Value} (h : w.ownsRow base e size v n xs) (hb : v.ownBlock ≠ some b) (j : Nat) (u : Value) : (w.setCell ⟨b, j, none⟩ u).ownsRow base e size v n xs := by
  obtain ⟨h1, h2⟩ := h
  refine ⟨h1, ?_⟩
  rcases h2 with h2 | ⟨g, cap, cur, hv, hg, hh, q⟩
  · exact .inl h2
  · refine .inr ⟨g, cap, cur, hv, hg, (Below.heap_setCell _ ⟨b, j, none⟩ u g (fun e => hb ?_)).trans hh, q⟩
    rw [hv, e]; rfl
/-- One of the reader's own cells is written. -/
theorem RdAt.set_ (h : RdAt w B b b1 b2 r) (j : Nat) (u : Value) {r' : Rd} (hr : (r.cells b1 b2).setIfInBounds j u = r'.cells b1 b2) (hv : r'.v = r.v) (hl : r'.l = r.l) : RdAt (w.setCell ⟨b, j, none⟩ u) B b b1 b2 r' := by
  refine ⟨by rw [heap_set h.block, hr], ?_, ?_, h.hb, h.hb1, h.hb2⟩
  · rw [hl]; exact h.known.setCell (by exact h.ne1.symm) (by exact h.ne2.symm) u
  · rw [hv, hl]; exact own_setCell h.own h.neOwn j u
end
def Stepped (w : World) (B b b1 b2 : Nat) (r' : Rd) (e : Ending) (w' : World) : Prop := e = .returned (.int .i64 0) ∧ RdAt w' B b b1 b2 r' ∧ Below B w w' ∧ Keep b w w'

set_option maxRecDepth 100000 in
theorem readFountName_any {B b b1 b2 : Nat} {r : Rd} (s : ByteArray) {w : World} (h : RdAt w B b b1 b2 r) (hs : isNameB s = true) :
    Calls Tryd.prog 79 #[.pointer (some ⟨b, 0, none⟩), .string s] w (Stepped w B b b1 b2 { r with nm := s }) := by
  have h12 := name_bd hs
  have hlb := h.lt
  have hB := h.hb
  have HS := Lib.hid hs
  clear hs
  go_enter Tryd.func79, Tryd.ntmps79
  go_wp2_with fail
  refine (isName_any s _ (by unfold maxLen; omega)).mono ?_
  rintro e w' ⟨rfl, rfl⟩
  rw [HS.out]
  go_wp2_with fail
  refine (clone_any s _ (by omega)).mono ?_
  rintro e w1 ⟨rfl, hb⟩
  have h1 := h.below hb
  have k1 := Keep.of_below (b := b) hb
  have c2 := h1.cell (j := 2) rfl
  have z2 := h1.frozen 2
  have hset := h1.set_ 2 (.string s) (r' := { r with nm := s }) rfl rfl rfl
  have hB2 : Below B w w1 := hb.mono (by omega)
  clear hb h
  go_wp2
  go_ret
  exact ⟨rfl, hset, hB2.setCell hB _, k1.trans (Keep.set_ b w1 2 _)⟩
end Go.Proofs.YtebndgepmjonoaaDoor
