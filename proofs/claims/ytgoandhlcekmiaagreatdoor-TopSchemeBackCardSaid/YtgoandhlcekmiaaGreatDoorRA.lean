/-
  Package tympanref06: folded sheets in memory.
-/
import Derived.Test.YtgoandhlcekmiaaGreatDoorKG
namespace Go.Proofs.YtgoandhlcekmiaaGreatDoor
open Go.RowKit

theorem cell_block {w w' : World} {p : Addr} (h : w'.heap[p.block]? = w.heap[p.block]?) : w'.cell? p = w.cell? p := by
  unfold World.cell?; rw [h]
/-- A row of leaves: what it reads, and that its block holds leaves. -/
def LRow (w : World) (x : PS) : Prop := RowsAt 4 Leaf.l w x.a x.l ∧ (x.a = none → x.c = 0) ∧ ∀ ad, x.a = some ad → ∃ (cs : Array Value) (fr : Nat × Nat), w.heap[ad.block]? = some (Obj.cells cs 77 fr)
theorem LRow.keep {w w' : World} {x : PS} (h : LRow w x) (hk : ∀ (b : Nat) (cs : Array Value) (fr : Nat × Nat), w.heap[b]? = some (Obj.cells cs 77 fr) → w'.heap[b]? = w.heap[b]?) : LRow w' x := by
  obtain ⟨h1, h2, h3⟩ := h
  refine ⟨fun k hk2 => ?_, h2, fun ad e => ?_⟩
  · obtain ⟨ad, e, hlt, hs⟩ := h1 k hk2
    obtain ⟨cs, fr, hb⟩ := h3 ad e
    have hq := hk _ _ _ hb
    refine ⟨ad, e, heap_lt (hq.trans hb), fun j hj => ?_⟩
    exact (cell_block (by rw [fld_block, add_block]; exact hq)).trans (hs j hj)
  · obtain ⟨cs, fr, hb⟩ := h3 ad e
    exact ⟨cs, fr, (hk _ _ _ hb).trans hb⟩
theorem LRow.below {w w' : World} {x : PS} (h : LRow w x) (hb : Below w.heap.size w w') : LRow w' x := h.keep fun b _ _ e => hb.block b (heap_lt e)
theorem LRow.alloc {w : World} {x : PS} (h : LRow w x) (o : Obj) : LRow (w.alloc o) x := h.below ((Below.refl _ _).alloc (Nat.le_refl _) o)
theorem LRow.set {w : World} {x : PS} (h : LRow w x) {b : Nat} {cs : Array Value} {T : TypeId} {fr : Nat × Nat} (hb : w.heap[b]? = some (.cells cs T fr)) (hT : T ≠ 77) (j : Nat) (u : Value) : LRow (w.setCell ⟨b, j, none⟩ u) x :=
  h.keep fun q _ _ e => Below.heap_setCell _ _ _ _ (fun e2 => by
    have e2 : q = b := e2
    subst e2; rw [hb] at e; injection e with e; injection e with _ e; exact hT e)
theorem own_block {w : World} {B E size n : Nat} {v : Value} {xs : List Value} (h : w.ownsRow B E size v n xs) : ∀ q, v.ownBlock = some q → ∃ cs, w.heap[q]? = some (.cells cs E (0, 0)) := fun q e => by
  rcases h.2 with ⟨f1, _⟩ | ⟨gg, cap, cur, f1, _, f3, _⟩
  · rw [f1] at e; cases e
  · rw [f1] at e
    have e : gg = q := Option.some.inj e
    subst e
    exact ⟨_, f3⟩
theorem LRow.grown {w w' : World} {x : PS} (h : LRow w x) {B E size n : Nat} {v : Value} {xs : List Value} (ho : w.ownsRow B E size v n xs) (hE : E ≠ 77) (hg : w.grownBy w' v.ownBlock) : LRow w' x :=
  h.keep fun b _ _ e => hg.block b (heap_lt e) (fun e2 => by
    obtain ⟨cs2, h2⟩ := own_block ho b e2.symm
    rw [h2] at e; injection e with e; injection e with _ e; exact hE e)
theorem OwnR.lrow {w : World} {B m : Nat} {a : Option Addr} {c : Nat} {L : List Leaf} (h : OwnR 4 77 Leaf.l w B (.slice a m c) L) : m = L.length ∧ LRow w ⟨a, c, L⟩ := by
  obtain ⟨a', c', e, hr, -, -, hn, -⟩ := h.rows leaf_l
  injection e with e1 e2 e3
  subst e1 e2 e3
  refine ⟨rfl, hr, hn, fun ad e => ?_⟩
  have e : a = some ad := e
  subst e
  obtain ⟨cs, hb⟩ := own_block h ad.block rfl
  exact ⟨cs, _, hb⟩
/-- The places of a folded sheet, read. -/
def HeapAt (w : World) (A : Option Addr) (Ps : List PS) : Prop :=
  (∀ k (hk : k < Ps.length), ∃ ad, A = some ad ∧ ad.block < w.heap.size ∧ w.cell? (ad.add k) = some Ps[k].sl) ∧ ∀ x ∈ Ps, LRow w x
theorem HeapAt.below {w w' : World} {A : Option Addr} {Ps : List PS} (h : HeapAt w A Ps) (hb : Below w.heap.size w w') : HeapAt w' A Ps :=
  ⟨fun k hk => by
    obtain ⟨ad, e, hlt, hc⟩ := h.1 k hk
    exact ⟨ad, e, Nat.lt_of_lt_of_le hlt hb.size, (hb.cell (by rw [add_block]; exact hlt)).trans hc⟩, fun x hx => (h.2 x hx).below hb⟩
theorem HeapAt.alloc {w : World} {A : Option Addr} {Ps : List PS} (h : HeapAt w A Ps) (o : Obj) : HeapAt (w.alloc o) A Ps := h.below ((Below.refl _ _).alloc (Nat.le_refl _) o)
/-- Places under way. -/
structure Bld (B : Nat) (Ps : List PS) (v : Value) (w : World) : Prop where
  row : w.ownsRow B 146 1 v Ps.length (Ps.map PS.sl)
  lv : ∀ x ∈ Ps, LRow w x
theorem place_leaf : (146 : TypeId) ≠ 77 := by decide
section
variable {B : Nat} {Ps : List PS} {v : Value} {w w1 w2 : World}
theorem Bld.nil (B : Nat) (w : World) : Bld B [] (.slice none 0 0) w := ⟨World.ownsRow_nil _ _ _ _, fun _ h => absurd h List.not_mem_nil⟩
theorem Bld.below (h : Bld B Ps v w) (hb : Below w.heap.size w w1) : Bld B Ps v w1 := ⟨raw_below h.row hb, fun x hx => (h.lv x hx).below hb⟩
theorem Bld.alloc (h : Bld B Ps v w) (o : Obj) : Bld B Ps v (w.alloc o) := h.below ((Below.refl _ _).alloc (Nat.le_refl _) o)
theorem Bld.drew (h : Bld B Ps v w) : Bld B Ps v w.drew := ⟨h.row, h.lv⟩
theorem Bld.mono {B' : Nat} (h : Bld B Ps v w) (hB : B' ≤ B) : Bld B' Ps v w := by
  refine ⟨?_, h.lv⟩
  rcases h.row.2 with ⟨e1, e2⟩ | ⟨gg, cap, cur, e1, e2, e3, e4⟩
  · exact ⟨h.row.1, Or.inl ⟨e1, e2⟩⟩
  · exact ⟨h.row.1, Or.inr ⟨gg, cap, cur, e1, Nat.le_trans hB e2, e3, e4⟩⟩
theorem Bld.off (h : Bld B Ps v w) {b : Nat} {cs : Array Value} {T : TypeId} {fr : Nat × Nat} (hb : w.heap[b]? = some (.cells cs T fr)) (hT : T ≠ 146) : v.ownBlock ≠ some b := fun e => by
  obtain ⟨c2, h2⟩ := own_block h.row b e
  rw [hb] at h2; injection h2 with h2; injection h2 with _ h2; exact hT h2
/-- A store into a block of another type. -/
theorem Bld.set (h : Bld B Ps v w) {b : Nat} {cs : Array Value} {T : TypeId} {fr : Nat × Nat} (hb : w.heap[b]? = some (.cells cs T fr)) (h1 : T ≠ 146) (h2 : T ≠ 77) (j : Nat) (u : Value) : Bld B Ps v (w.setCell ⟨b, j, none⟩ u) :=
  ⟨raw_set h.row (p := ⟨b, j, none⟩) (h.off hb h1) u, fun x hx => (h.lv x hx).set hb h2 j u⟩
theorem Bld.form (h : Bld B Ps v w) : ∃ (A : Option Addr) (c : Nat), v = .slice A Ps.length c ∧ (A = none → c = 0) := raw_form h.row
theorem Bld.heap {A : Option Addr} {n c : Nat} (h : Bld B Ps (.slice A n c) w) : n = Ps.length ∧ HeapAt w A Ps := by
  rcases h.row.2 with ⟨e1, e2⟩ | ⟨g, cap, cur, e1, _⟩
  · injection e1 with e1 e3 e4
    exact ⟨by omega, fun k hk => by omega, h.lv⟩
  · injection e1 with e1 e3 e4
    subst e1 e3 e4
    exact ⟨rfl, fun k hk => ⟨_, rfl, (h.row.lt g rfl).2, h.row.cells (g := g) rfl k _ (by rw [List.getElem?_map, List.getElem?_eq_getElem hk]; rfl)⟩, h.lv⟩
/-- One more place. -/
theorem Bld.push (h : Bld B Ps v w) {x : PS} (hx : LRow w x) {v2 : Value} (hg : w.grownBy w2 v.ownBlock) (hr : w2.ownsRow B 146 1 v2 (Ps.length + 1) (Ps.map PS.sl ++ [x.sl])) : Bld B (Ps ++ [x]) v2 w2 := by
  refine ⟨by rw [List.length_append, List.map_append]; exact hr, fun y hy => ?_⟩
  rcases List.mem_append.1 hy with hy | hy
  · exact (h.lv y hy).grown h.row place_leaf hg
  · rw [List.mem_singleton.1 hy]; exact hx.grown h.row place_leaf hg
end
/-- One place is set anew. -/
theorem Bld.put {B b n c : Nat} {Ps : List PS} {w : World} (h : Bld B Ps (.slice (some ⟨b, 0, none⟩) n c) w) {k : Nat} {x : PS} (hx : LRow w x) : Bld B (Ps.set k x) (.slice (some ⟨b, 0, none⟩) n c) (w.setCell ⟨b, k, none⟩ x.sl) := by
  obtain ⟨cs, hb⟩ := own_block h.row b rfl
  obtain rfl := h.heap.1
  refine ⟨?_, fun y hy => ?_⟩
  · rw [List.length_set, List.map_set]
    exact own_cell h.row k x.sl
  · rcases List.mem_or_eq_of_mem_set hy with hy | rfl
    · exact (h.lv y hy).set hb place_leaf k _
    · exact hx.set hb place_leaf k _
theorem BoxAt.grow {w w' : World} {b : Nat} {cs : Array Value} {T : TypeId} (h : BoxAt w b cs T) {B E size n : Nat} {v : Value} {xs : List Value} (ho : w.ownsRow B E size v n xs) (hE : E ≠ T) (hg : w.grownBy w' v.ownBlock) : BoxAt w' b cs T :=
  h.grown hg fun e => by
    obtain ⟨c2, h2⟩ := own_block ho b e.symm
    rw [h] at h2; injection h2 with h2; injection h2 with _ h2; exact hE h2.symm
def HeapPost (w : World) (C' R' : Nat) (P' : List (List Leaf)) (e : Ending) (w' : World) : Prop :=
  ∃ (A : Option Addr) (n c : Nat) (Ps : List PS), e = .returned (.agg #[.int .i64 C', .int .i64 R', .slice A n c]) ∧ Bld w.heap.size Ps (.slice A n c) w' ∧ Ps.map (·.l) = P' ∧ Below w.heap.size w w'
theorem info_place : (Tryz.prog.info? 146).map (fun i => (i.zero, i.size, i.bytes)) = some (some (.slice none 0 0), 1, 24) := by kernel_rfl
theorem tPlace : ElT 4 32 146 77 (.agg #[.int .i64 0, .int .i64 0, .int .i64 0, .int .i64 0]) := ⟨Tryz.underlying146, by kernel_rfl, rfl, by decide, by decide⟩
def turnR (o t : Int) (L : List Leaf) : List Leaf := (L.map (turnX o t)).reverse
theorem turnR_len (o t : Int) (L : List Leaf) : (turnR o t L).length = L.length := by simp [turnR]
theorem turnR_one (t : Int) (L : List Leaf) : turnR 1 t L = turnL 1 t L := by unfold turnR turnL; rw [if_pos rfl]
theorem xr_zero {a : Int} (h : Bit a) : xr a 0 = a := by rcases h with rfl | rfl <;> decide
theorem turnR_two (t : Int) (L : List Leaf) : turnR 0 0 (turnR 0 t L) = turnL 0 t L := by
  unfold turnR turnL
  rw [if_neg (by decide), List.map_reverse, List.reverse_reverse, List.map_map]
  apply List.map_congr_left
  intro x _
  show turnX 0 0 (turnX 0 t x) = turnX 0 t x
  unfold turnX
  simp only [xr_zero (xr_bit _ _)]
theorem turnR_bits {o t : Int} {L : List Leaf} : ∀ x ∈ turnR o t L, LeafBits x := by
  intro x hx
  have hx : x ∈ L.map (turnX o t) := by unfold turnR at hx; simpa using hx
  obtain ⟨y, _, rfl⟩ := List.mem_map.1 hx
  exact ⟨xr_bit _ _, xr_bit _ _⟩
theorem bits_mod {a b : Int} (ha : Bit a) (hb : Bit b) : (a + b).tmod 2 = xr a b := by rcases ha with rfl | rfl <;> rcases hb with rfl | rfl <;> decide
theorem turnR_succ {o t : Int} {L : List Leaf} {j : Nat} (hj : j < L.length) : ((L.drop (j + 1)).map (turnX o t)).reverse ++ [turnX o t L[j]] = ((L.drop j).map (turnX o t)).reverse := by
  rw [List.drop_eq_getElem_cons hj, List.map_cons, List.reverse_cons]
set_option maxRecDepth 100000 in
set_option maxHeartbeats 2000000 in
theorem refTurned_any (a : Option Addr) (L : List Leaf) (m c : Nat) (o t : Int) (w : World) (hL : RowsAt 4 Leaf.l w a L) (hm : m = L.length) (hl : L.length ≤ 1000) (hb : ∀ x ∈ L, LeafBits x) (ho : Bit o) (ht : Bit t) :
    Calls Tryz.prog 92 #[.slice a m c, .int .i64 o, .int .i64 t] w (ClonePost 4 77 Leaf.l w (turnR o t L)) := by
  subst hm
  have HB := Lib.hid hb; have HO := Lib.hid ho; have HT := Lib.hid ht
  clear hb ho ht
  go_enter Tryz.func92, Tryz.ntmps92
  go_wp2
  go_loopw [7, 8] (fun v i wr => ∃ j : Nat, j ≤ L.length ∧ i = .int .i64 ((j : Int) - 1) ∧ OwnR 4 77 Leaf.l wr w.heap.size v ((L.drop j).map (turnX o t)).reverse ∧ Below w.heap.size w wr) (fun v i _ => (intOf i + 1).toNat)
  case atStart => exact ⟨L.length, Nat.le_refl _, rfl, by rw [List.drop_length]; exact OwnR.nil _ _, Below.refl _ _⟩
  case round =>
    obtain ⟨j, hj, rfl, hO, hB⟩ := hrel
    cases j with
    | zero =>
      rw [List.drop_zero] at hO
      have HOO := Lib.hid hO
      clear hO
      obtain ⟨sa, sc, ev, -, -, -, -, -⟩ := HOO.out.rows leaf_l
      obtain ⟨sn, hsn⟩ : ∃ n, n = ((L.map (turnX o t)).reverse).length := ⟨_, rfl⟩
      rw [← hsn] at ev
      subst ev
      clear hsn
      go_wp2
      go_ret
      exact ⟨_, rfl, HOO.out, hB⟩
    | succ j =>
      obtain ⟨ad, rfl, had, s0, s1, s2, s3⟩ := (hL.below hB).leaf (k := j) (by omega)
      have HST := Lib.hid (turnR_succ (o := o) (t := t) (L := L) (j := j) (by omega))
      obtain ⟨x, ex⟩ : ∃ x, x = L[j] := ⟨_, rfl⟩
      rw [← ex] at s0 s1 s2 s3 HST
      have HXB : Hid (LeafBits x) := Lib.hid (by rw [ex]; exact HB.out _ (List.getElem_mem (by omega)))
      obtain ⟨xc, xrr, xo, xt⟩ := x
      have M1 := bits_mod HXB.out.1 HO.out
      have M2 := bits_mod HXB.out.2 HT.out
      have b1 : 0 ≤ xo ∧ xo ≤ 1 := by have : Bit xo := HXB.out.1
                                      unfold Bit at this; omega
      have b2 : 0 ≤ xt ∧ xt ≤ 1 := by have : Bit xt := HXB.out.2
                                      unfold Bit at this; omega
      have b3 : 0 ≤ o ∧ o ≤ 1 := by have := HO.out; unfold Bit at this; omega
      have b4 : 0 ≤ t ∧ t ≤ 1 := by have := HT.out; unfold Bit at this; omega
      obtain ⟨b5, b6⟩ := b1; obtain ⟨b7, b8⟩ := b2; obtain ⟨b9, b10⟩ := b3; obtain ⟨b11, b12⟩ := b4
      clear ex
      simp only at s0 s1 s2 s3 M1 M2
      have HLN : Hid (((L.drop (j + 1)).map (turnX o t)).reverse.length ≤ 1000) := Lib.hid (by simp; omega)
      obtain ⟨M, hM⟩ : ∃ M, M = ((L.drop (j + 1)).map (turnX o t)).reverse := ⟨_, rfl⟩
      rw [← hM] at hO HST HLN
      obtain ⟨sa, sc, ev, -, -, -, -, -⟩ := hO.rows leaf_l
      obtain ⟨sn, hsn⟩ : ∃ n, n = M.length := ⟨_, rfl⟩
      rw [← hsn] at ev
      subst ev
      have HSN := Lib.hid hsn
      have hjI : (j : Int) < (L.length : Int) := by omega
      clear hM hj hsn
      have hO1 := hO.alloc (.cells #[.int .i64 xc, .int .i64 xrr, .int .i64 (xr xo o), .int .i64 (xr xt t)] 77)
      go_wp2_with (at_builtin; refine wpList_appH tPlace leaf_l _ (Leaf.mk xc xrr (xr xo o) (xr xt t)) _ rfl rfl _ _ rfl w.heap.size _ M rfl hO1 (wr.heap.size + 1) (by simp) rfl (by have := HLN.out; omega) (by simp; have := hB.size; omega) ?_; intro gg cg wg hOg hgg hBg)
      rw [show M ++ [Leaf.mk xc xrr (xr xo o) (xr xt t)] = _ from HST.out] at hOg
      go_roundw
      case rel => exact ⟨j, by omega, by simp, hOg, (hB.alloc hB.size _).trans (hBg.mono (B' := w.heap.size) (Nat.le_refl _))⟩
      case measure => simp [intOf]
end Go.Proofs.YtgoandhlcekmiaaGreatDoor
