/-
  Package press, ahead of all: blocks of cells, small rows of numbers, numbers that an int can hold, rows of texts.
-/
import Derived.Test.YtdgegebplebeoaaGreatDoorIA
import Derived.Test.YtdgegebplebeoaaGreatDoorFB
import Derived.IntWalk
import Derived.DataShut
import Derived.Laws.ResultCell
import Derived.Laws.Slices
namespace Go.Proofs.YtdgegebplebeoaaGreatDoor
open Go.RowKit

/-- Block b holds the cells cs. -/
def BoxAt (w : World) (b : Nat) (cs : Array Value) (T : TypeId) : Prop := w.heap[b]? = some (.cells cs T (0, 0))
section
variable {w w' : World} {b : Nat} {cs : Array Value} {T : TypeId}
theorem BoxAt.lt (h : BoxAt w b cs T) : b < w.heap.size := by
  rcases Nat.lt_or_ge b w.heap.size with hlt | hge
  · exact hlt
  · unfold BoxAt at h; rw [Array.getElem?_eq_none hge] at h; cases h
theorem BoxAt.cell (h : BoxAt w b cs T) (j : Nat) : w.cell? ⟨b, j, none⟩ = cs[j]? := cell_of_row w b j cs T (0, 0) h
theorem BoxAt.free (h : BoxAt w b cs T) (j : Nat) : w.frozen? ⟨b, j, none⟩ = false := by
  unfold BoxAt at h; simp [World.frozen?, h]
theorem BoxAt.below (h : BoxAt w b cs T) (hb : Below w.heap.size w w') : BoxAt w' b cs T := (hb.block b h.lt).trans h
theorem BoxAt.alloc (h : BoxAt w b cs T) (o : Obj) : BoxAt (w.alloc o) b cs T := h.below ((Below.refl _ _).alloc (Nat.le_refl _) o)
theorem BoxAt.drew (h : BoxAt w b cs T) : BoxAt w.drew b cs T := h
theorem BoxAt.drewN (h : BoxAt w b cs T) (n : Nat) : BoxAt (w.drewN n) b cs T := h
theorem BoxAt.new (w : World) (cs : Array Value) (T : TypeId) : BoxAt (w.alloc (.cells cs T)) w.heap.size cs T := heap_alloc_new w _
theorem BoxAt.set (h : BoxAt w b cs T) (j : Nat) (u : Value) : BoxAt (w.setCell ⟨b, j, none⟩ u) b (cs.setIfInBounds j u) T := heap_setCell_same w b j cs T u h
theorem BoxAt.set_other (h : BoxAt w b cs T) {p : Addr} (hp : b ≠ p.block) (u : Value) : BoxAt (w.setCell p u) b cs T := (Below.heap_setCell _ _ _ _ hp).trans h
theorem BoxAt.grown (h : BoxAt w b cs T) {row : Option Nat} (hg : w.grownBy w' row) (hne : some b ≠ row) : BoxAt w' b cs T := (hg.block b h.lt hne).trans h
end
theorem Drew.box {w0 wr : World} (h : Drew w0 wr) {b : Nat} {cs : Array Value} {T : TypeId} (hi : BoxAt w0 b cs T) : BoxAt wr b cs T := by obtain ⟨n, rfl⟩ := h; exact hi
theorem IBoxBelow {B : Nat} {w w' : World} {b : Nat} {cs : Array Value} {T : TypeId} (h : BoxAt w b cs T) (hb : Below B w w') (hl : b < B) : BoxAt w' b cs T := (hb.block b hl).trans h
/-- A number that an int can hold. -/
def OkI (n : Int) : Prop := (Lit.int .i64 n).wf = true
theorem OkI.le {n : Int} (h : OkI n) : n ≤ 9223372036854775807 ∧ -9223372036854775808 ≤ n := by
  have := (Lit.wf_int_iff .i64 n).1 h
  have h1 : IntKind.i64.min = -9223372036854775808 := by decide
  have h2 : IntKind.i64.max = 9223372036854775807 := by decide
  omega
theorem OkI.of {n : Int} (h1 : -9223372036854775808 ≤ n) (h2 : n ≤ 9223372036854775807) : OkI n := by
  unfold OkI
  rw [Lit.wf_int_iff]
  have h3 : IntKind.i64.min = -9223372036854775808 := by decide
  have h4 : IntKind.i64.max = 9223372036854775807 := by decide
  omega
theorem two_int {a b : Int × Int} (h : a = b) : Ending.returned (.tuple #[.int .i64 a.1, .int .i64 a.2]) = .returned (.tuple #[.int .i64 b.1, .int .i64 b.2]) := by rw [h]
theorem two_to {a : Int × Int} {x y : Int} (h : a = (x, y)) : Ending.returned (.tuple #[.int .i64 x, .int .i64 y]) = .returned (.tuple #[.int .i64 a.1, .int .i64 a.2]) := by rw [h]
theorem two_eq {a b x y : Int} (h1 : a = x) (h2 : b = y) : Ending.returned (.tuple #[.int .i64 a, .int .i64 b]) = .returned (.tuple #[.int .i64 x, .int .i64 y]) := by rw [h1, h2]
theorem flip_same {P : Program} {f : FuncId} {args : Array Value} {w : World} {v : Value} (h : Calls P f args w fun e w' => e = .returned v ∧ w = w') : Calls P f args w fun e w' => e = .returned v ∧ w' = w := h.mono fun _ _ ⟨a, b⟩ => ⟨a, b.symm⟩
theorem any_step {α : Type} {p : α → Bool} {L : List α} {k : Nat} (hk : k < L.length) : (L.drop k).any p = (p L[k] || (L.drop (k + 1)).any p) := by
  rw [List.drop_eq_getElem_cons hk]; rfl
theorem any_stop {α : Type} {p : α → Bool} {L : List α} {k : Nat} (hk : ¬ k < L.length) : (L.drop k).any p = false := by
  rw [List.drop_of_length_le (by omega)]; rfl
theorem all_step {α : Type} {p : α → Bool} {L : List α} {k : Nat} (hk : k < L.length) : (L.drop k).all p = (p L[k] && (L.drop (k + 1)).all p) := by
  rw [List.drop_eq_getElem_cons hk]; rfl
theorem all_stop {α : Type} {p : α → Bool} {L : List α} {k : Nat} (hk : ¬ k < L.length) : (L.drop k).all p = true := by
  rw [List.drop_of_length_le (by omega)]; rfl
theorem mul_bd {a b A B : Int} (h1 : 0 ≤ a) (h2 : a ≤ A) (h3 : 0 ≤ b) (h4 : b ≤ B) : 0 ≤ a * b ∧ a * b ≤ A * B :=
  ⟨Int.mul_nonneg h1 h3, Int.mul_le_mul h2 h4 h3 (by omega)⟩
def CheckPost (n : Int) (w : World) (e : Ending) (w' : World) : Prop := e = .returned (.int .i64 n) ∧ Below w.heap.size w w'
def AggPost (v : Value) (w : World) (e : Ending) (w' : World) : Prop := e = .returned v ∧ Below w.heap.size w w'
/-- make of a row. -/
theorem run_make_rowX {t e : TypeId} {z : Value} {size bytes : Nat} (ht : Tryz.prog.underlying t = some (.slice e)) (hinfo : (Tryz.prog.info? e).map (fun i => (i.zero, i.size, i.bytes)) = some (some z, size, bytes)) (kl kc : IntKind) (n : Nat) (hbytes : bytes * n ≤ 281474976710656) (h63 : n ≤ 9223372036854775807) (w : World) :
    (Instr.makeSlice t (.int kl (n : Int)) (.int kc (n : Int))).run Tryz.prog w = .ok (.slice (some ⟨w.heap.size, 0, none⟩) n n) (w.alloc (.cells (madeCells z.cells (n * size)) e)) := by
  obtain ⟨i, hi, hzz⟩ := Option.map_eq_some_iff.1 hinfo
  simp only [Prod.mk.injEq] at hzz
  obtain ⟨hz, hs, hb⟩ := hzz
  have hb' : (i.bytes : Int) * (n : Int) ≤ 281474976710656 := by
    have h : ((i.bytes * n : Nat) : Int) ≤ 281474976710656 := by rw [hb]; omega
    rwa [Int.natCast_mul] at h
  have hr := run_make (P := Tryz.prog) w t e i z ht hi hz kl kc n n (by omega) (Int.le_refl _) hb' (by omega)
  simp only [Int.toNat_natCast, hs] at hr
  exact hr
theorem info_intN : (Tryz.prog.info? 3).map (fun i => (i.zero, i.size, i.bytes)) = some (some (.int .i64 0), 1, 8) := by kernel_rfl
def intL (x : Int) : List Int := [x]
theorem int_l : ∀ x : Int, (intL x).length = 1 := fun _ => rfl
theorem flat_int (M : List Int) : M.flatMap intL = M := by
  induction M with
  | nil => rfl
  | cons x M ih => rw [List.flatMap_cons, ih]; rfl
theorem tInt : ElT 1 8 49 3 (.int .i64 0) := ⟨Tryz.underlying49, by kernel_rfl, rfl, by decide, by decide⟩
theorem RowsAt.int {w : World} {a : Option Addr} {L : List Int} (h : RowsAt 1 intL w a L) {k : Nat} (hk : k < L.length) : ∃ ad, a = some ad ∧ ad.block < w.heap.size ∧ w.cell? (ad.add k) = some (.int .i64 L[k]) := by
  obtain ⟨ad, e, hlt, hs⟩ := h k hk
  exact ⟨ad, e, hlt, by have := hs 0 (by decide); rw [Nat.mul_one] at this; exact this⟩
theorem vals_len (M : List Int) : (vals M).length = M.length := by simp [vals]
/-- Block b holds the numbers M. -/
def IBox (w : World) (b : Nat) (M : List Int) : Prop := BoxAt w b (vals M).toArray 3
section
variable {w w' : World} {b : Nat} {M : List Int}
theorem IBox.lt (h : IBox w b M) : b < w.heap.size := BoxAt.lt h
theorem IBox.below (h : IBox w b M) (hb : Below w.heap.size w w') : IBox w' b M := BoxAt.below h hb
theorem IBox.alloc (h : IBox w b M) (o : Obj) : IBox (w.alloc o) b M := BoxAt.alloc h o
theorem IBox.drew (h : IBox w b M) : IBox w.drew b M := h
theorem IBox.drewN (h : IBox w b M) (n : Nat) : IBox (w.drewN n) b M := h
theorem IBox.free (h : IBox w b M) (j : Nat) : w.frozen? ⟨b, j, none⟩ = false := BoxAt.free h j
theorem IBox.cell (h : IBox w b M) {k : Nat} (hk : k < M.length) : w.cell? ⟨b, k, none⟩ = some (.int .i64 M[k]) := by
  rw [BoxAt.cell h k, List.getElem?_toArray, vals_at hk]
theorem IBox.set (h : IBox w b M) (k : Nat) (v : Int) : IBox (w.setCell ⟨b, k, none⟩ (.int .i64 v)) b (M.set k v) := by
  have h1 := BoxAt.set h k (.int .i64 v)
  have e : (vals M).toArray.setIfInBounds k (.int .i64 v) = (vals (M.set k v)).toArray := by
    apply Array.ext'
    rw [Array.toList_setIfInBounds]; simp [vals, List.map_set]
  rw [e] at h1; exact h1
theorem IBox.set_other (h : IBox w b M) {p : Addr} (hp : b ≠ p.block) (u : Value) : IBox (w.setCell p u) b M := BoxAt.set_other h hp u
theorem IBox.grown (h : IBox w b M) {row : Option Nat} (hg : w.grownBy w' row) (hne : some b ≠ row) : IBox w' b M := BoxAt.grown h hg hne
theorem IBox.rows (h : IBox w b M) : RowsAt 1 intL w (some ⟨b, 0, none⟩) M := fun k hk => by
  refine ⟨_, rfl, h.lt, fun j hj => ?_⟩
  obtain rfl : j = 0 := by omega
  rw [add0, fld_own, Nat.mul_one, Nat.add_zero, h.cell hk]; rfl
theorem IBox.made (w : World) (n : Nat) : IBox (w.alloc (.cells (madeCells #[.int .i64 0] n) 3)) w.heap.size (List.replicate n 0) := by
  have h := BoxAt.new w (madeCells #[.int .i64 0] n) 3
  have e : madeCells #[.int .i64 0] n = (vals (List.replicate n 0)).toArray := by
    apply Array.ext'
    rw [toList_madeCells_one]; simp [vals]
  rw [e] at h ⊢; exact h
theorem IBox.lit (w : World) (M : List Int) (cs : Array Value) (hcs : cs = (vals M).toArray) : IBox (w.alloc (.cells cs 3)) w.heap.size M := by
  subst hcs; exact BoxAt.new w _ _
end
theorem make_int (n : Nat) (h : n ≤ 1000000) (W : World) : (Instr.makeSlice 49 (.int .i64 (n : Int)) (.int .i64 (n : Int))).run Tryz.prog W = .ok (.slice (some ⟨W.heap.size, 0, none⟩) n n) (W.alloc (.cells (madeCells #[.int .i64 0] n) 3)) := by
  have h1 := run_make_rowX (t := 49) Tryz.underlying49 info_intN .i64 .i64 n (by omega) (by omega) W
  rw [Nat.mul_one] at h1
  exact h1
/-- A slice of texts. -/
def tx (s : ByteArray) : List Value := [.string s]
theorem tx_l : ∀ x : ByteArray, (tx x).length = 1 := fun _ => rfl
theorem tx_one : ∀ x : ByteArray, ∀ u ∈ tx x, u.oneCell' = true := fun x u hu => by rw [List.mem_singleton.1 hu]; rfl
theorem tTx : ElG 1 16 22 9 (.string ⟨#[]⟩) := ⟨Tryz.underlying22, by kernel_rfl, rfl, by decide, by decide⟩
theorem RowsG.txt {w : World} {a : Option Addr} {L : List ByteArray} (h : RowsG 1 tx w a L) {k : Nat} (hk : k < L.length) : ∃ ad, a = some ad ∧ ad.block < w.heap.size ∧ w.cell? (ad.add k) = some (.string L[k]) := by
  obtain ⟨ad, e, hlt, hs⟩ := h k hk
  exact ⟨ad, e, hlt, by have := hs 0 (by decide); rw [Nat.mul_one] at this; exact this⟩
theorem Drew.rowsG {α : Type} {n : Nat} {g : α → List Value} {a : Option Addr} {L : List α} {w0 wr : World} (h : Drew w0 wr) (hi : RowsG n g w0 a L) : RowsG n g wr a L := by obtain ⟨n, rfl⟩ := h; exact hi
/-- A block that is made with structs in it. -/
theorem rows_lit {α : Type} {n : Nat} {g : α → List Int} (hg : ∀ x, (g x).length = n) (w : World) (T : TypeId) (L : List α) (cs : Array Value) (hcs : cs = (vals (L.flatMap g)).toArray) : RowsAt n g (w.alloc (.cells cs T)) (some ⟨w.heap.size, 0, none⟩) L := by
  subst hcs
  intro k hk
  refine ⟨_, rfl, by simp, fun j hj => ?_⟩
  rw [add0, fld_own, cell_of_row _ w.heap.size _ _ _ (0, 0) (heap_alloc_new w _)]
  unfold vals
  rw [List.getElem?_toArray, List.getElem?_map, flat_at hg L k j hk hj]; rfl
theorem rowsG_lit {α : Type} {n : Nat} {g : α → List Value} (hg : ∀ x, (g x).length = n) (w : World) (T : TypeId) (L : List α) (cs : Array Value) (hcs : cs = (L.flatMap g).toArray) : RowsG n g (w.alloc (.cells cs T)) (some ⟨w.heap.size, 0, none⟩) L := by
  subst hcs
  intro k hk
  refine ⟨_, rfl, by simp, fun j hj => ?_⟩
  rw [add0, fld_own, cell_of_row _ w.heap.size _ _ _ (0, 0) (heap_alloc_new w _)]
  rw [List.getElem?_toArray, flatG_at hg L k j hk hj]

/-- 'l[:k]' and 'l[k:]'. -/
theorem cut_low {P : Program} (t : TypeId) (ad : Addr) (n c k : Nat) (ht : P.underlying t = some (.slice (P.elem t))) (s : Nat) (hs : ∀ W, (sizeOf (P.elem t)).run P W = .ok s W) (hk : k ≤ c) (W : World) :
    (Instr.sliceAt t (.slice (some ad) n c) none (some (.int .i64 k)) none).run P W = .ok (.slice (some ad) k c) W := by
  rw [run_sliceAt_slice W t _ _ _ _ ht, run_slice_h W t (some ad) n c ht .i64 k (by omega) (by omega), hs]
  simp [Result.andThen, sliced]
  unfold Addr.add; simp
theorem cut_high {P : Program} (t : TypeId) (ad : Addr) (n c k : Nat) (ht : P.underlying t = some (.slice (P.elem t))) (s : Nat) (hs : ∀ W, (sizeOf (P.elem t)).run P W = .ok s W) (hk : k ≤ n) (W : World) :
    (Instr.sliceAt t (.slice (some ad) n c) (some (.int .i64 k)) none none).run P W = .ok (.slice (some (if c = k then ad else ad.add (k * s))) (n - k) (c - k)) W := by
  rw [run_sliceAt_slice W t _ _ _ _ ht, run_slice_l W t (some ad) n c ht .i64 k (by omega) (by omega), hs]
  simp only [Result.andThen, sliced, Int.toNat_natCast]
  congr 3
  split <;> rfl
/-- The first items of a list. -/
theorem RowsAt.take {α : Type} {n : Nat} {g : α → List Int} {w : World} {a : Option Addr} {L : List α} (h : RowsAt n g w a L) (k : Nat) : RowsAt n g w a (L.take k) := fun j hj => by
  have hj' : j < L.length := by rw [List.length_take] at hj; omega
  obtain ⟨ad, e, hlt, hs⟩ := h j hj'
  refine ⟨ad, e, hlt, fun i hi => ?_⟩
  rw [List.getElem_take]; exact hs i hi
/-- The later ones. -/
theorem RowsAt.drop {α : Type} {n : Nat} {g : α → List Int} {w : World} {ad : Addr} {L : List α} (h : RowsAt n g w (some ad) L) (k : Nat) : RowsAt n g w (some (ad.add (k * n))) (L.drop k) := fun j hj => by
  have hj' : k + j < L.length := by rw [List.length_drop] at hj; omega
  obtain ⟨ad', e, hlt, hs⟩ := h (k + j) hj'
  cases e
  refine ⟨_, rfl, by rw [add_block]; exact hlt, fun i hi => ?_⟩
  rw [List.getElem_drop]
  rw [show (ad.add (k * n)).add (j * n) = ad.add ((k + j) * n) by
    rw [Nat.add_mul]
    unfold Addr.add
    by_cases h1 : k * n = 0
    · by_cases h2 : j * n = 0
      · rw [if_pos h2, if_pos h1, if_pos (by omega)]
      · rw [if_neg h2, if_pos h1, if_neg (by omega), h1, Nat.zero_add]
    · by_cases h2 : j * n = 0
      · rw [if_pos h2, if_neg h1, if_neg (by omega), h2, Nat.add_zero]
      · rw [if_neg h2, if_neg h1, if_neg (by omega), Nat.add_assoc]]
  exact hs i hi
set_option maxHeartbeats 400000 in
theorem isFrom_any (lo hi n : Int) (w : World) :
    Calls Tryz.prog 35 #[.int .i64 lo, .int .i64 hi, .int .i64 n] w fun e w' => e = .returned (.bool (inB n lo hi)) ∧ w = w' := by
  go_enter Tryz.func35, Tryz.ntmps35
  go_wp2
  all_goals go_ret
  all_goals exact ⟨ret_bool (by rw [Bool.eq_iff_iff]; simp [inB]; try omega), rfl⟩
set_option maxHeartbeats 400000 in
theorem within_any (n lo hi : Int) (w : World) :
    Calls Tryz.prog 33 #[.int .i64 n, .int .i64 lo, .int .i64 hi] w fun e w' => e = .returned (.bool (inB n lo hi)) ∧ w = w' := by
  go_enter Tryz.func33, Tryz.ntmps33
  go_wp2
  all_goals go_ret
  all_goals exact ⟨ret_bool (by rw [Bool.eq_iff_iff]; simp [inB]; try omega), rfl⟩
end Go.Proofs.YtdgegebplebeoaaGreatDoor
