/-
  strings.Builder as this program uses it: a builder that the call itself has made, its writers, its text.
-/
import Derived.Test.YtomblajlpanmjaaGreatDoorZA
import Derived.Test.YtomblajlpanmjaaGreatDoorShelf
import Derived.Lib.AppendStr
import Derived.Laws.Externs
import Derived.Laws.AppendOwnNone
import Derived.Test.YtomblajlpanmjaaGreatDoorYS
namespace Go.Proofs.YtomblajlpanmjaaGreatDoor
open Go.RowKit

/-- A builder of the call's own, in block b, from block B on, that holds the bytes l. -/
def Bld (B b : Nat) (l : List UInt8) (w : World) : Prop := Lib.IsBuilder 115 5 B b (Lib.byteCells l) w
def BldU (B b : Nat) (l : List UInt8) (w : World) : Prop := Lib.BuilderAt 115 5 B b (.pointer (some ⟨b, 0, none⟩)) (Lib.byteCells l) w
theorem byteCells_app (l m : List UInt8) : Lib.byteCells (l ++ m) = Lib.byteCells l ++ Lib.byteCells m := by simp [Lib.byteCells]
theorem strCells_eq (s : ByteArray) : Lib.strCells s = Lib.byteCells s.data.toList := rfl
theorem Bld.new (w : World) : Bld w.heap.size w.heap.size [] (w.alloc (.cells #[.pointer none, .slice none 0 0] 115)) := Lib.fresh_isBuilder _ _ _
theorem Bld.drew {B b : Nat} {l : List UInt8} {w : World} (h : Bld B b l w) : Bld B b l w.drew := h
theorem Bld.drewN {B b : Nat} {l : List UInt8} {w : World} (h : Bld B b l w) (n : Nat) : Bld B b l (w.drewN n) := h
theorem Bld.lt {B b : Nat} {l : List UInt8} {w : World} (h : Bld B b l w) : b < w.heap.size := by
  rcases h with h | h <;> exact h.lt
theorem Bld.le {B b : Nat} {l : List UInt8} {w : World} (h : Bld B b l w) : B ≤ b := by
  rcases h with h | h <;> exact h.1
/-- Of the blocks that were there every one stands as it stood that is not the builder's and holds no bytes. -/
def Oth (b : Nat) (w w' : World) : Prop := ∀ k cs T fr, k ≠ b → w.heap[k]? = some (.cells cs T fr) → T ≠ 5 → w'.heap[k]? = w.heap[k]?
theorem Oth.trans {b : Nat} {w w' w'' : World} (h : Oth b w w') (k : Oth b w' w'') : Oth b w w'' := fun i cs T fr hi hc hT =>
  (k i cs T fr hi ((h i cs T fr hi hc hT).trans hc) hT).trans (h i cs T fr hi hc hT)
theorem Oth.set_ (b : Nat) (w : World) (j : Nat) (v : Value) : Oth b w (w.setCell ⟨b, j, none⟩ v) := fun _ _ _ _ hk _ _ => Below.heap_setCell _ _ _ _ hk
theorem Oth.refl (b : Nat) (w : World) : Oth b w w := fun _ _ _ _ _ _ _ => rfl
theorem Oth.cell {b : Nat} {w w' : World} (h : Oth b w w') {k : Nat} {cs : Array Value} {T : TypeId} {fr : Nat × Nat} (hk : k ≠ b) (hc : w.heap[k]? = some (.cells cs T fr)) (hT : T ≠ 5) : w'.heap[k]? = some (.cells cs T fr) := (h k cs T fr hk hc hT).trans hc
theorem sizeB : (Tryz.prog.info? 115).map (·.size) = some 2 := by kernel_rfl
theorem infoU : (Tryz.prog.info? 5).map (fun i => (i.zero, i.size, i.bytes)) = some (some (.int .u8 0), 1, 1) := by kernel_rfl

set_option maxHeartbeats 1000000 in
set_option maxRecDepth 100000 in
theorem copied_used (b : Nat) (w : World) (h0 : w.cell? ⟨b, 0, none⟩ = some (.pointer (some ⟨b, 0, none⟩))) :
    Calls Tryz.prog 100 #[.pointer (some ⟨b, 0, none⟩)] w fun e w' => e = .returned (.tuple #[]) ∧ w' = w := by
  obtain ⟨j, hj, _⟩ := Option.map_eq_some_iff.1 sizeB
  go_enter Tryz.func100, Tryz.ntmps100
  go_wp2
  rw [Lib.run_neq_ptr_same w _ Tryz.underlying112 hj]
  go_wp2
  go_end0
  exact ⟨rfl, rfl⟩

set_option maxHeartbeats 1000000 in
set_option maxRecDepth 100000 in
theorem copied_fresh (b : Nat) (w : World) (h0 : w.cell? ⟨b, 0, none⟩ = some (.pointer none)) (hsh : w.shape? b = some (115, 2)) (hfz : w.frozen? ⟨b, 0, none⟩ = false) :
    Calls Tryz.prog 100 #[.pointer (some ⟨b, 0, none⟩)] w fun e w' => e = .returned (.tuple #[]) ∧ w' = w.setCell ⟨b, 0, none⟩ (.pointer (some ⟨b, 0, none⟩)) := by
  obtain ⟨j, hj, hjs⟩ := Option.map_eq_some_iff.1 sizeB
  go_enter Tryz.func100, Tryz.ntmps100
  go_wp2
  rw [Lib.run_to_unsafe w ⟨b, 0, none⟩ Tryz.underlying112 Tryz.underlying229 hj (by rw [hjs]; decide) hsh (Nat.zero_lt_succ 1)]
  simp only [Result.andThen]
  rw [Oper.upon_value]
  go_wp2
  rw [run_callFunc_extern Tryz.func140 (by kernel_rfl) (by kernel_rfl) (by kernel_rfl) (e := Extern.AbiNoEscape.same) (by kernel_rfl)]
  rw [Lib.run_noEscape]
  simp only [Result.andThen]
  rw [Oper.upon_value]
  go_wp2
  rw [Lib.run_from_unsafe w ⟨b, 0, none⟩ Tryz.underlying229 Tryz.underlying112 hj hsh (by exact Tryz.Builder_Extra_169.toX72.liesBuilder)]
  simp only [Result.andThen]
  rw [Oper.upon_value]
  go_wp2
  go_end0
  exact ⟨rfl, rfl⟩

theorem copied_any (B b : Nat) (l : List UInt8) (w : World) (h : Bld B b l w) :
    Calls Tryz.prog 100 #[.pointer (some ⟨b, 0, none⟩)] w fun e w' => e = .returned (.tuple #[]) ∧ BldU B b l w' ∧ Below B w w' ∧ Oth b w w' := by
  rcases h with h | h
  · refine (copied_fresh b w h.cell0 h.shape h.frozen0).mono ?_
    rintro e w' ⟨rfl, rfl⟩
    exact ⟨rfl, h.used _, (Below.refl B w).setCell (p := ⟨b, 0, none⟩) h.1 _, Oth.set_ _ _ _ _⟩
  · refine (copied_used b w h.cell0).mono ?_
    rintro e w' ⟨rfl, rfl⟩
    exact ⟨rfl, h, Below.refl B _, Oth.refl _ _⟩

set_option maxHeartbeats 2000000 in
set_option maxRecDepth 100000 in
theorem wStr_kept (B b : Nat) (l : List UInt8) (s : ByteArray) (w : World) (h : Bld B b l w) (hl : l.length + s.size ≤ 140737488355328) (hBw : B ≤ w.heap.size) :
    Calls Tryz.prog 55 #[.pointer (some ⟨b, 0, none⟩), .string s] w fun e w' => e = .returned (.tuple #[.int .i64 s.size, .nilIface]) ∧ Bld B b (l ++ s.data.toList) w' ∧ Below B w w' ∧ Oth b w w' := by
  obtain ⟨i0, hi, hz0, hz1, hz2⟩ := info_parts infoU
  go_enter Tryz.func55, Tryz.ntmps55
  go_wp2_with fail
  refine (copied_any B b l _ h).mono ?_
  rintro e w1 ⟨rfl, h1, hb1, ho1⟩
  obtain ⟨hB, v, hbk, hown, hne⟩ := h1
  have hsz := hb1.size
  have c0 : w1.cell? ⟨b, 0, none⟩ = some (.pointer (some ⟨b, 0, none⟩)) := by rw [Lib.cell_of_heap hbk]; rfl
  have c1 : w1.cell? ⟨b, 1, none⟩ = some v := by rw [Lib.cell_of_heap hbk]; rfl
  go_wp2_with (at_builtin; refine Lib.wpList_append_own_string _ rfl _ _ 113 9 rfl B 5 i0 Tryz.underlying113 Tryz.underlying9 hi hz0 hz1 hz2 _ _ _ rfl hown s rfl ?c3 ?c4 ?c5 ?_)
  case c3 => rw [Lib.byteCells_length]; unfold maxLen; omega
  case c4 => rw [Lib.byteCells_length]; omega
  case c5 => omega
  intro v' w2 hown' hgrow _
  have hlt : b < w1.heap.size := Lib.BuilderAt.lt ⟨hB, v, hbk, hown, hne⟩
  have hb2 : w2.heap[b]? = some (.cells #[.pointer (some ⟨b, 0, none⟩), v] 115 (0, 0)) := by
    rw [hgrow.block b hlt (fun e => hne e.symm)]
    exact hbk
  have d0 : w2.cell? ⟨b, 0, none⟩ = some (.pointer (some ⟨b, 0, none⟩)) := by rw [Lib.cell_of_heap hb2]; rfl
  have d1 : w2.cell? ⟨b, 1, none⟩ = some v := by rw [Lib.cell_of_heap hb2]; rfl
  have f1 : w2.frozen? ⟨b, 1, none⟩ = false := Lib.frozen_of_heap hb2 1
  obtain ⟨ao, n', cap, rfl⟩ : ∃ ao n' cap, v' = .slice ao n' cap := by
    rcases hown'.2 with ⟨hv, _⟩ | ⟨g, cap, cur, hv, _⟩
    · exact ⟨_, _, _, hv⟩
    · exact ⟨_, _, _, hv⟩
  go_wp2
  go_ret2
  refine ⟨rfl, .inr ?_, ?_, ?_⟩
  · rw [byteCells_app, ← strCells_eq]
    exact Lib.BuilderAt.put hB hb2 (by simpa [Lib.strCells_length, Lib.byteCells_length] using hown') (by decide)
  · exact (hb1.grown hgrow (by omega) (fun k hk => (hown.lt k hk).1)).setCell (p := ⟨b, 1, none⟩) hB _
  · refine (ho1.trans (fun k cs T fr _ hc hT => ?_)).trans (Oth.set_ _ _ _ _)
    have hklt : k < w1.heap.size := by
      rcases Nat.lt_or_ge k w1.heap.size with h | h
      · exact h
      · rw [Array.getElem?_eq_none h] at hc; cases hc
    exact hgrow.block k hklt (fun e => Lib.ownBlock_ne hown hc hT e.symm)

theorem wStr_any (B b : Nat) (l : List UInt8) (s : ByteArray) (w : World) (h : Bld B b l w) (hl : l.length + s.size ≤ 140737488355328) (hBw : B ≤ w.heap.size) :
    Calls Tryz.prog 55 #[.pointer (some ⟨b, 0, none⟩), .string s] w fun e w' => e = .returned (.tuple #[.int .i64 s.size, .nilIface]) ∧ Bld B b (l ++ s.data.toList) w' ∧ Below B w w' :=
  (wStr_kept B b l s w h hl hBw).mono fun _ _ ⟨h1, h2, h3, _⟩ => ⟨h1, h2, h3⟩

theorem bStr_any (B b : Nat) (l : List UInt8) (w : World) (h : Bld B b l w) (hBw : B ≤ w.heap.size) :
    Calls Tryz.prog 58 #[.pointer (some ⟨b, 0, none⟩)] w fun e w' => e = .returned (.string ⟨l.toArray⟩) ∧ Below B w w' :=
  Tryz.Builder_String_any B b l w h hBw
end Go.Proofs.YtomblajlpanmjaaGreatDoor
/-
  Lists of sorts: their error, width, need.
-/
namespace Go.Proofs.YtomblajlpanmjaaGreatDoor
open Go.RowKit Go.Maps

def idxBad (n : Nat) (x : Int) : Bool := decide (x < 0 ∨ (n : Int) ≤ x)
theorem bad_cons {n : Nat} {l : List Int} {k : Nat} (h : k < l.length) : (l.drop k).any (idxBad n) = (idxBad n (l.getD k 0) || (l.drop (k + 1)).any (idxBad n)) := by
  rw [List.drop_eq_getElem_cons h, getI h]; rfl
theorem bad_end {n : Nat} {l : List Int} {k : Nat} (h : ¬ k < l.length) : (l.drop k).any (idxBad n) = false := by
  rw [List.drop_of_length_le (by omega)]; rfl

end Go.Proofs.YtomblajlpanmjaaGreatDoor

/-
  Lists of sorts: their text, their need.
-/
namespace Go.Proofs.YtomblajlpanmjaaGreatDoor
open Go.RowKit Go.Maps

theorem text_bd {f : FT} (h : (checkF f).2 = 0) {k : Nat} (hk : k < f.sorts.length) : (f.sorts.getD k noTS).text.size ≤ 4 := by
  obtain ⟨_, _, ha⟩ := checkF_right h
  obtain ⟨_, _, h3, _, h5⟩ := sortErr_zero (ha k hk)
  unfold textErr at h5
  split at h5
  · cases h5
  rename_i h6
  have h6 : inB (f.sorts.getD k noTS).text.size (leastOf (f.sorts.getD k noTS).kind) (mostOf (f.sorts.getD k noTS).kind) = true := by simpa using h6
  have h7 := (of_decide_eq_true (show decide _ = true from h6)).2
  unfold mostOf at h7
  split at h7
  · omega
  split at h7 <;> omega
end Go.Proofs.YtomblajlpanmjaaGreatDoor

/-
  Copies of founts.
-/
namespace Go.Proofs.YtomblajlpanmjaaGreatDoor
open Go.RowKit Go.Maps

def sCells (x : TS) : List Value := [.string x.name, .string x.text, .int .i64 x.kind, .int .i64 x.width]
def sVals (l : List TS) : List Value := l.flatMap sCells
theorem sVals_at {l : List TS} {k r : Nat} (h : k < l.length) (hr : r < 4) : (sVals l)[k * 4 + r]? = (sCells (l.getD k noTS))[r]? := by
  unfold sVals
  induction l generalizing k with
  | nil => simp at h
  | cons x t ih =>
    rw [List.flatMap_cons]
    cases k with
    | zero =>
      rw [List.getElem?_append_left (by show 0 * 4 + r < 4; omega)]
      rw [Nat.zero_mul, Nat.zero_add]; rfl
    | succ k =>
      rw [List.getElem?_append_right (by show 4 ≤ _; omega)]
      have : (k + 1) * 4 + r - (sCells x).length = k * 4 + r := by show (k + 1) * 4 + r - 4 = _; omega
      rw [this, ih (by simpa using h)]
      rfl
theorem add_add (ad : Addr) (k r : Nat) : ad.add (k * 4 + r) = if r = 0 then ad.add (k * 4) else ⟨(ad.add (k * 4)).block, (ad.add (k * 4)).off + r, none⟩ := by
  unfold Addr.add
  by_cases hr : r = 0
  · subst hr; rw [if_pos rfl]; rfl
  · rw [if_neg hr]
    by_cases hk : k * 4 = 0
    · rw [if_neg (by omega), if_pos hk, hk, Nat.zero_add]
    · rw [if_neg (by omega), if_neg hk, Nat.add_assoc]
theorem sorts_of_row {w : World} {base g n cap : Nat} {l : List TS} (h : w.ownsRow base 97 4 (.slice (some ⟨g, 0, none⟩) n cap) n (sVals l)) : SortsAt w (some ⟨g, 0, none⟩) l := by
  intro k hk
  have hc : ∀ r v, r < 4 → (sCells (l.getD k noTS))[r]? = some v → w.cell? ⟨g, k * 4 + r, none⟩ = some v := fun r v hr hv =>
    (by have := h.cells (g := g) rfl (k * 4 + r) _ (by rw [sVals_at hk hr]; exact hv); rwa [add0] at this)
  have e : (⟨g, 0, none⟩ : Addr).add (k * 4) = ⟨g, k * 4, none⟩ := add0 g (k * 4)
  refine ⟨_, rfl, (h.lt g rfl).2, ?_, ?_, ?_, ?_⟩
  · rw [e]; exact hc 0 _ (by omega) rfl
  · rw [e]; exact hc 1 _ (by omega) rfl
  · rw [e]; exact hc 2 _ (by omega) rfl
  · rw [e]; exact hc 3 _ (by omega) rfl
theorem infoTS : (Tryz.prog.info? 97).map (fun i => (i.zero, i.size, i.bytes)) = some (some (.agg #[.string ⟨#[]⟩, .string ⟨#[]⟩, .int .i64 0, .int .i64 0]), 4, 48) := by kernel_rfl

theorem SortAt.far {w : World} {q p : Addr} {x : TS} (h : SortAt w q x) (hp : q.block ≠ p.block) (u : Value) : SortAt (w.setCell p u) q x := by
  have hc : ∀ r : Addr, r.block = q.block → (w.setCell p u).cell? r = w.cell? r := fun r hr => World.cell?_setCell_other _ _ _ _ (fun e => hp (by rw [← hr, ← e]))
  exact ⟨(hc _ rfl).trans h.1, (hc ⟨q.block, _, none⟩ rfl).trans h.2.1, (hc ⟨q.block, _, none⟩ rfl).trans h.2.2.1, (hc ⟨q.block, _, none⟩ rfl).trans h.2.2.2⟩
theorem SortsAt.far {w : World} {ad p : Addr} {l : List TS} (h : SortsAt w (some ad) l) (hp : ad.block ≠ p.block) (u : Value) : SortsAt (w.setCell p u) (some ad) l := by
  intro k hk
  obtain ⟨_, e, hlt, hs⟩ := h k hk
  cases e
  exact ⟨ad, rfl, by simpa [World.setCell] using hlt, hs.far (by rw [add_block]; exact hp) u⟩
end Go.Proofs.YtomblajlpanmjaaGreatDoor

/-
  What a list needs; the reference's lists: their error, width, need.
-/
namespace Go.Proofs.YtomblajlpanmjaaGreatDoor
open Go.RowKit Go.Maps

end Go.Proofs.YtomblajlpanmjaaGreatDoor
