/-
  strings.Builder as this program uses it: a builder that the call itself has made, its writers, its text.
-/
import Derived.Test.YtlkkociijfdcgaaGreatDoorZA
import Derived.Test.YtlkkociijfdcgaaGreatDoorShelf
import Derived.Lib.AppendStr
import Derived.Laws.Externs
import Derived.Laws.AppendOwnNone
import Derived.Test.YtlkkociijfdcgaaGreatDoorYS
namespace Go.Proofs.YtlkkociijfdcgaaGreatDoor
open Go.RowKit

/-- A builder of the call's own, in block b, from block B on, that holds the bytes l. -/
def Bld (B b : Nat) (l : List UInt8) (w : World) : Prop := Lib.IsBuilder 140 5 B b (Lib.byteCells l) w
def BldU (B b : Nat) (l : List UInt8) (w : World) : Prop := Lib.BuilderAt 140 5 B b (.pointer (some ⟨b, 0, none⟩)) (Lib.byteCells l) w
theorem BldU.bld {B b : Nat} {l : List UInt8} {w : World} (h : BldU B b l w) : Bld B b l w := .inr h
theorem byteCells_app (l m : List UInt8) : Lib.byteCells (l ++ m) = Lib.byteCells l ++ Lib.byteCells m := by simp [Lib.byteCells]
theorem strCells_eq (s : ByteArray) : Lib.strCells s = Lib.byteCells s.data.toList := rfl
theorem Bld.new (w : World) : Bld w.heap.size w.heap.size [] (w.alloc (.cells #[.pointer none, .slice none 0 0] 140)) := Lib.fresh_isBuilder _ _ _
theorem Bld.drew {B b : Nat} {l : List UInt8} {w : World} (h : Bld B b l w) : Bld B b l w.drew := h
theorem Bld.drewN {B b : Nat} {l : List UInt8} {w : World} (h : Bld B b l w) (n : Nat) : Bld B b l (w.drewN n) := h
theorem Bld.lt {B b : Nat} {l : List UInt8} {w : World} (h : Bld B b l w) : b < w.heap.size := by
  rcases h with h | h <;> exact h.lt
theorem Bld.le {B b : Nat} {l : List UInt8} {w : World} (h : Bld B b l w) : B ≤ b := by
  rcases h with h | h <;> exact h.1
/-- Of the blocks that were there every one stands as it stood that is not the builder's and holds no bytes. -/
def Oth (b : Nat) (w w' : World) : Prop := ∀ k cs T fr, k ≠ b → w.heap[k]? = some (.cells cs T fr) → T ≠ 5 → w'.heap[k]? = w.heap[k]?
theorem Oth.trans {b : Nat} {w w' w'' : World} (h : Oth b w w') (k : Oth b w' w'') : Oth b w w'' := fun i cs T fr hi hc hT =>
  (k i cs T fr hi ((h i cs T fr hi hc hT).trans hc) hT).trans (h i cs T fr hi hc hT)
theorem Oth.set_ (b : Nat) (w : World) (j : Nat) (v : Value) : Oth b w (w.setCell ⟨b, j, none⟩ v) := fun _ _ _ _ hk _ _ => Below.heap_setCell _ _ _ _ hk
theorem Oth.refl (b : Nat) (w : World) : Oth b w w := fun _ _ _ _ _ _ _ => rfl
theorem Oth.cell {b : Nat} {w w' : World} (h : Oth b w w') {k : Nat} {cs : Array Value} {T : TypeId} {fr : Nat × Nat} (hk : k ≠ b) (hc : w.heap[k]? = some (.cells cs T fr)) (hT : T ≠ 5) : w'.heap[k]? = some (.cells cs T fr) := (h k cs T fr hk hc hT).trans hc
theorem sizeB : (Tryz.prog.info? 140).map (·.size) = some 2 := by kernel_rfl
theorem infoU : (Tryz.prog.info? 5).map (fun i => (i.zero, i.size, i.bytes)) = some (some (.int .u8 0), 1, 1) := by kernel_rfl

set_option maxHeartbeats 1000000 in
set_option maxRecDepth 100000 in
theorem copied_used (b : Nat) (w : World) (h0 : w.cell? ⟨b, 0, none⟩ = some (.pointer (some ⟨b, 0, none⟩))) :
    Calls Tryz.prog 137 #[.pointer (some ⟨b, 0, none⟩)] w fun e w' => e = .returned (.tuple #[]) ∧ w' = w := by
  obtain ⟨j, hj, _⟩ := Option.map_eq_some_iff.1 sizeB
  go_enter Tryz.func137, Tryz.ntmps137
  go_wp2
  rw [Lib.run_neq_ptr_same w _ Tryz.underlying137 hj]
  go_wp2
  go_end0
  exact ⟨rfl, rfl⟩

set_option maxHeartbeats 1000000 in
set_option maxRecDepth 100000 in
theorem copied_fresh (b : Nat) (w : World) (h0 : w.cell? ⟨b, 0, none⟩ = some (.pointer none)) (hsh : w.shape? b = some (140, 2)) (hfz : w.frozen? ⟨b, 0, none⟩ = false) :
    Calls Tryz.prog 137 #[.pointer (some ⟨b, 0, none⟩)] w fun e w' => e = .returned (.tuple #[]) ∧ w' = w.setCell ⟨b, 0, none⟩ (.pointer (some ⟨b, 0, none⟩)) := by
  obtain ⟨j, hj, hjs⟩ := Option.map_eq_some_iff.1 sizeB
  go_enter Tryz.func137, Tryz.ntmps137
  go_wp2
  rw [Lib.run_to_unsafe w ⟨b, 0, none⟩ Tryz.underlying137 Tryz.underlying262 hj (by rw [hjs]; decide) hsh (Nat.zero_lt_succ 1)]
  simp only [Result.andThen]
  rw [Oper.upon_value]
  go_wp2
  rw [run_callFunc_extern Tryz.func182 (by kernel_rfl) (by kernel_rfl) (by kernel_rfl) (e := Extern.AbiNoEscape.same) (by kernel_rfl)]
  rw [Lib.run_noEscape]
  simp only [Result.andThen]
  rw [Oper.upon_value]
  go_wp2
  rw [Lib.run_from_unsafe w ⟨b, 0, none⟩ Tryz.underlying262 Tryz.underlying137 hj hsh (by exact Tryz.Builder_Extra_169.toX72.liesBuilder)]
  simp only [Result.andThen]
  rw [Oper.upon_value]
  go_wp2
  go_end0
  exact ⟨rfl, rfl⟩

theorem copied_any (B b : Nat) (l : List UInt8) (w : World) (h : Bld B b l w) :
    Calls Tryz.prog 137 #[.pointer (some ⟨b, 0, none⟩)] w fun e w' => e = .returned (.tuple #[]) ∧ BldU B b l w' ∧ Below B w w' ∧ Oth b w w' := by
  rcases h with h | h
  · refine (copied_fresh b w h.cell0 h.shape h.frozen0).mono ?_
    rintro e w' ⟨rfl, rfl⟩
    exact ⟨rfl, h.used _, (Below.refl B w).setCell (p := ⟨b, 0, none⟩) h.1 _, Oth.set_ _ _ _ _⟩
  · refine (copied_used b w h.cell0).mono ?_
    rintro e w' ⟨rfl, rfl⟩
    exact ⟨rfl, h, Below.refl B _, Oth.refl _ _⟩

set_option maxHeartbeats 2000000 in
set_option maxRecDepth 100000 in
theorem wByte_any (B b : Nat) (l : List UInt8) (c : UInt8) (w : World) (h : Bld B b l w) (hl : l.length + 1 ≤ 140737488355328) (hBw : B ≤ w.heap.size) :
    Calls Tryz.prog 93 #[.pointer (some ⟨b, 0, none⟩), .int .u8 c.toNat] w fun e w' => e = .returned .nilIface ∧ Bld B b (l ++ [c]) w' ∧ Below B w w' := by
  obtain ⟨i0, hi, hz0, hz1, hz2⟩ := info_parts infoU
  go_enter Tryz.func93, Tryz.ntmps93
  go_wp2_with fail
  refine (copied_any B b l _ h).mono ?_
  rintro e w1 ⟨rfl, h1, hb1, _⟩
  obtain ⟨hB, v, hbk, hown, hne⟩ := h1
  have hsz := hb1.size
  have c0 : w1.cell? ⟨b, 0, none⟩ = some (.pointer (some ⟨b, 0, none⟩)) := by rw [Lib.cell_of_heap hbk]; rfl
  have c1 : w1.cell? ⟨b, 1, none⟩ = some v := by rw [Lib.cell_of_heap hbk]; rfl
  go_wp2_with (at_builtin; refine wpList_append_own _ rfl _ _ 138 rfl B 5 i0 (.int .u8 0) 1 1 Tryz.underlying138 hi hz0 hz1 hz2 rfl (by decide) _ _ _ rfl (hown.alloc _) ⟨w1.heap.size, 0, none⟩ 1 1 [.int .u8 c.toNat] rfl rfl ?c1 ?c2 ?c3 ?c4 ?c5 ?_)
  case c1 =>
    intro j u hj
    match j, hj with
    | 0, hj => simp at hj; subst hj; simp [Addr.add]
  case c2 => intro u hu; simp at hu; subst hu; rfl
  case c3 => rw [Lib.byteCells_length]; unfold maxLen; simp; omega
  case c4 => rw [Lib.byteCells_length]; simp; omega
  case c5 => simp; omega
  intro v' w2 hown' hgrow _
  have hlt : b < w1.heap.size := Lib.BuilderAt.lt ⟨hB, v, hbk, hown, hne⟩
  have hb2 : w2.heap[b]? = some (.cells #[.pointer (some ⟨b, 0, none⟩), v] 140 (0, 0)) := by
    rw [hgrow.block b (by simp; omega) (fun e => hne e.symm), Lib.alloc_old w1 _ b hlt]
    exact hbk
  have d0 : w2.cell? ⟨b, 0, none⟩ = some (.pointer (some ⟨b, 0, none⟩)) := by rw [Lib.cell_of_heap hb2]; rfl
  have d1 : w2.cell? ⟨b, 1, none⟩ = some v := by rw [Lib.cell_of_heap hb2]; rfl
  have f1 : w2.frozen? ⟨b, 1, none⟩ = false := Lib.frozen_of_heap hb2 1
  obtain ⟨ao, n', cap, rfl⟩ : ∃ ao n' cap, v' = .slice ao n' cap := by
    rcases hown'.2 with ⟨hv, _⟩ | ⟨g, cap, cur, hv, _⟩
    · exact ⟨_, _, _, hv⟩
    · exact ⟨_, _, _, hv⟩
  go_wp2
  go_ret
  have hn : Lib.byteCells (l ++ [c]) = Lib.byteCells l ++ [.int .u8 c.toNat] := byteCells_app _ _
  refine ⟨rfl, .inr ?_, ?_⟩
  · rw [hn]
    exact Lib.BuilderAt.put hB hb2 (by simpa [Lib.byteCells_length] using hown') (by decide)
  · exact ((hb1.alloc (by omega) _).grown hgrow (by simp; omega) (fun k hk => (hown.lt k hk).1)).setCell (p := ⟨b, 1, none⟩) hB _

set_option maxHeartbeats 2000000 in
set_option maxRecDepth 100000 in
theorem wStr_kept (B b : Nat) (l : List UInt8) (s : ByteArray) (w : World) (h : Bld B b l w) (hl : l.length + s.size ≤ 140737488355328) (hBw : B ≤ w.heap.size) :
    Calls Tryz.prog 82 #[.pointer (some ⟨b, 0, none⟩), .string s] w fun e w' => e = .returned (.tuple #[.int .i64 s.size, .nilIface]) ∧ Bld B b (l ++ s.data.toList) w' ∧ Below B w w' ∧ Oth b w w' := by
  obtain ⟨i0, hi, hz0, hz1, hz2⟩ := info_parts infoU
  go_enter Tryz.func82, Tryz.ntmps82
  go_wp2_with fail
  refine (copied_any B b l _ h).mono ?_
  rintro e w1 ⟨rfl, h1, hb1, ho1⟩
  obtain ⟨hB, v, hbk, hown, hne⟩ := h1
  have hsz := hb1.size
  have c0 : w1.cell? ⟨b, 0, none⟩ = some (.pointer (some ⟨b, 0, none⟩)) := by rw [Lib.cell_of_heap hbk]; rfl
  have c1 : w1.cell? ⟨b, 1, none⟩ = some v := by rw [Lib.cell_of_heap hbk]; rfl
  go_wp2_with (at_builtin; refine Lib.wpList_append_own_string _ rfl _ _ 138 9 rfl B 5 i0 Tryz.underlying138 Tryz.underlying9 hi hz0 hz1 hz2 _ _ _ rfl hown s rfl ?c3 ?c4 ?c5 ?_)
  case c3 => rw [Lib.byteCells_length]; unfold maxLen; omega
  case c4 => rw [Lib.byteCells_length]; omega
  case c5 => omega
  intro v' w2 hown' hgrow _
  have hlt : b < w1.heap.size := Lib.BuilderAt.lt ⟨hB, v, hbk, hown, hne⟩
  have hb2 : w2.heap[b]? = some (.cells #[.pointer (some ⟨b, 0, none⟩), v] 140 (0, 0)) := by
    rw [hgrow.block b hlt (fun e => hne e.symm)]
    exact hbk
  have d0 : w2.cell? ⟨b, 0, none⟩ = some (.pointer (some ⟨b, 0, none⟩)) := by rw [Lib.cell_of_heap hb2]; rfl
  have d1 : w2.cell? ⟨b, 1, none⟩ = some v := by rw [Lib.cell_of_heap hb2]; rfl
  have f1 : w2.frozen? ⟨b, 1, none⟩ = false := Lib.frozen_of_heap hb2 1
  obtain ⟨ao, n', cap, rfl⟩ : ∃ ao n' cap, v' = .slice ao n' cap := by
    rcases hown'.2 with ⟨hv, _⟩ | ⟨g, cap, cur, hv, _⟩
    · exact ⟨_, _, _, hv⟩
    · exact ⟨_, _, _, hv⟩
  go_wp2
  go_ret2
  refine ⟨rfl, .inr ?_, ?_, ?_⟩
  · rw [byteCells_app, ← strCells_eq]
    exact Lib.BuilderAt.put hB hb2 (by simpa [Lib.strCells_length, Lib.byteCells_length] using hown') (by decide)
  · exact (hb1.grown hgrow (by omega) (fun k hk => (hown.lt k hk).1)).setCell (p := ⟨b, 1, none⟩) hB _
  · refine (ho1.trans (fun k cs T fr _ hc hT => ?_)).trans (Oth.set_ _ _ _ _)
    have hklt : k < w1.heap.size := by
      rcases Nat.lt_or_ge k w1.heap.size with h | h
      · exact h
      · rw [Array.getElem?_eq_none h] at hc; cases hc
    exact hgrow.block k hklt (fun e => Lib.ownBlock_ne hown hc hT e.symm)

theorem wStr_any (B b : Nat) (l : List UInt8) (s : ByteArray) (w : World) (h : Bld B b l w) (hl : l.length + s.size ≤ 140737488355328) (hBw : B ≤ w.heap.size) :
    Calls Tryz.prog 82 #[.pointer (some ⟨b, 0, none⟩), .string s] w fun e w' => e = .returned (.tuple #[.int .i64 s.size, .nilIface]) ∧ Bld B b (l ++ s.data.toList) w' ∧ Below B w w' :=
  (wStr_kept B b l s w h hl hBw).mono fun _ _ ⟨h1, h2, h3, _⟩ => ⟨h1, h2, h3⟩

theorem bStr_any (B b : Nat) (l : List UInt8) (w : World) (h : Bld B b l w) (hBw : B ≤ w.heap.size) :
    Calls Tryz.prog 85 #[.pointer (some ⟨b, 0, none⟩)] w fun e w' => e = .returned (.string ⟨l.toArray⟩) ∧ Below B w w' :=
  Tryz.Builder_String_any B b l w h hBw
end Go.Proofs.YtlkkociijfdcgaaGreatDoor
/-
  Lists of sorts: their error, width, need.
-/
namespace Go.Proofs.YtlkkociijfdcgaaGreatDoor
open Go.RowKit Go.Maps

def idxBad (n : Nat) (x : Int) : Bool := decide (x < 0 ∨ (n : Int) ≤ x)
def listErr (f : FT) (l : List Int) : Int := if (checkF f).2 ≠ 0 then (checkF f).2 else if 10000 < l.length then 8 else if l.any (idxBad f.sorts.length) = true then 6 else 0
theorem listErr_zero {f : FT} {l : List Int} (h : listErr f l = 0) : (checkF f).2 = 0 ∧ l.length ≤ 10000 ∧ OkIdx l f.sorts.length := by
  unfold listErr at h
  split at h
  · rename_i h1; exact absurd h h1
  rename_i h1
  split at h
  · cases h
  rename_i h2
  split at h
  · cases h
  rename_i h3
  refine ⟨Decidable.not_not.1 h1, by omega, fun j hj => ?_⟩
  have : idxBad f.sorts.length (l.getD j 0) = false := by
    cases e : idxBad f.sorts.length (l.getD j 0)
    · rfl
    · rw [getI hj] at e; exact absurd (List.any_eq_true.2 ⟨_, List.getElem_mem hj, e⟩) h3
  unfold idxBad at this
  have := of_decide_eq_false this
  exact ⟨(l.getD j 0).toNat, by omega, by omega⟩
theorem bad_cons {n : Nat} {l : List Int} {k : Nat} (h : k < l.length) : (l.drop k).any (idxBad n) = (idxBad n (l.getD k 0) || (l.drop (k + 1)).any (idxBad n)) := by
  rw [List.drop_eq_getElem_cons h, getI h]; rfl
theorem bad_end {n : Nat} {l : List Int} {k : Nat} (h : ¬ k < l.length) : (l.drop k).any (idxBad n) = false := by
  rw [List.drop_of_length_le (by omega)]; rfl

set_option maxRecDepth 100000 in
set_option maxHeartbeats 1000000 in
theorem hasSort_any (f : FT) (a : Option Addr) (c : Nat) (x : Int) (w : World) :
    Calls Tryz.prog 172 #[.agg #[.string f.name, .int .i64 f.body, .slice a f.sorts.length c], .int .i64 x] w fun e w' => e = .returned (.bool (!idxBad f.sorts.length x)) ∧ Below w.heap.size w w' := by
  have hB := (Below.refl w.heap.size w).alloc (Nat.le_refl _) (.cells #[.string f.name, .int .i64 f.body, .slice a f.sorts.length c] 59)
  by_cases h : x < 0
  · have HE := Lib.hid (show idxBad f.sorts.length x = true from decide_eq_true (Or.inl h))
    go_enter Tryz.func172, Tryz.ntmps172
    go_wp2
    go_ret
    exact ⟨by rw [HE.out]; rfl, hB⟩
  · by_cases h2 : (f.sorts.length : Int) ≤ x
    · have HE := Lib.hid (show idxBad f.sorts.length x = true from decide_eq_true (Or.inr h2))
      go_enter Tryz.func172, Tryz.ntmps172
      go_wp2
      go_ret
      exact ⟨by rw [HE.out]; show Ending.returned (.bool (decide (x < (f.sorts.length : Int)))) = _; rw [decide_eq_false (by omega)]; rfl, hB⟩
    · have HE := Lib.hid (show idxBad f.sorts.length x = false from decide_eq_false (by omega))
      have h3 : 0 ≤ x := by omega
      have h4 : x < f.sorts.length := by omega
      go_enter Tryz.func172, Tryz.ntmps172
      go_wp2
      go_ret
      exact ⟨by rw [HE.out]; rfl, hB⟩

set_option maxRecDepth 100000 in
set_option maxHeartbeats 2000000 in
theorem errorOfList_any (f : FT) (a : Option Addr) (c : Nat) (b : Option Addr) (l : List Int) (d : Nat) (w : World) (hF : FAt w a f) (hX : IntsAt w b l) (hl : l.length ≤ maxLen) :
    Calls Tryz.prog 130 #[.agg #[.string f.name, .int .i64 f.body, .slice a f.sorts.length c], .slice b l.length d] w fun e w' => e = .returned (.int .i64 (listErr f l)) ∧ Below w.heap.size w w' := by
  have hB0 : Below (w.heap.size + 1) (w.alloc (boxF f a c)) (w.alloc (boxF f a c)) := Below.refl _ _
  have E0 := Env.of hF hB0
  unfold maxLen at hl
  by_cases h0 : (checkF f).2 = 0
  · obtain ⟨_, hR, _⟩ := checkF_right h0
    have hn120 := hR.2.2.2.1
    have H0 := Lib.hid h0
    go_enter Tryz.func130, Tryz.ntmps130
    go_wp2_with fail
    refine (checkFount_any f a c _ E0.fa.ok (by exact E0.fa.at_) (by exact E0.fa.tab)).mono ?_
    rintro e w1 ⟨rfl, hb⟩
    have E1 := E0.step hF hb
    rw [h0]
    clear hb h0 hR
    by_cases hlg : 10000 < l.length
    · have HE := Lib.hid (show listErr f l = 8 by unfold listErr; rw [if_neg (by simp [H0.out]), if_pos hlg])
      have hlow := E1.low
      have hlg' : (10000 : Int) < (l.length : Int) := by omega
      go_wp2
      go_ret
      exact ⟨ret_int (by rw [HE.out]), hlow⟩
    · have HE := Lib.hid (show listErr f l = if l.any (idxBad f.sorts.length) = true then 6 else 0 by unfold listErr; rw [if_neg (by simp [H0.out]), if_neg hlg])
      have hlg' : (l.length : Int) ≤ 10000 := by omega
      go_wp2_with fail
      go_loopw [22] (fun i wr => ∃ k : Nat, k ≤ l.length ∧ i = .int .i64 k ∧ Hid (l.any (idxBad f.sorts.length) = (l.drop k).any (idxBad f.sorts.length)) ∧ Env w f a c wr) (fun i _ => l.length - (intOf i).toNat)
      case atStart => exact ⟨0, Nat.zero_le _, rfl, Lib.hid rfl, E1⟩
      case round =>
        obtain ⟨k, hk, rfl, HS, E⟩ := hrel
        clear E1
        have q0 := E.c0; have q1 := E.c1; have q2 := E.c2
        by_cases hlt : k < l.length
        · obtain ⟨p1, rfl, hp1, hc1⟩ := (hX.below E.low).at_ hlt
          have hst := Lib.hid (bad_cons (n := f.sorts.length) hlt)
          obtain ⟨x, ex⟩ : ∃ x, x = l.getD k 0 := ⟨_, rfl⟩
          rw [← ex] at hst hc1
          clear ex
          have hkl : (k : Int) < (l.length : Int) := by omega
          go_wp2_with fail
          refine (hasSort_any f a c x _).mono ?_
          rintro e w2 ⟨rfl, hb2⟩
          have E2 := E.step hF hb2
          clear hb2 E q0 q1 q2
          cases hxb : idxBad f.sorts.length x
          · go_wp2
            go_roundw
            case rel => exact ⟨k + 1, by omega, by go_num, Lib.hid (by rw [HS.out, hst.out, hxb]; rfl), E2⟩
            case measure => simp [intOf]; omega
          · have hlow := E2.low
            go_wp2
            go_ret
            exact ⟨ret_int (by rw [HE.out, HS.out, hst.out, hxb]; rfl), hlow⟩
        · have hst := Lib.hid (bad_end (n := f.sorts.length) hlt)
          have hlow := E.low
          go_wp2
          go_ret
          exact ⟨ret_int (by rw [HE.out, HS.out, hst.out]; rfl), hlow⟩
  · have HE := Lib.hid (show listErr f l = (checkF f).2 by unfold listErr; rw [if_pos h0])
    have heb : ((checkF f).2 != 0) = true := by simpa using h0
    clear h0
    go_enter Tryz.func130, Tryz.ntmps130
    go_wp2_with fail
    refine (checkFount_any f a c _ E0.fa.ok (by exact E0.fa.at_) (by exact E0.fa.tab)).mono ?_
    rintro e w1 ⟨rfl, hb⟩
    have hlow := (E0.step hF hb).low
    clear hb
    go_wp2
    go_ret
    exact ⟨ret_int (by rw [HE.out]), hlow⟩

def widthOf (f : FT) (l : List Int) : Int := sumTo (fun k => (f.sorts.getD (l.getD k 0).toNat noTS).width) l.length
def widthR (f : FT) (l : List Int) : Int × Int := if listErr f l ≠ 0 then (0, listErr f l) else (widthOf f l, 0)

set_option maxRecDepth 100000 in
set_option maxHeartbeats 2000000 in
theorem WidthOf_any (f : FT) (a : Option Addr) (c : Nat) (b : Option Addr) (l : List Int) (d : Nat) (w : World) (hF : FAt w a f) (hX : IntsAt w b l) (hl : l.length ≤ maxLen) :
    Calls Tryz.prog 78 #[.agg #[.string f.name, .int .i64 f.body, .slice a f.sorts.length c], .slice b l.length d] w fun e w' => e = .returned (.tuple #[.int .i64 (widthR f l).1, .int .i64 (widthR f l).2]) ∧ Below w.heap.size w w' := by
  have hB0 : Below (w.heap.size + 1) (w.alloc (boxF f a c)) (w.alloc (boxF f a c)) := Below.refl _ _
  have E0 := Env.of hF hB0
  have hX0 := hX.alloc (boxF f a c)
  by_cases h0 : listErr f l = 0
  · obtain ⟨h1, hln, hok⟩ := listErr_zero h0
    obtain ⟨_, hR, _⟩ := checkF_right h1
    have hn120 := hR.2.2.2.1
    have HE := Lib.hid (show widthR f l = (widthOf f l, 0) by unfold widthR; rw [if_neg (by simp [h0])])
    have HOK := Lib.hid hok
    have HR := Lib.hid hR
    clear hok hR
    go_enter Tryz.func78, Tryz.ntmps78
    go_wp2_with fail
    refine (errorOfList_any f a c b l d _ E0.fa hX0 hl).mono ?_
    rintro e w1 ⟨rfl, hb⟩
    have E1 := E0.step hF hb
    rw [h0]
    clear hb h0 hX0
    have hX1 := hX.below E1.low
    have q2 := E1.c2
    go_wp2_with fail
    go_loopw [7, 18] (fun t i wr => ∃ k : Nat, k ≤ l.length ∧ i = .int .i64 k ∧ t = .int .i64 (sumTo (fun k => (f.sorts.getD (l.getD k 0).toNat noTS).width) k) ∧ Drew w1 wr) (fun _ i _ => l.length - (intOf i).toNat)
    case atStart => exact ⟨0, Nat.zero_le _, rfl, rfl, Drew.refl _⟩
    case round =>
      obtain ⟨k, hk, rfl, rfl, hD⟩ := hrel
      have r2 := hD.cell q2
      by_cases hlt : k < l.length
      · obtain ⟨p1, rfl, hp1, hc1⟩ := (hD.ints hX1).at_ hlt
        obtain ⟨x, hx, hxe⟩ := HOK.out k hlt
        have hst : sumTo (fun k => (f.sorts.getD (l.getD k 0).toNat noTS).width) (k + 1) = sumTo (fun k => (f.sorts.getD (l.getD k 0).toNat noTS).width) k + (f.sorts.getD x noTS).width := by
          show _ + (f.sorts.getD (l.getD k 0).toNat noTS).width = _
          rw [hxe]; rfl
        have HST := Lib.hid hst
        rw [hxe] at hc1
        obtain ⟨ad, rfl, hadl, s0, s1, s2, s3⟩ := (hD.sorts E1.fa.at_).at_ hx
        have hw1 := HR.out.2.2.2.2 x hx
        have hsb := sumTo_bd (f := fun k => (f.sorts.getD (l.getD k 0).toNat noTS).width) (lo := 0) (hi := 100000) (k := k) (fun i hi => by
          obtain ⟨y, hy, hye⟩ := HOK.out i (by omega)
          have := HR.out.2.2.2.2 y hy
          show 0 ≤ (f.sorts.getD (l.getD i 0).toNat noTS).width ∧ _
          rw [hye, Int.toNat_natCast]; omega)
        generalize sumTo (fun k => (f.sorts.getD (l.getD k 0).toNat noTS).width) k = sq at hsb HST
        generalize (f.sorts.getD x noTS).width = wd at s3 hw1 HST
        clear hst hxe s0 s1 s2
        have hk4 : (k : Int) ≤ 10000 := by omega
        have hkl : (k : Int) < (l.length : Int) := by omega
        have hxl : (x : Int) < (f.sorts.length : Int) := by omega
        go_wp2_with fail
        go_roundw
        case rel => exact ⟨k + 1, by omega, by go_num, by rw [HST.out], hD⟩
        case measure => simp [intOf]; omega
      · have hk2 : k = l.length := by omega
        subst hk2
        have hlow := hD.below E1.low
        go_wp2
        go_ret2
        exact ⟨ret2_int (by rw [HE.out]; rfl) (by rw [HE.out]), hlow⟩
  · have HE := Lib.hid (show widthR f l = (0, listErr f l) by unfold widthR; rw [if_pos h0])
    have heb : (listErr f l != 0) = true := by simpa using h0
    clear h0
    go_enter Tryz.func78, Tryz.ntmps78
    go_wp2_with fail
    refine (errorOfList_any f a c b l d _ E0.fa hX0 hl).mono ?_
    rintro e w1 ⟨rfl, hb⟩
    have hlow := (E0.step hF hb).low
    clear hb
    go_wp2
    go_ret2
    exact ⟨ret2_int (by rw [HE.out]) (by rw [HE.out]), hlow⟩
end Go.Proofs.YtlkkociijfdcgaaGreatDoor

/-
  Lists of sorts: their text, their need.
-/
namespace Go.Proofs.YtlkkociijfdcgaaGreatDoor
open Go.RowKit Go.Maps

/-- The text of the first k sorts, and whether the last one is a space. -/
def textN (f : FT) (l : List Int) : Nat → List UInt8 × Bool
  | 0 => ([], false)
  | k + 1 => ((textN f l k).1 ++ ((if (f.sorts.getD (l.getD k 0).toNat noTS).kind = 3 ∧ (textN f l k).2 = false then [32] else []) ++ (f.sorts.getD (l.getD k 0).toNat noTS).text.data.toList), decide ((f.sorts.getD (l.getD k 0).toNat noTS).kind = 3))
def textOf (f : FT) (l : List Int) : ByteArray := ⟨(textN f l l.length).1.toArray⟩
def textR (f : FT) (l : List Int) : ByteArray × Int := if listErr f l ≠ 0 then (⟨#[]⟩, listErr f l) else (textOf f l, 0)

theorem text_bd {f : FT} (h : (checkF f).2 = 0) {k : Nat} (hk : k < f.sorts.length) : (f.sorts.getD k noTS).text.size ≤ 4 := by
  obtain ⟨_, _, ha⟩ := checkF_right h
  obtain ⟨_, _, h3, _, h5⟩ := sortErr_zero (ha k hk)
  unfold textErr at h5
  split at h5
  · cases h5
  rename_i h6
  have h6 : inB (f.sorts.getD k noTS).text.size (leastOf (f.sorts.getD k noTS).kind) (mostOf (f.sorts.getD k noTS).kind) = true := by simpa using h6
  have h7 := (of_decide_eq_true (show decide _ = true from h6)).2
  unfold mostOf at h7
  split at h7
  · omega
  split at h7 <;> omega
theorem textN_bd {f : FT} (h : (checkF f).2 = 0) {l : List Int} (hl : OkIdx l f.sorts.length) : ∀ k, k ≤ l.length → (textN f l k).1.length ≤ 5 * k := by
  intro k
  induction k with
  | zero => intro _; exact Nat.le_refl _
  | succ k ih =>
    intro hk
    have h1 := ih (by omega)
    obtain ⟨x, hx, hxe⟩ := hl k (by omega)
    have h2 := text_bd h hx
    show ((textN f l k).1 ++ _).length ≤ _
    rw [hxe, List.length_append, List.length_append, Int.toNat_natCast]
    have e5 : (f.sorts.getD x noTS).text.data.toList.length = (f.sorts.getD x noTS).text.data.size := Array.length_toList
    have h3 : (f.sorts.getD x noTS).text.data.size ≤ 4 := h2
    have h4 : ∀ (p : Prop) [Decidable p], ((if p then [32] else [] : List UInt8)).length ≤ 1 := by intro p _; split <;> simp
    have h5 := h4 ((f.sorts.getD x noTS).kind = 3 ∧ (textN f l k).2 = false)
    omega

set_option maxRecDepth 100000 in
set_option maxHeartbeats 2000000 in
theorem TextOf_any (f : FT) (a : Option Addr) (c : Nat) (b : Option Addr) (l : List Int) (d : Nat) (w : World) (hF : FAt w a f) (hX : IntsAt w b l) (hl : l.length ≤ maxLen) :
    Calls Tryz.prog 74 #[.agg #[.string f.name, .int .i64 f.body, .slice a f.sorts.length c], .slice b l.length d] w fun e w' => e = .returned (.tuple #[.string (textR f l).1, .int .i64 (textR f l).2]) ∧ Below w.heap.size w w' := by
  have hB0 : Below (w.heap.size + 1) (w.alloc (boxF f a c)) (w.alloc (boxF f a c)) := Below.refl _ _
  have E0 := Env.of hF hB0
  have hX0 := hX.alloc (boxF f a c)
  by_cases h0 : listErr f l = 0
  · obtain ⟨h1, hln, hok⟩ := listErr_zero h0
    have H1 := Lib.hid h1
    have HE := Lib.hid (show textR f l = (textOf f l, 0) by unfold textR; rw [if_neg (by simp [h0])])
    have HOK := Lib.hid hok
    clear hok h1
    go_enter Tryz.func74, Tryz.ntmps74
    go_wp2_with fail
    refine (errorOfList_any f a c b l d _ E0.fa hX0 hl).mono ?_
    rintro e w1 ⟨rfl, hb⟩
    have E1 := E0.step hF hb
    rw [h0]
    clear hb h0 hX0
    have hX1 := hX.below E1.low
    have q2 := E1.c2
    have hlt1 := E1.lt
    have hb1 := Bld.new w1
    go_wp2_with fail
    go_loopw [8, 20] (fun s i wr => ∃ k : Nat, k ≤ l.length ∧ i = .int .i64 k ∧ s = .bool (textN f l k).2 ∧ Bld w1.heap.size w1.heap.size (textN f l k).1 wr ∧ Below w1.heap.size w1 wr) (fun _ i _ => l.length - (intOf i).toNat)
    case atStart => exact ⟨0, Nat.zero_le _, rfl, rfl, hb1, (Below.refl _ _).alloc (Nat.le_refl _) _⟩
    case round =>
      obtain ⟨k, hk, rfl, rfl, hBl, hBe⟩ := hrel
      clear hb1
      have E := E1.step hF hBe
      have r2 := E.c2
      have hbd := textN_bd H1.out HOK.out k hk
      by_cases hlt : k < l.length
      · obtain ⟨p1, rfl, hp1, hc1⟩ := (hX.below E.low).at_ hlt
        obtain ⟨x, hx, hxe⟩ := HOK.out k hlt
        rw [hxe] at hc1
        obtain ⟨ad, hade, hadl, hy⟩ := E1.fa.at_.at_ hx
        subst hade
        have htb := text_bd H1.out hx
        have hstep : textN f l (k + 1) = ((textN f l k).1 ++ ((if (f.sorts.getD x noTS).kind = 3 ∧ (textN f l k).2 = false then [32] else []) ++ (f.sorts.getD x noTS).text.data.toList), decide ((f.sorts.getD x noTS).kind = 3)) := by
          show ((textN f l k).1 ++ _, _) = _
          rw [hxe]; rfl
        generalize f.sorts.getD x noTS = y at hy htb hstep
        generalize textN f l k = st at hBl hbd hstep
        obtain ⟨tx, sp⟩ := st
        have HST := Lib.hid hstep
        have hblk : (ad.add (x * 4)).block < w1.heap.size := by rw [add_block]; exact hadl
        have HY := Lib.hid hy
        obtain ⟨_, s1, s2, _⟩ := hy.below hBe hblk
        clear hstep hy
        have hk4 : (k : Int) ≤ 10000 := by omega
        have hkl : (k : Int) < (l.length : Int) := by omega
        have hxl : (x : Int) < (f.sorts.length : Int) := by omega
        have hsz := hBe.size
        have htx : tx.length ≤ 5 * k := hbd
        by_cases h3 : y.kind = 3
        · rw [h3] at s2
          cases hsp : sp
          · have HST2 := Lib.hid (show textN f l (k + 1) = ((tx ++ [32]) ++ y.text.data.toList, true) by rw [HST.out, h3, hsp]; simp)
            subst hsp
            clear HST
            go_wp2_with fail
            refine (wByte_any _ _ _ 32 _ hBl (by omega) hsz).mono ?_
            rintro e w2 ⟨rfl, hBl2, hbe2⟩
            have hBe2 := hBe.trans hbe2
            have E2 := E1.step hF hBe2
            have t2 := E2.c2
            have hsz2 := hBe2.size
            obtain ⟨_, u1, _, _⟩ := HY.out.below hBe2 hblk
            clear r2 hBl hBe E s1 s2 hbe2
            go_wp2_with fail
            refine (wStr_any _ _ _ y.text _ hBl2 (by simp; omega) hsz2).mono ?_
            rintro e w3 ⟨rfl, hBl3, hbe3⟩
            have hBe3 := hBe2.trans hbe3
            clear hBl2 hBe2 hbe3 E2 t2 u1
            go_wp2
            go_roundw
            case rel => exact ⟨k + 1, by omega, by go_num, by rw [HST2.out], by rw [HST2.out]; exact hBl3, hBe3⟩
            case measure => simp [intOf]; omega
          · have HST2 := Lib.hid (show textN f l (k + 1) = (tx ++ y.text.data.toList, true) by rw [HST.out, h3, hsp]; simp)
            subst hsp
            clear HST
            go_wp2_with fail
            refine (wStr_any _ _ _ y.text _ hBl (by omega) hsz).mono ?_
            rintro e w3 ⟨rfl, hBl3, hbe3⟩
            have hBe3 := hBe.trans hbe3
            clear hBl hBe hbe3 E r2 s1 s2
            go_wp2
            go_roundw
            case rel => exact ⟨k + 1, by omega, by go_num, by rw [HST2.out], by rw [HST2.out]; exact hBl3, hBe3⟩
            case measure => simp [intOf]; omega
        · have HST2 := Lib.hid (show textN f l (k + 1) = (tx ++ y.text.data.toList, false) by rw [HST.out, if_neg (by simp [h3]), decide_eq_false h3]; simp)
          have h3b : (y.kind == 3) = false := by simpa using h3
          have hyk : y.kind ≠ 3 := h3
          clear HST h3
          go_wp2_with fail
          refine (wStr_any _ _ _ y.text _ hBl (by omega) hsz).mono ?_
          rintro e w3 ⟨rfl, hBl3, hbe3⟩
          have hBe3 := hBe.trans hbe3
          clear hBl hBe hbe3 E r2 s1 s2
          go_wp2
          go_roundw
          case rel => exact ⟨k + 1, by omega, by go_num, by rw [HST2.out], by rw [HST2.out]; exact hBl3, hBe3⟩
          case measure => simp [intOf]; omega
      · have hk2 : k = l.length := by omega
        have HT := Lib.hid (show (textN f l k).1.toArray = (textOf f l).data by rw [hk2]; rfl)
        have hsz := hBe.size
        go_wp2_with fail
        refine (bStr_any _ _ _ _ hBl hsz).mono ?_
        rintro e w3 ⟨rfl, hb3⟩
        have hlow := (E1.step hF (hBe.trans hb3)).low
        rw [HT.out]
        go_wp2
        go_ret2
        exact ⟨by rw [HE.out]; rfl, hlow⟩
  · have HE := Lib.hid (show textR f l = (⟨#[]⟩, listErr f l) by unfold textR; rw [if_pos h0])
    have heb : (listErr f l != 0) = true := by simpa using h0
    clear h0
    go_enter Tryz.func74, Tryz.ntmps74
    go_wp2_with fail
    refine (errorOfList_any f a c b l d _ E0.fa hX0 hl).mono ?_
    rintro e w1 ⟨rfl, hb⟩
    have hlow := (E0.step hF hb).low
    clear hb
    go_wp2
    go_ret2
    exact ⟨by rw [HE.out]; rfl, hlow⟩
end Go.Proofs.YtlkkociijfdcgaaGreatDoor

/-
  Copies of founts.
-/
namespace Go.Proofs.YtlkkociijfdcgaaGreatDoor
open Go.RowKit Go.Maps

def sCells (x : TS) : List Value := [.string x.name, .string x.text, .int .i64 x.kind, .int .i64 x.width]
def sVals (l : List TS) : List Value := l.flatMap sCells
theorem sVals_len (l : List TS) : (sVals l).length = l.length * 4 := by
  unfold sVals
  induction l with
  | nil => rfl
  | cons x r ih => rw [List.flatMap_cons, List.length_append, ih, List.length_cons]; show 4 + _ = _; omega
theorem sVals_at {l : List TS} {k r : Nat} (h : k < l.length) (hr : r < 4) : (sVals l)[k * 4 + r]? = (sCells (l.getD k noTS))[r]? := by
  unfold sVals
  induction l generalizing k with
  | nil => simp at h
  | cons x t ih =>
    rw [List.flatMap_cons]
    cases k with
    | zero =>
      rw [List.getElem?_append_left (by show 0 * 4 + r < 4; omega)]
      rw [Nat.zero_mul, Nat.zero_add]; rfl
    | succ k =>
      rw [List.getElem?_append_right (by show 4 ≤ _; omega)]
      have : (k + 1) * 4 + r - (sCells x).length = k * 4 + r := by show (k + 1) * 4 + r - 4 = _; omega
      rw [this, ih (by simpa using h)]
      rfl
theorem add_add (ad : Addr) (k r : Nat) : ad.add (k * 4 + r) = if r = 0 then ad.add (k * 4) else ⟨(ad.add (k * 4)).block, (ad.add (k * 4)).off + r, none⟩ := by
  unfold Addr.add
  by_cases hr : r = 0
  · subst hr; rw [if_pos rfl]; rfl
  · rw [if_neg hr]
    by_cases hk : k * 4 = 0
    · rw [if_neg (by omega), if_pos hk, hk, Nat.zero_add]
    · rw [if_neg (by omega), if_neg hk, Nat.add_assoc]
theorem sVals_cells {w : World} {ad : Addr} {l : List TS} (h : SortsAt w (some ad) l) : ∀ j u, (sVals l)[j]? = some u → w.cell? (ad.add j) = some u := by
  intro j u hj
  have hjl : j < l.length * 4 := by
    have := (List.getElem?_eq_some_iff.1 hj).1
    rwa [sVals_len] at this
  obtain ⟨k, r, hr, rfl⟩ : ∃ k r, r < 4 ∧ j = k * 4 + r := ⟨j / 4, j % 4, Nat.mod_lt _ (by omega), by omega⟩
  have hk : k < l.length := by omega
  rw [sVals_at hk hr] at hj
  obtain ⟨_, e, _, s0, s1, s2, s3⟩ := h k hk
  cases e
  rw [add_add]
  obtain rfl | rfl | rfl | rfl : r = 0 ∨ r = 1 ∨ r = 2 ∨ r = 3 := by omega
  · rw [if_pos rfl, s0]; exact hj
  · rw [if_neg (by omega), s1]; exact hj
  · rw [if_neg (by omega), s2]; exact hj
  · rw [if_neg (by omega), s3]; exact hj
theorem sorts_of_row {w : World} {base g n cap : Nat} {l : List TS} (h : w.ownsRow base 119 4 (.slice (some ⟨g, 0, none⟩) n cap) n (sVals l)) : SortsAt w (some ⟨g, 0, none⟩) l := by
  intro k hk
  have hc : ∀ r v, r < 4 → (sCells (l.getD k noTS))[r]? = some v → w.cell? ⟨g, k * 4 + r, none⟩ = some v := fun r v hr hv =>
    (by have := h.cells (g := g) rfl (k * 4 + r) _ (by rw [sVals_at hk hr]; exact hv); rwa [add0] at this)
  have e : (⟨g, 0, none⟩ : Addr).add (k * 4) = ⟨g, k * 4, none⟩ := add0 g (k * 4)
  refine ⟨_, rfl, (h.lt g rfl).2, ?_, ?_, ?_, ?_⟩
  · rw [e]; exact hc 0 _ (by omega) rfl
  · rw [e]; exact hc 1 _ (by omega) rfl
  · rw [e]; exact hc 2 _ (by omega) rfl
  · rw [e]; exact hc 3 _ (by omega) rfl
theorem infoTS : (Tryz.prog.info? 119).map (fun i => (i.zero, i.size, i.bytes)) = some (some (.agg #[.string ⟨#[]⟩, .string ⟨#[]⟩, .int .i64 0, .int .i64 0]), 4, 48) := by kernel_rfl

theorem SortAt.far {w : World} {q p : Addr} {x : TS} (h : SortAt w q x) (hp : q.block ≠ p.block) (u : Value) : SortAt (w.setCell p u) q x := by
  have hc : ∀ r : Addr, r.block = q.block → (w.setCell p u).cell? r = w.cell? r := fun r hr => World.cell?_setCell_other _ _ _ _ (fun e => hp (by rw [← hr, ← e]))
  exact ⟨(hc _ rfl).trans h.1, (hc ⟨q.block, _, none⟩ rfl).trans h.2.1, (hc ⟨q.block, _, none⟩ rfl).trans h.2.2.1, (hc ⟨q.block, _, none⟩ rfl).trans h.2.2.2⟩
theorem SortsAt.far {w : World} {ad p : Addr} {l : List TS} (h : SortsAt w (some ad) l) (hp : ad.block ≠ p.block) (u : Value) : SortsAt (w.setCell p u) (some ad) l := by
  intro k hk
  obtain ⟨_, e, hlt, hs⟩ := h k hk
  cases e
  exact ⟨ad, rfl, by simpa [World.setCell] using hlt, hs.far (by rw [add_block]; exact hp) u⟩
def FCopyPost (w : World) (f : FT) (e : Ending) (w' : World) : Prop :=
  ∃ g cap, e = .returned (.agg #[.string f.name, .int .i64 f.body, .slice (some ⟨g, 0, none⟩) f.sorts.length cap]) ∧ f.sorts.length ≤ cap ∧ FAt w' (some ⟨g, 0, none⟩) f ∧ Below w.heap.size w w'
def zeroF : Obj := .cells #[.string ⟨#[]⟩, .int .i64 0, .slice none 0 0] 59
def copyW (w : World) (f : FT) (a : Option Addr) (c : Nat) : World := (w.alloc (boxF f a c)).alloc zeroF
theorem after_copy {f : FT} {a : Option Addr} {c : Nat} {w w1 : World} {v' : Value} {m : Nat} (hm : m = f.sorts.length) (hown : w1.ownsRow (w.heap.size + 2) 119 4 v' m (sVals f.sorts))
    (hgrow : ((copyW w f a c).alloc (.cells #[] 119)).grownBy w1 (some (w.heap.size + 2))) (hnil : ¬ v' = .slice none 0 0) :
    ∃ g cap, v' = .slice (some ⟨g, 0, none⟩) f.sorts.length cap ∧ f.sorts.length ≤ cap ∧ SortsAt w1 (some ⟨g, 0, none⟩) f.sorts ∧ w.heap.size + 2 ≤ g ∧ w1.heap[w.heap.size]? = some (boxF f a c) ∧ w1.heap[w.heap.size + 1]? = some zeroF ∧ Below w.heap.size w w1 := by
  subst hm
  have hsz : (copyW w f a c).heap.size = w.heap.size + 2 := by simp [copyW]
  have hk0 : (copyW w f a c).heap[w.heap.size]? = some (boxF f a c) := by unfold copyW; rw [Lib.alloc_old _ _ _ (by simp)]; exact heap_alloc_new _ _
  have hk1 : (copyW w f a c).heap[w.heap.size + 1]? = some zeroF := by
    have := heap_alloc_new (w.alloc (boxF f a c)) zeroF
    unfold copyW
    simpa using this
  have hB2 : Below w.heap.size w ((copyW w f a c).alloc (.cells #[] 119)) := (((Below.refl _ _).alloc (Nat.le_refl _) _).alloc (by simp) _).alloc (by simp <;> omega) _
  have hB1 : Below w.heap.size w w1 := hB2.grown hgrow (by simp [copyW]; omega) (fun k e => by cases e; omega)
  have r0 : w1.heap[w.heap.size]? = some (boxF f a c) := by
    rw [hgrow.block _ (by simp [copyW]; omega) (fun e => by injection e with e; omega), Lib.alloc_old _ _ _ (by rw [hsz]; omega)]; exact hk0
  have r1 : w1.heap[w.heap.size + 1]? = some zeroF := by
    rw [hgrow.block _ (by simp [copyW]) (fun e => by injection e with e; omega), Lib.alloc_old _ _ _ (by rw [hsz]; omega)]; exact hk1
  have hown' := hown
  rcases hown'.2 with ⟨e, _⟩ | ⟨g, cap, cur, e, hg, _, hcap, _⟩
  · exact absurd e hnil
  · subst e
    exact ⟨g, cap, rfl, hcap, sorts_of_row hown, hg, r0, r1, hB1⟩

set_option maxRecDepth 100000 in
set_option maxHeartbeats 1000000 in
theorem copyFount_any (f : FT) (a : Option Addr) (c : Nat) (w : World) (hF : FAt w a f) (hn : f.sorts.length ≤ 1000000) (hd : a = none → c = 0) :
    Calls Tryz.prog 38 #[.agg #[.string f.name, .int .i64 f.body, .slice a f.sorts.length c]] w (FCopyPost w f) := by
  obtain ⟨i0, hi, hz0, hz1, hz2⟩ := info_parts infoTS
  cases a with
  | none =>
    have hl0 : f.sorts = [] := by
      cases h : f.sorts with
      | nil => rfl
      | cons x r =>
        obtain ⟨ad, e, _⟩ := hF.at_ 0 (by rw [h]; simp); cases e
    have hd0 : c = 0 := hd rfl
    subst hd0
    have hsz : (copyW w f none 0).heap.size = w.heap.size + 2 := by simp [copyW]
    have hm := World.ownsRow_made (e := 119) (size := 4) (base := w.heap.size + 2) (copyW w f none 0) #[] 0 (by rw [hsz]; exact Nat.le_refl _) (Nat.zero_le _) rfl
    rw [hsz] at hm
    have hlen : f.sorts.length = 0 := by rw [hl0]; rfl
    rw [hlen]
    clear hsz
    go_enter Tryz.func38, Tryz.ntmps38
    go_wp2_with (at_builtin; refine wpList_append_own_none rfl _ _ 57 rfl (w.heap.size + 2) 119 i0 4 Tryz.underlying57 hi _ 0 [] rfl hm rfl ?_)
    refine bodyPost_ret (v := .agg #[.string f.name, .int .i64 f.body, .slice (some ⟨w.heap.size + 1 + 1, 0, none⟩) 0 0]) (by simp [results, Tryz.results38, go_sem]) rfl ?_
    have hBx : ∀ o1 o2 o3, Below w.heap.size w (((w.alloc o1).alloc o2).alloc o3) := fun o1 o2 o3 => (((Below.refl _ _).alloc (Nat.le_refl _) _).alloc (by simp) _).alloc (by simp <;> omega) _
    exact ⟨w.heap.size + 1 + 1, 0, by rw [hlen], by rw [hlen]; exact Nat.le_refl _, ⟨hF.ok, fun k hk => by omega, hF.tab.below (hBx _ _ _) hF.tab.1⟩, hBx _ _ _⟩
  | some ad =>
    have hF2 : FAt (copyW w f (some ad) c) (some ad) f := (hF.alloc (boxF f (some ad) c)).alloc zeroF
    have hsz : (copyW w f (some ad) c).heap.size = w.heap.size + 2 := by simp [copyW]
    have hm := World.ownsRow_made (e := 119) (size := 4) (base := w.heap.size + 2) (copyW w f (some ad) c) #[] 0 (by rw [hsz]; exact Nat.le_refl _) (Nat.zero_le _) rfl
    rw [hsz] at hm
    have hone : ∀ u ∈ sVals f.sorts, u.oneCell' = true := by
      intro u hu
      obtain ⟨x, _, hx⟩ := List.mem_flatMap.1 hu
      simp only [sCells, List.mem_cons, List.not_mem_nil, or_false] at hx
      rcases hx with rfl | rfl | rfl | rfl <;> rfl
    have HO := Lib.hid hone; have HL := Lib.hid (sVals_len f.sorts)
    have HN := Lib.hid (sVals_cells (hF2.alloc (.cells #[] 119)).at_)
    have H63 := Lib.hid (show 0 + f.sorts.length ≤ maxLen by unfold maxLen; omega)
    have HB := Lib.hid (show (0 + f.sorts.length) * 48 ≤ 140737488355328 by omega)
    clear hone hsz
    go_enter Tryz.func38, Tryz.ntmps38
    go_wp2_with (at_builtin; refine wpList_append_own _ rfl _ _ 57 rfl (w.heap.size + 2) 119 i0 (.agg #[.string ⟨#[]⟩, .string ⟨#[]⟩, .int .i64 0, .int .i64 0]) 4 48 Tryz.underlying57 hi hz0 hz1 hz2 rfl (by decide) _ 0 [] rfl hm ad f.sorts.length c (sVals f.sorts) rfl HL.out HN.out HO.out H63.out HB.out (by simp) ?_; intro v' w1 hown1 hgrow1 hnil1; obtain ⟨g, cap, ev, hcap, hsorts, hg, r0, r1, hB1⟩ := after_copy (a := some ad) (c := c) (Nat.zero_add _) hown1 hgrow1 (fun e => by have := (hnil1.1 e).1; cases this); subst ev; have x0 : w1.cell? ⟨w.heap.size, 0, none⟩ = some (.string f.name) := Lib.cell_of_heap r0 0; have x1 : w1.cell? ⟨w.heap.size, 1, none⟩ = some (.int .i64 f.body) := Lib.cell_of_heap r0 1; have x2 : w1.cell? ⟨w.heap.size, 2, none⟩ = some (.slice (some ad) f.sorts.length c) := Lib.cell_of_heap r0 2; have y0 : w1.cell? ⟨w.heap.size + 1, 0, none⟩ = some (.string ⟨#[]⟩) := Lib.cell_of_heap r1 0; have y1 : w1.cell? ⟨w.heap.size + 1, 1, none⟩ = some (.int .i64 0) := Lib.cell_of_heap r1 1; have y2 : w1.cell? ⟨w.heap.size + 1, 2, none⟩ = some (.slice none 0 0) := Lib.cell_of_heap r1 2; have fx : w1.frozen? ⟨w.heap.size, 2, none⟩ = false := Lib.frozen_of_heap r0 2; have fy0 : w1.frozen? ⟨w.heap.size + 1, 0, none⟩ = false := Lib.frozen_of_heap r1 0; have fy1 : w1.frozen? ⟨w.heap.size + 1, 1, none⟩ = false := Lib.frozen_of_heap r1 1; have fy2 : w1.frozen? ⟨w.heap.size + 1, 2, none⟩ = false := Lib.frozen_of_heap r1 2)
    refine bodyPost_ret (v := .agg #[.string f.name, .int .i64 f.body, .slice (some ⟨g, 0, none⟩) f.sorts.length cap]) (by simp [results, Tryz.results38, go_sem, y0, y1, y2]) rfl ?_
    have hBx := (((hB1.setCell (p := ⟨w.heap.size, 2, none⟩) (Nat.le_refl _) (.slice (some ⟨g, 0, none⟩) f.sorts.length cap)).setCell (p := ⟨w.heap.size + 1, 0, none⟩) (Nat.le_succ _) (.string f.name)).setCell (p := ⟨w.heap.size + 1, 1, none⟩) (Nat.le_succ _) (.int .i64 f.body)).setCell (p := ⟨w.heap.size + 1, 2, none⟩) (Nat.le_succ _) (.slice (some ⟨g, 0, none⟩) f.sorts.length cap)
    refine ⟨g, cap, rfl, hcap, ⟨hF.ok, ?_, hF.tab.below hBx hF.tab.1⟩, hBx⟩
    exact (((hsorts.far (by show g ≠ w.heap.size; omega) _).far (by show g ≠ w.heap.size + 1; omega) _).far (by show g ≠ w.heap.size + 1; omega) _).far (by show g ≠ w.heap.size + 1; omega) _
end Go.Proofs.YtlkkociijfdcgaaGreatDoor

/-
  What a list needs; the reference's lists: their error, width, need.
-/
namespace Go.Proofs.YtlkkociijfdcgaaGreatDoor
open Go.RowKit Go.Maps

def needOf (n : Nat) (l : List Int) : List Int := l.foldl bump (tab n fun _ => 0)
theorem needOf_len (n : Nat) (l : List Int) : (needOf n l).length = n := by unfold needOf; rw [bumps_len, tab_len]
theorem needN_bd (n : Nat) (l : List Int) (k : Nat) : ∀ j, j < n → 0 ≤ ((l.take k).foldl bump (tab n fun _ => 0)).getD j 0 ∧ ((l.take k).foldl bump (tab n fun _ => 0)).getD j 0 ≤ k := by
  intro j hj
  have := bumps_bd (l.take k) (tab n fun _ => 0) 0 (fun i hi => by rw [tab_len] at hi; rw [tab_at hi]; omega) j (by rw [tab_len]; exact hj)
  have hl : (l.take k).length ≤ k := by rw [List.length_take]; omega
  omega
def NeedPost (w : World) (f : FT) (l : List Int) (e : Ending) (w' : World) : Prop :=
  Below w.heap.size w w' ∧ ((listErr f l ≠ 0 ∧ e = .returned (.tuple #[.slice none 0 0, .int .i64 (listErr f l)])) ∨
    (listErr f l = 0 ∧ ∃ g, e = .returned (.tuple #[.slice (some ⟨g, 0, none⟩) f.sorts.length f.sorts.length, .int .i64 0]) ∧ RowX w' g (needOf f.sorts.length l)))

set_option maxRecDepth 100000 in
set_option maxHeartbeats 4000000 in
theorem NeedOf_any (f : FT) (a : Option Addr) (c : Nat) (b : Option Addr) (l : List Int) (d : Nat) (w : World) (hF : FAt w a f) (hX : IntsAt w b l) (hl : l.length ≤ maxLen) :
    Calls Tryz.prog 73 #[.agg #[.string f.name, .int .i64 f.body, .slice a f.sorts.length c], .slice b l.length d] w (NeedPost w f l) := by
  have hB0 : Below (w.heap.size + 1) (w.alloc (boxF f a c)) (w.alloc (boxF f a c)) := Below.refl _ _
  have E0 := Env.of hF hB0
  have hX0 := hX.alloc (boxF f a c)
  by_cases h0 : listErr f l = 0
  · obtain ⟨h1, hln, hok⟩ := listErr_zero h0
    obtain ⟨_, hR, _⟩ := checkF_right h1
    have hn120 := hR.2.2.2.1
    have HE := Lib.hid h0
    have HOK := Lib.hid hok
    have hmk := fun W => run_make_row' (P := Tryz.prog) 63 3 (.int .i64 0) 8 Tryz.underlying63 info3 rfl .i64 .i64 f.sorts.length (by omega) (by omega) W
    clear hok hR h1
    go_enter Tryz.func73, Tryz.ntmps73
    go_wp2_with fail
    refine (errorOfList_any f a c b l d _ E0.fa hX0 hl).mono ?_
    rintro e w1 ⟨rfl, hb⟩
    have E1 := E0.step hF hb
    rw [h0]
    clear hb h0 hX0
    have hX1 := hX.below E1.low
    have q2 := E1.c2
    have hr0 : RowX (w1.alloc (.cells (madeCells #[.int .i64 0] f.sorts.length) 3)) w1.heap.size (tab f.sorts.length fun _ => 0) := Own.rowX (Own.made w1 f.sorts.length (fun _ => 0) f.sorts.length (Nat.le_refl _) (fun _ _ => rfl))
    go_wp2_with fail
    go_loopw [22] (fun i wr => ∃ k : Nat, k ≤ l.length ∧ i = .int .i64 k ∧ RowX wr w1.heap.size ((l.take k).foldl bump (tab f.sorts.length fun _ => 0)) ∧ Below w1.heap.size w1 wr) (fun i _ => l.length - (intOf i).toNat)
    case atStart => exact ⟨0, Nat.zero_le _, rfl, hr0, (Below.refl _ _).alloc (Nat.le_refl _) _⟩
    case round =>
      obtain ⟨k, hk, rfl, hrow, hBe⟩ := hrel
      by_cases hlt : k < l.length
      · obtain ⟨p1, rfl, hp1, hc1⟩ := (hX1.below hBe).at_ hlt
        obtain ⟨x, hx, hxe⟩ := HOK.out k hlt
        rw [hxe] at hc1
        have hc3 := hrow.cell (j := x) (by rw [bumps_len, tab_len]; exact hx)
        have hb := needN_bd f.sorts.length l k x hx
        have hfz := hrow.frozen x
        have hset := hrow.set_ x (((l.take k).foldl bump (tab f.sorts.length fun _ => 0)).getD x 0 + 1)
        have hst := bump_step (qs := tab f.sorts.length fun _ => 0) (order := l) (k := k) hlt
        rw [hxe] at hst
        have HST := Lib.hid hst
        have HSET := Lib.hid hset
        clear hset hst hxe
        generalize hv : ((l.take k).foldl bump (tab f.sorts.length fun _ => 0)).getD x 0 = v at hc3 hb HSET
        have HVV := Lib.hid hv
        clear hv
        have hk4 : (k : Int) ≤ 10000 := by omega
        have hkl : (k : Int) < (l.length : Int) := by omega
        have hxl : (x : Int) < (f.sorts.length : Int) := by omega
        go_wp2_with fail
        go_roundw
        case rel =>
          refine ⟨k + 1, by omega, by go_num, ?_, hBe.setCell (Nat.le_refl _) _⟩
          rw [HST.out, bump_nat, HVV.out]
          exact HSET.out
        case measure => simp [intOf]; omega
      · have hk2 : k = l.length := by omega
        have hr : RowX wr w1.heap.size (needOf f.sorts.length l) := by
          unfold needOf; rw [hk2, List.take_length] at hrow; exact hrow
        have hlow := (E1.step hF hBe).low
        go_wp2
        go_ret2
        exact ⟨hlow, .inr ⟨HE.out, _, rfl, hr⟩⟩
  · have HE := Lib.hid h0
    have heb : (listErr f l != 0) = true := by simpa using h0
    clear h0
    go_enter Tryz.func73, Tryz.ntmps73
    go_wp2_with fail
    refine (errorOfList_any f a c b l d _ E0.fa hX0 hl).mono ?_
    rintro e w1 ⟨rfl, hb⟩
    have hlow := (E0.step hF hb).low
    clear hb
    go_wp2
    go_ret2
    exact ⟨hlow, .inl ⟨HE.out, rfl⟩⟩

def rlistErr (n : Nat) (l : List Int) : Int := if 10000 < l.length then 8 else if l.any (idxBad n) = true then 6 else 0
theorem listErr_eq {f : FT} {l : List Int} : listErr f l = if (checkF f).2 ≠ 0 then (checkF f).2 else rlistErr f.sorts.length l := rfl
theorem within_same {n lo hi : Int} {w : World} {bl : Bool} (h : inB n lo hi = bl) :
    Calls Tryz.prog 76 #[.int .i64 n, .int .i64 lo, .int .i64 hi] w fun e w' => e = .returned (.bool bl) ∧ w' = w := by
  subst h
  exact (within_any n lo hi w).mono fun _ _ ⟨h1, h2⟩ => ⟨h1, h2.symm⟩

end Go.Proofs.YtlkkociijfdcgaaGreatDoor
