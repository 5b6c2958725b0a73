/-
  The reference's readPattern.
-/
import Derived.Test.YtlkkociijfdcgaaGreatDoorZ3
import Derived.Test.YtlkkociijfdcgaaGreatDoorQY
import Derived.Deep.CutRange
import Derived.Test.YtlkkociijfdcgaaGreatDoorW6
namespace Go.Proofs.YtlkkociijfdcgaaGreatDoor
open Go.RowKit Go.Maps

def mxD (d : Int) : Int := if d = -1 then 0 else d
def refPre (b : Bool) : List UInt8 := if b = true then [46] else []
def refPreV (b : Bool) : List Int := if b = true then [0] else []
def refItems (x : Pat) : List UInt8 := refPre x.start ++ x.ls ++ refPre x.stop
def refLv (x : Pat) : List Int := refPreV x.start ++ x.ds.map mxD ++ refPreV x.stop
def RPPost (w : World) (o : Option Pat) (e : Ending) (w' : World) : Prop :=
  Below w.heap.size w w' ∧ ∃ (I : ByteArray) (A : Option Addr) (n c : Nat), e = .returned (.tuple #[.agg #[.string I, .slice A n c], .bool o.isSome]) ∧ ∀ x, o = some x → I.data.toList = refItems x ∧ IRow w' w.heap.size (.slice A n c) (refLv x)
structure FRel (w : World) (I : ByteArray) (L : List Int) (wr : World) : Prop where
  loc : ∃ v, wr.heap[w.heap.size + 1]? = some (.cells #[.string I, v] 149 (0, 0)) ∧ IRow wr w.heap.size v L
  res : wr.heap[w.heap.size]? = some (.cells #[.string ⟨#[]⟩, .slice none 0 0] 149 (0, 0))
  low : Below w.heap.size w wr
def psI (b : Bool) (x : PS) : ByteArray := ⟨(refPre b ++ x.ls).toArray⟩
def psL (b : Bool) (x : PS) : List Int := refPreV b ++ x.ds.map mxD
theorem FRel.push {w w5 : World} {I S : ByteArray} {L : List Int} {v : Value} {gg cap5 m : Nat} {n : Int} (hb5 : w5.heap[w.heap.size + 1]? = some (.cells #[.string I, v] 149 (0, 0)))
    (hres5 : w5.heap[w.heap.size]? = some (.cells #[.string ⟨#[]⟩, .slice none 0 0] 149 (0, 0))) (hB5 : Below w.heap.size w w5) (hm : m = L.length)
    (hown5 : w5.ownsRow w.heap.size 3 1 (.slice (some ⟨gg, 0, none⟩) (m + 1) cap5) (m + 1) (vals L ++ [.int .i64 n])) :
    FRel w S (L ++ [n]) ((w5.setCell ⟨w.heap.size + 1, 0, none⟩ (.string S)).setCell ⟨w.heap.size + 1, 1, none⟩ (.slice (some ⟨gg, 0, none⟩) (m + 1) cap5)) := by
  have h6 := heap_set2 hb5 0 (.string S)
  have h7 := heap_set2 h6 1 (.slice (some ⟨gg, 0, none⟩) (m + 1) cap5)
  have o7 := own_put (own_put hown5 hb5 (by decide) 0 (.string S)) h6 (by decide) 1 (.slice (some ⟨gg, 0, none⟩) (m + 1) cap5)
  refine ⟨⟨_, h7, ?_⟩, ?_, (hB5.setCell (by show w.heap.size ≤ w.heap.size + 1; omega) _).setCell (by show w.heap.size ≤ w.heap.size + 1; omega) _⟩
  · unfold IRow
    rw [List.length_append, ← hm]
    have e : vals (L ++ [n]) = vals L ++ [.int .i64 n] := by unfold vals; rw [List.map_append]; rfl
    rw [e]
    exact o7
  · rw [Below.heap_setCell _ _ _ _ (by show w.heap.size ≠ w.heap.size + 1; omega), Below.heap_setCell _ _ _ _ (by show w.heap.size ≠ w.heap.size + 1; omega)]
    exact hres5
theorem FRel.pushV {w w5 : World} {I : ByteArray} {L : List Int} {v : Value} {gg cap5 m : Nat} {n : Int} (hb5 : w5.heap[w.heap.size + 1]? = some (.cells #[.string I, v] 149 (0, 0)))
    (hres5 : w5.heap[w.heap.size]? = some (.cells #[.string ⟨#[]⟩, .slice none 0 0] 149 (0, 0))) (hB5 : Below w.heap.size w w5) (hm : m = L.length)
    (hown5 : w5.ownsRow w.heap.size 3 1 (.slice (some ⟨gg, 0, none⟩) (m + 1) cap5) (m + 1) (vals L ++ [.int .i64 n])) :
    FRel w I (L ++ [n]) (w5.setCell ⟨w.heap.size + 1, 1, none⟩ (.slice (some ⟨gg, 0, none⟩) (m + 1) cap5)) := by
  have h7 := heap_set2 hb5 1 (.slice (some ⟨gg, 0, none⟩) (m + 1) cap5)
  have o7 := own_put hown5 hb5 (by decide) 1 (.slice (some ⟨gg, 0, none⟩) (m + 1) cap5)
  refine ⟨⟨_, h7, ?_⟩, ?_, hB5.setCell (by show w.heap.size ≤ w.heap.size + 1; omega) _⟩
  · unfold IRow
    rw [List.length_append, ← hm]
    have e : vals (L ++ [n]) = vals L ++ [.int .i64 n] := by unfold vals; rw [List.map_append]; rfl
    rw [e]
    exact o7
  · rw [Below.heap_setCell _ _ _ _ (by show w.heap.size ≠ w.heap.size + 1; omega)]
    exact hres5
/-- What a walk wants to know of it. -/
structure FKnow (w : World) (I : ByteArray) (L : List Int) (wr : World) (A : Option Addr) (m c : Nat) : Prop where
  hb : wr.heap[w.heap.size + 1]? = some (.cells #[.string I, .slice A m c] 149 (0, 0))
  hres : wr.heap[w.heap.size]? = some (.cells #[.string ⟨#[]⟩, .slice none 0 0] 149 (0, 0))
  hm : m = L.length
  hI : wr.ownsRow w.heap.size 3 1 (.slice A m c) m (vals L)
  low : Below w.heap.size w wr
theorem FRel.know {w wr : World} {I : ByteArray} {L : List Int} (h : FRel w I L wr) : ∃ A m c, FKnow w I L wr A m c := by
  obtain ⟨v, hb, hI⟩ := h.loc
  obtain ⟨A, c, e, _⟩ := hI.shape
  subst e
  exact ⟨A, _, c, hb, h.res, rfl, hI, h.low⟩
theorem FKnow.post {w wr : World} {I : ByteArray} {L : List Int} {A : Option Addr} {m c : Nat} (h : FKnow w I L wr A m c) : IRow ((wr.setCell ⟨w.heap.size, 0, none⟩ (.string I)).setCell ⟨w.heap.size, 1, none⟩ (.slice A m c)) w.heap.size (.slice A m c) L := by
  have h6 := heap_set2 h.hres 0 (.string I)
  have o := own_put (own_put h.hI h.hres (by decide) 0 (.string I)) h6 (by decide) 1 (.slice A m c)
  unfold IRow
  rw [← h.hm]
  exact o
theorem head_is {s : ByteArray} (h : 0 < s.size) : headIs 46 s.data.toList = (s[0] == 46) := by
  have hl : 0 < s.data.toList.length := by rw [Array.length_toList]; exact h
  unfold headIs
  rw [List.head?_eq_getElem?, List.getElem?_eq_getElem hl]
  rfl
theorem last_is {s : ByteArray} (h : 0 < s.size) : lastIs 46 s.data.toList = (s[s.size - 1] == 46) := by
  have hl : s.size - 1 < s.data.toList.length := by rw [Array.length_toList]; show s.size - 1 < s.size; omega
  have e : s.data.toList.length - 1 = s.size - 1 := by rw [Array.length_toList]; rfl
  unfold lastIs
  rw [List.getLast?_eq_getElem?, e, List.getElem?_eq_getElem hl]
  rfl
def patWith (core : ByteArray) (b1 b2 : Bool) : Option Pat := match endS (runS core.data.toList noPS) with
  | none => none
  | some (ls, ds) => some ⟨ls, ds, b1, b2⟩
theorem pat_plain {s : ByteArray} (h1 : headIs 46 s.data.toList = false) (h2 : lastIs 46 s.data.toList = false) : patOf s.data.toList = patWith s false false := by
  unfold patOf patWith cutHead cutLast
  rw [h1]
  simp only [Bool.false_eq_true, if_false, h2]
  rfl
theorem pat_stop {s : ByteArray} (h1 : headIs 46 s.data.toList = false) (h2 : lastIs 46 s.data.toList = true) : patOf s.data.toList = patWith (s.extract 0 (s.size - 1)) false true := by
  have e : (s.extract 0 (s.size - 1)).data.toList = s.data.toList.dropLast := by
    rw [ByteArray.data_extract, Array.toList_extract, List.extract_eq_take_drop, List.drop_zero, List.dropLast_eq_take, Array.length_toList]
    rfl
  unfold patOf patWith cutHead cutLast
  rw [h1, e]
  simp only [Bool.false_eq_true, if_false, h2, if_true]
  rfl
theorem tail_bytes (s : ByteArray) : (s.extract 1 s.size).data.toList = s.data.toList.tail := by
  rw [ByteArray.data_extract, Array.toList_extract, List.extract_eq_take_drop, List.drop_one, List.take_of_length_le]
  rw [List.length_tail, Array.length_toList]
  exact Nat.le_refl _
theorem pat_start {s : ByteArray} (h1 : headIs 46 s.data.toList = true) (h2 : lastIs 46 s.data.toList.tail = false) : patOf s.data.toList = patWith (s.extract 1 s.size) true false := by
  unfold patOf patWith cutHead cutLast
  rw [h1, tail_bytes]
  simp only [if_true, h2, Bool.false_eq_true, if_false]
  rfl
theorem pat_both {s : ByteArray} (h1 : headIs 46 s.data.toList = true) (h2 : lastIs 46 s.data.toList.tail = true) : patOf s.data.toList = patWith ((s.extract 1 s.size).extract 0 (s.size - 1 - 1)) true true := by
  have e : ((s.extract 1 s.size).extract 0 (s.size - 1 - 1)).data.toList = s.data.toList.tail.dropLast := by
    rw [ByteArray.data_extract, Array.toList_extract, List.extract_eq_take_drop, List.drop_zero, tail_bytes, List.dropLast_eq_take, List.length_tail, Array.length_toList]
    rfl
  unfold patOf patWith cutHead cutLast
  rw [h1, e]
  simp only [if_true, h2]
  rfl
theorem last_tail {s : ByteArray} (h : 1 < s.size) : lastIs 46 s.data.toList.tail = lastIs 46 s.data.toList := by
  unfold lastIs
  have hl : 1 < s.data.toList.length := by rw [Array.length_toList]; exact h
  generalize s.data.toList = l at hl
  cases l with
  | nil => simp at hl
  | cons a t =>
    cases t with
    | nil => simp at hl
    | cons b r => simp [List.getLast?_cons_cons]

theorem rp_plain (w : World) (nq : Nat) : FRel w (psI false noPS) (psL false noPS) (((w.alloc (.cells #[.string ⟨#[]⟩, .slice none 0 0] 149)).alloc (.cells #[.string ⟨#[]⟩, .slice none 0 0] 149)).drewN nq) := by
  have h0 := heap_new w (.cells #[.string ⟨#[]⟩, .slice none 0 0] 149)
  have h1 := heap_new (w.alloc (.cells #[.string ⟨#[]⟩, .slice none 0 0] 149)) (.cells #[.string ⟨#[]⟩, .slice none 0 0] 149)
  rw [World.size_alloc] at h1
  exact ⟨⟨.slice none 0 0, h1, IRow.nil _ _⟩, heap_keep h0, below_drewN ((((Below.refl w.heap.size w).alloc (Nat.le_refl _) _).alloc (by simp) _)) nq⟩
theorem rp_start (w : World) (nq : Nat) : FRel w (psI true noPS) (psL true noPS) ((((((w.alloc (.cells #[.string ⟨#[]⟩, .slice none 0 0] 149)).alloc (.cells #[.string ⟨#[]⟩, .slice none 0 0] 149)).drewN nq).setCell ⟨w.heap.size + 1, 0, none⟩ (.string ⟨#[46]⟩)).setCell ⟨w.heap.size + 1, 1, none⟩ (.slice (some ⟨w.heap.size + 1 + 1, 0, none⟩) 1 1)).alloc (.cells #[.int .i64 0] 3)) := by
  have h0 := heap_new w (.cells #[.string ⟨#[]⟩, .slice none 0 0] 149)
  have h1 := heap_new (w.alloc (.cells #[.string ⟨#[]⟩, .slice none 0 0] 149)) (.cells #[.string ⟨#[]⟩, .slice none 0 0] 149)
  rw [World.size_alloc] at h1
  have h2 := heap_set2 (heap_set2 (w := ((w.alloc (.cells #[.string ⟨#[]⟩, .slice none 0 0] 149)).alloc (.cells #[.string ⟨#[]⟩, .slice none 0 0] 149)).drewN nq) h1 0 (.string ⟨#[46]⟩)) 1 (.slice (some ⟨w.heap.size + 1 + 1, 0, none⟩) 1 1)
  have h3 := heap_new (((((w.alloc (.cells #[.string ⟨#[]⟩, .slice none 0 0] 149)).alloc (.cells #[.string ⟨#[]⟩, .slice none 0 0] 149)).drewN nq).setCell ⟨w.heap.size + 1, 0, none⟩ (.string ⟨#[46]⟩)).setCell ⟨w.heap.size + 1, 1, none⟩ (.slice (some ⟨w.heap.size + 1 + 1, 0, none⟩) 1 1)) (.cells #[.int .i64 0] 3)
  have hsz : (((((w.alloc (.cells #[.string ⟨#[]⟩, .slice none 0 0] 149)).alloc (.cells #[.string ⟨#[]⟩, .slice none 0 0] 149)).drewN nq).setCell ⟨w.heap.size + 1, 0, none⟩ (.string ⟨#[46]⟩)).setCell ⟨w.heap.size + 1, 1, none⟩ (.slice (some ⟨w.heap.size + 1 + 1, 0, none⟩) 1 1)).heap.size = w.heap.size + 1 + 1 := by simp [World.setCell, World.drewN]
  rw [hsz] at h3
  refine ⟨⟨_, heap_keep h2, ⟨rfl, Or.inr ⟨w.heap.size + 1 + 1, 1, _, rfl, by omega, h3, Nat.le_refl _, by decide, rfl, rfl⟩⟩⟩, ?_, ?_⟩
  · refine heap_keep ?_
    rw [Below.heap_setCell _ _ _ _ (by show w.heap.size ≠ w.heap.size + 1; omega), Below.heap_setCell _ _ _ _ (by show w.heap.size ≠ w.heap.size + 1; omega)]
    exact heap_keep h0
  · exact (((below_drewN ((((Below.refl w.heap.size w).alloc (Nat.le_refl _) _).alloc (by simp) _)) nq).setCell (by show w.heap.size ≤ w.heap.size + 1; omega) _).setCell (by show w.heap.size ≤ w.heap.size + 1; omega) _).alloc (by rw [hsz]; omega) _
theorem pat_none {o : Option Pat} {q : ByteArray} {b1 b2 : Bool} {r : Option PS} (h : o = patWith q b1 b2) (hr : runS q.data.toList noPS = r) (h2 : r = none) : o = none := by
  rw [h]; unfold patWith; rw [hr, h2]; rfl
theorem psI_push (b : Bool) (x : PS) {q : ByteArray} {k : Nat} (h : k < q.size) (ds : List Int) (d : Int) : psI b x ++ q.extract k (k + 1) = psI b ⟨x.ls ++ [q[k]], ds, d⟩ := by
  unfold psI
  rw [push_byte (refPre b ++ x.ls) h, List.append_assoc]
theorem psL_push (b : Bool) (x : PS) (ls : List UInt8) (d : Int) : psL b x ++ [mxD x.d] = psL b ⟨ls, x.ds ++ [x.d], d⟩ := by
  unfold psL
  rw [List.map_append, List.append_assoc]
  rfl
theorem pat_end {q : ByteArray} {b1 b2 : Bool} {x : PS} (hr : runS q.data.toList noPS = some x) : patWith q b1 b2 = if inB x.ls.length 1 16 = true then some ⟨x.ls, x.ds ++ [x.d], b1, b2⟩ else none := by
  unfold patWith
  rw [hr]
  unfold endS
  by_cases h : 1 ≤ x.ls.length ∧ x.ls.length ≤ 16
  · rw [if_pos (show inB x.ls.length 1 16 = true from decide_eq_true (by omega))]
    simp only [if_pos h]
  · rw [if_neg (show ¬ inB x.ls.length 1 16 = true from fun e => h (by have := of_decide_eq_true e; omega))]
    simp only [if_neg h]
theorem byte_46 (c : UInt8) : (c == 46) = ((c.toNat : Int) == 46) := by
  by_cases h : c = 46
  · subst h; rfl
  · have : ¬ (c.toNat : Int) = 46 := fun e => h (UInt8.toNat_inj.1 (by show c.toNat = 46; omega))
    rw [beq_eq_false_iff_ne.2 h, beq_eq_false_iff_ne.2 this]
theorem last_flag (l : List UInt8) : lastIs 46 (cutHead l).1 = (decide (1 < l.length) && lastIs 46 l) := by
  unfold cutHead
  cases l with
  | nil => rfl
  | cons a t =>
    cases t with
    | nil =>
      by_cases h : headIs 46 [a] = true
      · rw [if_pos h]; rfl
      · rw [if_neg h]
        have : lastIs 46 [a] = headIs 46 [a] := rfl
        show lastIs 46 [a] = (decide (1 < 1) && lastIs 46 [a])
        rw [this]
        simpa using h
    | cons b r =>
      have e : lastIs 46 (b :: r) = lastIs 46 (a :: b :: r) := by unfold lastIs; rw [List.getLast?_cons_cons]
      rw [decide_eq_true (by simp), Bool.true_and]
      split
      · exact e
      · rfl
theorem pat_flags {s : ByteArray} {b1 b2 : Bool} (h1 : b1 = headIs 46 s.data.toList) (h2 : b2 = (decide (1 < s.size) && lastIs 46 s.data.toList)) :
    patOf s.data.toList = patWith (if b1 = true then (if b2 = true then (s.extract 1 s.size).extract 0 (s.size - 1 - 1) else s.extract 1 s.size) else (if b2 = true then s.extract 0 (s.size - 1) else s)) b1 b2 := by
  have hl : s.data.toList.length = s.size := Array.length_toList
  have h3 := last_flag s.data.toList
  rw [hl, ← h2] at h3
  cases b1 with
  | true =>
    have hc : (cutHead s.data.toList).1 = s.data.toList.tail := by unfold cutHead; rw [if_pos h1.symm]
    rw [hc] at h3
    cases b2 with
    | true => exact pat_both h1.symm h3
    | false => exact pat_start h1.symm h3
  | false =>
    have hc : (cutHead s.data.toList).1 = s.data.toList := by unfold cutHead; rw [if_neg (by rw [← h1]; decide)]
    rw [hc] at h3
    cases b2 with
    | true => exact pat_stop h1.symm h3
    | false => exact pat_plain h1.symm h3
theorem lv_false (b : Bool) (x : PS) : psL b x ++ [mxD x.d] = refLv ⟨x.ls, x.ds ++ [x.d], b, false⟩ := by unfold psL refLv; simp [refPreV]
theorem lv_true (b : Bool) (x : PS) : psL b x ++ [mxD x.d] ++ [0] = refLv ⟨x.ls, x.ds ++ [x.d], b, true⟩ := by unfold psL refLv; simp [refPreV]
theorem it_false (b : Bool) (x : PS) : refPre b ++ x.ls = refItems ⟨x.ls, x.ds ++ [x.d], b, false⟩ := by unfold refItems; simp [refPre]
theorem it_true (b : Bool) (x : PS) : refPre b ++ x.ls ++ [46] = refItems ⟨x.ls, x.ds ++ [x.d], b, true⟩ := by unfold refItems; simp [refPre]
theorem FKnow.drewN {w wr : World} {I : ByteArray} {L : List Int} {A : Option Addr} {m c : Nat} (h : FKnow w I L wr A m c) (n : Nat) : FKnow w I L (wr.drewN n) A m c := ⟨h.hb, h.hres, h.hm, h.hI, below_drewN h.low n⟩
theorem rp_final {w W : World} {I : ByteArray} {L : List Int} {A : Option Addr} {m c : Nat} {s : ByteArray} {x : PS} {b1 b2 : Bool} (hF : FKnow w I L W A m c)
    (hP : patOf s.data.toList = if inB x.ls.length 1 16 = true then some ⟨x.ls, x.ds ++ [x.d], b1, b2⟩ else none) (hI : I.data.toList = refItems ⟨x.ls, x.ds ++ [x.d], b1, b2⟩) (hL : L = refLv ⟨x.ls, x.ds ++ [x.d], b1, b2⟩) :
    RPPost w (patOf s.data.toList) (.returned (.tuple #[.agg #[.string I, .slice A m c], .bool (inB x.ls.length 1 16)])) ((W.setCell ⟨w.heap.size, 0, none⟩ (.string I)).setCell ⟨w.heap.size, 1, none⟩ (.slice A m c)) := by
  refine ⟨(hF.low.setCell (Nat.le_refl _) _).setCell (Nat.le_refl _) _, I, A, m, c, ?_, fun p hp => ?_⟩
  · rw [hP]
    cases inB x.ls.length 1 16 <;> rfl
  · rw [hP] at hp
    cases hi : inB x.ls.length 1 16 with
    | false => rw [hi] at hp; cases hp
    | true =>
      rw [hi] at hp
      injection hp with hp
      subst hp
      refine ⟨hI, ?_⟩
      rw [← hL]
      exact hF.post

set_option maxRecDepth 100000 in
set_option maxHeartbeats 4000000 in
theorem readPattern_any (s : ByteArray) (w : World) (hs : s.size ≤ 1000) :
    Calls Tryz.prog 86 #[.string s] w (RPPost w (patOf s.data.toList)) := by
  obtain ⟨b1, hb1⟩ : ∃ b, b = headIs 46 s.data.toList := ⟨_, rfl⟩
  obtain ⟨b2, hb2⟩ : ∃ b, b = (decide (1 < s.size) && lastIs 46 s.data.toList) := ⟨_, rfl⟩
  have HB1 := Lib.hid hb1
  have HB2 := Lib.hid hb2
  clear hb1 hb2
  go_enter Tryz.func86, Tryz.ntmps86
  go_wp2_with fail
  go_cut [5, 6] from 11 to 29 (fun v5 v6 wx => v5 = .bool b1 ∧ v6 = .bool b2 ∧ ∃ nq, wx = ((w.alloc (.cells #[.string ⟨#[]⟩, .slice none 0 0] 149)).alloc (.cells #[.string ⟨#[]⟩, .slice none 0 0] 149)).drewN nq)
  case first =>
    by_cases h0 : 0 < s.size
    · have hd0 : decide ((0 : Int) < (s.size : Int)) = true := by rw [decide_eq_true_eq]; omega
      have h0I : (0 : Int) < (s.size : Int) := by omega
      obtain ⟨n, hn⟩ : ∃ n, n = s.size - 1 := ⟨_, rfl⟩
      have hns : n < s.size := by omega
      have hnI : (n : Int) < (s.size : Int) := by omega
      have hw1 : IntKind.i64.wrap ((s.size : Int) - 1) = (n : Int) := by rw [IntKind.wrap_i64] <;> omega
      have H1 := Lib.hid (show b1 = ((s[0].toNat : Int) == 46) by rw [HB1.out, head_is h0]; exact byte_46 _)
      have H2 := Lib.hid (show lastIs 46 s.data.toList = ((s[n].toNat : Int) == 46) by
        have e := last_is h0
        rw [e]
        subst hn
        exact byte_46 _)
      clear hn
      by_cases h1 : 1 < s.size
      · have hd1 : decide ((1 : Int) < (s.size : Int)) = true := by rw [decide_eq_true_eq]; omega
        have h1I : (1 : Int) < (s.size : Int) := by omega
        have H3 := Lib.hid (show b2 = ((s[n].toNat : Int) == 46) by rw [HB2.out, decide_eq_true h1, Bool.true_and, H2.out])
        go_quiet (fail)
        go_wp2
        go_meet
        exact ⟨by rw [H1.out], by rw [H3.out], _, rfl⟩
      · have hd1 : decide ((1 : Int) < (s.size : Int)) = false := by rw [decide_eq_false_iff_not]; omega
        have H3 := Lib.hid (show b2 = false by rw [HB2.out, decide_eq_false h1, Bool.false_and])
        go_quiet (fail)
        go_wp2
        go_meet
        exact ⟨by rw [H1.out], by rw [H3.out], _, rfl⟩
    · have hs0 : s.size = 0 := by omega
      have hd0 : decide ((0 : Int) < (s.size : Int)) = false := by rw [decide_eq_false_iff_not]; omega
      have hd1 : decide ((1 : Int) < (s.size : Int)) = false := by rw [decide_eq_false_iff_not]; omega
      have H1 := Lib.hid (show b1 = false by
        rw [HB1.out]
        have : s.data.toList = [] := List.length_eq_zero_iff.1 (by rw [Array.length_toList]; exact hs0)
        rw [this]; rfl)
      have H3 := Lib.hid (show b2 = false by rw [HB2.out, decide_eq_false (by omega), Bool.false_and])
      clear hs0
      go_quiet (fail)
      go_wp2
      go_meet
      exact ⟨by rw [H1.out], by rw [H3.out], _, rfl⟩
  case rest =>
    obtain ⟨rfl, rfl, nq, rfl⟩ := hcut
    cases b1 with
    | true =>
      cases b2 with
      | true =>
        have h1 : 1 < s.size := by
          have h := HB2.out
          by_cases h1 : 1 < s.size
          · exact h1
          · rw [decide_eq_false h1] at h; cases h
        obtain ⟨n, hn⟩ : ∃ n, n = s.size - 1 := ⟨_, rfl⟩
        have hns : n < s.size := by omega
        have hnI : (n : Int) < (s.size : Int) := by omega
        have hnL : (n : Int) ≤ (s.size : Int) := by omega
        have hnl : n ≤ s.size := by omega
        have hw1 : IntKind.i64.wrap ((s.size : Int) - 1) = (n : Int) := by rw [IntKind.wrap_i64] <;> omega
        have h1L : (1 : Int) ≤ (s.size : Int) := by omega
        have hesz : (s.extract 1 s.size).size = n := by rw [ByteArray.size_extract]; omega
        have hw2 : IntKind.i64.wrap ((n : Int) - 1) = ((n - 1 : Nat) : Int) := by rw [IntKind.wrap_i64] <;> omega
        have hn1 : ((n - 1 : Nat) : Int) ≤ (n : Int) := by omega
        have hn2 : n - 1 ≤ n := by omega
        have HC := Lib.hid (show patOf s.data.toList = patWith ((s.extract 1 s.size).extract 0 (n - 1)) true true by rw [pat_flags HB1.out HB2.out, hn]; rfl)
        have hqs : ((s.extract 1 s.size).extract 0 (n - 1)).size ≤ 1000 := by rw [ByteArray.size_extract, ByteArray.size_extract]; omega
        clear hn
        go_wp2_with fail
        generalize (s.extract 1 s.size).extract 0 (n - 1) = q at HC hqs ⊢
        go_loopw [7, 8, 9, 10] (fun v7 v8 v9 i wr => ∃ (k : Nat) (x : PS) (g : Bool), k ≤ q.size ∧ i = .int .i64 k ∧ v7 = .int .i64 (mxD x.d) ∧ v8 = .int .i64 (x.ls.length : Int) ∧ v9 = .bool g ∧ Hid (g = decide (x.d ≠ -1)) ∧ FRel w (psI true x) (psL true x) wr ∧ Hid (runS q.data.toList noPS = runS (q.data.toList.drop k) x) ∧ Hid x.Ok ∧ x.ls.length ≤ k) (fun _ _ _ i _ => q.size - (intOf i).toNat)
        case atStart => exact ⟨0, noPS, false, Nat.zero_le _, rfl, rfl, rfl, rfl, Lib.hid rfl, rp_start w nq, Lib.hid rfl, Lib.hid noPS_ok, Nat.le_refl _⟩
        case round =>
          obtain ⟨k, x, g, hk, rfl, rfl, rfl, rfl, HG, hP, HR, HOK, hxl⟩ := hrel
          obtain ⟨A, m, c, hF⟩ := hP.know
          have HFM := Lib.hid hF.hm
          have hdg := HOK.out.dig
          have hml : m ≤ k + 1 := by
            rw [hF.hm]
            unfold psL
            rw [List.length_append, List.length_map, HOK.out.len]
            have : (refPreV true).length ≤ 1 := by decide
            omega
          have hIs : (psI true x).size ≤ k + 1 := by
            show (refPre true ++ x.ls).toArray.size ≤ _
            rw [List.size_toArray, List.length_append]
            have : (refPre true).length ≤ 1 := by decide
            omega
          obtain ⟨I, hIe⟩ : ∃ I : ByteArray, I = psI true x := ⟨_, rfl⟩
          rw [← hIe] at hF hIs
          have HIE := Lib.hid hIe
          clear hIe
          have c0 : wr.cell? ⟨w.heap.size + 1, 0, none⟩ = some (.string I) := cell_of_row wr _ 0 _ _ (0, 0) hF.hb
          have c1 : wr.cell? ⟨w.heap.size + 1, 1, none⟩ = some (.slice A m c) := cell_of_row wr _ 1 _ _ (0, 0) hF.hb
          have z0 : wr.frozen? ⟨w.heap.size + 1, 0, none⟩ = false := by simp [World.frozen?, hF.hb]
          have z1 : wr.frozen? ⟨w.heap.size + 1, 1, none⟩ = false := by simp [World.frozen?, hF.hb]
          have r0 : wr.cell? ⟨w.heap.size, 0, none⟩ = some (.string ⟨#[]⟩) := cell_of_row wr _ 0 _ _ (0, 0) hF.hres
          have r1 : wr.cell? ⟨w.heap.size, 1, none⟩ = some (.slice none 0 0) := cell_of_row wr _ 1 _ _ (0, 0) hF.hres
          have y0 : wr.frozen? ⟨w.heap.size, 0, none⟩ = false := by simp [World.frozen?, hF.hres]
          have y1 : wr.frozen? ⟨w.heap.size, 1, none⟩ = false := by simp [World.frozen?, hF.hres]
          have hltb := heap_lt hF.hb
          have hltr := heap_lt hF.hres
          have hlow := hF.low
          have a1 := own_off hF.hI hF.hb (by decide)
          have a0 := own_off hF.hI hF.hres (by decide)
          have hIr := hF.hI
          by_cases hlt : k < q.size
          · have hkl : (k : Int) < (q.size : Int) := by omega
            cases hdc : digB (q[k].toNat : Int) with
            | true =>
              obtain ⟨g1, g2⟩ := of_decide_eq_true (show decide (48 ≤ (q[k].toNat : Int) ∧ (q[k].toNat : Int) ≤ 57) = true from hdc)
              have g1n : 48 ≤ q[k].toNat := by omega
              have g2n : q[k].toNat ≤ 57 := by omega
              cases g with
              | true =>
                have hd : ¬ x.d = -1 := by have := HG.out; simpa using this.symm
                have HN := Lib.hid (show patOf s.data.toList = none from pat_none HC.out HR.out (by rw [runS_no hlt (by unfold stepS; rw [if_pos hdc, if_neg hd])]))
                have hBf := ((hlow.setCell (p := ⟨w.heap.size, 0, none⟩) (Nat.le_refl _) (.string I)).setCell (p := ⟨w.heap.size, 1, none⟩) (Nat.le_refl _) (.slice A m c))
                clear hdc hd hF
                go_wp2
                refine bodyPost_ret (v := .tuple #[.agg #[.string I, .slice A m c], .bool false]) (by simp [results, Tryz.results86, go_sem, r0, r1]) rfl ?_
                exact ⟨hBf, I, A, m, c, by rw [HN.out]; rfl, fun x hx => by rw [HN.out] at hx; cases hx⟩
              | false =>
                have hd : x.d = -1 := by have := HG.out; simpa using this.symm
                have HRN := Lib.hid (show runS q.data.toList noPS = runS (q.data.toList.drop (k + 1)) ⟨x.ls, x.ds, (q[k].toNat : Int) - 48⟩ by rw [HR.out]; exact runS_go hlt (by unfold stepS; rw [if_pos hdc, if_pos hd]))
                have HOK2 := Lib.hid (HOK.out.step (c := q[k]) (y := ⟨x.ls, x.ds, (q[k].toNat : Int) - 48⟩) (by unfold stepS; rw [if_pos hdc, if_pos hd]))
                have hwu : IntKind.u8.wrap ((q[k].toNat : Int) - 48) = (q[k].toNat : Int) - 48 := IntWalk.u8_in _ (by omega)
                have HMX := Lib.hid (show mxD ((q[k].toNat : Int) - 48) = (q[k].toNat : Int) - 48 by unfold mxD; rw [if_neg (by omega)])
                have HGT := Lib.hid (show true = decide ((q[k].toNat : Int) - 48 ≠ -1) by rw [decide_eq_true (by omega)])
                clear hdc hd hF
                go_wp2
                go_roundw
                case rel => exact ⟨k + 1, ⟨x.ls, x.ds, (q[k].toNat : Int) - 48⟩, true, by omega, by go_num, by rw [HMX.out], rfl, rfl, HGT, ⟨hP.loc, hP.res, hP.low⟩, HRN, HOK2, by show x.ls.length ≤ _; omega⟩
                case measure => simp [intOf]; omega
            | false =>
              have hng : ¬ (48 ≤ (q[k].toNat : Int) ∧ (q[k].toNat : Int) ≤ 57) := of_decide_eq_false (show decide (48 ≤ (q[k].toNat : Int) ∧ (q[k].toNat : Int) ≤ 57) = false from hdc)
              cases hsm : smallB (q[k].toNat : Int) with
              | false =>
                have HN := Lib.hid (show patOf s.data.toList = none from pat_none HC.out HR.out (by rw [runS_no hlt (by unfold stepS; rw [if_neg (by rw [hdc]; decide), if_neg (by rw [hsm]; decide)])]))
                have hBf := ((hlow.setCell (p := ⟨w.heap.size, 0, none⟩) (Nat.le_refl _) (.string I)).setCell (p := ⟨w.heap.size, 1, none⟩) (Nat.le_refl _) (.slice A m c))
                have HSM := Lib.hid hsm
                clear hdc hsm hF hP
                by_cases hc1 : 48 ≤ (q[k].toNat : Int)
                · have hc2 : ¬ (q[k].toNat : Int) ≤ 57 := fun h => hng ⟨hc1, h⟩
                  have hc1n : 48 ≤ q[k].toNat := by omega
                  have hc2n : ¬ q[k].toNat ≤ 57 := by omega
                  clear hng
                  go_wp2_with (go_at_call 139; refine (refSmall_any _ _).mono ?_; rintro e w' ⟨rfl, rfl⟩; rw [HSM.out])
                  refine bodyPost_ret (v := .tuple #[.agg #[.string I, .slice A m c], .bool false]) (by simp [results, Tryz.results86, go_sem, r0, r1]) rfl ?_
                  exact ⟨hBf, I, A, m, c, by rw [HN.out]; rfl, fun x hx => by rw [HN.out] at hx; cases hx⟩
                · have hc1n : ¬ 48 ≤ q[k].toNat := by omega
                  clear hng
                  go_wp2_with (go_at_call 139; refine (refSmall_any _ _).mono ?_; rintro e w' ⟨rfl, rfl⟩; rw [HSM.out])
                  refine bodyPost_ret (v := .tuple #[.agg #[.string I, .slice A m c], .bool false]) (by simp [results, Tryz.results86, go_sem, r0, r1]) rfl ?_
                  exact ⟨hBf, I, A, m, c, by rw [HN.out]; rfl, fun x hx => by rw [HN.out] at hx; cases hx⟩
              | true =>
                obtain ⟨s1, s2⟩ := of_decide_eq_true (show decide (97 ≤ (q[k].toNat : Int) ∧ (q[k].toNat : Int) ≤ 122) = true from hsm)
                have HST := Lib.hid (show stepS x q[k] = some ⟨x.ls ++ [q[k]], x.ds ++ [x.d], -1⟩ by unfold stepS; rw [if_neg (by rw [hdc]; decide), if_pos hsm])
                have HRN := Lib.hid (show runS q.data.toList noPS = runS (q.data.toList.drop (k + 1)) ⟨x.ls ++ [q[k]], x.ds ++ [x.d], -1⟩ by rw [HR.out]; exact runS_go hlt HST.out)
                have HOK2 := Lib.hid (HOK.out.step (c := q[k]) HST.out)
                have HIP := Lib.hid (show I ++ q.extract k (k + 1) = psI true ⟨x.ls ++ [q[k]], x.ds ++ [x.d], -1⟩ by rw [HIE.out]; exact psI_push true x hlt _ _)
                have hc1 : 48 ≤ (q[k].toNat : Int) := by omega
                have hc2 : ¬ (q[k].toNat : Int) ≤ 57 := by omega
                have hc1n : 48 ≤ q[k].toNat := by omega
                have hc2n : ¬ q[k].toNat ≤ 57 := by omega
                have HSM := Lib.hid hsm
                clear hdc hsm hng s1 s2 hP
                obtain ⟨i0, hi0, hz0, hz1, hz2⟩ := info_parts info3
                have hwk : IntKind.i64.wrap ((k : Int) + 1) = (k : Int) + 1 := by rw [IntKind.wrap_i64] <;> omega
                have hk2 : (k : Int) + 1 ≤ (q.size : Int) := by omega
                have hk3 : (k : Int) ≤ (k : Int) + 1 := by omega
                have hk4 : (0 : Int) ≤ (k : Int) := by omega
                have hk5 : ((k : Int) + 1).toNat = k + 1 := by omega
                have haddI := addS I (q.extract k (k + 1)) (by rw [ByteArray.size_extract]; omega)
                go_wp2_with (go_at_call 139; refine (refSmall_any _ _).mono ?_; rintro e w' ⟨rfl, rfl⟩; rw [HSM.out])
                go_cut [] from 72 to 86 (fun wx => FRel w (psI true ⟨x.ls ++ [q[k]], x.ds ++ [x.d], -1⟩) (psL true ⟨x.ls ++ [q[k]], x.ds ++ [x.d], -1⟩) wx)
                case first =>
                  go_region_law (first
                    | (refine step_append_lies _ (by rfl) _ _ _ (by rfl) w.heap.size 3 i0 _ 1 8 Tryz.underlying63 hi0 hz0 hz1 hz2 rfl (by omega) _ m _ (by rfl) ((hIr.alloc _).drew)
                        ⟨wr.heap.size, 0, none⟩ 1 1 [.int .i64 (mxD x.d)] (by rfl) (by rfl) (World.news_of_block (cs := #[.int .i64 (mxD x.d)]) (t := 3) (fr := (0, 0)) (heap_alloc_new wr _)) (by simp [Value.oneCell'])
                        (by omega) (by unfold maxLen; omega) (by omega) (by simp; omega) (wr.heap.size + 1) (by simp) ?_; intro gg cap5 w5 hown5 hgrow hat hlt5; have hb5 := (hgrow.block _ (by simp; omega) (fun e => a1 e.symm)).trans (heap_keep hF.hb); have x0 : w5.cell? ⟨w.heap.size + 1, 0, none⟩ = some (.string I) := cell_of_row w5 _ 0 _ _ (0, 0) hb5; have x1 : w5.cell? ⟨w.heap.size + 1, 1, none⟩ = some (.slice A m c) := cell_of_row w5 _ 1 _ _ (0, 0) hb5; have zz0 : w5.frozen? ⟨w.heap.size + 1, 0, none⟩ = false := (by simp [World.frozen?, hb5]); have zz1 : w5.frozen? ⟨w.heap.size + 1, 1, none⟩ = false := (by simp [World.frozen?, hb5])))
                  all_goals
                    have hres5 := (hgrow.block _ (by simp; omega) (fun e => a0 e.symm)).trans (heap_keep hF.hres)
                    have hB5 := ((hlow.alloc hlow.size (.cells #[.int .i64 (mxD x.d)] 3)).drew).grown hgrow (by simp; omega) (fun p hp => (hIr.lt p hp).1)
                    have hFn := FRel.push (S := I ++ q.extract k (k + 1)) hb5 hres5 hB5 HFM.out hown5
                    clear hown5 hgrow hb5 x0 x1 zz0 zz1 hres5 hB5 hat hlt5
                    go_wp2_with fail
                    go_meet
                    rw [← HIP.out, ← psL_push true x]; exact hFn
                case rest =>
                  go_wp2
                  go_roundw
                  case rel => exact ⟨k + 1, ⟨x.ls ++ [q[k]], x.ds ++ [x.d], -1⟩, false, by omega, by go_num, rfl, by simp, rfl, Lib.hid rfl, hcut, HRN, HOK2, by simp <;> omega⟩
                  case measure => simp [intOf]; omega
          · obtain rfl : k = q.size := by omega
            have HRX := Lib.hid (show runS q.data.toList noPS = some x by rw [HR.out]; exact runS_end hlt)
            have HPO := Lib.hid (show patOf s.data.toList = if inB x.ls.length 1 16 = true then some ⟨x.ls, x.ds ++ [x.d], true, true⟩ else none by rw [HC.out, pat_end HRX.out])
            obtain ⟨i0, hi0, hz0, hz1, hz2⟩ := info_parts info3
            clear hP
            have haddI := addS I ⟨#[46]⟩ (by show I.size + 1 ≤ _; omega)
            go_wp2_with fail
            go_cut [] from 90 to 99 (fun wx => FRel w (I ++ ⟨#[46]⟩) (psL true x ++ [mxD x.d]) wx)
            case first =>
              go_region_law (first
                | (refine step_append_lies _ (by rfl) _ _ _ (by rfl) w.heap.size 3 i0 _ 1 8 Tryz.underlying63 hi0 hz0 hz1 hz2 rfl (by omega) _ m _ (by rfl) ((hIr.alloc _).drew)
                    ⟨wr.heap.size, 0, none⟩ 1 1 [.int .i64 (mxD x.d)] (by rfl) (by rfl) (World.news_of_block (cs := #[.int .i64 (mxD x.d)]) (t := 3) (fr := (0, 0)) (heap_alloc_new wr _)) (by simp [Value.oneCell'])
                    (by omega) (by unfold maxLen; omega) (by omega) (by simp; omega) (wr.heap.size + 1) (by simp) ?_; intro gg cap5 w5 hown5 hgrow hat hlt5; have hb5 := (hgrow.block _ (by simp; omega) (fun e => a1 e.symm)).trans (heap_keep hF.hb); have x0 : w5.cell? ⟨w.heap.size + 1, 0, none⟩ = some (.string I) := cell_of_row w5 _ 0 _ _ (0, 0) hb5; have x1 : w5.cell? ⟨w.heap.size + 1, 1, none⟩ = some (.slice A m c) := cell_of_row w5 _ 1 _ _ (0, 0) hb5; have zz0 : w5.frozen? ⟨w.heap.size + 1, 0, none⟩ = false := (by simp [World.frozen?, hb5]); have zz1 : w5.frozen? ⟨w.heap.size + 1, 1, none⟩ = false := (by simp [World.frozen?, hb5])))
              all_goals
                have hres5 := (hgrow.block _ (by simp; omega) (fun e => a0 e.symm)).trans (heap_keep hF.hres)
                have hB5 := ((hlow.alloc hlow.size (.cells #[.int .i64 (mxD x.d)] 3)).drew).grown hgrow (by simp; omega) (fun p hp => (hIr.lt p hp).1)
                have hFn := FRel.push (S := I ++ ⟨#[46]⟩) hb5 hres5 hB5 HFM.out hown5
                clear hown5 hgrow hb5 x0 x1 zz0 zz1 hres5 hB5 hat hlt5
                go_wp2_with fail
                go_meet
                exact hFn
            case rest =>
              have hI2z : (I ++ ⟨#[46]⟩ : ByteArray).data.toList = refPre true ++ x.ls ++ [46] := by
                rw [ByteArray.data_append, Array.toList_append, HIE.out]; rfl
              have hm2 := hF.hm
              obtain ⟨I, hI2⟩ : ∃ J : ByteArray, J = I ++ ⟨#[46]⟩ := ⟨_, rfl⟩
              rw [← hI2] at hcut hI2z
              have HI2 := Lib.hid hI2z
              clear hI2 hI2z hF c0 c1 z0 z1 r0 r1 y0 y1 hltb hltr hlow a1 a0 hIr HFM
              obtain ⟨A, m, c, hF⟩ := hcut.know
              have hml2 : m ≤ 1003 := by
                have h := hF.hm
                rw [List.length_append, ← hm2] at h
                simp only [List.length_singleton] at h
                omega
              clear hm2
              have c0 : wc.cell? ⟨w.heap.size + 1, 0, none⟩ = some (.string I) := cell_of_row wc _ 0 _ _ (0, 0) hF.hb
              have c1 : wc.cell? ⟨w.heap.size + 1, 1, none⟩ = some (.slice A m c) := cell_of_row wc _ 1 _ _ (0, 0) hF.hb
              have z0 : wc.frozen? ⟨w.heap.size + 1, 0, none⟩ = false := by simp [World.frozen?, hF.hb]
              have z1 : wc.frozen? ⟨w.heap.size + 1, 1, none⟩ = false := by simp [World.frozen?, hF.hb]
              have r0 : wc.cell? ⟨w.heap.size, 0, none⟩ = some (.string ⟨#[]⟩) := cell_of_row wc _ 0 _ _ (0, 0) hF.hres
              have r1 : wc.cell? ⟨w.heap.size, 1, none⟩ = some (.slice none 0 0) := cell_of_row wc _ 1 _ _ (0, 0) hF.hres
              have y0 : wc.frozen? ⟨w.heap.size, 0, none⟩ = false := by simp [World.frozen?, hF.hres]
              have y1 : wc.frozen? ⟨w.heap.size, 1, none⟩ = false := by simp [World.frozen?, hF.hres]
              have hltb := heap_lt hF.hb
              have hltr := heap_lt hF.hres
              have hlow := hF.low
              have a1 := own_off hF.hI hF.hb (by decide)
              have a0 := own_off hF.hI hF.hres (by decide)
              have hIr := hF.hI
              go_wp2_with (at_builtin; refine wpList_append_own _ rfl _ _ 63 rfl w.heap.size 3 i0 _ 1 8 Tryz.underlying63 hi0 hz0 hz1 hz2 rfl (by decide) _ m _ rfl (hIr.alloc _) ⟨wc.heap.size, 0, none⟩ 1 1 [.int .i64 (0)] rfl rfl (World.news_of_block (cs := #[.int .i64 (0)]) (t := 3) (fr := (0, 0)) (heap_alloc_new wc _)) (by simp [Value.oneCell']) (by unfold maxLen; omega) (by omega) (by simp; omega) ?_; intro v5 w5 hown5 hgrow hnil; obtain ⟨gg, cap5, rfl⟩ := own_pos hown5; have hb5 := (hgrow.block _ (by simp; omega) (fun e => a1 e.symm)).trans (heap_keep hF.hb); have x1 : w5.cell? ⟨w.heap.size + 1, 1, none⟩ = some (.slice A m c) := cell_of_row w5 _ 1 _ _ (0, 0) hb5; have zz1 : w5.frozen? ⟨w.heap.size + 1, 1, none⟩ = false := (by simp [World.frozen?, hb5]))
              have hres5 := (hgrow.block _ (by simp; omega) (fun e => a0 e.symm)).trans (heap_keep hF.hres)
              have hB5 := (hlow.alloc hlow.size (.cells #[.int .i64 (0)] 3)).grown hgrow (by simp; omega) (fun p hp => (hIr.lt p hp).1)
              have hFn := FRel.pushV hb5 hres5 hB5 hF.hm hown5
              obtain ⟨wz, ez⟩ : ∃ wz, wz = w5.setCell ⟨w.heap.size + 1, 1, none⟩ (.slice (some ⟨gg, 0, none⟩) (m + 1) cap5) := ⟨_, rfl⟩
              rw [← ez] at hFn ⊢
              clear ez hb5 hres5 hB5 hown5 hgrow x1 zz1 hF c0 c1 z0 z1 r0 r1 y0 y1 hltb hltr hlow a1 a0 hIr
              obtain ⟨A, m, c, hF⟩ := hFn.know
              have c0 : wz.cell? ⟨w.heap.size + 1, 0, none⟩ = some (.string I) := cell_of_row wz _ 0 _ _ (0, 0) hF.hb
              have c1 : wz.cell? ⟨w.heap.size + 1, 1, none⟩ = some (.slice A m c) := cell_of_row wz _ 1 _ _ (0, 0) hF.hb
              have z0 : wz.frozen? ⟨w.heap.size + 1, 0, none⟩ = false := by simp [World.frozen?, hF.hb]
              have z1 : wz.frozen? ⟨w.heap.size + 1, 1, none⟩ = false := by simp [World.frozen?, hF.hb]
              have r0 : wz.cell? ⟨w.heap.size, 0, none⟩ = some (.string ⟨#[]⟩) := cell_of_row wz _ 0 _ _ (0, 0) hF.hres
              have r1 : wz.cell? ⟨w.heap.size, 1, none⟩ = some (.slice none 0 0) := cell_of_row wz _ 1 _ _ (0, 0) hF.hres
              have y0 : wz.frozen? ⟨w.heap.size, 0, none⟩ = false := by simp [World.frozen?, hF.hres]
              have y1 : wz.frozen? ⟨w.heap.size, 1, none⟩ = false := by simp [World.frozen?, hF.hres]
              have hltb := heap_lt hF.hb
              have hltr := heap_lt hF.hres
              have hlow := hF.low
              have a1 := own_off hF.hI hF.hb (by decide)
              have a0 := own_off hF.hI hF.hres (by decide)
              have hIr := hF.hI
              have HPT := Lib.hid (fun nn => rp_final (s := s) (x := x) (b1 := true) (b2 := true) (hF.drewN nn) HPO.out (by rw [HI2.out]; exact it_true true x) (by exact lv_true true x))
              clear hF hFn
              go_region_with ((go_at_call 76; refine (within_any _ _ _ _).mono ?_; rintro e w' ⟨rfl, rfl⟩))
              all_goals
                go_wp2
                refine bodyPost_ret (v := .tuple #[.agg #[.string I, .slice A m c], .bool (inB x.ls.length 1 16)]) (by simp [results, Tryz.results86, go_sem, r0, r1]) rfl ?_
                exact HPT.out 1
      | false =>
        have h1L : (1 : Int) ≤ (s.size : Int) := by
          have h := HB1.out
          by_cases h1 : 0 < s.size
          · omega
          · have : s.data.toList = [] := List.length_eq_zero_iff.1 (by rw [Array.length_toList]; show s.size = 0; omega)
            rw [this] at h
            cases h
        have hesz : (s.extract 1 s.size).size = s.size - 1 := by rw [ByteArray.size_extract]; omega
        have HC := Lib.hid (show patOf s.data.toList = patWith (s.extract 1 s.size) true false by rw [pat_flags HB1.out HB2.out]; rfl)
        have hqs : (s.extract 1 s.size).size ≤ 1000 := by rw [ByteArray.size_extract]; omega
        go_wp2_with fail
        generalize s.extract 1 s.size = q at HC hqs ⊢
        go_loopw [7, 8, 9, 10] (fun v7 v8 v9 i wr => ∃ (k : Nat) (x : PS) (g : Bool), k ≤ q.size ∧ i = .int .i64 k ∧ v7 = .int .i64 (mxD x.d) ∧ v8 = .int .i64 (x.ls.length : Int) ∧ v9 = .bool g ∧ Hid (g = decide (x.d ≠ -1)) ∧ FRel w (psI true x) (psL true x) wr ∧ Hid (runS q.data.toList noPS = runS (q.data.toList.drop k) x) ∧ Hid x.Ok ∧ x.ls.length ≤ k) (fun _ _ _ i _ => q.size - (intOf i).toNat)
        case atStart => exact ⟨0, noPS, false, Nat.zero_le _, rfl, rfl, rfl, rfl, Lib.hid rfl, rp_start w nq, Lib.hid rfl, Lib.hid noPS_ok, Nat.le_refl _⟩
        case round =>
          obtain ⟨k, x, g, hk, rfl, rfl, rfl, rfl, HG, hP, HR, HOK, hxl⟩ := hrel
          obtain ⟨A, m, c, hF⟩ := hP.know
          have HFM := Lib.hid hF.hm
          have hdg := HOK.out.dig
          have hml : m ≤ k + 1 := by
            rw [hF.hm]
            unfold psL
            rw [List.length_append, List.length_map, HOK.out.len]
            have : (refPreV true).length ≤ 1 := by decide
            omega
          have hIs : (psI true x).size ≤ k + 1 := by
            show (refPre true ++ x.ls).toArray.size ≤ _
            rw [List.size_toArray, List.length_append]
            have : (refPre true).length ≤ 1 := by decide
            omega
          obtain ⟨I, hIe⟩ : ∃ I : ByteArray, I = psI true x := ⟨_, rfl⟩
          rw [← hIe] at hF hIs
          have HIE := Lib.hid hIe
          clear hIe
          have c0 : wr.cell? ⟨w.heap.size + 1, 0, none⟩ = some (.string I) := cell_of_row wr _ 0 _ _ (0, 0) hF.hb
          have c1 : wr.cell? ⟨w.heap.size + 1, 1, none⟩ = some (.slice A m c) := cell_of_row wr _ 1 _ _ (0, 0) hF.hb
          have z0 : wr.frozen? ⟨w.heap.size + 1, 0, none⟩ = false := by simp [World.frozen?, hF.hb]
          have z1 : wr.frozen? ⟨w.heap.size + 1, 1, none⟩ = false := by simp [World.frozen?, hF.hb]
          have r0 : wr.cell? ⟨w.heap.size, 0, none⟩ = some (.string ⟨#[]⟩) := cell_of_row wr _ 0 _ _ (0, 0) hF.hres
          have r1 : wr.cell? ⟨w.heap.size, 1, none⟩ = some (.slice none 0 0) := cell_of_row wr _ 1 _ _ (0, 0) hF.hres
          have y0 : wr.frozen? ⟨w.heap.size, 0, none⟩ = false := by simp [World.frozen?, hF.hres]
          have y1 : wr.frozen? ⟨w.heap.size, 1, none⟩ = false := by simp [World.frozen?, hF.hres]
          have hltb := heap_lt hF.hb
          have hltr := heap_lt hF.hres
          have hlow := hF.low
          have a1 := own_off hF.hI hF.hb (by decide)
          have a0 := own_off hF.hI hF.hres (by decide)
          have hIr := hF.hI
          by_cases hlt : k < q.size
          · have hkl : (k : Int) < (q.size : Int) := by omega
            cases hdc : digB (q[k].toNat : Int) with
            | true =>
              obtain ⟨g1, g2⟩ := of_decide_eq_true (show decide (48 ≤ (q[k].toNat : Int) ∧ (q[k].toNat : Int) ≤ 57) = true from hdc)
              have g1n : 48 ≤ q[k].toNat := by omega
              have g2n : q[k].toNat ≤ 57 := by omega
              cases g with
              | true =>
                have hd : ¬ x.d = -1 := by have := HG.out; simpa using this.symm
                have HN := Lib.hid (show patOf s.data.toList = none from pat_none HC.out HR.out (by rw [runS_no hlt (by unfold stepS; rw [if_pos hdc, if_neg hd])]))
                have hBf := ((hlow.setCell (p := ⟨w.heap.size, 0, none⟩) (Nat.le_refl _) (.string I)).setCell (p := ⟨w.heap.size, 1, none⟩) (Nat.le_refl _) (.slice A m c))
                clear hdc hd hF
                go_wp2
                refine bodyPost_ret (v := .tuple #[.agg #[.string I, .slice A m c], .bool false]) (by simp [results, Tryz.results86, go_sem, r0, r1]) rfl ?_
                exact ⟨hBf, I, A, m, c, by rw [HN.out]; rfl, fun x hx => by rw [HN.out] at hx; cases hx⟩
              | false =>
                have hd : x.d = -1 := by have := HG.out; simpa using this.symm
                have HRN := Lib.hid (show runS q.data.toList noPS = runS (q.data.toList.drop (k + 1)) ⟨x.ls, x.ds, (q[k].toNat : Int) - 48⟩ by rw [HR.out]; exact runS_go hlt (by unfold stepS; rw [if_pos hdc, if_pos hd]))
                have HOK2 := Lib.hid (HOK.out.step (c := q[k]) (y := ⟨x.ls, x.ds, (q[k].toNat : Int) - 48⟩) (by unfold stepS; rw [if_pos hdc, if_pos hd]))
                have hwu : IntKind.u8.wrap ((q[k].toNat : Int) - 48) = (q[k].toNat : Int) - 48 := IntWalk.u8_in _ (by omega)
                have HMX := Lib.hid (show mxD ((q[k].toNat : Int) - 48) = (q[k].toNat : Int) - 48 by unfold mxD; rw [if_neg (by omega)])
                have HGT := Lib.hid (show true = decide ((q[k].toNat : Int) - 48 ≠ -1) by rw [decide_eq_true (by omega)])
                clear hdc hd hF
                go_wp2
                go_roundw
                case rel => exact ⟨k + 1, ⟨x.ls, x.ds, (q[k].toNat : Int) - 48⟩, true, by omega, by go_num, by rw [HMX.out], rfl, rfl, HGT, ⟨hP.loc, hP.res, hP.low⟩, HRN, HOK2, by show x.ls.length ≤ _; omega⟩
                case measure => simp [intOf]; omega
            | false =>
              have hng : ¬ (48 ≤ (q[k].toNat : Int) ∧ (q[k].toNat : Int) ≤ 57) := of_decide_eq_false (show decide (48 ≤ (q[k].toNat : Int) ∧ (q[k].toNat : Int) ≤ 57) = false from hdc)
              cases hsm : smallB (q[k].toNat : Int) with
              | false =>
                have HN := Lib.hid (show patOf s.data.toList = none from pat_none HC.out HR.out (by rw [runS_no hlt (by unfold stepS; rw [if_neg (by rw [hdc]; decide), if_neg (by rw [hsm]; decide)])]))
                have hBf := ((hlow.setCell (p := ⟨w.heap.size, 0, none⟩) (Nat.le_refl _) (.string I)).setCell (p := ⟨w.heap.size, 1, none⟩) (Nat.le_refl _) (.slice A m c))
                have HSM := Lib.hid hsm
                clear hdc hsm hF hP
                by_cases hc1 : 48 ≤ (q[k].toNat : Int)
                · have hc2 : ¬ (q[k].toNat : Int) ≤ 57 := fun h => hng ⟨hc1, h⟩
                  have hc1n : 48 ≤ q[k].toNat := by omega
                  have hc2n : ¬ q[k].toNat ≤ 57 := by omega
                  clear hng
                  go_wp2_with (go_at_call 139; refine (refSmall_any _ _).mono ?_; rintro e w' ⟨rfl, rfl⟩; rw [HSM.out])
                  refine bodyPost_ret (v := .tuple #[.agg #[.string I, .slice A m c], .bool false]) (by simp [results, Tryz.results86, go_sem, r0, r1]) rfl ?_
                  exact ⟨hBf, I, A, m, c, by rw [HN.out]; rfl, fun x hx => by rw [HN.out] at hx; cases hx⟩
                · have hc1n : ¬ 48 ≤ q[k].toNat := by omega
                  clear hng
                  go_wp2_with (go_at_call 139; refine (refSmall_any _ _).mono ?_; rintro e w' ⟨rfl, rfl⟩; rw [HSM.out])
                  refine bodyPost_ret (v := .tuple #[.agg #[.string I, .slice A m c], .bool false]) (by simp [results, Tryz.results86, go_sem, r0, r1]) rfl ?_
                  exact ⟨hBf, I, A, m, c, by rw [HN.out]; rfl, fun x hx => by rw [HN.out] at hx; cases hx⟩
              | true =>
                obtain ⟨s1, s2⟩ := of_decide_eq_true (show decide (97 ≤ (q[k].toNat : Int) ∧ (q[k].toNat : Int) ≤ 122) = true from hsm)
                have HST := Lib.hid (show stepS x q[k] = some ⟨x.ls ++ [q[k]], x.ds ++ [x.d], -1⟩ by unfold stepS; rw [if_neg (by rw [hdc]; decide), if_pos hsm])
                have HRN := Lib.hid (show runS q.data.toList noPS = runS (q.data.toList.drop (k + 1)) ⟨x.ls ++ [q[k]], x.ds ++ [x.d], -1⟩ by rw [HR.out]; exact runS_go hlt HST.out)
                have HOK2 := Lib.hid (HOK.out.step (c := q[k]) HST.out)
                have HIP := Lib.hid (show I ++ q.extract k (k + 1) = psI true ⟨x.ls ++ [q[k]], x.ds ++ [x.d], -1⟩ by rw [HIE.out]; exact psI_push true x hlt _ _)
                have hc1 : 48 ≤ (q[k].toNat : Int) := by omega
                have hc2 : ¬ (q[k].toNat : Int) ≤ 57 := by omega
                have hc1n : 48 ≤ q[k].toNat := by omega
                have hc2n : ¬ q[k].toNat ≤ 57 := by omega
                have HSM := Lib.hid hsm
                clear hdc hsm hng s1 s2 hP
                obtain ⟨i0, hi0, hz0, hz1, hz2⟩ := info_parts info3
                have hwk : IntKind.i64.wrap ((k : Int) + 1) = (k : Int) + 1 := by rw [IntKind.wrap_i64] <;> omega
                have hk2 : (k : Int) + 1 ≤ (q.size : Int) := by omega
                have hk3 : (k : Int) ≤ (k : Int) + 1 := by omega
                have hk4 : (0 : Int) ≤ (k : Int) := by omega
                have hk5 : ((k : Int) + 1).toNat = k + 1 := by omega
                have haddI := addS I (q.extract k (k + 1)) (by rw [ByteArray.size_extract]; omega)
                go_wp2_with (go_at_call 139; refine (refSmall_any _ _).mono ?_; rintro e w' ⟨rfl, rfl⟩; rw [HSM.out])
                go_cut [] from 72 to 86 (fun wx => FRel w (psI true ⟨x.ls ++ [q[k]], x.ds ++ [x.d], -1⟩) (psL true ⟨x.ls ++ [q[k]], x.ds ++ [x.d], -1⟩) wx)
                case first =>
                  go_region_law (first
                    | (refine step_append_lies _ (by rfl) _ _ _ (by rfl) w.heap.size 3 i0 _ 1 8 Tryz.underlying63 hi0 hz0 hz1 hz2 rfl (by omega) _ m _ (by rfl) ((hIr.alloc _).drew)
                        ⟨wr.heap.size, 0, none⟩ 1 1 [.int .i64 (mxD x.d)] (by rfl) (by rfl) (World.news_of_block (cs := #[.int .i64 (mxD x.d)]) (t := 3) (fr := (0, 0)) (heap_alloc_new wr _)) (by simp [Value.oneCell'])
                        (by omega) (by unfold maxLen; omega) (by omega) (by simp; omega) (wr.heap.size + 1) (by simp) ?_; intro gg cap5 w5 hown5 hgrow hat hlt5; have hb5 := (hgrow.block _ (by simp; omega) (fun e => a1 e.symm)).trans (heap_keep hF.hb); have x0 : w5.cell? ⟨w.heap.size + 1, 0, none⟩ = some (.string I) := cell_of_row w5 _ 0 _ _ (0, 0) hb5; have x1 : w5.cell? ⟨w.heap.size + 1, 1, none⟩ = some (.slice A m c) := cell_of_row w5 _ 1 _ _ (0, 0) hb5; have zz0 : w5.frozen? ⟨w.heap.size + 1, 0, none⟩ = false := (by simp [World.frozen?, hb5]); have zz1 : w5.frozen? ⟨w.heap.size + 1, 1, none⟩ = false := (by simp [World.frozen?, hb5])))
                  all_goals
                    have hres5 := (hgrow.block _ (by simp; omega) (fun e => a0 e.symm)).trans (heap_keep hF.hres)
                    have hB5 := ((hlow.alloc hlow.size (.cells #[.int .i64 (mxD x.d)] 3)).drew).grown hgrow (by simp; omega) (fun p hp => (hIr.lt p hp).1)
                    have hFn := FRel.push (S := I ++ q.extract k (k + 1)) hb5 hres5 hB5 HFM.out hown5
                    clear hown5 hgrow hb5 x0 x1 zz0 zz1 hres5 hB5 hat hlt5
                    go_wp2_with fail
                    go_meet
                    rw [← HIP.out, ← psL_push true x]; exact hFn
                case rest =>
                  go_wp2
                  go_roundw
                  case rel => exact ⟨k + 1, ⟨x.ls ++ [q[k]], x.ds ++ [x.d], -1⟩, false, by omega, by go_num, rfl, by simp, rfl, Lib.hid rfl, hcut, HRN, HOK2, by simp <;> omega⟩
                  case measure => simp [intOf]; omega
          · obtain rfl : k = q.size := by omega
            have HRX := Lib.hid (show runS q.data.toList noPS = some x by rw [HR.out]; exact runS_end hlt)
            have HPO := Lib.hid (show patOf s.data.toList = if inB x.ls.length 1 16 = true then some ⟨x.ls, x.ds ++ [x.d], true, false⟩ else none by rw [HC.out, pat_end HRX.out])
            obtain ⟨i0, hi0, hz0, hz1, hz2⟩ := info_parts info3
            clear hP
            have HI2 := Lib.hid (show I.data.toList = refPre true ++ x.ls by rw [HIE.out]; rfl)
            go_wp2_with (at_builtin; refine wpList_append_own _ rfl _ _ 63 rfl w.heap.size 3 i0 _ 1 8 Tryz.underlying63 hi0 hz0 hz1 hz2 rfl (by decide) _ m _ rfl (hIr.alloc _) ⟨wr.heap.size, 0, none⟩ 1 1 [.int .i64 (mxD x.d)] rfl rfl (World.news_of_block (cs := #[.int .i64 (mxD x.d)]) (t := 3) (fr := (0, 0)) (heap_alloc_new wr _)) (by simp [Value.oneCell']) (by unfold maxLen; omega) (by omega) (by simp; omega) ?_; intro v5 w5 hown5 hgrow hnil; obtain ⟨gg, cap5, rfl⟩ := own_pos hown5; have hb5 := (hgrow.block _ (by simp; omega) (fun e => a1 e.symm)).trans (heap_keep hF.hb); have x1 : w5.cell? ⟨w.heap.size + 1, 1, none⟩ = some (.slice A m c) := cell_of_row w5 _ 1 _ _ (0, 0) hb5; have zz1 : w5.frozen? ⟨w.heap.size + 1, 1, none⟩ = false := (by simp [World.frozen?, hb5]))
            have hres5 := (hgrow.block _ (by simp; omega) (fun e => a0 e.symm)).trans (heap_keep hF.hres)
            have hB5 := (hlow.alloc hlow.size (.cells #[.int .i64 (mxD x.d)] 3)).grown hgrow (by simp; omega) (fun p hp => (hIr.lt p hp).1)
            have hFn := FRel.pushV hb5 hres5 hB5 hF.hm hown5
            obtain ⟨wz, ez⟩ : ∃ wz, wz = w5.setCell ⟨w.heap.size + 1, 1, none⟩ (.slice (some ⟨gg, 0, none⟩) (m + 1) cap5) := ⟨_, rfl⟩
            rw [← ez] at hFn ⊢
            clear ez hb5 hres5 hB5 hown5 hgrow x1 zz1 hF c0 c1 z0 z1 r0 r1 y0 y1 hltb hltr hlow a1 a0 hIr
            obtain ⟨A, m, c, hF⟩ := hFn.know
            have c0 : wz.cell? ⟨w.heap.size + 1, 0, none⟩ = some (.string I) := cell_of_row wz _ 0 _ _ (0, 0) hF.hb
            have c1 : wz.cell? ⟨w.heap.size + 1, 1, none⟩ = some (.slice A m c) := cell_of_row wz _ 1 _ _ (0, 0) hF.hb
            have z0 : wz.frozen? ⟨w.heap.size + 1, 0, none⟩ = false := by simp [World.frozen?, hF.hb]
            have z1 : wz.frozen? ⟨w.heap.size + 1, 1, none⟩ = false := by simp [World.frozen?, hF.hb]
            have r0 : wz.cell? ⟨w.heap.size, 0, none⟩ = some (.string ⟨#[]⟩) := cell_of_row wz _ 0 _ _ (0, 0) hF.hres
            have r1 : wz.cell? ⟨w.heap.size, 1, none⟩ = some (.slice none 0 0) := cell_of_row wz _ 1 _ _ (0, 0) hF.hres
            have y0 : wz.frozen? ⟨w.heap.size, 0, none⟩ = false := by simp [World.frozen?, hF.hres]
            have y1 : wz.frozen? ⟨w.heap.size, 1, none⟩ = false := by simp [World.frozen?, hF.hres]
            have hltb := heap_lt hF.hb
            have hltr := heap_lt hF.hres
            have hlow := hF.low
            have a1 := own_off hF.hI hF.hb (by decide)
            have a0 := own_off hF.hI hF.hres (by decide)
            have hIr := hF.hI
            have HPT := Lib.hid (fun nn => rp_final (s := s) (x := x) (b1 := true) (b2 := false) (hF.drewN nn) HPO.out (by rw [HI2.out]; exact it_false true x) (by exact lv_false true x))
            clear hF hFn
            go_region_with ((go_at_call 76; refine (within_any _ _ _ _).mono ?_; rintro e w' ⟨rfl, rfl⟩))
            all_goals
              go_wp2
              refine bodyPost_ret (v := .tuple #[.agg #[.string I, .slice A m c], .bool (inB x.ls.length 1 16)]) (by simp [results, Tryz.results86, go_sem, r0, r1]) rfl ?_
              exact HPT.out 1
    | false =>
      cases b2 with
      | true =>
        have h1 : 1 < s.size := by
          have h := HB2.out
          by_cases h1 : 1 < s.size
          · exact h1
          · rw [decide_eq_false h1] at h; cases h
        obtain ⟨n, hn⟩ : ∃ n, n = s.size - 1 := ⟨_, rfl⟩
        have hns : n < s.size := by omega
        have hnI : (n : Int) < (s.size : Int) := by omega
        have hnL : (n : Int) ≤ (s.size : Int) := by omega
        have hnl : n ≤ s.size := by omega
        have hw1 : IntKind.i64.wrap ((s.size : Int) - 1) = (n : Int) := by rw [IntKind.wrap_i64] <;> omega
        have h1L : (1 : Int) ≤ (s.size : Int) := by omega
        have HC := Lib.hid (show patOf s.data.toList = patWith (s.extract 0 n) false true by rw [pat_flags HB1.out HB2.out, hn]; rfl)
        have hqs : (s.extract 0 n).size ≤ 1000 := by rw [ByteArray.size_extract]; omega
        clear hn
        go_wp2_with fail
        generalize s.extract 0 n = q at HC hqs ⊢
        go_loopw [7, 8, 9, 10] (fun v7 v8 v9 i wr => ∃ (k : Nat) (x : PS) (g : Bool), k ≤ q.size ∧ i = .int .i64 k ∧ v7 = .int .i64 (mxD x.d) ∧ v8 = .int .i64 (x.ls.length : Int) ∧ v9 = .bool g ∧ Hid (g = decide (x.d ≠ -1)) ∧ FRel w (psI false x) (psL false x) wr ∧ Hid (runS q.data.toList noPS = runS (q.data.toList.drop k) x) ∧ Hid x.Ok ∧ x.ls.length ≤ k) (fun _ _ _ i _ => q.size - (intOf i).toNat)
        case atStart => exact ⟨0, noPS, false, Nat.zero_le _, rfl, rfl, rfl, rfl, Lib.hid rfl, rp_plain w nq, Lib.hid rfl, Lib.hid noPS_ok, Nat.le_refl _⟩
        case round =>
          obtain ⟨k, x, g, hk, rfl, rfl, rfl, rfl, HG, hP, HR, HOK, hxl⟩ := hrel
          obtain ⟨A, m, c, hF⟩ := hP.know
          have HFM := Lib.hid hF.hm
          have hdg := HOK.out.dig
          have hml : m ≤ k + 1 := by
            rw [hF.hm]
            unfold psL
            rw [List.length_append, List.length_map, HOK.out.len]
            have : (refPreV false).length ≤ 1 := by decide
            omega
          have hIs : (psI false x).size ≤ k + 1 := by
            show (refPre false ++ x.ls).toArray.size ≤ _
            rw [List.size_toArray, List.length_append]
            have : (refPre false).length ≤ 1 := by decide
            omega
          obtain ⟨I, hIe⟩ : ∃ I : ByteArray, I = psI false x := ⟨_, rfl⟩
          rw [← hIe] at hF hIs
          have HIE := Lib.hid hIe
          clear hIe
          have c0 : wr.cell? ⟨w.heap.size + 1, 0, none⟩ = some (.string I) := cell_of_row wr _ 0 _ _ (0, 0) hF.hb
          have c1 : wr.cell? ⟨w.heap.size + 1, 1, none⟩ = some (.slice A m c) := cell_of_row wr _ 1 _ _ (0, 0) hF.hb
          have z0 : wr.frozen? ⟨w.heap.size + 1, 0, none⟩ = false := by simp [World.frozen?, hF.hb]
          have z1 : wr.frozen? ⟨w.heap.size + 1, 1, none⟩ = false := by simp [World.frozen?, hF.hb]
          have r0 : wr.cell? ⟨w.heap.size, 0, none⟩ = some (.string ⟨#[]⟩) := cell_of_row wr _ 0 _ _ (0, 0) hF.hres
          have r1 : wr.cell? ⟨w.heap.size, 1, none⟩ = some (.slice none 0 0) := cell_of_row wr _ 1 _ _ (0, 0) hF.hres
          have y0 : wr.frozen? ⟨w.heap.size, 0, none⟩ = false := by simp [World.frozen?, hF.hres]
          have y1 : wr.frozen? ⟨w.heap.size, 1, none⟩ = false := by simp [World.frozen?, hF.hres]
          have hltb := heap_lt hF.hb
          have hltr := heap_lt hF.hres
          have hlow := hF.low
          have a1 := own_off hF.hI hF.hb (by decide)
          have a0 := own_off hF.hI hF.hres (by decide)
          have hIr := hF.hI
          by_cases hlt : k < q.size
          · have hkl : (k : Int) < (q.size : Int) := by omega
            cases hdc : digB (q[k].toNat : Int) with
            | true =>
              obtain ⟨g1, g2⟩ := of_decide_eq_true (show decide (48 ≤ (q[k].toNat : Int) ∧ (q[k].toNat : Int) ≤ 57) = true from hdc)
              have g1n : 48 ≤ q[k].toNat := by omega
              have g2n : q[k].toNat ≤ 57 := by omega
              cases g with
              | true =>
                have hd : ¬ x.d = -1 := by have := HG.out; simpa using this.symm
                have HN := Lib.hid (show patOf s.data.toList = none from pat_none HC.out HR.out (by rw [runS_no hlt (by unfold stepS; rw [if_pos hdc, if_neg hd])]))
                have hBf := ((hlow.setCell (p := ⟨w.heap.size, 0, none⟩) (Nat.le_refl _) (.string I)).setCell (p := ⟨w.heap.size, 1, none⟩) (Nat.le_refl _) (.slice A m c))
                clear hdc hd hF
                go_wp2
                refine bodyPost_ret (v := .tuple #[.agg #[.string I, .slice A m c], .bool false]) (by simp [results, Tryz.results86, go_sem, r0, r1]) rfl ?_
                exact ⟨hBf, I, A, m, c, by rw [HN.out]; rfl, fun x hx => by rw [HN.out] at hx; cases hx⟩
              | false =>
                have hd : x.d = -1 := by have := HG.out; simpa using this.symm
                have HRN := Lib.hid (show runS q.data.toList noPS = runS (q.data.toList.drop (k + 1)) ⟨x.ls, x.ds, (q[k].toNat : Int) - 48⟩ by rw [HR.out]; exact runS_go hlt (by unfold stepS; rw [if_pos hdc, if_pos hd]))
                have HOK2 := Lib.hid (HOK.out.step (c := q[k]) (y := ⟨x.ls, x.ds, (q[k].toNat : Int) - 48⟩) (by unfold stepS; rw [if_pos hdc, if_pos hd]))
                have hwu : IntKind.u8.wrap ((q[k].toNat : Int) - 48) = (q[k].toNat : Int) - 48 := IntWalk.u8_in _ (by omega)
                have HMX := Lib.hid (show mxD ((q[k].toNat : Int) - 48) = (q[k].toNat : Int) - 48 by unfold mxD; rw [if_neg (by omega)])
                have HGT := Lib.hid (show true = decide ((q[k].toNat : Int) - 48 ≠ -1) by rw [decide_eq_true (by omega)])
                clear hdc hd hF
                go_wp2
                go_roundw
                case rel => exact ⟨k + 1, ⟨x.ls, x.ds, (q[k].toNat : Int) - 48⟩, true, by omega, by go_num, by rw [HMX.out], rfl, rfl, HGT, ⟨hP.loc, hP.res, hP.low⟩, HRN, HOK2, by show x.ls.length ≤ _; omega⟩
                case measure => simp [intOf]; omega
            | false =>
              have hng : ¬ (48 ≤ (q[k].toNat : Int) ∧ (q[k].toNat : Int) ≤ 57) := of_decide_eq_false (show decide (48 ≤ (q[k].toNat : Int) ∧ (q[k].toNat : Int) ≤ 57) = false from hdc)
              cases hsm : smallB (q[k].toNat : Int) with
              | false =>
                have HN := Lib.hid (show patOf s.data.toList = none from pat_none HC.out HR.out (by rw [runS_no hlt (by unfold stepS; rw [if_neg (by rw [hdc]; decide), if_neg (by rw [hsm]; decide)])]))
                have hBf := ((hlow.setCell (p := ⟨w.heap.size, 0, none⟩) (Nat.le_refl _) (.string I)).setCell (p := ⟨w.heap.size, 1, none⟩) (Nat.le_refl _) (.slice A m c))
                have HSM := Lib.hid hsm
                clear hdc hsm hF hP
                by_cases hc1 : 48 ≤ (q[k].toNat : Int)
                · have hc2 : ¬ (q[k].toNat : Int) ≤ 57 := fun h => hng ⟨hc1, h⟩
                  have hc1n : 48 ≤ q[k].toNat := by omega
                  have hc2n : ¬ q[k].toNat ≤ 57 := by omega
                  clear hng
                  go_wp2_with (go_at_call 139; refine (refSmall_any _ _).mono ?_; rintro e w' ⟨rfl, rfl⟩; rw [HSM.out])
                  refine bodyPost_ret (v := .tuple #[.agg #[.string I, .slice A m c], .bool false]) (by simp [results, Tryz.results86, go_sem, r0, r1]) rfl ?_
                  exact ⟨hBf, I, A, m, c, by rw [HN.out]; rfl, fun x hx => by rw [HN.out] at hx; cases hx⟩
                · have hc1n : ¬ 48 ≤ q[k].toNat := by omega
                  clear hng
                  go_wp2_with (go_at_call 139; refine (refSmall_any _ _).mono ?_; rintro e w' ⟨rfl, rfl⟩; rw [HSM.out])
                  refine bodyPost_ret (v := .tuple #[.agg #[.string I, .slice A m c], .bool false]) (by simp [results, Tryz.results86, go_sem, r0, r1]) rfl ?_
                  exact ⟨hBf, I, A, m, c, by rw [HN.out]; rfl, fun x hx => by rw [HN.out] at hx; cases hx⟩
              | true =>
                obtain ⟨s1, s2⟩ := of_decide_eq_true (show decide (97 ≤ (q[k].toNat : Int) ∧ (q[k].toNat : Int) ≤ 122) = true from hsm)
                have HST := Lib.hid (show stepS x q[k] = some ⟨x.ls ++ [q[k]], x.ds ++ [x.d], -1⟩ by unfold stepS; rw [if_neg (by rw [hdc]; decide), if_pos hsm])
                have HRN := Lib.hid (show runS q.data.toList noPS = runS (q.data.toList.drop (k + 1)) ⟨x.ls ++ [q[k]], x.ds ++ [x.d], -1⟩ by rw [HR.out]; exact runS_go hlt HST.out)
                have HOK2 := Lib.hid (HOK.out.step (c := q[k]) HST.out)
                have HIP := Lib.hid (show I ++ q.extract k (k + 1) = psI false ⟨x.ls ++ [q[k]], x.ds ++ [x.d], -1⟩ by rw [HIE.out]; exact psI_push false x hlt _ _)
                have hc1 : 48 ≤ (q[k].toNat : Int) := by omega
                have hc2 : ¬ (q[k].toNat : Int) ≤ 57 := by omega
                have hc1n : 48 ≤ q[k].toNat := by omega
                have hc2n : ¬ q[k].toNat ≤ 57 := by omega
                have HSM := Lib.hid hsm
                clear hdc hsm hng s1 s2 hP
                obtain ⟨i0, hi0, hz0, hz1, hz2⟩ := info_parts info3
                have hwk : IntKind.i64.wrap ((k : Int) + 1) = (k : Int) + 1 := by rw [IntKind.wrap_i64] <;> omega
                have hk2 : (k : Int) + 1 ≤ (q.size : Int) := by omega
                have hk3 : (k : Int) ≤ (k : Int) + 1 := by omega
                have hk4 : (0 : Int) ≤ (k : Int) := by omega
                have hk5 : ((k : Int) + 1).toNat = k + 1 := by omega
                have haddI := addS I (q.extract k (k + 1)) (by rw [ByteArray.size_extract]; omega)
                go_wp2_with (go_at_call 139; refine (refSmall_any _ _).mono ?_; rintro e w' ⟨rfl, rfl⟩; rw [HSM.out])
                go_cut [] from 72 to 86 (fun wx => FRel w (psI false ⟨x.ls ++ [q[k]], x.ds ++ [x.d], -1⟩) (psL false ⟨x.ls ++ [q[k]], x.ds ++ [x.d], -1⟩) wx)
                case first =>
                  go_region_law (first
                    | (refine step_append_lies _ (by rfl) _ _ _ (by rfl) w.heap.size 3 i0 _ 1 8 Tryz.underlying63 hi0 hz0 hz1 hz2 rfl (by omega) _ m _ (by rfl) ((hIr.alloc _).drew)
                        ⟨wr.heap.size, 0, none⟩ 1 1 [.int .i64 (mxD x.d)] (by rfl) (by rfl) (World.news_of_block (cs := #[.int .i64 (mxD x.d)]) (t := 3) (fr := (0, 0)) (heap_alloc_new wr _)) (by simp [Value.oneCell'])
                        (by omega) (by unfold maxLen; omega) (by omega) (by simp; omega) (wr.heap.size + 1) (by simp) ?_; intro gg cap5 w5 hown5 hgrow hat hlt5; have hb5 := (hgrow.block _ (by simp; omega) (fun e => a1 e.symm)).trans (heap_keep hF.hb); have x0 : w5.cell? ⟨w.heap.size + 1, 0, none⟩ = some (.string I) := cell_of_row w5 _ 0 _ _ (0, 0) hb5; have x1 : w5.cell? ⟨w.heap.size + 1, 1, none⟩ = some (.slice A m c) := cell_of_row w5 _ 1 _ _ (0, 0) hb5; have zz0 : w5.frozen? ⟨w.heap.size + 1, 0, none⟩ = false := (by simp [World.frozen?, hb5]); have zz1 : w5.frozen? ⟨w.heap.size + 1, 1, none⟩ = false := (by simp [World.frozen?, hb5])))
                  all_goals
                    have hres5 := (hgrow.block _ (by simp; omega) (fun e => a0 e.symm)).trans (heap_keep hF.hres)
                    have hB5 := ((hlow.alloc hlow.size (.cells #[.int .i64 (mxD x.d)] 3)).drew).grown hgrow (by simp; omega) (fun p hp => (hIr.lt p hp).1)
                    have hFn := FRel.push (S := I ++ q.extract k (k + 1)) hb5 hres5 hB5 HFM.out hown5
                    clear hown5 hgrow hb5 x0 x1 zz0 zz1 hres5 hB5 hat hlt5
                    go_wp2_with fail
                    go_meet
                    rw [← HIP.out, ← psL_push false x]; exact hFn
                case rest =>
                  go_wp2
                  go_roundw
                  case rel => exact ⟨k + 1, ⟨x.ls ++ [q[k]], x.ds ++ [x.d], -1⟩, false, by omega, by go_num, rfl, by simp, rfl, Lib.hid rfl, hcut, HRN, HOK2, by simp <;> omega⟩
                  case measure => simp [intOf]; omega
          · obtain rfl : k = q.size := by omega
            have HRX := Lib.hid (show runS q.data.toList noPS = some x by rw [HR.out]; exact runS_end hlt)
            have HPO := Lib.hid (show patOf s.data.toList = if inB x.ls.length 1 16 = true then some ⟨x.ls, x.ds ++ [x.d], false, true⟩ else none by rw [HC.out, pat_end HRX.out])
            obtain ⟨i0, hi0, hz0, hz1, hz2⟩ := info_parts info3
            clear hP
            have haddI := addS I ⟨#[46]⟩ (by show I.size + 1 ≤ _; omega)
            go_wp2_with fail
            go_cut [] from 90 to 99 (fun wx => FRel w (I ++ ⟨#[46]⟩) (psL false x ++ [mxD x.d]) wx)
            case first =>
              go_region_law (first
                | (refine step_append_lies _ (by rfl) _ _ _ (by rfl) w.heap.size 3 i0 _ 1 8 Tryz.underlying63 hi0 hz0 hz1 hz2 rfl (by omega) _ m _ (by rfl) ((hIr.alloc _).drew)
                    ⟨wr.heap.size, 0, none⟩ 1 1 [.int .i64 (mxD x.d)] (by rfl) (by rfl) (World.news_of_block (cs := #[.int .i64 (mxD x.d)]) (t := 3) (fr := (0, 0)) (heap_alloc_new wr _)) (by simp [Value.oneCell'])
                    (by omega) (by unfold maxLen; omega) (by omega) (by simp; omega) (wr.heap.size + 1) (by simp) ?_; intro gg cap5 w5 hown5 hgrow hat hlt5; have hb5 := (hgrow.block _ (by simp; omega) (fun e => a1 e.symm)).trans (heap_keep hF.hb); have x0 : w5.cell? ⟨w.heap.size + 1, 0, none⟩ = some (.string I) := cell_of_row w5 _ 0 _ _ (0, 0) hb5; have x1 : w5.cell? ⟨w.heap.size + 1, 1, none⟩ = some (.slice A m c) := cell_of_row w5 _ 1 _ _ (0, 0) hb5; have zz0 : w5.frozen? ⟨w.heap.size + 1, 0, none⟩ = false := (by simp [World.frozen?, hb5]); have zz1 : w5.frozen? ⟨w.heap.size + 1, 1, none⟩ = false := (by simp [World.frozen?, hb5])))
              all_goals
                have hres5 := (hgrow.block _ (by simp; omega) (fun e => a0 e.symm)).trans (heap_keep hF.hres)
                have hB5 := ((hlow.alloc hlow.size (.cells #[.int .i64 (mxD x.d)] 3)).drew).grown hgrow (by simp; omega) (fun p hp => (hIr.lt p hp).1)
                have hFn := FRel.push (S := I ++ ⟨#[46]⟩) hb5 hres5 hB5 HFM.out hown5
                clear hown5 hgrow hb5 x0 x1 zz0 zz1 hres5 hB5 hat hlt5
                go_wp2_with fail
                go_meet
                exact hFn
            case rest =>
              have hI2z : (I ++ ⟨#[46]⟩ : ByteArray).data.toList = refPre false ++ x.ls ++ [46] := by
                rw [ByteArray.data_append, Array.toList_append, HIE.out]; rfl
              have hm2 := hF.hm
              obtain ⟨I, hI2⟩ : ∃ J : ByteArray, J = I ++ ⟨#[46]⟩ := ⟨_, rfl⟩
              rw [← hI2] at hcut hI2z
              have HI2 := Lib.hid hI2z
              clear hI2 hI2z hF c0 c1 z0 z1 r0 r1 y0 y1 hltb hltr hlow a1 a0 hIr HFM
              obtain ⟨A, m, c, hF⟩ := hcut.know
              have hml2 : m ≤ 1003 := by
                have h := hF.hm
                rw [List.length_append, ← hm2] at h
                simp only [List.length_singleton] at h
                omega
              clear hm2
              have c0 : wc.cell? ⟨w.heap.size + 1, 0, none⟩ = some (.string I) := cell_of_row wc _ 0 _ _ (0, 0) hF.hb
              have c1 : wc.cell? ⟨w.heap.size + 1, 1, none⟩ = some (.slice A m c) := cell_of_row wc _ 1 _ _ (0, 0) hF.hb
              have z0 : wc.frozen? ⟨w.heap.size + 1, 0, none⟩ = false := by simp [World.frozen?, hF.hb]
              have z1 : wc.frozen? ⟨w.heap.size + 1, 1, none⟩ = false := by simp [World.frozen?, hF.hb]
              have r0 : wc.cell? ⟨w.heap.size, 0, none⟩ = some (.string ⟨#[]⟩) := cell_of_row wc _ 0 _ _ (0, 0) hF.hres
              have r1 : wc.cell? ⟨w.heap.size, 1, none⟩ = some (.slice none 0 0) := cell_of_row wc _ 1 _ _ (0, 0) hF.hres
              have y0 : wc.frozen? ⟨w.heap.size, 0, none⟩ = false := by simp [World.frozen?, hF.hres]
              have y1 : wc.frozen? ⟨w.heap.size, 1, none⟩ = false := by simp [World.frozen?, hF.hres]
              have hltb := heap_lt hF.hb
              have hltr := heap_lt hF.hres
              have hlow := hF.low
              have a1 := own_off hF.hI hF.hb (by decide)
              have a0 := own_off hF.hI hF.hres (by decide)
              have hIr := hF.hI
              go_wp2_with (at_builtin; refine wpList_append_own _ rfl _ _ 63 rfl w.heap.size 3 i0 _ 1 8 Tryz.underlying63 hi0 hz0 hz1 hz2 rfl (by decide) _ m _ rfl (hIr.alloc _) ⟨wc.heap.size, 0, none⟩ 1 1 [.int .i64 (0)] rfl rfl (World.news_of_block (cs := #[.int .i64 (0)]) (t := 3) (fr := (0, 0)) (heap_alloc_new wc _)) (by simp [Value.oneCell']) (by unfold maxLen; omega) (by omega) (by simp; omega) ?_; intro v5 w5 hown5 hgrow hnil; obtain ⟨gg, cap5, rfl⟩ := own_pos hown5; have hb5 := (hgrow.block _ (by simp; omega) (fun e => a1 e.symm)).trans (heap_keep hF.hb); have x1 : w5.cell? ⟨w.heap.size + 1, 1, none⟩ = some (.slice A m c) := cell_of_row w5 _ 1 _ _ (0, 0) hb5; have zz1 : w5.frozen? ⟨w.heap.size + 1, 1, none⟩ = false := (by simp [World.frozen?, hb5]))
              have hres5 := (hgrow.block _ (by simp; omega) (fun e => a0 e.symm)).trans (heap_keep hF.hres)
              have hB5 := (hlow.alloc hlow.size (.cells #[.int .i64 (0)] 3)).grown hgrow (by simp; omega) (fun p hp => (hIr.lt p hp).1)
              have hFn := FRel.pushV hb5 hres5 hB5 hF.hm hown5
              obtain ⟨wz, ez⟩ : ∃ wz, wz = w5.setCell ⟨w.heap.size + 1, 1, none⟩ (.slice (some ⟨gg, 0, none⟩) (m + 1) cap5) := ⟨_, rfl⟩
              rw [← ez] at hFn ⊢
              clear ez hb5 hres5 hB5 hown5 hgrow x1 zz1 hF c0 c1 z0 z1 r0 r1 y0 y1 hltb hltr hlow a1 a0 hIr
              obtain ⟨A, m, c, hF⟩ := hFn.know
              have c0 : wz.cell? ⟨w.heap.size + 1, 0, none⟩ = some (.string I) := cell_of_row wz _ 0 _ _ (0, 0) hF.hb
              have c1 : wz.cell? ⟨w.heap.size + 1, 1, none⟩ = some (.slice A m c) := cell_of_row wz _ 1 _ _ (0, 0) hF.hb
              have z0 : wz.frozen? ⟨w.heap.size + 1, 0, none⟩ = false := by simp [World.frozen?, hF.hb]
              have z1 : wz.frozen? ⟨w.heap.size + 1, 1, none⟩ = false := by simp [World.frozen?, hF.hb]
              have r0 : wz.cell? ⟨w.heap.size, 0, none⟩ = some (.string ⟨#[]⟩) := cell_of_row wz _ 0 _ _ (0, 0) hF.hres
              have r1 : wz.cell? ⟨w.heap.size, 1, none⟩ = some (.slice none 0 0) := cell_of_row wz _ 1 _ _ (0, 0) hF.hres
              have y0 : wz.frozen? ⟨w.heap.size, 0, none⟩ = false := by simp [World.frozen?, hF.hres]
              have y1 : wz.frozen? ⟨w.heap.size, 1, none⟩ = false := by simp [World.frozen?, hF.hres]
              have hltb := heap_lt hF.hb
              have hltr := heap_lt hF.hres
              have hlow := hF.low
              have a1 := own_off hF.hI hF.hb (by decide)
              have a0 := own_off hF.hI hF.hres (by decide)
              have hIr := hF.hI
              have HPT := Lib.hid (fun nn => rp_final (s := s) (x := x) (b1 := false) (b2 := true) (hF.drewN nn) HPO.out (by rw [HI2.out]; exact it_true false x) (by exact lv_true false x))
              clear hF hFn
              go_region_with ((go_at_call 76; refine (within_any _ _ _ _).mono ?_; rintro e w' ⟨rfl, rfl⟩))
              all_goals
                go_wp2
                refine bodyPost_ret (v := .tuple #[.agg #[.string I, .slice A m c], .bool (inB x.ls.length 1 16)]) (by simp [results, Tryz.results86, go_sem, r0, r1]) rfl ?_
                exact HPT.out 1
      | false =>
        have HC := Lib.hid (show patOf s.data.toList = patWith (s) false false by rw [pat_flags HB1.out HB2.out]; rfl)
        have hqs : (s).size ≤ 1000 := hs
        go_wp2_with fail
        go_loopw [7, 8, 9, 10] (fun v7 v8 v9 i wr => ∃ (k : Nat) (x : PS) (g : Bool), k ≤ s.size ∧ i = .int .i64 k ∧ v7 = .int .i64 (mxD x.d) ∧ v8 = .int .i64 (x.ls.length : Int) ∧ v9 = .bool g ∧ Hid (g = decide (x.d ≠ -1)) ∧ FRel w (psI false x) (psL false x) wr ∧ Hid (runS s.data.toList noPS = runS (s.data.toList.drop k) x) ∧ Hid x.Ok ∧ x.ls.length ≤ k) (fun _ _ _ i _ => s.size - (intOf i).toNat)
        case atStart => exact ⟨0, noPS, false, Nat.zero_le _, rfl, rfl, rfl, rfl, Lib.hid rfl, rp_plain w nq, Lib.hid rfl, Lib.hid noPS_ok, Nat.le_refl _⟩
        case round =>
          obtain ⟨k, x, g, hk, rfl, rfl, rfl, rfl, HG, hP, HR, HOK, hxl⟩ := hrel
          obtain ⟨A, m, c, hF⟩ := hP.know
          have HFM := Lib.hid hF.hm
          have hdg := HOK.out.dig
          have hml : m ≤ k + 1 := by
            rw [hF.hm]
            unfold psL
            rw [List.length_append, List.length_map, HOK.out.len]
            have : (refPreV false).length ≤ 1 := by decide
            omega
          have hIs : (psI false x).size ≤ k + 1 := by
            show (refPre false ++ x.ls).toArray.size ≤ _
            rw [List.size_toArray, List.length_append]
            have : (refPre false).length ≤ 1 := by decide
            omega
          obtain ⟨I, hIe⟩ : ∃ I : ByteArray, I = psI false x := ⟨_, rfl⟩
          rw [← hIe] at hF hIs
          have HIE := Lib.hid hIe
          clear hIe
          have c0 : wr.cell? ⟨w.heap.size + 1, 0, none⟩ = some (.string I) := cell_of_row wr _ 0 _ _ (0, 0) hF.hb
          have c1 : wr.cell? ⟨w.heap.size + 1, 1, none⟩ = some (.slice A m c) := cell_of_row wr _ 1 _ _ (0, 0) hF.hb
          have z0 : wr.frozen? ⟨w.heap.size + 1, 0, none⟩ = false := by simp [World.frozen?, hF.hb]
          have z1 : wr.frozen? ⟨w.heap.size + 1, 1, none⟩ = false := by simp [World.frozen?, hF.hb]
          have r0 : wr.cell? ⟨w.heap.size, 0, none⟩ = some (.string ⟨#[]⟩) := cell_of_row wr _ 0 _ _ (0, 0) hF.hres
          have r1 : wr.cell? ⟨w.heap.size, 1, none⟩ = some (.slice none 0 0) := cell_of_row wr _ 1 _ _ (0, 0) hF.hres
          have y0 : wr.frozen? ⟨w.heap.size, 0, none⟩ = false := by simp [World.frozen?, hF.hres]
          have y1 : wr.frozen? ⟨w.heap.size, 1, none⟩ = false := by simp [World.frozen?, hF.hres]
          have hltb := heap_lt hF.hb
          have hltr := heap_lt hF.hres
          have hlow := hF.low
          have a1 := own_off hF.hI hF.hb (by decide)
          have a0 := own_off hF.hI hF.hres (by decide)
          have hIr := hF.hI
          by_cases hlt : k < s.size
          · have hkl : (k : Int) < (s.size : Int) := by omega
            cases hdc : digB (s[k].toNat : Int) with
            | true =>
              obtain ⟨g1, g2⟩ := of_decide_eq_true (show decide (48 ≤ (s[k].toNat : Int) ∧ (s[k].toNat : Int) ≤ 57) = true from hdc)
              have g1n : 48 ≤ s[k].toNat := by omega
              have g2n : s[k].toNat ≤ 57 := by omega
              cases g with
              | true =>
                have hd : ¬ x.d = -1 := by have := HG.out; simpa using this.symm
                have HN := Lib.hid (show patOf s.data.toList = none from pat_none HC.out HR.out (by rw [runS_no hlt (by unfold stepS; rw [if_pos hdc, if_neg hd])]))
                have hBf := ((hlow.setCell (p := ⟨w.heap.size, 0, none⟩) (Nat.le_refl _) (.string I)).setCell (p := ⟨w.heap.size, 1, none⟩) (Nat.le_refl _) (.slice A m c))
                clear hdc hd hF
                go_wp2
                refine bodyPost_ret (v := .tuple #[.agg #[.string I, .slice A m c], .bool false]) (by simp [results, Tryz.results86, go_sem, r0, r1]) rfl ?_
                exact ⟨hBf, I, A, m, c, by rw [HN.out]; rfl, fun x hx => by rw [HN.out] at hx; cases hx⟩
              | false =>
                have hd : x.d = -1 := by have := HG.out; simpa using this.symm
                have HRN := Lib.hid (show runS s.data.toList noPS = runS (s.data.toList.drop (k + 1)) ⟨x.ls, x.ds, (s[k].toNat : Int) - 48⟩ by rw [HR.out]; exact runS_go hlt (by unfold stepS; rw [if_pos hdc, if_pos hd]))
                have HOK2 := Lib.hid (HOK.out.step (c := s[k]) (y := ⟨x.ls, x.ds, (s[k].toNat : Int) - 48⟩) (by unfold stepS; rw [if_pos hdc, if_pos hd]))
                have hwu : IntKind.u8.wrap ((s[k].toNat : Int) - 48) = (s[k].toNat : Int) - 48 := IntWalk.u8_in _ (by omega)
                have HMX := Lib.hid (show mxD ((s[k].toNat : Int) - 48) = (s[k].toNat : Int) - 48 by unfold mxD; rw [if_neg (by omega)])
                have HGT := Lib.hid (show true = decide ((s[k].toNat : Int) - 48 ≠ -1) by rw [decide_eq_true (by omega)])
                clear hdc hd hF
                go_wp2
                go_roundw
                case rel => exact ⟨k + 1, ⟨x.ls, x.ds, (s[k].toNat : Int) - 48⟩, true, by omega, by go_num, by rw [HMX.out], rfl, rfl, HGT, ⟨hP.loc, hP.res, hP.low⟩, HRN, HOK2, by show x.ls.length ≤ _; omega⟩
                case measure => simp [intOf]; omega
            | false =>
              have hng : ¬ (48 ≤ (s[k].toNat : Int) ∧ (s[k].toNat : Int) ≤ 57) := of_decide_eq_false (show decide (48 ≤ (s[k].toNat : Int) ∧ (s[k].toNat : Int) ≤ 57) = false from hdc)
              cases hsm : smallB (s[k].toNat : Int) with
              | false =>
                have HN := Lib.hid (show patOf s.data.toList = none from pat_none HC.out HR.out (by rw [runS_no hlt (by unfold stepS; rw [if_neg (by rw [hdc]; decide), if_neg (by rw [hsm]; decide)])]))
                have hBf := ((hlow.setCell (p := ⟨w.heap.size, 0, none⟩) (Nat.le_refl _) (.string I)).setCell (p := ⟨w.heap.size, 1, none⟩) (Nat.le_refl _) (.slice A m c))
                have HSM := Lib.hid hsm
                clear hdc hsm hF hP
                by_cases hc1 : 48 ≤ (s[k].toNat : Int)
                · have hc2 : ¬ (s[k].toNat : Int) ≤ 57 := fun h => hng ⟨hc1, h⟩
                  have hc1n : 48 ≤ s[k].toNat := by omega
                  have hc2n : ¬ s[k].toNat ≤ 57 := by omega
                  clear hng
                  go_wp2_with (go_at_call 139; refine (refSmall_any _ _).mono ?_; rintro e w' ⟨rfl, rfl⟩; rw [HSM.out])
                  refine bodyPost_ret (v := .tuple #[.agg #[.string I, .slice A m c], .bool false]) (by simp [results, Tryz.results86, go_sem, r0, r1]) rfl ?_
                  exact ⟨hBf, I, A, m, c, by rw [HN.out]; rfl, fun x hx => by rw [HN.out] at hx; cases hx⟩
                · have hc1n : ¬ 48 ≤ s[k].toNat := by omega
                  clear hng
                  go_wp2_with (go_at_call 139; refine (refSmall_any _ _).mono ?_; rintro e w' ⟨rfl, rfl⟩; rw [HSM.out])
                  refine bodyPost_ret (v := .tuple #[.agg #[.string I, .slice A m c], .bool false]) (by simp [results, Tryz.results86, go_sem, r0, r1]) rfl ?_
                  exact ⟨hBf, I, A, m, c, by rw [HN.out]; rfl, fun x hx => by rw [HN.out] at hx; cases hx⟩
              | true =>
                obtain ⟨s1, s2⟩ := of_decide_eq_true (show decide (97 ≤ (s[k].toNat : Int) ∧ (s[k].toNat : Int) ≤ 122) = true from hsm)
                have HST := Lib.hid (show stepS x s[k] = some ⟨x.ls ++ [s[k]], x.ds ++ [x.d], -1⟩ by unfold stepS; rw [if_neg (by rw [hdc]; decide), if_pos hsm])
                have HRN := Lib.hid (show runS s.data.toList noPS = runS (s.data.toList.drop (k + 1)) ⟨x.ls ++ [s[k]], x.ds ++ [x.d], -1⟩ by rw [HR.out]; exact runS_go hlt HST.out)
                have HOK2 := Lib.hid (HOK.out.step (c := s[k]) HST.out)
                have HIP := Lib.hid (show I ++ s.extract k (k + 1) = psI false ⟨x.ls ++ [s[k]], x.ds ++ [x.d], -1⟩ by rw [HIE.out]; exact psI_push false x hlt _ _)
                have hc1 : 48 ≤ (s[k].toNat : Int) := by omega
                have hc2 : ¬ (s[k].toNat : Int) ≤ 57 := by omega
                have hc1n : 48 ≤ s[k].toNat := by omega
                have hc2n : ¬ s[k].toNat ≤ 57 := by omega
                have HSM := Lib.hid hsm
                clear hdc hsm hng s1 s2 hP
                obtain ⟨i0, hi0, hz0, hz1, hz2⟩ := info_parts info3
                have hwk : IntKind.i64.wrap ((k : Int) + 1) = (k : Int) + 1 := by rw [IntKind.wrap_i64] <;> omega
                have hk2 : (k : Int) + 1 ≤ (s.size : Int) := by omega
                have hk3 : (k : Int) ≤ (k : Int) + 1 := by omega
                have hk4 : (0 : Int) ≤ (k : Int) := by omega
                have hk5 : ((k : Int) + 1).toNat = k + 1 := by omega
                have haddI := addS I (s.extract k (k + 1)) (by rw [ByteArray.size_extract]; omega)
                go_wp2_with (go_at_call 139; refine (refSmall_any _ _).mono ?_; rintro e w' ⟨rfl, rfl⟩; rw [HSM.out])
                go_cut [] from 72 to 86 (fun wx => FRel w (psI false ⟨x.ls ++ [s[k]], x.ds ++ [x.d], -1⟩) (psL false ⟨x.ls ++ [s[k]], x.ds ++ [x.d], -1⟩) wx)
                case first =>
                  go_region_law (first
                    | (refine step_append_lies _ (by rfl) _ _ _ (by rfl) w.heap.size 3 i0 _ 1 8 Tryz.underlying63 hi0 hz0 hz1 hz2 rfl (by omega) _ m _ (by rfl) ((hIr.alloc _).drew)
                        ⟨wr.heap.size, 0, none⟩ 1 1 [.int .i64 (mxD x.d)] (by rfl) (by rfl) (World.news_of_block (cs := #[.int .i64 (mxD x.d)]) (t := 3) (fr := (0, 0)) (heap_alloc_new wr _)) (by simp [Value.oneCell'])
                        (by omega) (by unfold maxLen; omega) (by omega) (by simp; omega) (wr.heap.size + 1) (by simp) ?_; intro gg cap5 w5 hown5 hgrow hat hlt5; have hb5 := (hgrow.block _ (by simp; omega) (fun e => a1 e.symm)).trans (heap_keep hF.hb); have x0 : w5.cell? ⟨w.heap.size + 1, 0, none⟩ = some (.string I) := cell_of_row w5 _ 0 _ _ (0, 0) hb5; have x1 : w5.cell? ⟨w.heap.size + 1, 1, none⟩ = some (.slice A m c) := cell_of_row w5 _ 1 _ _ (0, 0) hb5; have zz0 : w5.frozen? ⟨w.heap.size + 1, 0, none⟩ = false := (by simp [World.frozen?, hb5]); have zz1 : w5.frozen? ⟨w.heap.size + 1, 1, none⟩ = false := (by simp [World.frozen?, hb5])))
                  all_goals
                    have hres5 := (hgrow.block _ (by simp; omega) (fun e => a0 e.symm)).trans (heap_keep hF.hres)
                    have hB5 := ((hlow.alloc hlow.size (.cells #[.int .i64 (mxD x.d)] 3)).drew).grown hgrow (by simp; omega) (fun p hp => (hIr.lt p hp).1)
                    have hFn := FRel.push (S := I ++ s.extract k (k + 1)) hb5 hres5 hB5 HFM.out hown5
                    clear hown5 hgrow hb5 x0 x1 zz0 zz1 hres5 hB5 hat hlt5
                    go_wp2_with fail
                    go_meet
                    rw [← HIP.out, ← psL_push false x]; exact hFn
                case rest =>
                  go_wp2
                  go_roundw
                  case rel => exact ⟨k + 1, ⟨x.ls ++ [s[k]], x.ds ++ [x.d], -1⟩, false, by omega, by go_num, rfl, by simp, rfl, Lib.hid rfl, hcut, HRN, HOK2, by simp <;> omega⟩
                  case measure => simp [intOf]; omega
          · obtain rfl : k = s.size := by omega
            have HRX := Lib.hid (show runS s.data.toList noPS = some x by rw [HR.out]; exact runS_end hlt)
            have HPO := Lib.hid (show patOf s.data.toList = if inB x.ls.length 1 16 = true then some ⟨x.ls, x.ds ++ [x.d], false, false⟩ else none by rw [HC.out, pat_end HRX.out])
            obtain ⟨i0, hi0, hz0, hz1, hz2⟩ := info_parts info3
            clear hP
            have HI2 := Lib.hid (show I.data.toList = refPre false ++ x.ls by rw [HIE.out]; rfl)
            go_wp2_with (at_builtin; refine wpList_append_own _ rfl _ _ 63 rfl w.heap.size 3 i0 _ 1 8 Tryz.underlying63 hi0 hz0 hz1 hz2 rfl (by decide) _ m _ rfl (hIr.alloc _) ⟨wr.heap.size, 0, none⟩ 1 1 [.int .i64 (mxD x.d)] rfl rfl (World.news_of_block (cs := #[.int .i64 (mxD x.d)]) (t := 3) (fr := (0, 0)) (heap_alloc_new wr _)) (by simp [Value.oneCell']) (by unfold maxLen; omega) (by omega) (by simp; omega) ?_; intro v5 w5 hown5 hgrow hnil; obtain ⟨gg, cap5, rfl⟩ := own_pos hown5; have hb5 := (hgrow.block _ (by simp; omega) (fun e => a1 e.symm)).trans (heap_keep hF.hb); have x1 : w5.cell? ⟨w.heap.size + 1, 1, none⟩ = some (.slice A m c) := cell_of_row w5 _ 1 _ _ (0, 0) hb5; have zz1 : w5.frozen? ⟨w.heap.size + 1, 1, none⟩ = false := (by simp [World.frozen?, hb5]))
            have hres5 := (hgrow.block _ (by simp; omega) (fun e => a0 e.symm)).trans (heap_keep hF.hres)
            have hB5 := (hlow.alloc hlow.size (.cells #[.int .i64 (mxD x.d)] 3)).grown hgrow (by simp; omega) (fun p hp => (hIr.lt p hp).1)
            have hFn := FRel.pushV hb5 hres5 hB5 hF.hm hown5
            obtain ⟨wz, ez⟩ : ∃ wz, wz = w5.setCell ⟨w.heap.size + 1, 1, none⟩ (.slice (some ⟨gg, 0, none⟩) (m + 1) cap5) := ⟨_, rfl⟩
            rw [← ez] at hFn ⊢
            clear ez hb5 hres5 hB5 hown5 hgrow x1 zz1 hF c0 c1 z0 z1 r0 r1 y0 y1 hltb hltr hlow a1 a0 hIr
            obtain ⟨A, m, c, hF⟩ := hFn.know
            have c0 : wz.cell? ⟨w.heap.size + 1, 0, none⟩ = some (.string I) := cell_of_row wz _ 0 _ _ (0, 0) hF.hb
            have c1 : wz.cell? ⟨w.heap.size + 1, 1, none⟩ = some (.slice A m c) := cell_of_row wz _ 1 _ _ (0, 0) hF.hb
            have z0 : wz.frozen? ⟨w.heap.size + 1, 0, none⟩ = false := by simp [World.frozen?, hF.hb]
            have z1 : wz.frozen? ⟨w.heap.size + 1, 1, none⟩ = false := by simp [World.frozen?, hF.hb]
            have r0 : wz.cell? ⟨w.heap.size, 0, none⟩ = some (.string ⟨#[]⟩) := cell_of_row wz _ 0 _ _ (0, 0) hF.hres
            have r1 : wz.cell? ⟨w.heap.size, 1, none⟩ = some (.slice none 0 0) := cell_of_row wz _ 1 _ _ (0, 0) hF.hres
            have y0 : wz.frozen? ⟨w.heap.size, 0, none⟩ = false := by simp [World.frozen?, hF.hres]
            have y1 : wz.frozen? ⟨w.heap.size, 1, none⟩ = false := by simp [World.frozen?, hF.hres]
            have hltb := heap_lt hF.hb
            have hltr := heap_lt hF.hres
            have hlow := hF.low
            have a1 := own_off hF.hI hF.hb (by decide)
            have a0 := own_off hF.hI hF.hres (by decide)
            have hIr := hF.hI
            have HPT := Lib.hid (fun nn => rp_final (s := s) (x := x) (b1 := false) (b2 := false) (hF.drewN nn) HPO.out (by rw [HI2.out]; exact it_false false x) (by exact lv_false false x))
            clear hF hFn
            go_region_with ((go_at_call 76; refine (within_any _ _ _ _).mono ?_; rintro e w' ⟨rfl, rfl⟩))
            all_goals
              go_wp2
              refine bodyPost_ret (v := .tuple #[.agg #[.string I, .slice A m c], .bool (inB x.ls.length 1 16)]) (by simp [results, Tryz.results86, go_sem, r0, r1]) rfl ?_
              exact HPT.out 1
end Go.Proofs.YtlkkociijfdcgaaGreatDoor
