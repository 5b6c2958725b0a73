/-
  The reference's small letters; the dots of its patterns.
-/
import Derived.Test.YtlkkociijfdcgaaGreatDoorW3
import Derived.Lib.Case
import Derived.Test.YtlkkociijfdcgaaGreatDoorQX
import Derived.Test.YtlkkociijfdcgaaGreatDoorZ4
import Derived.Test.YtlkkociijfdcgaaGreatDoorVO
import Derived.Test.YtlkkociijfdcgaaGreatDoorZY
import Derived.Test.YtlkkociijfdcgaaGreatDoorVY
import Derived.Deep.RegionHeld3
namespace Go.Proofs.YtlkkociijfdcgaaGreatDoor
open Go.RowKit Go.Maps

end Go.Proofs.YtlkkociijfdcgaaGreatDoor
/-
  The dots of the reference's patterns.
-/
namespace Go.Proofs.YtlkkociijfdcgaaGreatDoor
open Go.RowKit
end Go.Proofs.YtlkkociijfdcgaaGreatDoor

/-
  The levels of a pattern, as the reference reckons them: maths.
-/
namespace Go.Proofs.YtlkkociijfdcgaaGreatDoor
open Go.RowKit Go.Maps Go.Shelf

theorem rep_getD (n j : Nat) : (List.replicate n (0 : Int)).getD j 0 = 0 := by
  rw [List.getD_eq_getElem?_getD, List.getElem?_replicate]
  split <;> rfl
theorem ext_list (s : ByteArray) (i j : Nat) : (s.extract i j).data.toList = (s.data.toList.drop i).take (j - i) := by
  rw [ByteArray.data_extract, Array.toList_extract, List.extract_eq_take_drop]
theorem toList_data (s : ByteArray) : s.toList = s.data.toList := by rw [ByteArray.toList_eq]
end Go.Proofs.YtlkkociijfdcgaaGreatDoor

namespace Go.Proofs.YtlkkociijfdcgaaGreatDoor
open Go.RowKit Go.Maps Go.Shelf

/-- What lies between two rounds of the inner loop. -/
structure LvIn (w : World) (I : ByteArray) (A : Option Addr) (c : Nat) (x : Pat) (M : List Int) (wr : World) : Prop where
  box : wr.heap[w.heap.size]? = some (.cells #[.string I, .slice A (refLv x).length c] 149 (0, 0))
  row : RowX wr (w.heap.size + 1) M
  low : Below w.heap.size w wr
theorem LvIn.set_ {w : World} {I : ByteArray} {A : Option Addr} {c : Nat} {x : Pat} {M : List Int} {wr : World} (h : LvIn w I A c x M wr) (j : Nat) (v : Int) : LvIn w I A c x (M.set j v) (wr.setCell ⟨w.heap.size + 1, j, none⟩ (.int .i64 v)) :=
  ⟨(Below.heap_setCell _ _ _ _ (by show w.heap.size ≠ w.heap.size + 1; omega)).trans h.box, h.row.set_ j v, h.low.setCell (by show w.heap.size ≤ w.heap.size + 1; omega) _⟩
theorem LvIn.drewN {w : World} {I : ByteArray} {A : Option Addr} {c : Nat} {x : Pat} {M : List Int} {wr : World} (h : LvIn w I A c x M wr) (n : Nat) : LvIn w I A c x M (wr.drewN n) := ⟨h.box, h.row.drewN n, below_drewN h.low n⟩
theorem LvIn.drew {w : World} {I : ByteArray} {A : Option Addr} {c : Nat} {x : Pat} {M : List Int} {wr : World} (h : LvIn w I A c x M wr) : LvIn w I A c x M wr.drew := ⟨h.box, h.row.drew, h.low.drew⟩
end Go.Proofs.YtlkkociijfdcgaaGreatDoor
/-
  The levels of all patterns: the reference's walk.
-/
namespace Go.Proofs.YtlkkociijfdcgaaGreatDoor
open Go.RowKit Go.Maps Go.Shelf

theorem IRow.ints {w : World} {base : Nat} {A : Option Addr} {n c : Nat} {l : List Int} (h : IRow w base (.slice A n c) l) : n = l.length ∧ IntsAt w A l := by
  obtain ⟨a, c', e, hI, _⟩ := h.shape
  injection e with e1 e2 e3
  subst e1
  exact ⟨e2, hI⟩
structure LOKnow (w : World) (r : RU) (M : List Int) (wr : World) : Prop where
  box : wr.heap[w.heap.size]? = some (.cells #[.slice r.ps.a r.ps.l.length r.ps.c, .slice r.es.a r.es.l.length r.es.c, .slice r.bs.a r.bs.l.length r.bs.c, .int .i64 r.left, .int .i64 r.right] 24 (0, 0))
  row : RowX wr (w.heap.size + 1) M
  low : Below w.heap.size w wr
theorem LOKnow.below {w : World} {r : RU} {M : List Int} {wr wr' : World} (h : LOKnow w r M wr) (hb : Below wr.heap.size wr wr') : LOKnow w r M wr' := ⟨(hb.block _ (heap_lt h.box)).trans h.box, h.row.below hb, h.low.trans (hb.mono h.low.size)⟩
theorem LOKnow.set_ {w : World} {r : RU} {M : List Int} {wr : World} (h : LOKnow w r M wr) (j : Nat) (v : Int) : LOKnow w r (M.set j v) (wr.setCell ⟨w.heap.size + 1, j, none⟩ (.int .i64 v)) :=
  ⟨(Below.heap_setCell _ _ _ _ (by show w.heap.size ≠ w.heap.size + 1; omega)).trans h.box, h.row.set_ j v, h.low.setCell (by show w.heap.size ≤ w.heap.size + 1; omega) _⟩
theorem LOKnow.drew {w : World} {r : RU} {M : List Int} {wr : World} (h : LOKnow w r M wr) : LOKnow w r M wr.drew := ⟨h.box, h.row.drew, h.low.drew⟩
end Go.Proofs.YtlkkociijfdcgaaGreatDoor

namespace Go.Proofs.YtlkkociijfdcgaaGreatDoor
open Go.RowKit Go.Maps Go.Shelf

theorem mk_some {m : UInt8} {L : Bool} {l : List UInt8} {x : List UInt8 × List Int} (h : refMT m L l = some x) : refMk m L true [] [] l = some x := by
  unfold refMT at h
  cases hm : refMk m L true [] [] l with
  | none => rw [hm] at h; cases h
  | some y =>
    rw [hm] at h
    dsimp only at h
    split at h
    · exact h
    · cases h
theorem checkE_some {y : Sty} {l : List ByteArray} (h : (checkE y l).2 = 0) : l.length ≤ 40 ∧ ∀ j, j < l.length → entO y (l.getD j noTx) = some (entG y l j) := by
  unfold checkE at h
  by_cases h40 : 40 < l.length
  · rw [if_pos h40] at h; exact absurd h (by decide)
  · rw [if_neg h40] at h
    refine ⟨by omega, fun j hj => ?_⟩
    cases hf : firstAt (badE y l) (l.length - 0) 0 with
    | some i =>
      rw [hf] at h
      exfalso
      have h' : (if badF y l i = true then (3 : Int) else 5) = 0 := h
      split at h' <;> exact absurd h' (by decide)
    | none =>
      have hb := firstAt_none hf j (Nat.zero_le _) (by omega)
      unfold badE at hb
      rw [Bool.or_eq_false_iff] at hb
      have hb1 := hb.1
      unfold badF at hb1
      unfold entG
      cases ho : entO y (l.getD j noTx) with
      | none => rw [ho] at hb1; cases hb1
      | some x => rfl
theorem marked_ok {y : Sty} {m : UInt8} {L : Bool} (hy : MkRel y m L) {l : List ByteArray} (h : (checkE y l).2 = 0) {j : Nat} (hj : j < l.length) : refMk m L true [] [] (l.getD j noTx).data.toList = some (entG y l j) := by
  have h1 := (checkE_some h).2 j hj
  rw [hy] at h1
  cases hm : refMT m L (l.getD j noTx).data.toList with
  | none => rw [hm] at h1; cases h1
  | some x =>
    rw [hm] at h1
    dsimp only at h1
    split at h1
    · cases h1
    · injection h1 with h1
      rw [← h1]
      exact mk_some hm
theorem checkR_exc {r : RU} (h : (checkR r).2 = 0) : (checkE excS r.es.l).2 = 0 ∧ (checkE barS r.bs.l).2 = 0 := by
  unfold checkR at h
  by_cases h1 : (checkPats r.ps.l).2 = 0
  · rw [if_neg (fun h => h h1)] at h
    by_cases h2 : (checkE excS r.es.l).2 = 0
    · rw [if_neg (fun h => h h2)] at h
      by_cases h3 : (checkE barS r.bs.l).2 = 0
      · exact ⟨h2, h3⟩
      · rw [if_pos h3] at h; exact absurd h h3
    · rw [if_pos h2] at h; exact absurd h h2
  · rw [if_pos h1] at h; exact absurd h h1
theorem lookE_succ (y : Sty) (l : List ByteArray) (k : Nat) (key : List UInt8) : lookE (entsN y l (k + 1)) key = if (entG y l k).1 = key then (entG y l k).2 else lookE (entsN y l k) key := by
  rw [entsN_succ]
  unfold lookE
  rw [List.foldl_append]
  rfl
structure HyKnow (w : World) (r : RU) (wr : World) : Prop where
  box : wr.heap[w.heap.size]? = some (.cells #[.slice r.ps.a r.ps.l.length r.ps.c, .slice r.es.a r.es.l.length r.es.c, .slice r.bs.a r.bs.l.length r.bs.c, .int .i64 r.left, .int .i64 r.right] 24 (0, 0))
  low : Below w.heap.size w wr
theorem HyKnow.below {w : World} {r : RU} {wr wr' : World} (h : HyKnow w r wr) (hb : Below wr.heap.size wr wr') : HyKnow w r wr' := ⟨(hb.block _ (heap_lt h.box)).trans h.box, h.low.trans (hb.mono h.low.size)⟩
theorem HyKnow.drewN {w : World} {r : RU} {wr : World} (h : HyKnow w r wr) (n : Nat) : HyKnow w r (wr.drewN n) := ⟨h.box, below_drewN h.low n⟩
theorem HyKnow.own {w : World} {r : RU} {wr wr' : World} (h : HyKnow w r wr) (hb : Below (w.heap.size + 1) wr wr') : HyKnow w r wr' := ⟨(hb.block _ (by omega)).trans h.box, h.low.trans (hb.mono (by omega))⟩
def RHPost (w : World) (l : List Int) (e : Ending) (w' : World) : Prop := (∃ A c, e = .returned (.slice A l.length c) ∧ IntsAt w' A l) ∧ Below w.heap.size w w'
end Go.Proofs.YtlkkociijfdcgaaGreatDoor
/-
  A word with its hyphens: the reference's walk.
-/
namespace Go.Proofs.YtlkkociijfdcgaaGreatDoor
open Go.RowKit Go.Maps Go.Shelf

end Go.Proofs.YtlkkociijfdcgaaGreatDoor

namespace Go.Proofs.YtlkkociijfdcgaaGreatDoor
open Go.RowKit Go.Maps Go.Shelf

theorem any_of {l : List Int} {q : Int → Bool} {j : Nat} (hj : j < l.length) (h : q (l.getD j 0) = true) : l.any q = true := by
  rw [List.getD_eq_getElem?_getD, List.getElem?_eq_getElem hj] at h
  exact List.any_eq_true.2 ⟨l[j], List.getElem_mem hj, h⟩
theorem none_of {l : List Int} {q : Int → Bool} (h : ∀ j, j < l.length → q (l.getD j 0) = false) : l.any q = false := by
  rw [List.any_eq_false]
  intro x hx
  obtain ⟨j, hj, rfl⟩ := List.getElem_of_mem hx
  have h1 := h j hj
  rw [List.getD_eq_getElem?_getD, List.getElem?_eq_getElem hj] at h1
  exact Bool.eq_false_iff.1 h1
theorem preB_ref {t x : ByteArray} {pl : Nat} (hpl : pl ≤ t.size) : preB (t.extract pl t.size) x = (decide (pl + x.size ≤ t.size) && (t.extract pl (pl + x.size)).toList == x.toList) := by
  have hex : (t.extract pl t.size).size = t.size - pl := by rw [ByteArray.size_extract]; omega
  by_cases h : pl + x.size ≤ t.size
  · rw [preB_long (by rw [hex]; omega), decide_eq_true h, Bool.true_and]
    congr 1
    rw [toList_data, toList_data, ext_list, ext_list, ext_list, List.drop_zero, List.take_take]
    congr 1
    omega
  · rw [preB_short (by rw [hex]; omega), decide_eq_false h, Bool.false_and]
set_option maxRecDepth 100000 in
set_option maxHeartbeats 2000000 in
theorem refMay_any (f : FT) (a : Option Addr) (c : Nat) (t : ByteArray) (ba : Option Addr) (m bc : Nat) (bl : List Int) (pl i : Nat) (w : World) (hF : SortsAt w a f.sorts) (hB : IntsAt w ba bl) (hm : m = bl.length) (hi : i < f.sorts.length)
    (hpl : pl ≤ t.size) (ht : t.size ≤ 1000) (hx : (f.sorts.getD i noTS).text.size ≤ 1000) (hbl : bl.length ≤ 1000) :
    Calls Tryz.prog 157 #[.agg #[.string f.name, .int .i64 f.body, .slice a f.sorts.length c], .string t, .slice ba m bc, .int .i64 pl, .int .i64 i] w
      fun e w' => e = .returned (.bool (mayB ⟨f, a, c, t, ba, bc, bl⟩ pl (f.sorts.getD i noTS))) ∧ Below w.heap.size w w' := by
  subst hm
  have hb0 := (Below.refl w.heap.size w).alloc (Nat.le_refl _) (.cells #[.string f.name, .int .i64 f.body, .slice a f.sorts.length c] 59)
  obtain ⟨ad, rfl, hal, hy⟩ := (hF.below hb0).at_ hi
  have hBI := hB.below hb0
  have hil : (i : Int) < (f.sorts.length : Int) := by omega
  have hi0 : (0 : Int) ≤ (i : Int) := by omega
  obtain ⟨_, hy1, hy2, _⟩ := hy
  have HM := Lib.hid (show mayB ⟨f, some ad, c, t, ba, bc, bl⟩ pl (f.sorts.getD i noTS) = (!((f.sorts.getD i noTS).kind == 3) && (decide (pl + (f.sorts.getD i noTS).text.size ≤ t.size) && (t.extract pl (pl + (f.sorts.getD i noTS).text.size)).toList == (f.sorts.getD i noTS).text.toList && !(bl.any (barredB pl (f.sorts.getD i noTS).text.size)))) by
    unfold mayB
    rw [preB_ref hpl])
  obtain ⟨V, hV⟩ : ∃ V, V = mayB ⟨f, some ad, c, t, ba, bc, bl⟩ pl (f.sorts.getD i noTS) := ⟨_, rfl⟩
  rw [← hV] at HM ⊢
  clear hV
  obtain ⟨x, hxe⟩ : ∃ x, x = (f.sorts.getD i noTS).text := ⟨_, rfl⟩
  obtain ⟨k, hke⟩ : ∃ k, k = (f.sorts.getD i noTS).kind := ⟨_, rfl⟩
  rw [← hxe] at hy1 hx HM
  rw [← hke] at hy2 HM
  clear hxe hke hF hB
  have hpl0 : (0 : Int) ≤ (pl : Int) := by omega
  cases hk : (k == 3)
  · have hkb : ((3 : Int) == k) = false := by rw [beq_eq_false_iff_ne] at hk ⊢; exact fun e => hk e.symm
    by_cases hfit : pl + x.size ≤ t.size
    · have hf1 : decide ((t.size : Int) < (pl : Int) + (x.size : Int)) = false := decide_eq_false (by omega)
      have hf2 : ¬ (t.size : Int) < (pl : Int) + (x.size : Int) := by omega
      have hfi : (pl : Int) + (x.size : Int) ≤ (t.size : Int) := by omega
      have hsumN : ((pl : Int) + (x.size : Int)).toNat = pl + x.size := by omega
      cases hq : ((t.extract pl (pl + x.size)).toList == x.toList)
      · have hqn : ((t.extract pl (pl + x.size)).toList != x.toList) = true := by rw [bne, hq]; try rfl
        have HV := Lib.hid (show V = false by rw [HM.out, hq]; simp)
        clear HM
        go_enter Tryz.func157, Tryz.ntmps157
        go_wp2
        go_ret
        rw [HV.out]
        exact ⟨rfl, hb0⟩
      · have hqn : ((t.extract pl (pl + x.size)).toList != x.toList) = false := by rw [bne, hq]; try rfl
        have HV := Lib.hid (show V = !(bl.any (barredB pl x.size)) by rw [HM.out, hq, hk, decide_eq_true hfit]; try rfl)
        have HBI := Lib.hid hBI
        have hsum : IntKind.i64.wrap ((pl : Int) + (x.size : Int)) = (pl : Int) + (x.size : Int) := IntWalk.i64_in _ (by omega)
        clear HM hBI
        go_enter Tryz.func157, Tryz.ntmps157
        go_wp2_with fail
        go_loop [12] (fun v12 => ∃ j : Nat, j ≤ bl.length ∧ v12 = .int .i64 j ∧ Hid (∀ q, q < j → barredB pl x.size (bl.getD q 0) = false)) (fun v12 => bl.length - (intOf v12).toNat)
        case atStart => exact ⟨0, Nat.zero_le _, rfl, Lib.hid fun q hq => absurd hq (Nat.not_lt_zero _)⟩
        case round =>
          obtain ⟨j, hj, rfl, HN⟩ := hrel
          by_cases hjl : j < bl.length
          · have hjl' : (j : Int) < (bl.length : Int) := by omega
            obtain ⟨ad2, rfl, hal2, hc2⟩ := HBI.out.at_ hjl
            obtain ⟨b, hb⟩ : ∃ b, b = bl.getD j 0 := ⟨_, rfl⟩
            rw [← hb] at hc2
            have HB := Lib.hid hb
            clear hb
            by_cases h1 : (pl : Int) < b
            · have d1 : decide ((pl : Int) < b) = true := decide_eq_true h1
              by_cases h2 : b < (pl : Int) + (x.size : Int)
              · have d2 : decide (b < (pl : Int) + (x.size : Int)) = true := decide_eq_true h2
                have HV2 := Lib.hid (show V = false by
                  rw [HV.out, any_of hjl (by rw [← HB.out]; exact decide_eq_true ⟨h1, h2⟩)]; rfl)
                go_wp2
                go_ret
                rw [HV2.out]
                exact ⟨rfl, hb0⟩
              · have d2 : decide (b < (pl : Int) + (x.size : Int)) = false := decide_eq_false h2
                have HN2 := Lib.hid (fun q (hq : q < j + 1) => show barredB pl x.size (bl.getD q 0) = false by
                  by_cases e : q = j
                  · rw [e, ← HB.out]; exact decide_eq_false (fun h => h2 h.2)
                  · exact HN.out q (by omega))
                clear HN
                go_wp2
                go_round
                case rel => exact ⟨j + 1, by omega, by go_num, HN2⟩
                case measure => simp [intOf]; omega
            · have d1 : decide ((pl : Int) < b) = false := decide_eq_false h1
              have HN2 := Lib.hid (fun q (hq : q < j + 1) => show barredB pl x.size (bl.getD q 0) = false by
                by_cases e : q = j
                · rw [e, ← HB.out]; exact decide_eq_false (fun h => h1 h.1)
                · exact HN.out q (by omega))
              clear HN
              go_wp2
              go_round
              case rel => exact ⟨j + 1, by omega, by go_num, HN2⟩
              case measure => simp [intOf]; omega
          · obtain rfl : j = bl.length := by omega
            have hjl' : ¬ (bl.length : Int) < (bl.length : Int) := by omega
            have HV2 := Lib.hid (show V = true by rw [HV.out, none_of HN.out]; try rfl)
            go_wp2
            go_ret
            rw [HV2.out]
            exact ⟨rfl, hb0⟩
    · have hf1 : decide ((t.size : Int) < (pl : Int) + (x.size : Int)) = true := decide_eq_true (by omega)
      have hf2 : (t.size : Int) < (pl : Int) + (x.size : Int) := by omega
      have HV := Lib.hid (show V = false by rw [HM.out, decide_eq_false hfit]; simp)
      clear HM
      go_enter Tryz.func157, Tryz.ntmps157
      go_wp2
      go_ret
      rw [HV.out]
      exact ⟨rfl, hb0⟩
  · have HV := Lib.hid (show V = false by rw [HM.out, hk]; try rfl)
    clear HM
    go_enter Tryz.func157, Tryz.ntmps157
    go_wp2
    go_ret
    rw [HV.out]
    exact ⟨rfl, hb0⟩
theorem checkE_apart {y : Sty} {l : List ByteArray} (h : (checkE y l).2 = 0) {i j : Nat} (hij : i < j) (hj : j < l.length) : (entG y l i).1 ≠ (entG y l j).1 := by
  unfold checkE at h
  by_cases h40 : 40 < l.length
  · rw [if_pos h40] at h; exact absurd h (by decide)
  · rw [if_neg h40] at h
    cases hf : firstAt (badE y l) (l.length - 0) 0 with
    | some q =>
      rw [hf] at h
      exfalso
      have h' : (if badF y l q = true then (3 : Int) else 5) = 0 := h
      split at h' <;> exact absurd h' (by decide)
    | none =>
      have hb := firstAt_none hf j (Nat.zero_le _) (by omega)
      unfold badE at hb
      rw [Bool.or_eq_false_iff] at hb
      have hb2 := hb.2
      unfold badA hasE at hb2
      rw [List.any_eq_false] at hb2
      intro e
      have h3 := hb2 (entG y l i) (by unfold entsN; exact List.mem_map.2 ⟨i, List.mem_range.2 hij, rfl⟩)
      exact h3 (decide_eq_true e)
theorem lookE_first {y : Sty} {l : List ByteArray} (h : (checkE y l).2 = 0) {k : Nat} {key : List UInt8} (he : (entG y l k).1 = key) : ∀ n, k < n → n ≤ l.length → lookE (entsN y l n) key = (entG y l k).2
  | 0, h0, _ => absurd h0 (Nat.not_lt_zero _)
  | n + 1, h0, hn => by
    rw [lookE_succ]
    by_cases e : n = k
    · rw [e, if_pos he]
    · rw [if_neg (fun e2 => checkE_apart h (show k < n by omega) (by omega) (he.trans e2.symm))]
      exact lookE_first h he n (by omega) (by omega)
theorem lookE_no {y : Sty} {l : List ByteArray} {key : List UInt8} : ∀ n, (∀ q, q < n → (entG y l q).1 ≠ key) → lookE (entsN y l n) key = []
  | 0, _ => rfl
  | n + 1, h => by
    rw [lookE_succ, if_neg (h n (by omega))]
    exact lookE_no n (fun q hq => h q (by omega))
set_option maxRecDepth 100000 in
set_option maxHeartbeats 4000000 in
theorem refBars_any (r : RU) (s : ByteArray) (w : World) (hR : r.at_ w) (hS : RSmall r) (he : (checkR r).2 = 0) :
    Calls Tryz.prog 108 #[.agg r.cells, .string s] w (RHPost w (barsOf r s)) := by
  obtain ⟨hx1, hx2⟩ := checkR_exc he
  have hes := (checkE_some hx2).1
  have HR := Lib.hid hR
  have HEX := Lib.hid (fun j (hj : j < r.bs.l.length) => marked_ok mkRel_bar hx2 hj)
  have HLF := Lib.hid (fun k key (h : (entG barS r.bs.l k).1 = key) (hk : k < r.bs.l.length) => lookE_first hx2 h r.bs.l.length hk (Nat.le_refl _))
  have HBO := Lib.hid (show barsOf r s = lookE (entsN barS r.bs.l r.bs.l.length) s.data.toList from rfl)
  have hK0 : HyKnow w r (w.alloc (.cells #[.slice r.ps.a r.ps.l.length r.ps.c, .slice r.es.a r.es.l.length r.es.c, .slice r.bs.a r.bs.l.length r.bs.c, .int .i64 r.left, .int .i64 r.right] 24)) := ⟨heap_new _ _, (Below.refl _ _).alloc (Nat.le_refl _) _⟩
  obtain ⟨B, hB⟩ : ∃ B, B = barsOf r s := ⟨_, rfl⟩
  rw [← hB] at HBO ⊢
  unfold RU.cells
  clear hR he hx1 hx2 hB
  go_enter Tryz.func108, Tryz.ntmps108
  go_wp2_with fail
  go_loopw [5] (fun v5 wr => ∃ k : Nat, k ≤ r.bs.l.length ∧ v5 = .int .i64 k ∧ HyKnow w r wr ∧ Hid (∀ q, q < k → (entG barS r.bs.l q).1 ≠ s.data.toList)) (fun v5 _ => r.bs.l.length - (intOf v5).toNat)
  case atStart => exact ⟨0, Nat.zero_le _, rfl, hK0, Lib.hid fun q hq => absurd hq (Nat.not_lt_zero _)⟩
  case round =>
    obtain ⟨k, hk, rfl, hK, HN⟩ := hrel
    clear hK0
    have q0 : wr.cell? ⟨w.heap.size, 2, none⟩ = some (.slice r.bs.a r.bs.l.length r.bs.c) := cell_of_row wr _ 2 _ _ (0, 0) hK.box
    by_cases hlt : k < r.bs.l.length
    · have hkl : (k : Int) < (r.bs.l.length : Int) := by omega
      obtain ⟨p1, ep1, hp1', hc1⟩ := (HR.out.2.2.1.below hK.low) k hlt
      rw [ep1] at q0
      have hz := hS.2.2 k hlt
      have hex := HEX.out k hlt
      obtain ⟨t, et⟩ : ∃ t, t = r.bs.l.getD k noTx := ⟨_, rfl⟩
      rw [← et] at hc1 hex hz
      obtain ⟨x, ex⟩ : ∃ x, x = entG barS r.bs.l k := ⟨_, rfl⟩
      rw [← ex] at hex
      have HRM := Lib.hid (fun W => readMarked_any 124 false t W hz)
      have HX := Lib.hid hex
      have HEG := Lib.hid ex
      clear et ep1 ex hex
      go_wp2_with fail
      refine (HRM.out _).mono ?_
      rintro e w2 ⟨hb2, hp2⟩
      rw [HX.out] at hp2
      obtain ⟨v, rfl, hIv⟩ := hp2
      obtain ⟨A2, c2, rfl, hI2, -, -⟩ := hIv.shape
      have hK2 := hK.below hb2
      clear hIv hb2 hK q0 hc1 HRM
      by_cases hq : x.1 = s.data.toList
      · have hst : ((⟨x.1.toArray⟩ : ByteArray).toList == s.toList) = true := by rw [toList_data, toList_data, beq_iff_eq]; exact hq
        have hst2 : (x.1 == s.toList) = true := by rw [toList_data, beq_iff_eq]; exact hq
        have HBV := Lib.hid (show B = x.2 by rw [HBO.out, HLF.out k _ (by rw [← HEG.out]; exact hq) hlt, ← HEG.out])
        have hlow := hK2.low
        clear hq HN hK2
        go_wp2
        go_ret
        exact ⟨⟨A2, c2, by rw [HBV.out]; try rfl, by rw [HBV.out]; exact hI2⟩, hlow⟩
      · have hst : ((⟨x.1.toArray⟩ : ByteArray).toList == s.toList) = false := by rw [toList_data, toList_data, beq_eq_false_iff_ne]; exact hq
        have hst2 : (x.1 == s.toList) = false := by rw [toList_data, beq_eq_false_iff_ne]; exact hq
        have HN2 := Lib.hid (fun q (hq2 : q < k + 1) => show (entG barS r.bs.l q).1 ≠ s.data.toList by
          by_cases e : q = k
          · rw [e, ← HEG.out]; exact hq
          · exact HN.out q (by omega))
        clear hq HN hI2
        go_wp2
        go_roundw
        case rel => exact ⟨k + 1, by omega, by go_num, hK2, HN2⟩
        case measure => simp [intOf]; omega
    · obtain rfl : k = r.bs.l.length := by omega
      have hkl : ¬ (r.bs.l.length : Int) < (r.bs.l.length : Int) := by omega
      have hlow := hK.low
      have HBV := Lib.hid (show B = [] by rw [HBO.out, lookE_no _ HN.out])
      clear hK
      go_wp2
      go_ret
      exact ⟨⟨none, 0, by rw [HBV.out]; try rfl, by rw [HBV.out]; exact fun q hq => absurd hq (Nat.not_lt_zero _)⟩, hlow⟩
end Go.Proofs.YtlkkociijfdcgaaGreatDoor
/-
  The set word: the reference's walk.
-/
namespace Go.Proofs.YtlkkociijfdcgaaGreatDoor
open Go.RowKit Go.Maps Go.Shelf

/-- Sorts that print something have a text. -/
def Texted (f : FT) : Prop := ∀ i, i < f.sorts.length → (f.sorts.getD i noTS).kind ≠ 3 → 0 < (f.sorts.getD i noTS).text.size
theorem may_kind {p : PC} {pl : Nat} {x : TS} (h : mayB p pl x = true) : x.kind ≠ 3 := by
  unfold mayB at h
  rw [Bool.and_eq_true] at h
  intro e
  have := h.1
  rw [e] at this
  cases this
/-- What the inner loop of the reference knows of the best sort so far. -/
def bestV (a : Nat × Nat) : Int := if a.2 = 0 then -1 else (a.1 : Int)
structure SetKnow (w : World) (f : FT) (a : Option Addr) (c : Nat) (wr : World) : Prop where
  box : wr.heap[w.heap.size]? = some (.cells #[.string f.name, .int .i64 f.body, .slice a f.sorts.length c] 59 (0, 0))
  low : Below w.heap.size w wr
theorem SetKnow.below {w : World} {f : FT} {a : Option Addr} {c : Nat} {wr wr' : World} (h : SetKnow w f a c wr) (hb : Below wr.heap.size wr wr') : SetKnow w f a c wr' := ⟨(hb.block _ (heap_lt h.box)).trans h.box, h.low.trans (hb.mono h.low.size)⟩
theorem SetKnow.own {w : World} {f : FT} {a : Option Addr} {c : Nat} {wr wr' : World} (h : SetKnow w f a c wr) (hb : Below (w.heap.size + 1) wr wr') : SetKnow w f a c wr' := ⟨(hb.block _ (by omega)).trans h.box, h.low.trans (hb.mono (by omega))⟩
theorem SetKnow.c {w : World} {f : FT} {a : Option Addr} {c : Nat} {wr : World} (h : SetKnow w f a c wr) : wr.cell? ⟨w.heap.size, 0, none⟩ = some (.string f.name) ∧ wr.cell? ⟨w.heap.size, 1, none⟩ = some (.int .i64 f.body) ∧ wr.cell? ⟨w.heap.size, 2, none⟩ = some (.slice a f.sorts.length c) :=
  ⟨cell_of_row wr _ 0 _ _ (0, 0) h.box, cell_of_row wr _ 1 _ _ (0, 0) h.box, cell_of_row wr _ 2 _ _ (0, 0) h.box⟩
set_option maxRecDepth 100000 in
set_option maxHeartbeats 4000000 in
theorem refSet_any (f : FT) (a : Option Addr) (c : Nat) (t : ByteArray) (ba : Option Addr) (m bc : Nat) (bl : List Int) (w : World) (hp : (PC.mk f a c t ba bc bl).at_ w) (hf : (PC.mk f a c t ba bc bl).Fine) (hm : m = bl.length) (htx : Texted f) :
    Calls Tryz.prog 107 #[.agg #[.string f.name, .int .i64 f.body, .slice a f.sorts.length c], .string t, .slice ba m bc] w (SetPost w (longP ⟨f, a, c, t, ba, bc, bl⟩)) := by
  subst hm
  obtain ⟨hpt, hts, hns⟩ := hf
  dsimp only at hpt hts hns
  have hbl := hp.pl.1
  dsimp only at hbl
  obtain ⟨p, hpe⟩ : ∃ p : PC, p = ⟨f, a, c, t, ba, bc, bl⟩ := ⟨_, rfl⟩
  have HMAY := Lib.hid (fun pl i W (h : p.at_ W) (hi : i < f.sorts.length) (hpl : pl ≤ t.size) => show Calls Tryz.prog 157 #[.agg #[.string f.name, .int .i64 f.body, .slice a f.sorts.length c], .string t, .slice ba bl.length bc, .int .i64 pl, .int .i64 i] W (fun e w' => e = .returned (.bool (mayB p pl (f.sorts.getD i noTS))) ∧ Below W.heap.size W w') by
    rw [hpe] at h ⊢
    exact refMay_any f a c t ba bl.length bc bl pl i W h.sorts h.ints rfl hi hpl hpt (hts i hi) (by omega))
  rw [← hpe] at hp ⊢
  have hpf : p.f = f := by rw [hpe]
  have hptt : p.t = t := by rw [hpe]
  have hpa : p.a = a := by rw [hpe]
  have HP := Lib.hid hp
  have HTS := Lib.hid hts
  have HTX := Lib.hid htx
  have HPF := Lib.hid hpf
  have HPT := Lib.hid hptt
  have HPA := Lib.hid hpa
  have hK0 : SetKnow w f a c (w.alloc (.cells #[.string f.name, .int .i64 f.body, .slice a f.sorts.length c] 59)) := ⟨heap_new _ _, (Below.refl _ _).alloc (Nat.le_refl _) _⟩
  clear hpf hptt hpa hp hts htx hpe
  go_enter Tryz.func107, Tryz.ntmps107
  go_wp2_with fail
  go_loopw [8, 9] (fun v8 v9 wr => ∃ (pl k : Nat) (acc : List Int), pl ≤ t.size ∧ t.size < k + pl ∧ acc.length ≤ pl ∧ v9 = .int .i64 pl ∧ Hid (longP p = longSet p k pl acc) ∧ IRow wr (w.heap.size + 1) v8 acc ∧ SetKnow w f a c wr) (fun _ v9 _ => t.size - (intOf v9).toNat)
  case atStart => exact ⟨0, t.size + 1, [], Nat.zero_le _, by omega, Nat.zero_le _, rfl, Lib.hid (by unfold longP; rw [HPT.out]), IRow.nil _ _, hK0⟩
  case round =>
    obtain ⟨pl, k, acc, hpl, hk, hacc, rfl, HR, hrow, hK⟩ := hrel
    clear hK0
    by_cases hlt : pl < t.size
    · have hlt' : (pl : Int) < (t.size : Int) := by omega
      obtain ⟨k, rfl⟩ : ∃ k', k = k' + 1 := ⟨k - 1, by omega⟩
      have hst : longSet p (k + 1) pl acc = if 0 < (longAt p pl).2 then longSet p k (pl + (longAt p pl).2) (acc ++ [((longAt p pl).1 : Int)]) else none := if_pos (by rw [HPT.out]; exact hlt)
      have HST := Lib.hid hst
      clear hst
      obtain ⟨wo, hwo⟩ : ∃ wo : World, wo = wr := ⟨_, rfl⟩
      rw [← hwo] at hrow hK ⊢
      clear hwo
      go_wp2_with fail
      go_loopw [10, 11] (fun v10 v11 wi => ∃ i : Nat, i ≤ f.sorts.length ∧ v11 = .int .i64 i ∧ v10 = .int .i64 (bestV (longF p pl (mays p pl i))) ∧ Below wo.heap.size wo wi) (fun _ v11 _ => f.sorts.length - (intOf v11).toNat)
      case atStart => exact ⟨0, Nat.zero_le _, rfl, rfl, Below.refl _ _⟩
      case round =>
        obtain ⟨i, hi, rfl, rfl, hbi⟩ := hrel
        have hKi := hK.below hbi
        obtain ⟨c0, c1, c2⟩ := hKi.c
        by_cases hil : i < f.sorts.length
        · have hil' : (i : Int) < (f.sorts.length : Int) := by omega
          have hpi := HP.out.below hKi.low
          have HMY := Lib.hid (fun W (h : Below wr.heap.size wr W) => HMAY.out pl i W (hpi.below h) hil (by omega))
          cases hmay : mayB p pl (f.sorts.getD i noTS)
          · have HNX := Lib.hid (mays_miss (p := p) (pl := pl) (k := i) (by rw [HPF.out]; exact hmay))
            rw [hmay] at HMY
            clear hmay
            go_wp2_with fail
            refine wp_region_held (S := fun Z => Z.cell? ⟨w.heap.size, 0, none⟩ = some (.string f.name) ∧ Z.cell? ⟨w.heap.size, 1, none⟩ = some (.int .i64 f.body) ∧ Z.cell? ⟨w.heap.size, 2, none⟩ = some (.slice a f.sorts.length c)) (by kernel_rfl) ?_
            have hS := And.intro c0 (And.intro c1 c2)
            refine takeL (i := 0) (v := .agg #[.string f.name, .int .i64 f.body, .slice a f.sorts.length c]) rfl (by kernel_rfl) (by kernel_rfl) (by kernel_rfl) (fun _ _ _ h => h) (Or.inl ⟨by rfl, fun V9 h9 => by dsimp only at h9; go_simp⟩) (by assumption) ?_
            try simp only [Act.put, List.setIfInBounds_toArray, List.set_cons_zero, List.set_cons_succ]
            refine takeL (i := 1) (v := .string t) rfl (by kernel_rfl) (by kernel_rfl) (by kernel_rfl) (fun _ _ _ h => h) (Or.inl ⟨by rfl, fun V9 h9 => by dsimp only at h9; go_simp⟩) (by assumption) ?_
            try simp only [Act.put, List.setIfInBounds_toArray, List.set_cons_zero, List.set_cons_succ]
            refine takeL (i := 2) (v := .slice ba bl.length bc) rfl (by kernel_rfl) (by kernel_rfl) (by kernel_rfl) (fun _ _ _ h => h) (Or.inl ⟨by rfl, fun V9 h9 => by dsimp only at h9; go_simp⟩) (by assumption) ?_
            try simp only [Act.put, List.setIfInBounds_toArray, List.set_cons_zero, List.set_cons_succ]
            refine takeL (i := 3) (v := .int .i64 pl) rfl (by kernel_rfl) (by kernel_rfl) (by kernel_rfl) (fun _ _ _ h => h) (Or.inl ⟨by rfl, fun V9 h9 => by dsimp only at h9; go_simp⟩) (by assumption) ?_
            try simp only [Act.put, List.setIfInBounds_toArray, List.set_cons_zero, List.set_cons_succ]
            refine takeL (i := 4) (v := .int .i64 i) rfl (by kernel_rfl) (by kernel_rfl) (by kernel_rfl) (fun _ _ _ h => h) (Or.inl ⟨by rfl, fun V9 h9 => by dsimp only at h9; go_simp⟩) (by assumption) ?_
            try simp only [Act.put, List.setIfInBounds_toArray, List.set_cons_zero, List.set_cons_succ]
            refine wpAnyH_ready (rs := [5]) (by kernel_rfl) (by simp) (consL rfl (fun K hKK => ?_) AllReadyH.nil)
            go_simp
            refine (HMY.out _ (Below.refl _ _).drew).mono ?_
            rintro e w2 ⟨rfl, hb2d⟩
            have hb2 : Below wr.heap.size wr w2 := (Below.refl _ _).drew.trans hb2d
            clear hb2d
            have hK2 := hKi.below hb2
            obtain ⟨k0, k1, k2⟩ := hK2.c
            have hS2 := And.intro k0 (And.intro k1 k2)
            refine hKK.out _ _ hS2 (fun _ => ?_)
            clear hKK K
            try simp only [Act.put, List.setIfInBounds_toArray, List.set_cons_zero, List.set_cons_succ]
            refine takeL (i := 6) (v := .bool false) rfl (by kernel_rfl) (by kernel_rfl) (by kernel_rfl) (fun _ _ _ h => h) (Or.inl ⟨by rfl, fun V9 h9 => by dsimp only at h9; go_simp⟩) (by assumption) ?_
            try simp only [Act.put, List.setIfInBounds_toArray, List.set_cons_zero, List.set_cons_succ]
            refine takeL (i := 7) (v := undef) rfl (by kernel_rfl) (by kernel_rfl) (by kernel_rfl) (fun _ _ _ h => h) (Or.inr ⟨by rfl, rfl⟩) (by assumption) ?_
            try simp only [Act.put, List.setIfInBounds_toArray, List.set_cons_zero, List.set_cons_succ]
            refine takeL (i := 8) (v := undef) rfl (by kernel_rfl) (by kernel_rfl) (by kernel_rfl) (fun _ _ _ h => h) (Or.inr ⟨by rfl, rfl⟩) (by assumption) ?_
            try simp only [Act.put, List.setIfInBounds_toArray, List.set_cons_zero, List.set_cons_succ]
            refine takeL (i := 9) (v := undef) rfl (by kernel_rfl) (by kernel_rfl) (by kernel_rfl) (fun _ _ _ h => h) (Or.inr ⟨by rfl, rfl⟩) (by assumption) ?_
            try simp only [Act.put, List.setIfInBounds_toArray, List.set_cons_zero, List.set_cons_succ]
            refine takeL (i := 10) (v := undef) rfl (by kernel_rfl) (by kernel_rfl) (by kernel_rfl) (fun _ _ _ h => h) (Or.inr ⟨by rfl, rfl⟩) (by assumption) ?_
            try simp only [Act.put, List.setIfInBounds_toArray, List.set_cons_zero, List.set_cons_succ]
            refine takeL (i := 11) (v := undef) rfl (by kernel_rfl) (by kernel_rfl) (by kernel_rfl) (fun _ _ _ h => h) (Or.inr ⟨by rfl, rfl⟩) (by assumption) ?_
            try simp only [Act.put, List.setIfInBounds_toArray, List.set_cons_zero, List.set_cons_succ]
            refine takeL (i := 12) (v := undef) rfl (by kernel_rfl) (by kernel_rfl) (by kernel_rfl) (fun _ _ _ h => h) (Or.inr ⟨by rfl, rfl⟩) (by assumption) ?_
            try simp only [Act.put, List.setIfInBounds_toArray, List.set_cons_zero, List.set_cons_succ]
            refine takeL (i := 13) (v := undef) rfl (by kernel_rfl) (by kernel_rfl) (by kernel_rfl) (fun _ _ _ h => h) (Or.inr ⟨by rfl, rfl⟩) (by assumption) ?_
            try simp only [Act.put, List.setIfInBounds_toArray, List.set_cons_zero, List.set_cons_succ]
            refine takeL (i := 14) (v := undef) rfl (by kernel_rfl) (by kernel_rfl) (by kernel_rfl) (fun _ _ _ h => h) (Or.inr ⟨by rfl, rfl⟩) (by assumption) ?_
            try simp only [Act.put, List.setIfInBounds_toArray, List.set_cons_zero, List.set_cons_succ]
            refine takeL (i := 15) (v := undef) rfl (by kernel_rfl) (by kernel_rfl) (by kernel_rfl) (fun _ _ _ h => h) (Or.inr ⟨by rfl, rfl⟩) (by assumption) ?_
            try simp only [Act.put, List.setIfInBounds_toArray, List.set_cons_zero, List.set_cons_succ]
            refine takeL (i := 16) (v := undef) rfl (by kernel_rfl) (by kernel_rfl) (by kernel_rfl) (fun _ _ _ h => h) (Or.inr ⟨by rfl, rfl⟩) (by assumption) ?_
            try simp only [Act.put, List.setIfInBounds_toArray, List.set_cons_zero, List.set_cons_succ]
            refine takeL (i := 17) (v := undef) rfl (by kernel_rfl) (by kernel_rfl) (by kernel_rfl) (fun _ _ _ h => h) (Or.inr ⟨by rfl, rfl⟩) (by assumption) ?_
            try simp only [Act.put, List.setIfInBounds_toArray, List.set_cons_zero, List.set_cons_succ]
            refine takeL (i := 18) (v := undef) rfl (by kernel_rfl) (by kernel_rfl) (by kernel_rfl) (fun _ _ _ h => h) (Or.inr ⟨by rfl, rfl⟩) (by assumption) ?_
            try simp only [Act.put, List.setIfInBounds_toArray, List.set_cons_zero, List.set_cons_succ]
            refine takeL (i := 19) (v := undef) rfl (by kernel_rfl) (by kernel_rfl) (by kernel_rfl) (fun _ _ _ h => h) (Or.inr ⟨by rfl, rfl⟩) (by assumption) ?_
            try simp only [Act.put, List.setIfInBounds_toArray, List.set_cons_zero, List.set_cons_succ]
            refine takeL (i := 20) (v := undef) rfl (by kernel_rfl) (by kernel_rfl) (by kernel_rfl) (fun _ _ _ h => h) (Or.inr ⟨by rfl, rfl⟩) (by assumption) ?_
            try simp only [Act.put, List.setIfInBounds_toArray, List.set_cons_zero, List.set_cons_succ]
            refine takeL (i := 21) (v := undef) rfl (by kernel_rfl) (by kernel_rfl) (by kernel_rfl) (fun _ _ _ h => h) (Or.inr ⟨by rfl, rfl⟩) (by assumption) ?_
            try simp only [Act.put, List.setIfInBounds_toArray, List.set_cons_zero, List.set_cons_succ]
            refine takeL (i := 22) (v := undef) rfl (by kernel_rfl) (by kernel_rfl) (by kernel_rfl) (fun _ _ _ h => h) (Or.inr ⟨by rfl, rfl⟩) (by assumption) ?_
            try simp only [Act.put, List.setIfInBounds_toArray, List.set_cons_zero, List.set_cons_succ]
            refine takeL (i := 23) (v := undef) rfl (by kernel_rfl) (by kernel_rfl) (by kernel_rfl) (fun _ _ _ h => h) (Or.inr ⟨by rfl, rfl⟩) (by assumption) ?_
            try simp only [Act.put, List.setIfInBounds_toArray, List.set_cons_zero, List.set_cons_succ]
            refine takeL (i := 24) (v := undef) rfl (by kernel_rfl) (by kernel_rfl) (by kernel_rfl) (fun _ _ _ h => h) (Or.inr ⟨by rfl, rfl⟩) (by assumption) ?_
            try simp only [Act.put, List.setIfInBounds_toArray, List.set_cons_zero, List.set_cons_succ]
            refine takeL (i := 25) (v := undef) rfl (by kernel_rfl) (by kernel_rfl) (by kernel_rfl) (fun _ _ _ h => h) (Or.inr ⟨by rfl, rfl⟩) (by assumption) ?_
            try simp only [Act.put, List.setIfInBounds_toArray, List.set_cons_zero, List.set_cons_succ]
            refine takeL (i := 26) (v := .bool false) rfl (by kernel_rfl) (by kernel_rfl) (by kernel_rfl) (fun _ _ _ h => h) (Or.inl ⟨by rfl, fun V9 h9 => by dsimp only at h9; go_simp⟩) (by assumption) ?_
            try simp only [Act.put, List.setIfInBounds_toArray, List.set_cons_zero, List.set_cons_succ]
            refine wpAnyH_done (by kernel_rfl) ?_ _
            go_wp2
            go_roundw
            case rel => exact ⟨i + 1, by omega, by go_num, by rw [HNX.out], hbi.trans (hb2.mono hbi.size)⟩
            case measure => simp [intOf]; omega
          · have hk3 := may_kind hmay
            have hts0 := HTX.out i hil hk3
            have HNX := Lib.hid (mays_hit (p := p) (pl := pl) (k := i) ⟨by rw [HPF.out]; exact hil, by rw [HPF.out]; exact hmay⟩)
            have HLS := Lib.hid (show longF p pl (mays p pl (i + 1)) = lstep p (longF p pl (mays p pl i)) i by rw [HNX.out, longF_snoc])
            have hok := longF_ok p pl (mays p pl i)
            have hszi : tsize p i = (f.sorts.getD i noTS).text.size := by unfold tsize; rw [HPF.out]
            rw [hmay] at HMY
            generalize longF p pl (mays p pl i) = la at HLS hok ⊢
            obtain ⟨b, n⟩ := la
            dsimp only at hok
            by_cases hn : n = 0
            · have HLN := Lib.hid (show longF p pl (mays p pl (i + 1)) = (i, tsize p i) by rw [HLS.out]; unfold lstep; rw [if_pos (by show n < tsize p i; omega)])
              have hbv : bestV (b, n) = -1 := if_pos hn
              have HBN := Lib.hid (show bestV (i, tsize p i) = (i : Int) from if_neg (by show tsize p i ≠ 0; omega))
              rw [hbv]
              clear HNX hmay hk3 hok hn hbv hszi
              go_wp2_with fail
              refine wp_region_held (S := fun Z => Z.cell? ⟨w.heap.size, 0, none⟩ = some (.string f.name) ∧ Z.cell? ⟨w.heap.size, 1, none⟩ = some (.int .i64 f.body) ∧ Z.cell? ⟨w.heap.size, 2, none⟩ = some (.slice a f.sorts.length c)) (by kernel_rfl) ?_
              have hS := And.intro c0 (And.intro c1 c2)
              refine takeL (i := 0) (v := .agg #[.string f.name, .int .i64 f.body, .slice a f.sorts.length c]) rfl (by kernel_rfl) (by kernel_rfl) (by kernel_rfl) (fun _ _ _ h => h) (Or.inl ⟨by rfl, fun V9 h9 => by dsimp only at h9; go_simp⟩) (by assumption) ?_
              try simp only [Act.put, List.setIfInBounds_toArray, List.set_cons_zero, List.set_cons_succ]
              refine takeL (i := 1) (v := .string t) rfl (by kernel_rfl) (by kernel_rfl) (by kernel_rfl) (fun _ _ _ h => h) (Or.inl ⟨by rfl, fun V9 h9 => by dsimp only at h9; go_simp⟩) (by assumption) ?_
              try simp only [Act.put, List.setIfInBounds_toArray, List.set_cons_zero, List.set_cons_succ]
              refine takeL (i := 2) (v := .slice ba bl.length bc) rfl (by kernel_rfl) (by kernel_rfl) (by kernel_rfl) (fun _ _ _ h => h) (Or.inl ⟨by rfl, fun V9 h9 => by dsimp only at h9; go_simp⟩) (by assumption) ?_
              try simp only [Act.put, List.setIfInBounds_toArray, List.set_cons_zero, List.set_cons_succ]
              refine takeL (i := 3) (v := .int .i64 pl) rfl (by kernel_rfl) (by kernel_rfl) (by kernel_rfl) (fun _ _ _ h => h) (Or.inl ⟨by rfl, fun V9 h9 => by dsimp only at h9; go_simp⟩) (by assumption) ?_
              try simp only [Act.put, List.setIfInBounds_toArray, List.set_cons_zero, List.set_cons_succ]
              refine takeL (i := 4) (v := .int .i64 i) rfl (by kernel_rfl) (by kernel_rfl) (by kernel_rfl) (fun _ _ _ h => h) (Or.inl ⟨by rfl, fun V9 h9 => by dsimp only at h9; go_simp⟩) (by assumption) ?_
              try simp only [Act.put, List.setIfInBounds_toArray, List.set_cons_zero, List.set_cons_succ]
              refine wpAnyH_ready (rs := [5]) (by kernel_rfl) (by simp) (consL rfl (fun K hKK => ?_) AllReadyH.nil)
              go_simp
              refine (HMY.out _ (Below.refl _ _).drew).mono ?_
              rintro e w2 ⟨rfl, hb2d⟩
              have hb2 : Below wr.heap.size wr w2 := (Below.refl _ _).drew.trans hb2d
              clear hb2d
              have hK2 := hKi.below hb2
              obtain ⟨k0, k1, k2⟩ := hK2.c
              have hS2 := And.intro k0 (And.intro k1 k2)
              refine hKK.out _ _ hS2 (fun _ => ?_)
              clear hKK K
              try simp only [Act.put, List.setIfInBounds_toArray, List.set_cons_zero, List.set_cons_succ]
              refine takeL (i := 6) (v := .bool true) rfl (by kernel_rfl) (by kernel_rfl) (by kernel_rfl) (fun _ _ _ h => h) (Or.inl ⟨by rfl, fun V9 h9 => by dsimp only at h9; go_simp⟩) (by assumption) ?_
              try simp only [Act.put, List.setIfInBounds_toArray, List.set_cons_zero, List.set_cons_succ]
              refine takeL (i := 7) (v := .int .i64 (-1)) rfl (by kernel_rfl) (by kernel_rfl) (by kernel_rfl) (fun _ _ _ h => h) (Or.inl ⟨by rfl, fun V9 h9 => by dsimp only at h9; go_simp⟩) (by assumption) ?_
              try simp only [Act.put, List.setIfInBounds_toArray, List.set_cons_zero, List.set_cons_succ]
              refine takeL (i := 8) (v := .bool true) rfl (by kernel_rfl) (by kernel_rfl) (by kernel_rfl) (fun _ _ _ h => h) (Or.inl ⟨by rfl, fun V9 h9 => by dsimp only at h9; go_simp⟩) (by assumption) ?_
              try simp only [Act.put, List.setIfInBounds_toArray, List.set_cons_zero, List.set_cons_succ]
              refine takeL (i := 9) (v := .bool true) rfl (by kernel_rfl) (by kernel_rfl) (by kernel_rfl) (fun _ _ _ h => h) (Or.inl ⟨by rfl, fun V9 h9 => by dsimp only at h9; go_simp⟩) (by assumption) ?_
              try simp only [Act.put, List.setIfInBounds_toArray, List.set_cons_zero, List.set_cons_succ]
              refine takeL (i := 10) (v := undef) rfl (by kernel_rfl) (by kernel_rfl) (by kernel_rfl) (fun _ _ _ h => h) (Or.inr ⟨by rfl, rfl⟩) (by assumption) ?_
              try simp only [Act.put, List.setIfInBounds_toArray, List.set_cons_zero, List.set_cons_succ]
              refine takeL (i := 11) (v := undef) rfl (by kernel_rfl) (by kernel_rfl) (by kernel_rfl) (fun _ _ _ h => h) (Or.inr ⟨by rfl, rfl⟩) (by assumption) ?_
              try simp only [Act.put, List.setIfInBounds_toArray, List.set_cons_zero, List.set_cons_succ]
              refine takeL (i := 12) (v := undef) rfl (by kernel_rfl) (by kernel_rfl) (by kernel_rfl) (fun _ _ _ h => h) (Or.inr ⟨by rfl, rfl⟩) (by assumption) ?_
              try simp only [Act.put, List.setIfInBounds_toArray, List.set_cons_zero, List.set_cons_succ]
              refine takeL (i := 13) (v := undef) rfl (by kernel_rfl) (by kernel_rfl) (by kernel_rfl) (fun _ _ _ h => h) (Or.inr ⟨by rfl, rfl⟩) (by assumption) ?_
              try simp only [Act.put, List.setIfInBounds_toArray, List.set_cons_zero, List.set_cons_succ]
              refine takeL (i := 14) (v := undef) rfl (by kernel_rfl) (by kernel_rfl) (by kernel_rfl) (fun _ _ _ h => h) (Or.inr ⟨by rfl, rfl⟩) (by assumption) ?_
              try simp only [Act.put, List.setIfInBounds_toArray, List.set_cons_zero, List.set_cons_succ]
              refine takeL (i := 15) (v := undef) rfl (by kernel_rfl) (by kernel_rfl) (by kernel_rfl) (fun _ _ _ h => h) (Or.inr ⟨by rfl, rfl⟩) (by assumption) ?_
              try simp only [Act.put, List.setIfInBounds_toArray, List.set_cons_zero, List.set_cons_succ]
              refine takeL (i := 16) (v := undef) rfl (by kernel_rfl) (by kernel_rfl) (by kernel_rfl) (fun _ _ _ h => h) (Or.inr ⟨by rfl, rfl⟩) (by assumption) ?_
              try simp only [Act.put, List.setIfInBounds_toArray, List.set_cons_zero, List.set_cons_succ]
              refine takeL (i := 17) (v := undef) rfl (by kernel_rfl) (by kernel_rfl) (by kernel_rfl) (fun _ _ _ h => h) (Or.inr ⟨by rfl, rfl⟩) (by assumption) ?_
              try simp only [Act.put, List.setIfInBounds_toArray, List.set_cons_zero, List.set_cons_succ]
              refine takeL (i := 18) (v := undef) rfl (by kernel_rfl) (by kernel_rfl) (by kernel_rfl) (fun _ _ _ h => h) (Or.inr ⟨by rfl, rfl⟩) (by assumption) ?_
              try simp only [Act.put, List.setIfInBounds_toArray, List.set_cons_zero, List.set_cons_succ]
              refine takeL (i := 19) (v := undef) rfl (by kernel_rfl) (by kernel_rfl) (by kernel_rfl) (fun _ _ _ h => h) (Or.inr ⟨by rfl, rfl⟩) (by assumption) ?_
              try simp only [Act.put, List.setIfInBounds_toArray, List.set_cons_zero, List.set_cons_succ]
              refine takeL (i := 20) (v := undef) rfl (by kernel_rfl) (by kernel_rfl) (by kernel_rfl) (fun _ _ _ h => h) (Or.inr ⟨by rfl, rfl⟩) (by assumption) ?_
              try simp only [Act.put, List.setIfInBounds_toArray, List.set_cons_zero, List.set_cons_succ]
              refine takeL (i := 21) (v := undef) rfl (by kernel_rfl) (by kernel_rfl) (by kernel_rfl) (fun _ _ _ h => h) (Or.inr ⟨by rfl, rfl⟩) (by assumption) ?_
              try simp only [Act.put, List.setIfInBounds_toArray, List.set_cons_zero, List.set_cons_succ]
              refine takeL (i := 22) (v := undef) rfl (by kernel_rfl) (by kernel_rfl) (by kernel_rfl) (fun _ _ _ h => h) (Or.inr ⟨by rfl, rfl⟩) (by assumption) ?_
              try simp only [Act.put, List.setIfInBounds_toArray, List.set_cons_zero, List.set_cons_succ]
              refine takeL (i := 23) (v := undef) rfl (by kernel_rfl) (by kernel_rfl) (by kernel_rfl) (fun _ _ _ h => h) (Or.inr ⟨by rfl, rfl⟩) (by assumption) ?_
              try simp only [Act.put, List.setIfInBounds_toArray, List.set_cons_zero, List.set_cons_succ]
              refine takeL (i := 24) (v := undef) rfl (by kernel_rfl) (by kernel_rfl) (by kernel_rfl) (fun _ _ _ h => h) (Or.inr ⟨by rfl, rfl⟩) (by assumption) ?_
              try simp only [Act.put, List.setIfInBounds_toArray, List.set_cons_zero, List.set_cons_succ]
              refine takeL (i := 25) (v := .bool true) rfl (by kernel_rfl) (by kernel_rfl) (by kernel_rfl) (fun _ _ _ h => h) (Or.inl ⟨by rfl, fun V9 h9 => by dsimp only at h9; go_simp⟩) (by assumption) ?_
              try simp only [Act.put, List.setIfInBounds_toArray, List.set_cons_zero, List.set_cons_succ]
              refine takeL (i := 26) (v := .bool true) rfl (by kernel_rfl) (by kernel_rfl) (by kernel_rfl) (fun _ _ _ h => h) (Or.inl ⟨by rfl, fun V9 h9 => by dsimp only at h9; go_simp⟩) (by assumption) ?_
              try simp only [Act.put, List.setIfInBounds_toArray, List.set_cons_zero, List.set_cons_succ]
              refine wpAnyH_done (by kernel_rfl) ?_ _
              go_wp2
              go_roundw
              case rel => exact ⟨i + 1, by omega, by go_num, by rw [HLN.out, HBN.out], hbi.trans (hb2.mono hbi.size)⟩
              case measure => simp [intOf]; omega
            · obtain ⟨hb1, hb3, -⟩ := hok.resolve_left hn
              rw [HPF.out] at hb1
              have hbv : bestV (b, n) = (b : Int) := if_neg hn
              have hszb : tsize p b = (f.sorts.getD b noTS).text.size := by unfold tsize; rw [HPF.out]
              have hsort : SortsAt wr a f.sorts := by have h := hpi.sorts; rw [HPA.out, HPF.out] at h; exact h
              obtain ⟨ad, rfl, had, hsi⟩ := hsort.at_ hil
              obtain ⟨ad', hade, _, hsb⟩ := hsort.at_ hb1
              obtain rfl : ad = ad' := Option.some.inj hade
              have ti := hsi.2.1
              have tb := hsb.2.1
              have hxi := HTS.out i hil
              have hxb := HTS.out b hb1
              generalize (f.sorts.getD i noTS).text = xi at ti hszi hts0 hxi
              generalize (f.sorts.getD b noTS).text = xb at tb hszb hxb
              have hbl' : (b : Int) < (f.sorts.length : Int) := by omega
              have hb0 : ¬ (b : Int) < 0 := by omega
              have hb0' : decide ((b : Int) < 0) = false := decide_eq_false hb0
              have hbnn : (0 : Int) ≤ (b : Int) := by omega
              have hinn : (0 : Int) ≤ (i : Int) := by omega
              have HBV := Lib.hid hbv
              rw [hbv]
              have hlt0 := heap_lt hKi.box
              have HNN := Lib.hid (show n = xb.size by rw [hb3, hszb])
              have HSI := Lib.hid hszi
              have HAL := Lib.hid had
              clear HNX hmay hk3 hok hn hbv hszi hszb hsi hsb hsort hade hb1 hb3 hts0
              by_cases hgt : xb.size < xi.size
              · have hgd : decide ((xb.size : Int) < (xi.size : Int)) = true := decide_eq_true (by omega)
                have hgn : decide (xb.size < xi.size) = true := decide_eq_true hgt
                have HLN := Lib.hid (show longF p pl (mays p pl (i + 1)) = (i, tsize p i) by rw [HLS.out]; unfold lstep; rw [if_pos (by show n < tsize p i; rw [HNN.out, HSI.out]; exact hgt)])
                have HBN := Lib.hid (show bestV (i, tsize p i) = (i : Int) from if_neg (by show tsize p i ≠ 0; rw [HSI.out]; omega))
                go_wp2_with fail
                go_region_held3 (fun w' => w'.cell? ⟨w.heap.size, 0, none⟩ = some (.string f.name) ∧ w'.cell? ⟨w.heap.size, 1, none⟩ = some (.int .i64 f.body) ∧ w'.cell? ⟨w.heap.size, 2, none⟩ = some (.slice (some ad) f.sorts.length c) ∧ w'.cell? ⟨(ad.add (i * 4)).block, (ad.add (i * 4)).off + 1, none⟩ = some (.string xi) ∧ w'.cell? ⟨(ad.add (b * 4)).block, (ad.add (b * 4)).off + 1, none⟩ = some (.string xb)) (go_keep)
                  (first | (go_at_call 157; refine (HMY.out _ (by first | exact Below.refl _ _ | exact (Below.refl _ _).drew)).mono ?_; rintro e w2 ⟨rfl, hb2d⟩; have hb2 : Below wr.heap.size wr w2 := (Below.refl _ _).drew.trans hb2d; have k0 := (hb2.cell (p := ⟨w.heap.size, 0, none⟩) hlt0).trans c0; have k1 := (hb2.cell (p := ⟨w.heap.size, 1, none⟩) hlt0).trans c1; have k2 := (hb2.cell (p := ⟨w.heap.size, 2, none⟩) hlt0).trans c2; have k3 := (hb2.cell (p := ⟨(ad.add (i * 4)).block, (ad.add (i * 4)).off + 1, none⟩) (by rw [add_block]; exact HAL.out)).trans ti; have k4 := (hb2.cell (p := ⟨(ad.add (b * 4)).block, (ad.add (b * 4)).off + 1, none⟩) (by rw [add_block]; exact HAL.out)).trans tb))
                go_wp2
                go_roundw
                case rel => exact ⟨i + 1, by omega, by go_num, by rw [HLN.out, HBN.out], hbi.trans (hb2.mono hbi.size)⟩
                case measure => simp [intOf]; omega
              · have hgd : decide ((xb.size : Int) < (xi.size : Int)) = false := decide_eq_false (by omega)
                have hgn : decide (xb.size < xi.size) = false := decide_eq_false hgt
                have HLN := Lib.hid (show longF p pl (mays p pl (i + 1)) = (b, n) by rw [HLS.out]; unfold lstep; rw [if_neg (by show ¬ n < tsize p i; rw [HNN.out, HSI.out]; exact hgt)])
                have HBN := Lib.hid (show bestV (b, n) = (b : Int) from HBV.out)
                go_wp2_with fail
                go_region_held3 (fun w' => w'.cell? ⟨w.heap.size, 0, none⟩ = some (.string f.name) ∧ w'.cell? ⟨w.heap.size, 1, none⟩ = some (.int .i64 f.body) ∧ w'.cell? ⟨w.heap.size, 2, none⟩ = some (.slice (some ad) f.sorts.length c) ∧ w'.cell? ⟨(ad.add (i * 4)).block, (ad.add (i * 4)).off + 1, none⟩ = some (.string xi) ∧ w'.cell? ⟨(ad.add (b * 4)).block, (ad.add (b * 4)).off + 1, none⟩ = some (.string xb)) (go_keep)
                  (first | (go_at_call 157; refine (HMY.out _ (by first | exact Below.refl _ _ | exact (Below.refl _ _).drew)).mono ?_; rintro e w2 ⟨rfl, hb2d⟩; have hb2 : Below wr.heap.size wr w2 := (Below.refl _ _).drew.trans hb2d; have k0 := (hb2.cell (p := ⟨w.heap.size, 0, none⟩) hlt0).trans c0; have k1 := (hb2.cell (p := ⟨w.heap.size, 1, none⟩) hlt0).trans c1; have k2 := (hb2.cell (p := ⟨w.heap.size, 2, none⟩) hlt0).trans c2; have k3 := (hb2.cell (p := ⟨(ad.add (i * 4)).block, (ad.add (i * 4)).off + 1, none⟩) (by rw [add_block]; exact HAL.out)).trans ti; have k4 := (hb2.cell (p := ⟨(ad.add (b * 4)).block, (ad.add (b * 4)).off + 1, none⟩) (by rw [add_block]; exact HAL.out)).trans tb))
                go_wp2
                go_roundw
                case rel => exact ⟨i + 1, by omega, by go_num, by rw [HLN.out, HBN.out], hbi.trans (hb2.mono hbi.size)⟩
                case measure => simp [intOf]; omega
        · have hil' : ¬ (i : Int) < (f.sorts.length : Int) := by omega
          obtain rfl : i = f.sorts.length := by omega
          have hLA : longF p pl (mays p pl f.sorts.length) = longAt p pl := by unfold longAt; rw [HPF.out]
          have hlk := longAt_ok p pl (by rw [HPT.out]; omega)
          rw [HPT.out, HPF.out] at hlk
          have hlow := hKi.low
          have hrowi := hrow.below hbi
          rw [hLA]
          generalize longAt p pl = la at HST hlk ⊢
          obtain ⟨b, n⟩ := la
          dsimp only at hlk
          by_cases hn : n = 0
          · have hbv : bestV (b, n) = -1 := if_pos hn
            have HST2 := Lib.hid (HST.out.trans (if_neg (by show ¬ 0 < n; omega)))
            rw [hbv]
            clear hn hbv hlk hLA hrow hrowi hK hKi
            go_wp2
            go_ret2
            exact ⟨hlow, by rw [HR.out, HST2.out]; exact rfl⟩
          · obtain ⟨hb1, hb3, hb4⟩ := hlk.resolve_left hn
            have hbv : bestV (b, n) = (b : Int) := if_neg hn
            have hszb : tsize p b = (f.sorts.getD b noTS).text.size := by unfold tsize; rw [HPF.out]
            have HST2 := Lib.hid (show longSet p (k + 1) pl acc = longSet p k (pl + n) (acc ++ [(b : Int)]) from HST.out.trans (if_pos (by show 0 < n; omega)))
            have hsort : SortsAt w a f.sorts := by have h := HP.out.sorts; rw [HPA.out, HPF.out] at h; exact h
            obtain ⟨ad, rfl, had, hsb⟩ := hsort.at_ hb1
            have tb := hsb.2.1
            have hxb := HTS.out b hb1
            generalize (f.sorts.getD b noTS).text = xb at tb hszb hxb
            have hnx : n = xb.size := by rw [hb3, hszb]
            subst hnx
            have hpos : 0 < xb.size := by omega
            have hbl' : (b : Int) < (f.sorts.length : Int) := by omega
            have hb0 : ¬ (b : Int) < 0 := by omega
            have hb0' : decide ((b : Int) < 0) = false := decide_eq_false hb0
            have hbnn : (0 : Int) ≤ (b : Int) := by omega
            rw [hbv]
            obtain ⟨a9, d9, hv9, -, -, -⟩ := hrowi.shape
            subst hv9
            have hzlo := hlow.size
            have hlt0 := heap_lt hKi.box
            clear hn hbv hlk hLA hrow hK hszb hb3 hsb hsort
            go_wp2_with (at_builtin; refine wpList_app1 wr _ rfl _ _ rfl (w.heap.size + 1) _ acc rfl hrowi rfl (by omega) (by omega) ?_; intro g9 c9 w9 hrow9 hgrow9 hb9; have hK9 := hKi.own hb9; have q2 : w9.cell? ⟨w.heap.size, 2, none⟩ = some (.slice (some ad) f.sorts.length c) := hK9.c.2.2; have t9 : w9.cell? ⟨(ad.add (b * 4)).block, (ad.add (b * 4)).off + 1, none⟩ = some (.string xb) := (hK9.low.cell (p := ⟨(ad.add (b * 4)).block, (ad.add (b * 4)).off + 1, none⟩) (by rw [add_block]; exact had)).trans tb)
            go_roundw
            case rel => exact ⟨pl + xb.size, k, acc ++ [(b : Int)], hb4, by omega, by simp; omega, by go_num, Lib.hid (HR.out.trans HST2.out), by simpa using hrow9, hK9⟩
            case measure => simp [intOf]; omega
    · have hlt' : ¬ (pl : Int) < (t.size : Int) := by omega
      obtain ⟨k, rfl⟩ : ∃ k', k = k' + 1 := ⟨k - 1, by omega⟩
      have HST := Lib.hid (show longSet p (k + 1) pl acc = some acc from if_neg (by rw [HPT.out]; exact hlt))
      have hlow := hK.low
      clear hK
      go_wp2
      go_ret2
      exact ⟨hlow, by rw [HR.out, HST.out]; exact ⟨_, rfl, hrow.mono (by omega)⟩⟩
end Go.Proofs.YtlkkociijfdcgaaGreatDoor

/-
  SortsOf: the reference's walk.
-/
namespace Go.Proofs.YtlkkociijfdcgaaGreatDoor
open Go.RowKit Go.Maps Go.Shelf

theorem texted {f : FT} (h : (checkF f).2 = 0) : Texted f := by
  intro k hk hk3
  obtain ⟨_, _, ha⟩ := checkF_right h
  obtain ⟨_, _, h3, _, h5⟩ := sortErr_zero (ha k hk)
  unfold textErr at h5
  split at h5
  · cases h5
  rename_i h6
  have h6 : inB (f.sorts.getD k noTS).text.size (leastOf (f.sorts.getD k noTS).kind) (mostOf (f.sorts.getD k noTS).kind) = true := by simpa using h6
  have h7 := (of_decide_eq_true (show decide _ = true from h6))
  unfold leastOf mostOf at h7
  split at h7
  · omega
  · split at h7
    · omega
    · have h8 := of_decide_eq_true (show decide _ = true from h3)
      omega
theorem bytes_eq4 {a b : ByteArray} (h : a.data.toList = b.data.toList) : a = b := by
  cases a; cases b; congr; exact Array.toList_inj.1 h
/-- The piece that is the word itself, as the reference sets it. -/
def wholeP (f : FT) (a : Option Addr) (c : Nat) (r : RU) (s : ByteArray) (ba : Option Addr) (bc : Nat) : PC := ⟨f, a, c, s, ba, bc, barsOf r s⟩
theorem ext_whole (s : ByteArray) : s.extract 0 s.size = s := by
  apply bytes_eq4
  rw [ext_list, List.drop_zero, Nat.sub_zero, List.take_of_length_le (by rw [Array.length_toList]; exact Nat.le_refl _)]
theorem minus_zero (l : List Int) : minusL l 0 = l := by
  unfold minusL
  simp
theorem wholeP_same (f : FT) (a : Option Addr) (c : Nat) (r : RU) (s : ByteArray) (ba : Option Addr) (bc : Nat) : longP (wholeP f a c r s ba bc) = longP (wordP f none 0 r s 0 s.size) := by
  unfold wholeP wordP
  rw [ext_whole]
  show _ = longP ⟨f, none, 0, s, none, 0, minusL (barsOf r s) ((0 : Nat) : Int)⟩
  rw [show ((0 : Nat) : Int) = 0 from rfl, minus_zero]
  exact longSet_same ..
def wordSet (f : FT) (r : RU) (s : ByteArray) : Option (List Int) := longP (wordP f none 0 r s 0 s.size)
def RSetPost (w : World) (o : Option (List Int)) (e : Ending) (w' : World) : Prop :=
  Below w.heap.size w w' ∧ match o with
  | none => e = .returned (.tuple #[.slice none 0 0, .int .i64 6])
  | some l => ∃ v, e = .returned (.tuple #[v, .int .i64 0]) ∧ IRow w' w.heap.size v l
theorem bars_bounds (r : RU) (s : ByteArray) : (barsOf r s).length ≤ 60 ∧ ∀ x ∈ barsOf r s, -100 ≤ x ∧ x ≤ 100 := by
  obtain ⟨h1, h2⟩ := barsOf_places r s
  exact ⟨h1, fun x hx => by have := h2 x hx; omega⟩
set_option maxRecDepth 100000 in
set_option maxHeartbeats 2000000 in
theorem refSortsOf_any (f : FT) (a : Option Addr) (c : Nat) (r : RU) (s : ByteArray) (w : World) (hF : SortsAt w a f.sorts) (hR : r.at_ w) (hS : RSmall r) (hf : (checkF f).2 = 0) (he : (checkR r).2 = 0) (hs : s.size ≤ 1000) :
    Calls Tryz.prog 44 #[.agg #[.string f.name, .int .i64 f.body, .slice a f.sorts.length c], .agg r.cells, .string s] w (RSetPost w (wordSet f r s)) := by
  have hb0 := ((Below.refl w.heap.size w).alloc (Nat.le_refl _) (.cells #[.string f.name, .int .i64 f.body, .slice a f.sorts.length c] 59)).alloc (by simp) (.cells #[.slice r.ps.a r.ps.l.length r.ps.c, .slice r.es.a r.es.l.length r.es.c, .slice r.bs.a r.bs.l.length r.bs.c, .int .i64 r.left, .int .i64 r.right] 24)
  have n0 := heap_keep (o := .cells #[.slice r.ps.a r.ps.l.length r.ps.c, .slice r.es.a r.es.l.length r.es.c, .slice r.bs.a r.bs.l.length r.bs.c, .int .i64 r.left, .int .i64 r.right] 24) (heap_new w (.cells #[.string f.name, .int .i64 f.body, .slice a f.sorts.length c] 59))
  have n1 := heap_new (w.alloc (.cells #[.string f.name, .int .i64 f.body, .slice a f.sorts.length c] 59)) (.cells #[.slice r.ps.a r.ps.l.length r.ps.c, .slice r.es.a r.es.l.length r.es.c, .slice r.bs.a r.bs.l.length r.bs.c, .int .i64 r.left, .int .i64 r.right] 24)
  rw [World.size_alloc] at n1
  obtain ⟨W0, hW0⟩ : ∃ W0, W0 = (w.alloc (.cells #[.string f.name, .int .i64 f.body, .slice a f.sorts.length c] 59)).alloc (.cells #[.slice r.ps.a r.ps.l.length r.ps.c, .slice r.es.a r.es.l.length r.es.c, .slice r.bs.a r.bs.l.length r.bs.c, .int .i64 r.left, .int .i64 r.right] 24) := ⟨_, rfl⟩
  rw [← hW0] at hb0 n0 n1
  have HBA := Lib.hid (fun W (hb : Below W0.heap.size W0 W) => show Calls Tryz.prog 108 #[.agg r.cells, .string s] W (RHPost W (barsOf r s)) from refBars_any r s W ((hR.below hb0).below hb) hS he)
  have HSE := Lib.hid (fun W (ba : Option Addr) (bc : Nat) (hb : Below W0.heap.size W0 W) (hI : IntsAt W ba (barsOf r s)) => show Calls Tryz.prog 107 #[.agg #[.string f.name, .int .i64 f.body, .slice a f.sorts.length c], .string s, .slice ba (barsOf r s).length bc] W (SetPost W (wordSet f r s)) by
    have h := refSet_any f a c s ba (barsOf r s).length bc (barsOf r s) W ⟨(hF.below hb0).below hb, hI, bars_bounds r s⟩ ⟨hs, (fount_fine hf).2, (fount_fine hf).1⟩ rfl (texted hf)
    rw [show longP ⟨f, a, c, s, ba, bc, barsOf r s⟩ = wordSet f r s from wholeP_same f a c r s ba bc] at h
    exact h)
  have HW0 := Lib.hid hW0
  have hl0 := heap_lt n0
  have hl1 := heap_lt n1
  have c0 := cell_of_row W0 _ 0 _ _ (0, 0) n0
  have c1 := cell_of_row W0 _ 1 _ _ (0, 0) n0
  have c2 := cell_of_row W0 _ 2 _ _ (0, 0) n0
  have d0 := cell_of_row W0 _ 0 _ _ (0, 0) n1
  have d1 := cell_of_row W0 _ 1 _ _ (0, 0) n1
  have d2 := cell_of_row W0 _ 2 _ _ (0, 0) n1
  have d3 := cell_of_row W0 _ 3 _ _ (0, 0) n1
  have d4 := cell_of_row W0 _ 4 _ _ (0, 0) n1
  unfold RU.cells at *
  clear hW0 hF hR hf he n0 n1
  obtain ⟨o, ho⟩ : ∃ o, o = wordSet f r s := ⟨_, rfl⟩
  rw [← ho] at HSE ⊢
  clear ho
  cases o with
  | none =>
    go_enter Tryz.func44, Tryz.ntmps44
    go_wp2_with fail
    rw [← HW0.out]
    go_region_held3 (fun w' => w'.cell? ⟨w.heap.size, 0, none⟩ = some (.string f.name) ∧ w'.cell? ⟨w.heap.size, 1, none⟩ = some (.int .i64 f.body) ∧ w'.cell? ⟨w.heap.size, 2, none⟩ = some (.slice a f.sorts.length c)
        ∧ w'.cell? ⟨w.heap.size + 1, 0, none⟩ = some (.slice r.ps.a r.ps.l.length r.ps.c) ∧ w'.cell? ⟨w.heap.size + 1, 1, none⟩ = some (.slice r.es.a r.es.l.length r.es.c) ∧ w'.cell? ⟨w.heap.size + 1, 2, none⟩ = some (.slice r.bs.a r.bs.l.length r.bs.c) ∧ w'.cell? ⟨w.heap.size + 1, 3, none⟩ = some (.int .i64 r.left) ∧ w'.cell? ⟨w.heap.size + 1, 4, none⟩ = some (.int .i64 r.right)) (go_keep)
      (first
       | (go_at_call 108; refine (HBA.out _ (by first | exact Below.refl _ _ | exact (Below.refl _ _).drew)).mono ?_; rintro e w2 ⟨⟨A, bc, rfl, hI⟩, hb2d⟩; have hb2 : Below W0.heap.size W0 w2 := (Below.refl _ _).drew.trans hb2d; have k0 := (hb2.cell (p := ⟨w.heap.size, 0, none⟩) hl0).trans c0; have k1 := (hb2.cell (p := ⟨w.heap.size, 1, none⟩) hl0).trans c1; have k2 := (hb2.cell (p := ⟨w.heap.size, 2, none⟩) hl0).trans c2; have k3 := (hb2.cell (p := ⟨w.heap.size + 1, 0, none⟩) hl1).trans d0; have k4 := (hb2.cell (p := ⟨w.heap.size + 1, 1, none⟩) hl1).trans d1; have k5 := (hb2.cell (p := ⟨w.heap.size + 1, 2, none⟩) hl1).trans d2; have k6 := (hb2.cell (p := ⟨w.heap.size + 1, 3, none⟩) hl1).trans d3; have k7 := (hb2.cell (p := ⟨w.heap.size + 1, 4, none⟩) hl1).trans d4)
       | (go_at_call 107; refine (HSE.out _ _ _ hb2 hI).mono ?_; intro e w3 hp3; have hp3n := hp3.none; obtain ⟨hb3, rfl⟩ := hp3n; clear hp3; have hb4 : Below W0.heap.size W0 w3 := hb2.trans (hb3.mono hb2.size); have k0 := (hb4.cell (p := ⟨w.heap.size, 0, none⟩) hl0).trans c0; have k1 := (hb4.cell (p := ⟨w.heap.size, 1, none⟩) hl0).trans c1; have k2 := (hb4.cell (p := ⟨w.heap.size, 2, none⟩) hl0).trans c2; have k3 := (hb4.cell (p := ⟨w.heap.size + 1, 0, none⟩) hl1).trans d0; have k4 := (hb4.cell (p := ⟨w.heap.size + 1, 1, none⟩) hl1).trans d1; have k5 := (hb4.cell (p := ⟨w.heap.size + 1, 2, none⟩) hl1).trans d2; have k6 := (hb4.cell (p := ⟨w.heap.size + 1, 3, none⟩) hl1).trans d3; have k7 := (hb4.cell (p := ⟨w.heap.size + 1, 4, none⟩) hl1).trans d4))
    have hlow := hb0.trans (hb4.mono hb0.size)
    go_wp2
    go_ret2
    exact ⟨hlow, rfl⟩
  | some l =>
    go_enter Tryz.func44, Tryz.ntmps44
    go_wp2_with fail
    rw [← HW0.out]
    go_region_held3 (fun w' => w'.cell? ⟨w.heap.size, 0, none⟩ = some (.string f.name) ∧ w'.cell? ⟨w.heap.size, 1, none⟩ = some (.int .i64 f.body) ∧ w'.cell? ⟨w.heap.size, 2, none⟩ = some (.slice a f.sorts.length c)
        ∧ w'.cell? ⟨w.heap.size + 1, 0, none⟩ = some (.slice r.ps.a r.ps.l.length r.ps.c) ∧ w'.cell? ⟨w.heap.size + 1, 1, none⟩ = some (.slice r.es.a r.es.l.length r.es.c) ∧ w'.cell? ⟨w.heap.size + 1, 2, none⟩ = some (.slice r.bs.a r.bs.l.length r.bs.c) ∧ w'.cell? ⟨w.heap.size + 1, 3, none⟩ = some (.int .i64 r.left) ∧ w'.cell? ⟨w.heap.size + 1, 4, none⟩ = some (.int .i64 r.right)) (go_keep)
      (first
       | (go_at_call 108; refine (HBA.out _ (by first | exact Below.refl _ _ | exact (Below.refl _ _).drew)).mono ?_; rintro e w2 ⟨⟨A, bc, rfl, hI⟩, hb2d⟩; have hb2 : Below W0.heap.size W0 w2 := (Below.refl _ _).drew.trans hb2d; have k0 := (hb2.cell (p := ⟨w.heap.size, 0, none⟩) hl0).trans c0; have k1 := (hb2.cell (p := ⟨w.heap.size, 1, none⟩) hl0).trans c1; have k2 := (hb2.cell (p := ⟨w.heap.size, 2, none⟩) hl0).trans c2; have k3 := (hb2.cell (p := ⟨w.heap.size + 1, 0, none⟩) hl1).trans d0; have k4 := (hb2.cell (p := ⟨w.heap.size + 1, 1, none⟩) hl1).trans d1; have k5 := (hb2.cell (p := ⟨w.heap.size + 1, 2, none⟩) hl1).trans d2; have k6 := (hb2.cell (p := ⟨w.heap.size + 1, 3, none⟩) hl1).trans d3; have k7 := (hb2.cell (p := ⟨w.heap.size + 1, 4, none⟩) hl1).trans d4)
       | (go_at_call 107; refine (HSE.out _ _ _ hb2 hI).mono ?_; intro e w3 hp3; have hp3n := hp3.some; obtain ⟨hb3, a3, c3, rfl, hrow3⟩ := hp3n; clear hp3; have hb4 : Below W0.heap.size W0 w3 := hb2.trans (hb3.mono hb2.size); have k0 := (hb4.cell (p := ⟨w.heap.size, 0, none⟩) hl0).trans c0; have k1 := (hb4.cell (p := ⟨w.heap.size, 1, none⟩) hl0).trans c1; have k2 := (hb4.cell (p := ⟨w.heap.size, 2, none⟩) hl0).trans c2; have k3 := (hb4.cell (p := ⟨w.heap.size + 1, 0, none⟩) hl1).trans d0; have k4 := (hb4.cell (p := ⟨w.heap.size + 1, 1, none⟩) hl1).trans d1; have k5 := (hb4.cell (p := ⟨w.heap.size + 1, 2, none⟩) hl1).trans d2; have k6 := (hb4.cell (p := ⟨w.heap.size + 1, 3, none⟩) hl1).trans d3; have k7 := (hb4.cell (p := ⟨w.heap.size + 1, 4, none⟩) hl1).trans d4))
    have hlow := hb0.trans (hb4.mono hb0.size)
    have hz2 := hb2.size
    have hz0 := hb0.size
    go_wp2
    go_ret2
    exact ⟨hlow, ⟨_, rfl, hrow3.mono (by omega)⟩⟩
end Go.Proofs.YtlkkociijfdcgaaGreatDoor
