/-
  strings.Lines: its iterator, as a contract for a range over it.
-/
import Derived.Test.YtnpehnfcccdcbaaGreatDoorEX
import Derived.Test.YtnpehnfcccdcbaaGreatDoorCY
import Derived.Test.YtnpehnfcccdcbaaGreatDoorCZ
import Derived.Lib.IndexLaws
import Derived.RegionTactic
namespace Go.Proofs.YtnpehnfcccdcbaaGreatDoor
open Go.RowKit Go.Shelf
attribute [local go_sem] Oper.semAt_some

/-- The lines of some words between line feeds. -/
def linesP : List (List UInt8) → List (List UInt8)
  | [] => []
  | [x] => if x = [] then [] else [x]
  | x :: y :: r => (x ++ [10]) :: linesP (y :: r)
def linesL (t : List UInt8) : List (List UInt8) := linesP (splitOn 10 t)
theorem linesL_nil : linesL [] = [] := rfl
theorem linesL_cut {a b : List UInt8} (h : ∀ c ∈ a, c ≠ 10) : linesL (a ++ 10 :: b) = (a ++ [10]) :: linesL b := by
  unfold linesL
  rw [split_app h]
  cases hb : splitOn 10 b with
  | nil => exact absurd hb (splitOn_ne 10 b)
  | cons y r => rfl
theorem linesL_last {t : List UInt8} (h0 : t ≠ []) (h : ∀ c ∈ t, c ≠ 10) : linesL t = [t] := by
  unfold linesL
  rw [split_clean h]
  show (if t = [] then [] else [t]) = _
  rw [if_neg h0]
theorem idx_none {m : UInt8} {l : List UInt8} (h : Lib.indexByte l m < 0) : ∀ c ∈ l, c ≠ m := by
  have h1 := Lib.indexByte_ge l m
  have h2 := Lib.indexByte_none (l := l) (c := m) (by omega)
  rintro c hc rfl
  obtain ⟨k, hk, e⟩ := List.mem_iff_getElem.1 hc
  exact h2 k (by rw [List.getElem?_eq_getElem hk, e])
theorem idx_some {m : UInt8} {l : List UInt8} {j : Nat} (h : Lib.indexByte l m = j) : j < l.length ∧ (∀ c ∈ l.take j, c ≠ m) ∧ l = l.take j ++ m :: l.drop (j + 1) := by
  obtain ⟨h1, h2⟩ := Lib.indexByte_some h
  obtain ⟨hj, e⟩ := List.getElem?_eq_some_iff.1 h1
  refine ⟨hj, ?_, ?_⟩
  · rintro c hc rfl
    obtain ⟨k, hk, e2⟩ := List.mem_iff_getElem.1 hc
    rw [List.length_take] at hk
    rw [List.getElem_take] at e2
    exact h2 k (by omega) (by rw [List.getElem?_eq_getElem (by omega), e2])
  · have h3 : l.drop j = m :: l.drop (j + 1) := by rw [List.drop_eq_getElem_cons hj, e]
    rw [← h3, List.take_append_drop]
abbrev TxS := { x : ByteArray // x.size ≤ 100000 }
def txs (l : List TxS) : List (List UInt8) := l.map (·.1.data.toList)
theorem txs_app (a b : List TxS) : txs (a ++ b) = txs a ++ txs b := List.map_append
def strAt (b : Nat) (W : World) : Nat := match W.cell? ⟨b, 0, none⟩ with
  | some (.string s) => s.size
  | _ => 0
theorem strAt_box {b : Nat} {W : World} {s : ByteArray} {T : TypeId} (h : BoxAt W b #[.string s] T) : strAt b W = s.size := by
  unfold strAt; rw [h.cell 0]; try rfl
def MvB (b : Nat) (W W' : World) : Prop := ∃ v, W' = W.setCell ⟨b, 0, none⟩ v
theorem grown_drew (W : World) : W.grownBy W.drew none := ⟨rfl, rfl, rfl, Nat.le_refl _, fun _ _ _ => rfl⟩
def KpB (b : Nat) (W W' : World) : Prop := W'.heap[b]? = W.heap[b]?
set_option maxRecDepth 100000 in
set_option maxHeartbeats 1000000 in
theorem lines1_any (s : ByteArray) (b l n : Nat) (J Jx : List TxS → World → Prop) (W : World)
    (hb : BoxAt W b #[.string s] 9) (hs : s.size ≤ 100000) (hJ : AbidesFrom W.heap.size J) (hJm : ∀ q X Y, J q X → MvB b X Y → J q Y)
    (hY : ∀ pre x W1, J pre W1 → pre.length < s.size + 1 → (∃ r, txs (pre ++ [x]) ++ r = linesL s.data.toList) → YieldAt Fence.wide (n - 1) Tryz.prog l #[.string (x : TxS).1] W1 fun e W' =>
      (e = .returned (.bool true) ∧ J (pre ++ [x]) W' ∧ KpB b W1 W') ∨ (e = .returned (.bool false) ∧ Jx (pre ++ [x]) W'))
    (hj0 : J [] W) :
    CallsIn Fence.wide n Tryz.prog 39 #[.func (.yield l) #[] #[], .pointer (some ⟨b, 0, none⟩)] W fun e W' => (∃ v, e = .returned v) ∧
      ((∃ ys, txs ys = linesL s.data.toList ∧ J ys W') ∨ (∃ pre, (∃ r, txs pre ++ r = linesL s.data.toList) ∧ Jx pre W')) := by
  have HJ := Lib.hid hJ; have HM := Lib.hid hJm; have HY := Lib.hid hY
  clear hJ hJm hY
  refine callsIn_of_wp Tryz.func39 rfl trivial ?_ rfl
  simp only [Tryz.ntmps39, List.size_toArray, List.length_cons, List.length_nil, Nat.reduceAdd, Nat.reduceSub, Array.replicate_succ, Array.replicate_zero, List.push_toArray, List.append_toArray, List.nil_append, List.cons_append]
  have hbl := hb.lt
  gi_wp2
  gi_loopw [] (fun wr => ∃ (pre : List TxS) (t : ByteArray), t.size + pre.length ≤ s.size ∧ BoxAt wr b #[.string t] 9 ∧ J pre wr ∧ Hid (linesL s.data.toList = txs pre ++ linesL t.data.toList)) (fun wr => strAt b wr)
  case atStart => exact ⟨[], s, by simp, hb, hj0, Lib.hid rfl⟩
  case round =>
    obtain ⟨pre, t, hle, bx, hj, HL⟩ := hrel
    have c0 := bx.cell 0
    have f0 := bx.free 0
    have hlt := bx.lt
    simp at c0
    by_cases h0 : t.size = 0
    · have ht0 : t.data.toList = [] := List.length_eq_zero_iff.1 (by rw [Array.length_toList]; exact h0)
      have HE := Lib.hid (show txs pre = linesL s.data.toList by rw [HL.out, ht0, linesL_nil, List.append_nil])
      have hI : ¬ (t.size : Int) > 0 := by omega
      clear h0 ht0
      gi_wp2
      go_end0
      exact ⟨⟨_, rfl⟩, .inl ⟨pre, HE.out, hj⟩⟩
    · have hI : (t.size : Int) > 0 := by omega
      have HIX := Lib.hid (fun W => Tryz.strings_IndexByte t 10 W)
      obtain ⟨ix, hix⟩ : ∃ ix, Lib.indexByte t.data.toList 10 = ix := ⟨_, rfl⟩
      have HIX2 : Hid (∀ W, Calls Tryz.prog 40 #[.string t, .int .u8 10] W fun e w' => e = .returned (.int .i64 ix) ∧ w' = W) := Lib.hid (fun W => (HIX.out W).mono fun e w' h => ⟨by rw [h.1, ← hix]; try rfl, h.2⟩)
      clear HIX
      by_cases h1 : ix < 0
      · have HA := Lib.hid (idx_none (l := t.data.toList) (m := 10) (by rw [hix]; exact h1))
        have HLL := Lib.hid (show linesL s.data.toList = txs pre ++ [t.data.toList] by rw [HL.out, linesL_last (fun e => h0 (by show t.data.size = 0; rw [← Array.length_toList, e]; try rfl)) HA.out])
        have h1' : ¬ ix ≥ 0 := by omega
        clear hix
        obtain ⟨x, hx⟩ : ∃ x : TxS, x.1 = t := ⟨⟨t, by omega⟩, rfl⟩
        have hjm := HM.out _ _ _ hj ⟨.string ⟨#[]⟩, rfl⟩
        obtain ⟨fn, tmps, assign, body, hy, hR⟩ := HY.out pre x _ hjm (by omega) ⟨[], by rw [List.append_nil, txs_app, HLL.out, ← hx]; try rfl⟩
        rw [hx] at hy
        have bx2 := bx.set 0 (.string ⟨#[]⟩)
        gi_wp2_with (refine ⟨trivial, fun h => (by simp [Fence.wide] at h), ?_⟩; refine (callsIn_wide.2 (HIX2.out _)).mono ?_; rintro e w' ⟨rfl, rfl⟩)
        refine ⟨fun h => (by simp [Fence.wide] at h), hR.mono ?_⟩
        rintro e W3 (⟨rfl, hJ3, hk3⟩ | ⟨rfl, hJx3⟩)
        · have bx3 : BoxAt W3 b #[.string ⟨#[]⟩] 9 := Eq.trans hk3 bx2
          gi_wp2
          go_roundw
          case rel => exact ⟨pre ++ [x], ⟨#[]⟩, by rw [List.length_append]; show 0 + (pre.length + 1) ≤ s.size; omega, bx3, hJ3, by rw [txs_app]; show Hid (_ = (txs pre ++ [x.1.data.toList]) ++ []); rw [hx, List.append_nil]; exact HLL⟩
          case measure => rw [strAt_box bx3, strAt_box bx]; show 0 < t.size; omega
        · gi_wp2
          refine bodyPost_ret (results_none rfl _ _ _) rfl ?_
          exact ⟨⟨_, rfl⟩, .inr ⟨_, ⟨[], by rw [List.append_nil, txs_app, HLL.out, ← hx]; try rfl⟩, hJx3⟩⟩
      · obtain ⟨j, rfl⟩ : ∃ j : Nat, ix = j := ⟨ix.toNat, by omega⟩
        obtain ⟨hjl, hno, hsplit⟩ := idx_some hix
        rw [Array.length_toList] at hjl
        have hjs : j < t.size := hjl
        obtain ⟨x, hx⟩ : ∃ x : TxS, x.1 = t.extract 0 (j + 1) := ⟨⟨t.extract 0 (j + 1), by have := @ByteArray.size_extract t 0 (j + 1); have h7 := Nat.min_le_right (j + 1) t.size; omega⟩, rfl⟩
        have hxl : x.1.data.toList = t.data.toList.take j ++ [10] := by
          obtain ⟨hj5, e5⟩ := List.getElem?_eq_some_iff.1 (Lib.indexByte_some hix).1
          rw [hx, ext_bytes, List.drop_zero, List.take_succ_eq_append_getElem hj5, e5]
        have HLL := Lib.hid (show linesL s.data.toList = txs (pre ++ [x]) ++ linesL (t.extract (j + 1) t.size).data.toList by
          rw [HL.out, txs_app, ext_bytes, List.take_of_length_le (by rw [Array.length_toList]; exact Nat.le_refl _)]
          conv => lhs; rw [hsplit, linesL_cut hno]
          rw [List.append_assoc]
          show _ = txs pre ++ ([x.1.data.toList] ++ _)
          rw [hxl]; try rfl)
        have hjm := fun W (hh : J pre W) => HM.out _ _ _ hh ⟨.string (t.extract (j + 1) t.size), rfl⟩
        have hj1 : ((j : Nat) : Int) + 1 ≤ (t.size : Int) := by omega
        have hj0' : ¬ ((j : Nat) : Int) < 0 := by omega
        have bx2 := bx.set 0 (.string (t.extract (j + 1) t.size))
        have HXL := Lib.hid hxl
        clear hix hsplit hno hxl
        gi_wp2_with (refine ⟨trivial, fun h => (by simp [Fence.wide] at h), ?_⟩; refine (callsIn_wide.2 (HIX2.out _)).mono ?_; rintro e w' ⟨rfl, rfl⟩)
        refine wpIn_wide.2 ?_
        go_region
        have hjd := HJ.out _ _ _ none (hjm _ hj) (grown_drew _) (fun r e => by cases e)
        obtain ⟨fn, tmps, assign, body, hy, hR⟩ := HY.out pre x _ hjd (by omega) ⟨_, HLL.out.symm⟩
        rw [hx] at hy
        gi_wp2
        refine ⟨fun h => (by simp [Fence.wide] at h), hR.mono ?_⟩
        rintro e W3 (⟨rfl, hJ3, hk3⟩ | ⟨rfl, hJx3⟩)
        · have bx3 : BoxAt W3 b #[.string (t.extract (j + 1) t.size)] 9 := Eq.trans hk3 bx2
          have hz : (t.extract (j + 1) t.size).size + (j + 1) = t.size := by have := @ByteArray.size_extract t (j + 1) t.size; rw [Nat.min_self] at this; omega
          gi_wp2
          go_roundw
          case rel => exact ⟨pre ++ [x], t.extract (j + 1) t.size, by rw [List.length_append]; simp; omega, bx3, hJ3, HLL⟩
          case measure => rw [strAt_box bx3, strAt_box bx]; omega
        · gi_wp2
          refine bodyPost_ret (results_none rfl _ _ _) rfl ?_
          exact ⟨⟨_, rfl⟩, .inr ⟨_, ⟨_, HLL.out.symm⟩, hJx3⟩⟩
theorem lines_any (s : ByteArray) (w : World) :
    Calls Tryz.prog 18 #[.string s] w fun e w' => e = .returned (.func (.func 39) #[] #[.pointer (some ⟨w.heap.size, 0, none⟩)]) ∧ w' = w.alloc (.cells #[.string s] 9) := by
  go_enter Tryz.func18, Tryz.ntmps18
  go_wp2
  go_ret
  exact ⟨rfl, rfl⟩
theorem lines_mv (s : ByteArray) (b n : Nat) (w : World) (hb : BoxAt w b #[.string s] 9) (hs : s.size ≤ 100000) :
    SeqMv Fence.wide n Tryz.prog 39 #[.pointer (some ⟨b, 0, none⟩)] (fun x : TxS => #[.string x.1]) (KpB b) (MvB b) (fun ys => txs ys = linesL s.data.toList) (fun pre => ∃ r, txs pre ++ r = linesL s.data.toList) (s.size + 1) w :=
  fun l J Jx W hW hJ hJm hY hj0 => lines1_any s b l n J Jx W (hb.below hW) hs hJ hJm hY hj0
end Go.Proofs.YtnpehnfcccdcbaaGreatDoor

namespace Go.Proofs.YtnpehnfcccdcbaaGreatDoor
open Go.RowKit Go.Shelf
attribute [local go_sem] Oper.semAt_some

def KpT (b1 b2 b3 : Nat) (W W' : World) : Prop := W'.heap[b1]? = W.heap[b1]? ∧ W'.heap[b2]? = W.heap[b2]? ∧ W'.heap[b3]? = W.heap[b3]?
set_option maxRecDepth 100000 in
set_option maxHeartbeats 1000000 in
theorem splitSeq1_any (s : ByteArray) (m : UInt8) (b1 b2 b3 l n : Nat) (J Jx : List TxS → World → Prop) (W : World)
    (hb1 : BoxAt W b1 #[.string ⟨#[m]⟩] 9) (hb2 : BoxAt W b2 #[.string s] 9) (hb3 : BoxAt W b3 #[.int .i64 0] 3) (h12 : b1 ≠ b2) (h32 : b3 ≠ b2) (hs : s.size ≤ 100000) (hJ : AbidesFrom W.heap.size J) (hJm : ∀ q X Y, J q X → MvB b2 X Y → J q Y)
    (hY : ∀ pre x W1, J pre W1 → pre.length < s.size + 1 → (∃ r, txs (pre ++ [x]) ++ r = splitOn m s.data.toList) → YieldAt Fence.wide (n - 1) Tryz.prog l #[.string (x : TxS).1] W1 fun e W' =>
      (e = .returned (.bool true) ∧ J (pre ++ [x]) W' ∧ KpT b1 b2 b3 W1 W') ∨ (e = .returned (.bool false) ∧ Jx (pre ++ [x]) W'))
    (hj0 : J [] W) :
    CallsIn Fence.wide n Tryz.prog 76 #[.func (.yield l) #[] #[], .pointer (some ⟨b1, 0, none⟩), .pointer (some ⟨b2, 0, none⟩), .pointer (some ⟨b3, 0, none⟩)] W fun e W' => (∃ v, e = .returned v) ∧
      ((∃ ys, txs ys = splitOn m s.data.toList ∧ J ys W') ∨ (∃ pre, (∃ r, txs pre ++ r = splitOn m s.data.toList) ∧ Jx pre W')) := by
  have HJ := Lib.hid hJ; have HM := Lib.hid hJm; have HY := Lib.hid hY
  clear hJ hJm hY
  have hz1 : ((⟨#[m]⟩ : ByteArray).size : Int) = 1 := rfl
  have hz2 : (⟨#[m]⟩ : ByteArray).size = 1 := rfl
  obtain ⟨sep, hsep⟩ : ∃ sep, sep = (⟨#[m]⟩ : ByteArray) := ⟨_, rfl⟩
  rw [← hsep] at hz1 hz2 hb1
  have HSEP := Lib.hid hsep
  clear hsep
  have c1 := hb1.cell 0
  simp at c1
  refine callsIn_of_wp Tryz.func76 rfl trivial ?_ rfl
  simp only [Tryz.ntmps76, List.size_toArray, List.length_cons, List.length_nil, Nat.reduceAdd, Nat.reduceSub, Array.replicate_succ, Array.replicate_zero, List.push_toArray, List.append_toArray, List.nil_append, List.cons_append]
  gi_wp2
  gi_loopw [] (fun wr => ∃ (pre : List TxS) (t : ByteArray), t.size + pre.length ≤ s.size ∧ BoxAt wr b1 #[.string sep] 9 ∧ BoxAt wr b2 #[.string t] 9 ∧ BoxAt wr b3 #[.int .i64 0] 3 ∧ J pre wr ∧ Hid (splitOn m s.data.toList = txs pre ++ splitOn m t.data.toList)) (fun wr => strAt b2 wr)
  case atStart => exact ⟨[], s, by simp, hb1, hb2, hb3, hj0, Lib.hid rfl⟩
  case round =>
    obtain ⟨pre, t, hle, bx1, bx2, bx3, hj, HL⟩ := hrel
    clear c1 hb1 hb2 hb3 hj0
    have c1 := bx1.cell 0
    have c2 := bx2.cell 0
    have c3 := bx3.cell 0
    have f2 := bx2.free 0
    have hlt := bx2.lt
    simp at c1 c2 c3
    have HIX := Lib.hid (fun W => Tryz.strings_Index_one t m W)
    rw [← HSEP.out] at HIX
    obtain ⟨ix, hix⟩ : ∃ ix, Lib.indexByte t.data.toList m = ix := ⟨_, rfl⟩
    rw [hix] at HIX
    by_cases h1 : ix < 0
    · have HA := Lib.hid (idx_none (l := t.data.toList) (m := m) (by rw [hix]; exact h1))
      obtain ⟨x, hx⟩ : ∃ x : TxS, x.1 = t := ⟨⟨t, by omega⟩, rfl⟩
      have HLL := Lib.hid (show splitOn m s.data.toList = txs (pre ++ [x]) by rw [HL.out, split_clean HA.out, txs_app, ← hx]; try rfl)
      obtain ⟨fn, tmps, assign, body, hy, hR⟩ := HY.out pre x _ hj (by omega) ⟨[], by rw [List.append_nil]; exact HLL.out.symm⟩
      rw [hx] at hy
      clear hix
      gi_wp2_with (refine ⟨trivial, fun h => (by simp [Fence.wide] at h), ?_⟩; refine (callsIn_wide.2 (HIX.out _)).mono ?_; rintro e w' ⟨rfl, rfl⟩)
      refine ⟨fun h => (by simp [Fence.wide] at h), hR.mono ?_⟩
      rintro e W3 (⟨rfl, hJ3, hk3⟩ | ⟨rfl, hJx3⟩)
      · gi_wp2
        go_end0
        exact ⟨⟨_, rfl⟩, .inl ⟨_, HLL.out.symm, hJ3⟩⟩
      · gi_wp2
        go_end0
        exact ⟨⟨_, rfl⟩, .inr ⟨_, ⟨[], by rw [List.append_nil]; exact HLL.out.symm⟩, hJx3⟩⟩
    · obtain ⟨j, rfl⟩ : ∃ j : Nat, ix = j := ⟨ix.toNat, by omega⟩
      obtain ⟨hjl, hno, hsplit⟩ := idx_some hix
      rw [Array.length_toList] at hjl
      have hjs : j < t.size := hjl
      obtain ⟨x, hx⟩ : ∃ x : TxS, x.1 = t.extract 0 j := ⟨⟨t.extract 0 j, by have := @ByteArray.size_extract t 0 j; have h7 := Nat.min_le_right j t.size; omega⟩, rfl⟩
      have hxl : x.1.data.toList = t.data.toList.take j := by
        rw [hx, ext_bytes, List.drop_zero]
      have HLL := Lib.hid (show splitOn m s.data.toList = txs (pre ++ [x]) ++ splitOn m (t.extract (j + 1) t.size).data.toList by
        rw [HL.out, txs_app, ext_bytes, List.take_of_length_le (by rw [Array.length_toList]; exact Nat.le_refl _)]
        conv => lhs; rw [hsplit, split_app hno]
        rw [List.append_assoc]
        show _ = txs pre ++ ([x.1.data.toList] ++ _)
        rw [hxl]; try rfl)
      have hj1 : ((j : Nat) : Int) + 1 ≤ (t.size : Int) := by omega
      have hj2 : ((j : Nat) : Int) ≤ (t.size : Int) := by omega
      have hj0' : ¬ ((j : Nat) : Int) < 0 := by omega
      obtain ⟨fn, tmps, assign, body, hy, hR⟩ := HY.out pre x _ hj (by omega) ⟨_, HLL.out.symm⟩
      rw [hx] at hy
      clear hix hsplit hno hxl
      gi_wp2_with (refine ⟨trivial, fun h => (by simp [Fence.wide] at h), ?_⟩; refine (callsIn_wide.2 (HIX.out _)).mono ?_; rintro e w' ⟨rfl, rfl⟩)
      refine ⟨fun h => (by simp [Fence.wide] at h), hR.mono ?_⟩
      rintro e W3 (⟨rfl, hJ3, hk1, hk2, hk3⟩ | ⟨rfl, hJx3⟩)
      · have y1 : BoxAt W3 b1 #[.string sep] 9 := Eq.trans hk1 bx1
        have y2 : BoxAt W3 b2 #[.string t] 9 := Eq.trans hk2 bx2
        have y3 : BoxAt W3 b3 #[.int .i64 0] 3 := Eq.trans hk3 bx3
        have hz : (t.extract (j + 1) t.size).size + (j + 1) = t.size := by have := @ByteArray.size_extract t (j + 1) t.size; rw [Nat.min_self] at this; omega
        have d1 := y1.cell 0
        have d2 := y2.cell 0
        have g2 := y2.free 0
        simp at d1 d2
        have z2 := y2.set 0 (.string (t.extract (j + 1) t.size))
        have hjm := HM.out _ _ _ hJ3 ⟨.string (t.extract (j + 1) t.size), rfl⟩
        gi_wp2
        go_roundw
        case rel => exact ⟨pre ++ [x], t.extract (j + 1) t.size, by rw [List.length_append]; simp; omega, y1.set_other h12 _, z2, y3.set_other h32 _, hjm, HLL⟩
        case measure => rw [strAt_box z2, strAt_box bx2]; omega
      · gi_wp2
        refine bodyPost_ret (results_none rfl _ _ _) rfl ?_
        exact ⟨⟨_, rfl⟩, .inr ⟨_, ⟨_, HLL.out.symm⟩, hJx3⟩⟩
/-- The boxes that SplitSeq makes. -/
def SqW (w : World) (s : ByteArray) (m : UInt8) : World := ((w.alloc (.cells #[.string s] 9)).alloc (.cells #[.string ⟨#[m]⟩] 9)).alloc (.cells #[.int .i64 0] 3)
theorem splitSeq_any (s : ByteArray) (m : UInt8) (w : World) :
    Calls Tryz.prog 43 #[.string s, .string ⟨#[m]⟩] w fun e w' => e = .returned (.func (.func 76) #[] #[.pointer (some ⟨w.heap.size + 1, 0, none⟩), .pointer (some ⟨w.heap.size, 0, none⟩), .pointer (some ⟨w.heap.size + 1 + 1, 0, none⟩)]) ∧ w' = SqW w s m := by
  go_enter Tryz.func43, Tryz.ntmps43
  go_wp2
  go_ret
  exact ⟨rfl, rfl⟩
theorem splitSeq_mv (s : ByteArray) (m : UInt8) (b1 b2 b3 n : Nat) (w : World) (hb1 : BoxAt w b1 #[.string ⟨#[m]⟩] 9) (hb2 : BoxAt w b2 #[.string s] 9) (hb3 : BoxAt w b3 #[.int .i64 0] 3) (h12 : b1 ≠ b2) (h32 : b3 ≠ b2) (hs : s.size ≤ 100000) :
    SeqMv Fence.wide n Tryz.prog 76 #[.pointer (some ⟨b1, 0, none⟩), .pointer (some ⟨b2, 0, none⟩), .pointer (some ⟨b3, 0, none⟩)] (fun x : TxS => #[.string x.1]) (KpT b1 b2 b3) (MvB b2) (fun ys => txs ys = splitOn m s.data.toList) (fun pre => ∃ r, txs pre ++ r = splitOn m s.data.toList) (s.size + 1) w :=
  fun l J Jx W hW hJ hJm hY hj0 => splitSeq1_any s m b1 b2 b3 l n J Jx W (hb1.below hW) (hb2.below hW) (hb3.below hW) h12 h32 hs hJ hJm hY hj0
end Go.Proofs.YtnpehnfcccdcbaaGreatDoor
