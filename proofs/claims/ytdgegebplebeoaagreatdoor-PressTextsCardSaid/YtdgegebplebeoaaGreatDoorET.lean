/-
  Package press: slices.Backward over a schedule, as the loop's function yields it.
-/
import Derived.RangeFuncNested
import Derived.RangeFuncBound
import Derived.RangeFuncCalls
import Derived.RangeFuncLeaves
import Derived.Shelf.Abstract
import Derived.Shelf.RegionOpen
import Derived.OwnWalkIn
import Derived.TacticsInMore
import Derived.LoopNIn
import Derived.LoopIn
import Derived.Test.YtdgegebplebeoaaGreatDoorES
namespace Go.Proofs.YtdgegebplebeoaaGreatDoor
open Go.RowKit Go.Maps Go.Shelf
attribute [local go_sem] Oper.semAt_some

abbrev BIx (n : Nat) := { i : Nat // i < n }
def backs (n : Nat) : Nat → List (BIx n)
  | 0 => []
  | k + 1 => backs n k ++ (if h : n - (k + 1) < n then [⟨n - (k + 1), h⟩] else [])
theorem backs_len (n : Nat) : ∀ k, (backs n k).length ≤ k
  | 0 => Nat.le_refl _
  | k + 1 => by
    have := backs_len n k
    unfold backs
    rw [List.length_append]
    split <;> simp <;> omega
theorem backs_hit {n k : Nat} (h : k < n) : backs n (k + 1) = backs n k ++ [⟨n - (k + 1), by omega⟩] := by
  show backs n k ++ (if h : n - (k + 1) < n then [⟨n - (k + 1), h⟩] else []) = _
  rw [dif_pos (show n - (k + 1) < n by omega)]
def Kp1 (n₀ b : Nat) (W W' : World) : Prop := Below n₀ W W' ∧ W'.heap[b]? = W.heap[b]?
theorem Kp1.refl (n₀ b : Nat) (W : World) : Kp1 n₀ b W W := ⟨Below.refl _ _, rfl⟩
theorem Kp1.trans {n₀ b : Nat} {A B C : World} (h : Kp1 n₀ b A B) (k : Kp1 n₀ b B C) : Kp1 n₀ b A C := ⟨h.1.trans k.1, k.2.trans h.2⟩
theorem heap_lt {w : World} {b : Nat} {o : Obj} (h : w.heap[b]? = some o) : b < w.heap.size := (Array.getElem?_eq_some_iff.1 h).1
theorem grown_of_below {W W' : World} (hb : Below W.heap.size W W') : W.grownBy W' none := ⟨hb.os, hb.tape, hb.output, hb.size, fun k hk _ => hb.block k hk⟩
def slArgs (S : List Sl) (x : BIx S.length) : Array Value := #[.int .i64 (x.1 : Int), .agg #[.int .i64 (S.getD x.1 noSl).job, .int .i64 (S.getD x.1 noSl).from_, .int .i64 (S.getD x.1 noSl).mins]]
theorem backward_any (sa : Option Addr) (sn sc : Nat) (w : World) :
    Calls Tryz.prog 78 #[.slice sa sn sc] w fun e w' => e = .returned (.func (.func 97) #[] #[.pointer (some ⟨w.heap.size, 0, none⟩)]) ∧ w' = w.alloc (.cells #[.slice sa sn sc] 57) := by
  go_enter Tryz.func78, Tryz.ntmps78
  go_wp2
  go_ret
  exact ⟨rfl, rfl⟩
set_option maxRecDepth 100000 in
set_option maxHeartbeats 1000000 in
theorem back1_any (S : List Sl) (sa : Option Addr) (sc n₀ b l n : Nat) (J Jx : List (BIx S.length) → World → Prop) (w0 W : World) (hs : RowsAt 3 Sl.l w0 sa S) (h0 : w0.heap.size = n₀) (hbW : Below n₀ w0 W)
    (hb : W.heap[b]? = some (.cells #[.slice sa S.length sc] 57 (0, 0))) (hsl : S.length ≤ 400000)
    (hJ : AbidesFrom W.heap.size J)
    (hY : ∀ pre x W1, J pre W1 → pre.length < S.length → YieldAt Fence.wide (n - 1) Tryz.prog l (slArgs S x) W1 fun e W' =>
      (e = .returned (.bool true) ∧ J (pre ++ [x]) W' ∧ Kp1 n₀ b W1 W') ∨ (e = .returned (.bool false) ∧ Jx (pre ++ [x]) W'))
    (hj0 : J [] W) :
    CallsIn Fence.wide n Tryz.prog 97 #[.func (.yield l) #[] #[], .pointer (some ⟨b, 0, none⟩)] W fun e W' => (∃ v, e = .returned v) ∧
      ((∃ ys, ys = backs S.length S.length ∧ J ys W') ∨ (∃ pre, (∃ k, k ≤ S.length ∧ pre = backs S.length k) ∧ Jx pre W')) := by
  have hB := heap_lt hb
  have HSR := Lib.hid (fun wr (h : Kp1 n₀ b W wr) => hs.below (w' := wr) (by rw [h0]; exact hbW.trans h.1))
  have HB := Lib.hid hb
  have HJ := Lib.hid hJ
  have HY := Lib.hid hY
  have k0 : W.cell? ⟨b, 0, none⟩ = some (.slice sa S.length sc) := by rw [cell_of_row W b 0 _ _ (0, 0) hb]; rfl
  clear hJ hY hb hs h0
  refine callsIn_of_wp Tryz.func97 rfl trivial ?_ rfl
  simp only [Tryz.ntmps97, List.size_toArray, List.length_cons, List.length_nil, Nat.reduceAdd, Nat.reduceSub, Array.replicate_succ, Array.replicate_zero, List.push_toArray, List.append_toArray, List.nil_append, List.cons_append]
  gi_wp2
  gi_loopw [3] (fun v3 wr => ∃ k : Nat, k ≤ S.length ∧ v3 = .int .i64 ((S.length : Int) - 1 - k) ∧ J (backs S.length k) wr ∧ Kp1 n₀ b W wr) (fun v3 _ => (intOf v3 + 1).toNat)
  case atStart => exact ⟨0, Nat.zero_le _, by go_num, hj0, Kp1.refl _ _ _⟩
  case round =>
    obtain ⟨k, hk, rfl, hJs, hK⟩ := hrel
    clear k0 hj0
    have hsr := HSR.out wr hK
    have hbr : wr.heap[b]? = some (.cells #[.slice sa S.length sc] 57 (0, 0)) := hK.2.trans HB.out
    have k0 : wr.cell? ⟨b, 0, none⟩ = some (.slice sa S.length sc) := by rw [cell_of_row wr b 0 _ _ (0, 0) hbr]; rfl
    have hbl := heap_lt hbr
    by_cases hlt : k < S.length
    · obtain ⟨i, hi⟩ : ∃ i, i = S.length - (k + 1) := ⟨_, rfl⟩
      have hil : i < S.length := by omega
      have hii : (S.length : Int) - 1 - k = i := by omega
      obtain ⟨ad, rfl, had, s0, s1, s2⟩ := hsr.sl3 hil
      rw [← sl_getD hil] at s0 s1 s2
      have HX2 : Hid (backs S.length (k + 1) = backs S.length k ++ [⟨i, hil⟩]) := Lib.hid (by rw [backs_hit hlt]; subst hi; rfl)
      obtain ⟨fn, tmps, assign, body, hy, hR⟩ := HY.out _ ⟨i, hil⟩ wr hJs (by have := backs_len S.length k; omega)
      unfold slArgs at hy
      dsimp only at hy
      obtain ⟨x, hx⟩ : ∃ x, x = S.getD i noSl := ⟨_, rfl⟩
      rw [← hx] at s0 s1 s2 hy
      rw [hii]
      clear hx
      have HI := Lib.hid hi
      have hnx : (i : Int) - 1 = (S.length : Int) - 1 - ((k + 1 : Nat) : Int) := by omega
      have HNX := Lib.hid hnx
      clear hi hii hnx
      gi_wp2
      refine ⟨fun h => (by simp [Fence.wide] at h), hR.mono ?_⟩
      rintro e W3 (⟨rfl, hJ3, hk3⟩ | ⟨rfl, hJx3⟩)
      · gi_wp2
        go_roundw
        case rel => exact ⟨k + 1, by omega, by rw [← HNX.out], by rw [HX2.out]; exact hJ3, hK.trans hk3⟩
        case measure => simp [intOf]
      · gi_wp2
        refine bodyPost_ret (results_none rfl _ _ _) rfl ?_
        exact ⟨⟨_, rfl⟩, .inr ⟨_, ⟨k + 1, by omega, HX2.out.symm⟩, hJx3⟩⟩
    · obtain rfl : k = S.length := by omega
      have hneg : decide ((0 : Int) ≤ (S.length : Int) - 1 - (S.length : Int)) = false := decide_eq_false (by omega)
      gi_wp2
      go_end0
      exact ⟨⟨_, rfl⟩, .inl ⟨_, rfl, hJs⟩⟩
/-- The loop's function over a schedule, from its end. -/
theorem back_stops (S : List Sl) (sa : Option Addr) (sc n₀ b n : Nat) (w0 w : World) (hs : RowsAt 3 Sl.l w0 sa S) (h0 : w0.heap.size = n₀) (hbw : Below n₀ w0 w) (hn : n₀ ≤ w.heap.size)
    (hb : w.heap[b]? = some (.cells #[.slice sa S.length sc] 57 (0, 0))) (hsl : S.length ≤ 400000) :
    SeqStopsK Fence.wide n Tryz.prog 97 #[.pointer (some ⟨b, 0, none⟩)] (slArgs S) (Kp1 n₀ b) (fun ys => ys = backs S.length S.length) (fun pre => ∃ k, k ≤ S.length ∧ pre = backs S.length k) S.length w :=
  fun l J Jx W hW hJ _ hY hj0 =>
    back1_any S sa sc n₀ b l n J Jx w0 W hs h0 (hbw.trans (hW.mono hn)) ((hW.block _ (heap_lt hb)).trans hb) hsl hJ hY hj0
end Go.Proofs.YtdgegebplebeoaaGreatDoor
