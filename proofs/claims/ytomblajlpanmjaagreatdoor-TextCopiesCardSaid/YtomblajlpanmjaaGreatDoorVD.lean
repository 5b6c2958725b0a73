/-
  What a sort prints; the sorts that may begin at a place of a piece, as the loop's function yields them.
-/
import Derived.RangeFuncNested
import Derived.RangeFuncBound
import Derived.RangeFuncCalls
import Derived.RangeFuncLeaves
import Derived.Shelf.Abstract
import Derived.Shelf.RegionOpen
import Derived.OwnWalkIn
import Derived.TacticsInMore
import Derived.LoopNIn
import Derived.LoopIn
import Derived.StillTailTactics
import Derived.Test.YtomblajlpanmjaaGreatDoorVC
namespace Go.Proofs.YtomblajlpanmjaaGreatDoor
open Go.RowKit Go.Maps Go.Shelf
attribute [local go_sem] Oper.semAt_some

def pcBox (p : PC) : Obj := .cells p.cells 175
theorem hasPre_eq {s p : ByteArray} {w : World} {v : Bool} (h : preB s p = v) : Calls Tryz.prog 162 #[.string s, .string p] w fun e w' => e = .returned (.bool v) ∧ w' = w := by
  have := hasPrefix_any s p w
  rw [h] at this
  exact this.mono fun e w' ⟨h1, h2⟩ => ⟨h1, h2.symm⟩
theorem printed_any (p : PC) (x : Nat) (w : World) (hp : p.at_ w) (hx : x < p.f.sorts.length) :
    Calls Tryz.prog 131 #[.agg p.cells, .int .i64 x] w fun e w' => e = .returned (.string (p.f.sorts.getD x noTS).text) ∧ w' = w.alloc (pcBox p) := by
  obtain ⟨ad, ha, hal, hy⟩ := (hp.sorts.alloc (pcBox p)).at_ hx
  have hxl : (x : Int) < (p.f.sorts.length : Int) := by omega
  unfold pcBox at *
  unfold PC.cells at *
  rw [ha] at hy ⊢
  have hc1 := hy.2.1
  have ht : ∃ t, t = (p.f.sorts.getD x noTS).text := ⟨_, rfl⟩
  obtain ⟨t, ht⟩ := ht
  rw [← ht] at hc1 ⊢
  clear ht hy ha hp
  go_enter Tryz.func131, Tryz.ntmps131
  go_wp2
  go_ret
  exact ⟨rfl, rfl⟩
def mayB (p : PC) (pl : Nat) (x : TS) : Bool := !(x.kind == 3) && (preB (p.t.extract pl p.t.size) x.text && !(p.bl.any (barredB pl x.text.size)))
abbrev MayIx (p : PC) (pl : Nat) := { i : Nat // i < p.f.sorts.length ∧ mayB p pl (p.f.sorts.getD i noTS) = true }
def mays (p : PC) (pl : Nat) : Nat → List (MayIx p pl)
  | 0 => []
  | k + 1 => mays p pl k ++ (if h : k < p.f.sorts.length ∧ mayB p pl (p.f.sorts.getD k noTS) = true then [⟨k, h⟩] else [])
theorem mays_len (p : PC) (pl : Nat) : ∀ k, (mays p pl k).length ≤ k
  | 0 => Nat.le_refl _
  | k + 1 => by
    have := mays_len p pl k
    unfold mays
    rw [List.length_append]
    split <;> simp <;> omega
theorem mays_hit {p : PC} {pl k : Nat} (h : k < p.f.sorts.length ∧ mayB p pl (p.f.sorts.getD k noTS) = true) : mays p pl (k + 1) = mays p pl k ++ [⟨k, h⟩] := by
  show mays p pl k ++ (if h : k < p.f.sorts.length ∧ mayB p pl (p.f.sorts.getD k noTS) = true then [⟨k, h⟩] else []) = _
  rw [dif_pos h]
theorem mays_miss {p : PC} {pl k : Nat} (h : mayB p pl (p.f.sorts.getD k noTS) = false) : mays p pl (k + 1) = mays p pl k := by
  show mays p pl k ++ (if h : k < p.f.sorts.length ∧ mayB p pl (p.f.sorts.getD k noTS) = true then [⟨k, h⟩] else []) = _
  rw [dif_neg (fun e => by rw [h] at e; cases e.2), List.append_nil]
/-- What a round keeps: what lay below n₀, and two blocks. -/
def Kp2 (n₀ b1 b2 : Nat) (W W' : World) : Prop := Below n₀ W W' ∧ W'.heap[b1]? = W.heap[b1]? ∧ W'.heap[b2]? = W.heap[b2]?
theorem Kp2.refl (n₀ b1 b2 : Nat) (W : World) : Kp2 n₀ b1 b2 W W := ⟨Below.refl _ _, rfl, rfl⟩
theorem Kp2.trans {n₀ b1 b2 : Nat} {A B C : World} (h : Kp2 n₀ b1 b2 A B) (k : Kp2 n₀ b1 b2 B C) : Kp2 n₀ b1 b2 A C := ⟨h.1.trans k.1, k.2.1.trans h.2.1, k.2.2.trans h.2.2⟩
theorem Kp2.of_below {n₀ b1 b2 : Nat} {W W' : World} (hb : Below W.heap.size W W') (h0 : n₀ ≤ W.heap.size) (h1 : b1 < W.heap.size) (h2 : b2 < W.heap.size) : Kp2 n₀ b1 b2 W W' := ⟨hb.mono h0, hb.block _ h1, hb.block _ h2⟩
theorem Kp2.of_drewN (n₀ b1 b2 : Nat) (W : World) (n : Nat) : Kp2 n₀ b1 b2 W (W.drewN n) := ⟨below_drewN (Below.refl _ _) n, rfl, rfl⟩
theorem grown_of_below {W W' : World} (hb : Below W.heap.size W W') : W.grownBy W' none := ⟨hb.os, hb.tape, hb.output, hb.size, fun k hk _ => hb.block k hk⟩
theorem heap_lt {w : World} {b : Nat} {o : Obj} (h : w.heap[b]? = some o) : b < w.heap.size := (Array.getElem?_eq_some_iff.1 h).1
theorem sortsAt_any (p : PC) (pl : Nat) (w : World) :
    Calls Tryz.prog 133 #[.agg p.cells, .int .i64 pl] w fun e w' => e = .returned (.func (.func 161) #[] #[.pointer (some ⟨w.heap.size, 0, none⟩), .pointer (some ⟨w.heap.size + 1, 0, none⟩)]) ∧ w' = (w.alloc (pcBox p)).alloc (.cells #[.int .i64 pl] 3) := by
  unfold pcBox PC.cells
  go_enter Tryz.func133, Tryz.ntmps133
  go_wp2
  go_ret
  exact ⟨rfl, rfl⟩

set_option maxRecDepth 100000 in
set_option maxHeartbeats 400000 in
theorem sortsAt1_any (p : PC) (pl n₀ b1 b2 l : Nat) (n : Nat) (J Jx : List (MayIx p pl) → World → Prop) (w0 W : World) (hp : p.at_ w0) (h0 : w0.heap.size = n₀) (hbW : Below n₀ w0 W) (hn : n₀ ≤ W.heap.size)
    (hb1 : W.heap[b1]? = some (.cells p.cells 175 (0, 0))) (hb2 : W.heap[b2]? = some (.cells #[.int .i64 pl] 3 (0, 0))) (hpl : pl ≤ p.t.size) (hpt : p.t.size ≤ 1000) (hts : ∀ i, i < p.f.sorts.length → (p.f.sorts.getD i noTS).text.size ≤ 1000) (hns : p.f.sorts.length ≤ 1000)
    (hJ : AbidesFrom W.heap.size J)
    (hY : ∀ pre x W1, J pre W1 → pre.length < p.f.sorts.length → YieldAt Fence.wide (n - 1) Tryz.prog l #[.int .i64 ((x : MayIx p pl).1 : Int)] W1 fun e W' =>
      (e = .returned (.bool true) ∧ J (pre ++ [x]) W' ∧ Kp2 n₀ b1 b2 W1 W') ∨ (e = .returned (.bool false) ∧ Jx (pre ++ [x]) W'))
    (hj0 : J [] W) :
    CallsIn Fence.wide n Tryz.prog 161 #[.func (.yield l) #[] #[], .pointer (some ⟨b1, 0, none⟩), .pointer (some ⟨b2, 0, none⟩)] W fun e W' => (∃ v, e = .returned v) ∧
      ((∃ ys, ys = mays p pl p.f.sorts.length ∧ J ys W') ∨ (∃ pre, (∃ k, k ≤ p.f.sorts.length ∧ pre = mays p pl k) ∧ Jx pre W')) := by
  have hB1 := heap_lt hb1
  have hB2 := heap_lt hb2
  have HP := Lib.hid (fun wr (h : Kp2 n₀ b1 b2 W wr) => hp.below (w' := wr) (by rw [h0]; exact hbW.trans h.1))
  have HB1 := Lib.hid hb1; have HB2 := Lib.hid hb2
  have HTS := Lib.hid hts
  have HJ := Lib.hid hJ
  have HY := Lib.hid hY
  have k12 : W.cell? ⟨b1, 2, none⟩ = some (.slice p.a p.f.sorts.length p.c) := by rw [cell_of_row W b1 2 _ _ (0, 0) hb1]; rfl
  clear hts hJ hY hb1 hb2 hp h0
  refine callsIn_of_wp Tryz.func161 rfl trivial ?_ rfl
  simp only [Tryz.ntmps161, List.size_toArray, List.length_cons, List.length_nil, Nat.reduceAdd, Nat.reduceSub, Array.replicate_succ, Array.replicate_zero, List.push_toArray, List.append_toArray, List.nil_append, List.cons_append]
  gi_wp2
  gi_loopw [10] (fun v10 wr => ∃ k : Nat, k ≤ p.f.sorts.length ∧ v10 = .int .i64 k ∧ J (mays p pl k) wr ∧ Kp2 n₀ b1 b2 W wr) (fun v10 _ => p.f.sorts.length - (intOf v10).toNat)
  case atStart => exact ⟨0, Nat.zero_le _, rfl, hj0, Kp2.refl _ _ _ _⟩
  case round =>
    obtain ⟨k, hk, rfl, hJs, hK⟩ := hrel
    clear k12 hj0
    have hpr := HP.out wr hK
    have hb1r : wr.heap[b1]? = some (.cells p.cells 175 (0, 0)) := hK.2.1.trans HB1.out
    have hb2r : wr.heap[b2]? = some (.cells #[.int .i64 pl] 3 (0, 0)) := hK.2.2.trans HB2.out
    have hsz := hK.1.size
    by_cases hlt : k < p.f.sorts.length
    · obtain ⟨ad, ha, hal, hy⟩ := hpr.sorts.at_ hlt
      have hkl : (k : Int) < (p.f.sorts.length : Int) := by omega
      have htx := HTS.out k hlt
      obtain ⟨x, hx⟩ : ∃ x, x = p.f.sorts.getD k noTS := ⟨_, rfl⟩
      have hmi : mayB p pl (p.f.sorts.getD k noTS) = mayB p pl x := by rw [hx]
      rw [← hx] at hy htx
      have HX := Lib.hid hx
      have HMI := Lib.hid hmi
      obtain ⟨s0, s1, s2, s3⟩ := hy
      have W2b : (wr.alloc (.cells #[.string x.name, .string x.text, .int .i64 x.kind, .int .i64 x.width] 97)).heap[wr.heap.size]? = some (.cells #[.string x.name, .string x.text, .int .i64 x.kind, .int .i64 x.width] 97 (0, 0)) := heap_alloc_new _ _
      have hbA := (Below.refl wr.heap.size wr).alloc (Nat.le_refl _) (.cells #[.string x.name, .string x.text, .int .i64 x.kind, .int .i64 x.width] 97)
      rw [ha] at *
      clear hx hmi
      have hp2 := hpr.below hbA
      have hJA := HJ.out _ _ _ none hJs (grown_of_below hbA) (fun r e => by cases e)
      have hKA := hK.trans (Kp2.of_below hbA (Nat.le_trans hn hsz) (heap_lt hb1r) (heap_lt hb2r))
      have hb1A := (hbA.block b1 (heap_lt hb1r)).trans hb1r
      have hb2A := (hbA.block b2 (heap_lt hb2r)).trans hb2r
      gi_wp2
      generalize hW2 : wr.alloc (.cells #[.string x.name, .string x.text, .int .i64 x.kind, .int .i64 x.width] 97) = W2 at *
      have c1 := cell_of_row W2 _ 1 _ _ (0, 0) W2b
      have c2 := cell_of_row W2 _ 2 _ _ (0, 0) W2b
      have p0 : W2.cell? ⟨b1, 0, none⟩ = some (.string p.f.name) := by rw [cell_of_row W2 _ 0 _ _ (0, 0) hb1A]; rfl
      have p1 : W2.cell? ⟨b1, 1, none⟩ = some (.int .i64 p.f.body) := by rw [cell_of_row W2 _ 1 _ _ (0, 0) hb1A]; rfl
      have p2 : W2.cell? ⟨b1, 2, none⟩ = some (.slice p.a p.f.sorts.length p.c) := by rw [cell_of_row W2 _ 2 _ _ (0, 0) hb1A]; rfl
      have p3 : W2.cell? ⟨b1, 3, none⟩ = some (.string p.t) := by rw [cell_of_row W2 _ 3 _ _ (0, 0) hb1A]; rfl
      have p4 : W2.cell? ⟨b1, 4, none⟩ = some (.slice p.ba p.bl.length p.bc) := by rw [cell_of_row W2 _ 4 _ _ (0, 0) hb1A]; rfl
      have q0 : W2.cell? ⟨b2, 0, none⟩ = some (.int .i64 pl) := by rw [cell_of_row W2 _ 0 _ _ (0, 0) hb2A]; rfl
      have hpl2 : (pl : Int) ≤ (p.t.size : Int) := by omega
      have hz2 : wr.heap.size < W2.heap.size := by rw [← hW2]; simp
      clear s0 s1 s2 s3 hbA
      by_cases h3 : x.kind = 3
      · have hmB := Lib.hid (mays_miss (show mayB p pl (p.f.sorts.getD k noTS) = false by rw [HMI.out]; unfold mayB; rw [h3]; rfl))
        have e3 : (x.kind == 3) = true := by simpa using h3
        clear h3
        refine wpIn_wide.2 ?_
        go_quiet (fail)
        gi_wp2
        go_roundw
        case rel => exact ⟨k + 1, by omega, by go_num, by rw [hmB.out]; exact HJ.out _ _ _ none hJA (grown_of_below (below_drewN (Below.refl _ _) _)) (fun r e => by cases e), hKA.trans (Kp2.of_drewN _ _ _ _ _)⟩
        case measure => simp [intOf]; omega
      · have e3 : (x.kind == 3) = false := by simpa using h3
        clear h3
        cases e4 : preB (p.t.extract pl p.t.size) x.text
        · have hmB := Lib.hid (mays_miss (show mayB p pl (p.f.sorts.getD k noTS) = false by rw [HMI.out]; unfold mayB; rw [e4]; simp))
          have E4 := Lib.hid e4; clear e4
          refine wpIn_wide.2 ?_
          go_quiet ((go_at_call 162; exact Calls.quiet_of_same (hasPre_eq E4.out)))
          gi_wp2
          go_roundw
          case rel => exact ⟨k + 1, by omega, by go_num, by rw [hmB.out]; exact HJ.out _ _ _ none hJA (grown_of_below (below_drewN (Below.refl _ _) _)) (fun r e => by cases e), hKA.trans (Kp2.of_drewN _ _ _ _ _)⟩
          case measure => simp [intOf]; omega
        · refine wpIn_wide.2 ?_
          cases e5 : p.bl.any (barredB pl x.text.size)
          · have hok : mayB p pl x = true := by unfold mayB; rw [e3, e4, e5]; rfl
            obtain ⟨xe, hx1, hx2⟩ : ∃ xe : MayIx p pl, xe.1 = k ∧ mays p pl (k + 1) = mays p pl k ++ [xe] := ⟨⟨k, hlt, HMI.out.trans hok⟩, rfl, mays_hit ⟨hlt, HMI.out.trans hok⟩⟩
            have HX2 := Lib.hid hx2
            have HX1 := Lib.hid hx1
            clear hx2 hx1
            have E4 := Lib.hid e4; have E5 := Lib.hid e5; clear e4 e5 hok
            have hq4 : ∀ W : World, Calls Tryz.prog 162 #[.string (p.t.extract pl p.t.size), .string x.text] W fun e w' => e = .returned (.bool true) ∧ w' = W := fun W => hasPre_eq E4.out
            go_still_tail 18, (by kernel_rfl)
            still_call (hq4 _)
            repeat still_step
            refine wpStill_nil ?_
            change wpList _ _ _ _ _ W2.drew
            have hp3 := hp2.below (Below.refl W2.heap.size W2).drew
            generalize hW3 : W2.drew = W3 at hp3 ⊢
            go_wp2_with (go_at_call 163; refine (isBarred_any p pl x.text _ hp3 (by omega) htx).mono ?_; rintro e w5 ⟨rfl, hb5⟩; rw [E5.out])
            have hbB : Below W2.heap.size W2 w5 := (Below.refl W2.heap.size W2).drew.trans (by rw [hW3]; exact hb5.mono (by rw [← hW3]; exact Nat.le_refl _))
            have hJB := HJ.out _ _ _ none hJA (grown_of_below hbB) (fun r e => by cases e)
            obtain ⟨fn, tmps, assign, body, hy, hR⟩ := HY.out _ xe w5 hJB (by have := mays_len p pl k; omega)
            rw [HX1.out] at hy
            have hKB := hKA.trans (Kp2.of_below hbB (by omega) (heap_lt hb1A) (heap_lt hb2A))
            gi_wp2
            refine ⟨fun h => (by simp [Fence.wide] at h), hR.mono ?_⟩
            rintro e W3 (⟨rfl, hJ3, hk3⟩ | ⟨rfl, hJx3⟩)
            · gi_wp2
              go_roundw
              case rel => exact ⟨k + 1, by omega, by go_num, by rw [HX2.out]; exact hJ3, hKB.trans hk3⟩
              case measure => simp [intOf]; omega
            · gi_wp2
              refine bodyPost_ret (results_none rfl _ _ _) rfl ?_
              exact ⟨⟨_, rfl⟩, .inr ⟨_, ⟨k + 1, by omega, HX2.out.symm⟩, hJx3⟩⟩
          · have hmB := Lib.hid (mays_miss (show mayB p pl (p.f.sorts.getD k noTS) = false by rw [HMI.out]; unfold mayB; rw [e5]; simp))
            have E4 := Lib.hid e4; have E5 := Lib.hid e5; clear e4 e5
            have hq4 : ∀ W : World, Calls Tryz.prog 162 #[.string (p.t.extract pl p.t.size), .string x.text] W fun e w' => e = .returned (.bool true) ∧ w' = W := fun W => hasPre_eq E4.out
            go_still_tail 18, (by kernel_rfl)
            still_call (hq4 _)
            repeat still_step
            refine wpStill_nil ?_
            change wpList _ _ _ _ _ W2.drew
            have hp3 := hp2.below (Below.refl W2.heap.size W2).drew
            generalize hW3 : W2.drew = W3 at hp3 ⊢
            go_wp2_with (go_at_call 163; refine (isBarred_any p pl x.text _ hp3 (by omega) htx).mono ?_; rintro e w5 ⟨rfl, hb5⟩; rw [E5.out])
            have hbB : Below W2.heap.size W2 w5 := (Below.refl W2.heap.size W2).drew.trans (by rw [hW3]; exact hb5.mono (by rw [← hW3]; exact Nat.le_refl _))
            gi_wp2
            go_roundw
            case rel => exact ⟨k + 1, by omega, by go_num, by rw [hmB.out]; exact HJ.out _ _ _ none hJA (grown_of_below hbB) (fun r e => by cases e), hKA.trans (Kp2.of_below hbB (by omega) (heap_lt hb1A) (heap_lt hb2A))⟩
            case measure => simp [intOf]; omega
    · obtain rfl : k = p.f.sorts.length := by omega
      gi_wp2
      go_end0
      exact ⟨⟨_, rfl⟩, .inl ⟨_, rfl, hJs⟩⟩
/-- The loop's function over the sorts that may begin at a place. -/
theorem sortsAt_stops (p : PC) (pl n₀ b1 b2 n : Nat) (w0 w : World) (hp : p.at_ w0) (h0 : w0.heap.size = n₀) (hbw : Below n₀ w0 w) (hn : n₀ ≤ w.heap.size)
    (hb1 : w.heap[b1]? = some (.cells p.cells 175 (0, 0))) (hb2 : w.heap[b2]? = some (.cells #[.int .i64 pl] 3 (0, 0))) (hpl : pl ≤ p.t.size) (hpt : p.t.size ≤ 1000) (hts : ∀ i, i < p.f.sorts.length → (p.f.sorts.getD i noTS).text.size ≤ 1000) (hns : p.f.sorts.length ≤ 1000) :
    SeqStopsK Fence.wide n Tryz.prog 161 #[.pointer (some ⟨b1, 0, none⟩), .pointer (some ⟨b2, 0, none⟩)] (fun x : MayIx p pl => #[.int .i64 (x.1 : Int)]) (Kp2 n₀ b1 b2) (fun ys => ys = mays p pl p.f.sorts.length) (fun pre => ∃ k, k ≤ p.f.sorts.length ∧ pre = mays p pl k) p.f.sorts.length w :=
  fun l J Jx W hW hJ _ hY hj0 =>
    sortsAt1_any p pl n₀ b1 b2 l n J Jx w0 W hp h0 (hbw.trans (hW.mono hn)) (Nat.le_trans hn hW.size) ((hW.block _ (heap_lt hb1)).trans hb1) ((hW.block _ (heap_lt hb2)).trans hb2) hpl hpt hts hns hJ hY hj0
end Go.Proofs.YtomblajlpanmjaaGreatDoor
