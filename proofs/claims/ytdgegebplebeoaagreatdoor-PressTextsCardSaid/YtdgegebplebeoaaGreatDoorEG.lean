/-
  Package press: the weights of the numbers of good sheets; ChanceOf.
-/
import Derived.Test.YtdgegebplebeoaaGreatDoorEF
import Derived.Laws.Slices
namespace Go.Proofs.YtdgegebplebeoaaGreatDoor
open Go.RowKit

def WtsPost (N D : Int) (n : Nat) (w : World) (e : Ending) (w' : World) : Prop :=
  ∃ b, e = .returned (.slice (some ⟨b, 0, none⟩) (n + 1) (n + 1)) ∧ IBox w' b (wts N (D - N) n) ∧ w.heap.size ≤ b ∧ Below w.heap.size w w'
theorem wts_zero (N G : Int) : wts N G 0 = [1] := rfl
set_option maxRecDepth 100000 in
set_option maxHeartbeats 4000000 in
theorem weightsOf_any (n : Nat) (N D : Int) (w : World) (hn : n ≤ 17) (h0 : 0 ≤ N) (h1 : N ≤ D) (h2 : 1 ≤ D) (h3 : D ≤ 10) :
    Calls Tryz.prog 39 #[.int .i64 n, .agg #[.int .i64 N, .int .i64 D]] w (WtsPost N D n w) := by
  have hb0 := ((Below.refl w.heap.size w).alloc (Nat.le_refl _) (.cells #[.int .i64 N, .int .i64 D] 46)).alloc (by simp) (.cells #[.int .i64 1] 3)
  have bx0 := (BoxAt.new w #[.int .i64 N, .int .i64 D] 46).alloc (.cells #[.int .i64 1] 3)
  have ib0 : IBox ((w.alloc (.cells #[.int .i64 N, .int .i64 D] 46)).alloc (.cells #[.int .i64 1] 3)) (w.heap.size + 1) (wts N (D - N) 0) := by
    have := IBox.lit (w.alloc (.cells #[.int .i64 N, .int .i64 D] 46)) [1] _ rfl
    rw [World.size_alloc] at this
    exact this
  go_enter Tryz.func39, Tryz.ntmps39
  go_wp2_with fail
  go_loopw [5, 11] (fun v i wr => ∃ (k b : Nat), k ≤ n ∧ i = .int .i64 k ∧ v = .slice (some ⟨b, 0, none⟩) (k + 1) (k + 1) ∧ IBox wr b (wts N (D - N) k) ∧ w.heap.size < b ∧ BoxAt wr w.heap.size #[.int .i64 N, .int .i64 D] 46 ∧ Below w.heap.size w wr) (fun _ i _ => n - (intOf i).toNat)
  case atStart => exact ⟨0, w.heap.size + 1, Nat.zero_le _, rfl, rfl, ib0, by omega, bx0, hb0⟩
  case round =>
    obtain ⟨k, b, hk, rfl, rfl, ib, hbb, bx, hB⟩ := hrel
    clear ib0 bx0 hb0
    by_cases hlt : k < n
    · have hmk : ∀ W, (Instr.makeSlice 49 (.int .i64 ((k : Int) + 1 + 1)) (.int .i64 ((k : Int) + 1 + 1))).run Tryz.prog W = .ok (.slice (some ⟨W.heap.size, 0, none⟩) (k + 1 + 1) (k + 1 + 1)) (W.alloc (.cells (madeCells #[.int .i64 0] (k + 1 + 1)) 3)) := fun W => by
        have h := make_int (k + 1 + 1) (by omega) W
        push_cast at h
        exact h
      have ibb := ib.lt
      have bxb := bx.lt
      have im := IBox.made wr (k + 1 + 1)
      have ib1 := ib.alloc (.cells (madeCells #[.int .i64 0] (k + 1 + 1)) 3)
      have bx1 := bx.alloc (.cells (madeCells #[.int .i64 0] (k + 1 + 1)) 3)
      have hB1 := hB.alloc hB.size (.cells (madeCells #[.int .i64 0] (k + 1 + 1)) 3)
      have hsz := hB.size
      rw [show List.replicate (k + 1 + 1) (0 : Int) = nxt N (D - N) (wts N (D - N) k) 0 by rw [nxt, wts_len]] at im
      go_wp2_with fail
      obtain ⟨w1, hw1⟩ : ∃ w1, w1 = wr.alloc (.cells (madeCells #[.int .i64 0] (k + 1 + 1)) 3) := ⟨_, rfl⟩
      obtain ⟨g, hg⟩ : ∃ g, g = wr.heap.size := ⟨_, rfl⟩
      rw [← hw1, ← hg] at im
      rw [← hw1] at ib1 bx1 hB1
      first | rw [← hw1, ← hg] | trace_state
      have hgb : b < g := by rw [hg]; exact ibb
      have hgw : w.heap.size < g := by rw [hg]; exact bxb
      clear hw1 hg ib bx hB ibb bxb hmk
      have HWL := Lib.hid (wts_len N (D - N) k)
      obtain ⟨W, hW⟩ : ∃ W, W = wts N (D - N) k := ⟨_, rfl⟩
      rw [← hW] at im ib1 HWL
      have HW := Lib.hid hW
      clear hW
      go_loopw [19] (fun v wi => ∃ j : Nat, j ≤ k + 1 ∧ v = .int .i64 j ∧ IBox wi g (nxt N (D - N) W j) ∧ IBox wi b W ∧ BoxAt wi w.heap.size #[.int .i64 N, .int .i64 D] 46 ∧ Below w.heap.size w wi) (fun v _ => k + 1 - (intOf v).toNat)
      case atStart => exact ⟨0, Nat.zero_le _, rfl, im, ib1, bx1, hB1⟩
      case round =>
        obtain ⟨j, hj, rfl, jm, jb, bx, hB⟩ := hrel
        clear im ib1 bx1 hB1
        by_cases hjl : j < k + 1
        · have hjl' : (j : Int) < (k : Int) + 1 := by omega
          have HNL := Lib.hid (nxt_len N (D - N) W j)
          have hb0 := nxt_bd (N := N) (G := D - N) h0 (by omega) (by omega) (by omega) (n := k) (by omega) j j (by omega)
          have hb1 := nxt_bd (N := N) (G := D - N) h0 (by omega) (by omega) (by omega) (n := k) (by omega) j (j + 1) (by omega)
          have hbw := wts_bd (N := N) (G := D - N) h0 (by omega) (by omega) (by omega) (n := k) (by omega) j
          rw [← HW.out] at hb0 hb1 hbw
          have HST := Lib.hid (show nxt N (D - N) W (j + 1) = ((nxt N (D - N) W j).set j ((nxt N (D - N) W j).getD j 0 + W.getD j 0 * N)).set (j + 1) ((nxt N (D - N) W j).getD (j + 1) 0 + W.getD j 0 * (D - N)) by rw [nxt, getD_set_other (by omega)])
          have s0 := jb.cell (k := j) (by rw [HWL.out]; omega)
          have t0 := jm.cell (k := j) (by rw [HNL.out, HWL.out]; omega)
          have t1 := jm.cell (k := j + 1) (by rw [HNL.out, HWL.out]; omega)
          rw [← getD_eqI (d := 0) (by rw [HWL.out]; omega)] at s0
          rw [← getD_eqI (d := 0) (by rw [HNL.out, HWL.out]; omega)] at t0 t1
          obtain ⟨M, hM⟩ : ∃ M, M = nxt N (D - N) W j := ⟨_, rfl⟩
          rw [← hM] at jm t0 t1 hb0 hb1 HST HNL
          obtain ⟨x, hx⟩ : ∃ x, x = W.getD j 0 := ⟨_, rfl⟩
          obtain ⟨m, hm⟩ : ∃ m, m = M.getD j 0 := ⟨_, rfl⟩
          obtain ⟨y, hy⟩ : ∃ y, y = M.getD (j + 1) 0 := ⟨_, rfl⟩
          rw [← hx] at s0 hbw HST
          rw [← hm] at t0 hb0 HST
          rw [← hy] at t1 hb1 HST
          have p1 := mul_bd hbw.1 hbw.2 h0 (show N ≤ 10 by omega)
          have p2 := mul_bd hbw.1 hbw.2 (show 0 ≤ D - N by omega) (show D - N ≤ 10 by omega)
          obtain ⟨P, hP⟩ : ∃ P, P = x * N := ⟨_, rfl⟩
          obtain ⟨G, hG⟩ : ∃ G, G = D - N := ⟨_, rfl⟩
          obtain ⟨R, hR⟩ : ∃ R, R = x * G := ⟨_, rfl⟩
          rw [← hG, ← hR] at p2
          rw [← hP] at p1
          rw [← hP, ← hG, ← hR] at HST
          have v1 : IntKind.i64.wrap (x * N) = P := by rw [← hP]; exact IntWalk.i64_in _ (by omega)
          have v2 : IntKind.i64.wrap (m + P) = m + P := IntWalk.i64_in _ (by omega)
          have v3 : IntKind.i64.wrap (D - N) = G := by rw [← hG]; exact IntWalk.i64_in _ (by omega)
          have v4 : IntKind.i64.wrap (x * G) = R := by rw [← hR]; exact IntWalk.i64_in _ (by omega)
          have v5 : IntKind.i64.wrap (y + R) = y + R := IntWalk.i64_in _ (by omega)
          have v6 : IntKind.i64.wrap ((j : Int) + 1) = (j : Int) + 1 := IntWalk.i64_in _ (by omega)
          have c0 := bx.cell 0; have c1 := bx.cell 1
          simp at c0 c1
          have f0 := jm.free j; have f1 := jm.free (j + 1)
          have hbl := bx.lt; have hml := jm.lt; have hjb := jb.lt
          have hn1 : (j : Int) + 1 < (k : Int) + 1 + 1 := by omega
          have hn2 : ((j : Int) + 1).toNat = j + 1 := by omega
          have HG := Lib.hid hG
          clear hM hx hm hy hP hG hR p1 p2 hb0 hb1 hbw
          go_wp2_with fail
          go_region
          go_wp2_with fail
          go_region
          go_wp2
          go_roundw
          case rel => exact ⟨j + 1, by omega, by go_num, by rw [← HG.out, HST.out]; exact (jm.set j (m + P)).set (j + 1) (y + R), ((jb.set_other (by show b ≠ g; omega) _).set_other (by show b ≠ g; omega) _), ((bx.set_other (by show w.heap.size ≠ g; omega) _).set_other (by show w.heap.size ≠ g; omega) _), ((hB.setCell (p := ⟨g, j, none⟩) (by show w.heap.size ≤ g; omega) _).setCell (p := ⟨g, j + 1, none⟩) (by show w.heap.size ≤ g; omega) _).drew.drew⟩
          case measure => simp [intOf]; omega
        · have hjl' : ¬ (j : Int) < (k : Int) + 1 := by omega
          obtain rfl : j = k + 1 := by omega
          rw [HW.out, nxt_wts] at jm
          go_wp2
          go_roundw
          case rel => exact ⟨k + 1, g, by omega, by go_num, rfl, jm, by omega, bx, hB⟩
          case measure => simp [intOf]; omega
    · obtain rfl : k = n := by omega
      go_wp2
      go_ret
      exact ⟨b, rfl, ib, by omega, hB⟩
end Go.Proofs.YtdgegebplebeoaaGreatDoor
