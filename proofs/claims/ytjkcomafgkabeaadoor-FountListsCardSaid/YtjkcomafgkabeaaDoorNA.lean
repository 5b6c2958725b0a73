/-
  The reference's lists: their need.
-/
import Derived.Test.YtjkcomafgkabeaaDoorN8
namespace Go.Proofs.YtjkcomafgkabeaaDoor
open Go.RowKit Go.Maps

set_option maxRecDepth 100000 in
set_option maxHeartbeats 4000000 in
theorem refNeed_any (f : FT) (a : Option Addr) (c : Nat) (b : Option Addr) (l : List Int) (d : Nat) (w : World) (hF : FAt w a f) (hX : IntsAt w b l) (h0 : listErr f l = 0) :
    Calls Tryd.prog 41 #[.agg #[.string f.name, .int .i64 f.body, .slice a f.sorts.length c], .slice b l.length d] w fun e w' => Below w.heap.size w w' ∧ ∃ g, e = .returned (.slice (some ⟨g, 0, none⟩) f.sorts.length f.sorts.length) ∧ RowX w' g (needOf f.sorts.length l) := by
  have hB0 : Below (w.heap.size + 1) (w.alloc (boxF f a c)) (w.alloc (boxF f a c)) := Below.refl _ _
  have E0 := Env.of hF hB0
  have hX0 := hX.alloc (boxF f a c)
  obtain ⟨h1, hln, hok⟩ := listErr_zero h0
  obtain ⟨_, hR, _⟩ := checkF_right h1
  have hn120 := hR.2.2.2.1
  have HOK := Lib.hid hok
  have hmk := fun W => run_make_row' (P := Tryd.prog) 31 3 (.int .i64 0) 8 Tryd.underlying31 info3 rfl .i64 .i64 f.sorts.length (by omega) (by omega) W
  clear hok hR h1 h0
  have q2 := E0.c2
  have hlt0 := E0.lt
  have hB1 : Below w.heap.size w (w.alloc (boxF f a c)) := (Below.refl _ _).alloc (Nat.le_refl _) _
  go_enter Tryd.func41, Tryd.ntmps41
  obtain ⟨w1, ew1⟩ : ∃ w1, w1 = w.alloc (boxF f a c) := ⟨_, rfl⟩
  have hr0 : RowX (w1.alloc (.cells (madeCells #[.int .i64 0] f.sorts.length) 3)) w1.heap.size (tab f.sorts.length fun _ => 0) := Own.rowX (Own.made w1 f.sorts.length (fun _ => 0) f.sorts.length (Nat.le_refl _) (fun _ _ => rfl))
  have hB2 : Below w.heap.size w w1 := by rw [ew1]; exact hB1
  have hX1 : IntsAt w1 b l := by rw [ew1]; exact hX0
  have hsz : w1.heap.size = w.heap.size + 1 := by rw [ew1]; simp
  rw [hsz] at hr0
  unfold boxF at ew1 q2
  rw [← ew1] at q2
  go_wp2_with fail
  simp only [← ew1]
  go_loopw [6] (fun i wr => ∃ k : Nat, k ≤ l.length ∧ i = .int .i64 k ∧ RowX wr (w.heap.size + 1) ((l.take k).foldl bump (tab f.sorts.length fun _ => 0)) ∧ Below w1.heap.size w1 wr) (fun i _ => l.length - (intOf i).toNat)
  case atStart => exact ⟨0, Nat.zero_le _, rfl, hr0, (Below.refl _ _).alloc (Nat.le_refl _) _⟩
  case round =>
    obtain ⟨k, hk, rfl, hrow, hBe⟩ := hrel
    by_cases hlt : k < l.length
    · obtain ⟨p1, rfl, hp1, hc1⟩ := (hX1.below hBe).at_ hlt
      obtain ⟨x, hx, hxe⟩ := HOK.out k hlt
      rw [hxe] at hc1
      have hc3 := hrow.cell (j := x) (by rw [bumps_len, tab_len]; exact hx)
      have hb := needN_bd f.sorts.length l k x hx
      have hfz := hrow.frozen x
      have hst := bump_step (qs := tab f.sorts.length fun _ => 0) (order := l) (k := k) hlt
      rw [hxe] at hst
      have HST := Lib.hid hst
      clear hst hxe
      generalize hv : ((l.take k).foldl bump (tab f.sorts.length fun _ => 0)).getD x 0 = v at hc3 hb
      have HVV := Lib.hid hv
      clear hv
      have hk4 : (k : Int) ≤ 10000 := by omega
      have hkl : (k : Int) < (l.length : Int) := by omega
      have hxl : (x : Int) < (f.sorts.length : Int) := by omega
      go_wp2_with fail
      go_region
      go_wp2
      go_roundw
      case rel =>
        refine ⟨k + 1, by omega, by go_num, ?_, (below_drewN hBe _).setCell (by simp; omega) _⟩
        rw [HST.out, bump_nat, HVV.out]
        exact (hrow.drewN _).set_ x (v + 1)
      case measure => simp [intOf]; omega
    · have hk2 : k = l.length := by omega
      have hr : RowX wr (w.heap.size + 1) (needOf f.sorts.length l) := by
        unfold needOf; rw [hk2, List.take_length] at hrow; exact hrow
      have hlow : Below w.heap.size w wr := hB2.trans (hBe.mono (B' := w.heap.size) hB2.size)
      go_wp2
      go_ret
      exact ⟨hlow, _, rfl, hr⟩
end Go.Proofs.YtjkcomafgkabeaaDoor
