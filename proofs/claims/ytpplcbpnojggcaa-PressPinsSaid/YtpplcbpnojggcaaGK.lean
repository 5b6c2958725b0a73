/-
  Package press: pins: the offset of two, both sides.
-/
import Derived.Test.YtpplcbpnojggcaaGJ
import Derived.Deep.CutRange
import Derived.Deep.RegionHeld
namespace Go.Proofs.Ytpplcbpnojggcaa
open Go.RowKit

set_option maxRecDepth 100000 in
set_option maxHeartbeats 4000000 in
theorem refOffset_any (a b : Pin) (w : World) (ha : PinOk a) (hb : PinOk b) :
    Calls Try.prog 41 #[.agg #[.int .i64 a.c0, .int .i64 a.c1, .int .i64 a.r0, .int .i64 a.r1, .int .i64 a.t0, .int .i64 a.t1], .agg #[.int .i64 b.c0, .int .i64 b.c1, .int .i64 b.r0, .int .i64 b.r1, .int .i64 b.t0, .int .i64 b.t1]] w (OffPost a b w) := by
  have HEa := Lib.hid (fun W => numbers_any a W)
  have HEb := Lib.hid (fun W => numbers_any b W)
  obtain ⟨a0, a1, a2, a3, a4, a5⟩ := a
  obtain ⟨b0, b1, b2, b3, b4, b5⟩ := b
  unfold OffPost offP
  unfold PinOk at ha hb
  dsimp only at ha hb HEa HEb ⊢
  obtain ⟨⟨ha0, ha1, ha2⟩, ⟨ha3, ha4, ha5⟩, ⟨ha6, ha7, ha8⟩⟩ := ha
  obtain ⟨⟨hb0, hb1, hb2⟩, ⟨hb3, hb4, hb5⟩, ⟨hb6, hb7, hb8⟩⟩ := hb
  go_enter Try.func41, Try.ntmps41
  go_wp2_with fail
  obtain ⟨W0, hW0⟩ : ∃ W0, W0 = (((w.alloc (.cells #[.int .i64 a0, .int .i64 a1, .int .i64 a2, .int .i64 a3, .int .i64 a4, .int .i64 a5] 70)).alloc (.cells #[.int .i64 b0, .int .i64 b1, .int .i64 b2, .int .i64 b3, .int .i64 b4, .int .i64 b5] 70)).alloc (.cells #[.int .i64 0, .int .i64 0, .int .i64 0, .int .i64 0, .int .i64 0, .int .i64 0] 63)).alloc (.cells #[.int .i64 0, .int .i64 0, .int .i64 0, .int .i64 0, .int .i64 0, .int .i64 0] 63) := ⟨_, rfl⟩
  have bA : BoxAt W0 w.heap.size #[.int .i64 a0, .int .i64 a1, .int .i64 a2, .int .i64 a3, .int .i64 a4, .int .i64 a5] 70 := by rw [hW0]; exact (((BoxAt.new w _ _).alloc _).alloc _).alloc _
  have bB : BoxAt W0 (w.heap.size + 1) #[.int .i64 b0, .int .i64 b1, .int .i64 b2, .int .i64 b3, .int .i64 b4, .int .i64 b5] 70 := by rw [hW0]; have h := BoxAt.new (w.alloc (.cells #[.int .i64 a0, .int .i64 a1, .int .i64 a2, .int .i64 a3, .int .i64 a4, .int .i64 a5] 70)) #[.int .i64 b0, .int .i64 b1, .int .i64 b2, .int .i64 b3, .int .i64 b4, .int .i64 b5] 70; rw [World.size_alloc] at h; exact (h.alloc _).alloc _
  have bC : BoxAt W0 (w.heap.size + 2) #[.int .i64 0, .int .i64 0, .int .i64 0, .int .i64 0, .int .i64 0, .int .i64 0] 63 := by rw [hW0]; have h := BoxAt.new ((w.alloc (.cells #[.int .i64 a0, .int .i64 a1, .int .i64 a2, .int .i64 a3, .int .i64 a4, .int .i64 a5] 70)).alloc (.cells #[.int .i64 b0, .int .i64 b1, .int .i64 b2, .int .i64 b3, .int .i64 b4, .int .i64 b5] 70)) #[.int .i64 0, .int .i64 0, .int .i64 0, .int .i64 0, .int .i64 0, .int .i64 0] 63; rw [World.size_alloc, World.size_alloc] at h; exact h.alloc _
  have bO : BoxAt W0 (w.heap.size + 3) #[.int .i64 0, .int .i64 0, .int .i64 0, .int .i64 0, .int .i64 0, .int .i64 0] 63 := by rw [hW0]; have h := BoxAt.new (((w.alloc (.cells #[.int .i64 a0, .int .i64 a1, .int .i64 a2, .int .i64 a3, .int .i64 a4, .int .i64 a5] 70)).alloc (.cells #[.int .i64 b0, .int .i64 b1, .int .i64 b2, .int .i64 b3, .int .i64 b4, .int .i64 b5] 70)).alloc (.cells #[.int .i64 0, .int .i64 0, .int .i64 0, .int .i64 0, .int .i64 0, .int .i64 0] 63)) #[.int .i64 0, .int .i64 0, .int .i64 0, .int .i64 0, .int .i64 0, .int .i64 0] 63; rw [World.size_alloc, World.size_alloc, World.size_alloc] at h; exact h
  have hW0b : Below w.heap.size w W0 := by rw [hW0]; exact ((((Below.refl _ _).alloc (Nat.le_refl _) _).alloc (by simp) _).alloc (by simp; omega) _).alloc (by simp; omega) _
  rw [← hW0]
  have hlA := bA.lt
  have hlB := bB.lt
  clear hW0
  refine Code.wp_mono (Q := fun e a' w' => match e with
    | .normal => ∃ d e : Nat, a' = { tmps := #[.agg #[.int .i64 a0, .int .i64 a1, .int .i64 a2, .int .i64 a3, .int .i64 a4, .int .i64 a5], .agg #[.int .i64 b0, .int .i64 b1, .int .i64 b2, .int .i64 b3, .int .i64 b4, .int .i64 b5], .pointer (some ⟨w.heap.size, 0, none⟩), .pointer (some ⟨w.heap.size + 1, 0, none⟩), .pointer (some ⟨w.heap.size + 1 + 1, 0, none⟩), .pointer (some ⟨w.heap.size + 1 + 1 + 1, 0, none⟩), .pointer (some ⟨d, 0, none⟩), .pointer (some ⟨e, 0, none⟩), undef, .agg #[.int .i64 a0, .int .i64 a1, .int .i64 a2, .int .i64 a3, .int .i64 a4, .int .i64 a5], .agg #[.int .i64 a0, .int .i64 a1, .int .i64 a2, .int .i64 a3, .int .i64 a4, .int .i64 a5], .agg #[.int .i64 b0, .int .i64 b1, .int .i64 b2, .int .i64 b3, .int .i64 b4, .int .i64 b5], .agg #[.int .i64 b0, .int .i64 b1, .int .i64 b2, .int .i64 b3, .int .i64 b4, .int .i64 b5], undef, undef, undef, undef, undef, undef, undef, undef, undef, undef, undef, undef, undef, undef, undef, undef, undef, undef, undef, undef, undef, undef, undef, undef, undef, undef], defers := [] } ∧ BoxAt w' d #[.int .i64 a0, .int .i64 a1, .int .i64 a2, .int .i64 a3, .int .i64 a4, .int .i64 a5] 63 ∧ BoxAt w' e #[.int .i64 b0, .int .i64 b1, .int .i64 b2, .int .i64 b3, .int .i64 b4, .int .i64 b5] 63 ∧ BoxAt w' (w.heap.size + 2) #[.int .i64 0, .int .i64 0, .int .i64 0, .int .i64 0, .int .i64 0, .int .i64 0] 63 ∧ BoxAt w' (w.heap.size + 3) #[.int .i64 0, .int .i64 0, .int .i64 0, .int .i64 0, .int .i64 0, .int .i64 0] 63 ∧ d ≠ e ∧ W0.heap.size ≤ d ∧ W0.heap.size ≤ e ∧ Below W0.heap.size W0 w'
    | _ => False) ?cont ?reg
  case reg =>
    refine wp_region_held_drew (S := fun Z9 : World => Z9.cell? ⟨w.heap.size, 0, none⟩ = some (.int .i64 a0) ∧ Z9.cell? ⟨w.heap.size, 1, none⟩ = some (.int .i64 a1) ∧ Z9.cell? ⟨w.heap.size, 2, none⟩ = some (.int .i64 a2) ∧ Z9.cell? ⟨w.heap.size, 3, none⟩ = some (.int .i64 a3) ∧ Z9.cell? ⟨w.heap.size, 4, none⟩ = some (.int .i64 a4) ∧ Z9.cell? ⟨w.heap.size, 5, none⟩ = some (.int .i64 a5) ∧ Z9.cell? ⟨w.heap.size + 1, 0, none⟩ = some (.int .i64 b0) ∧ Z9.cell? ⟨w.heap.size + 1, 1, none⟩ = some (.int .i64 b1) ∧ Z9.cell? ⟨w.heap.size + 1, 2, none⟩ = some (.int .i64 b2) ∧ Z9.cell? ⟨w.heap.size + 1, 3, none⟩ = some (.int .i64 b3) ∧ Z9.cell? ⟨w.heap.size + 1, 4, none⟩ = some (.int .i64 b4) ∧ Z9.cell? ⟨w.heap.size + 1, 5, none⟩ = some (.int .i64 b5)) (by kernel_rfl) ⟨bA.cell 0, bA.cell 1, bA.cell 2, bA.cell 3, bA.cell 4, bA.cell 5, bB.cell 0, bB.cell 1, bB.cell 2, bB.cell 3, bB.cell 4, bB.cell 5⟩ (fun hSS => ?_)
    have hZ0 : Below W0.heap.size W0 W0.drew := (Below.refl _ _).drew
    change wpAnyH _ _ _ _ _ _ _ _ (World.drew W0)
    obtain ⟨Z0, hZ09⟩ : ∃ Z0, Z0 = W0.drew := ⟨_, rfl⟩
    rw [← hZ09] at hSS hZ0 ⊢
    clear hZ09
    refine takeL (i := 0) (v := .agg #[.int .i64 a0, .int .i64 a1, .int .i64 a2, .int .i64 a3, .int .i64 a4, .int .i64 a5]) rfl (by kernel_rfl) (by kernel_rfl) (by kernel_rfl) (fun _ _ _ h => h) (Or.inl ⟨by rfl, fun V9 h9 => by dsimp only at h9; go_simp⟩) hSS ?_
    try simp only [Act.put, List.setIfInBounds_toArray, List.set_cons_zero, List.set_cons_succ]
    refine takeL (i := 2) (v := .agg #[.int .i64 b0, .int .i64 b1, .int .i64 b2, .int .i64 b3, .int .i64 b4, .int .i64 b5]) rfl (by kernel_rfl) (by kernel_rfl) (by kernel_rfl) (fun _ _ _ h => h) (Or.inl ⟨by rfl, fun V9 h9 => by dsimp only at h9; go_simp⟩) hSS ?_
    try simp only [Act.put, List.setIfInBounds_toArray, List.set_cons_zero, List.set_cons_succ]
    clear hSS
    refine wpAnyH_ready (rs := [1, 4, 5]) (by kernel_rfl) (by simp) (consL rfl (fun K9 hK9 => ?_) (consL rfl (fun K9 hK9 => ?_) (consL rfl (fun K9 hK9 => ?_) (AllReadyH.nil))))
    · go_simp
      refine (HEa.out _).mono ?_
      rintro e Z1 ⟨rfl, hv9⟩
      have hZ1 := hZ0.trans (hv9.mono hZ0.size)
      clear hv9
      have hA9 := IBoxBelow bA hZ1 hlA
      have hB9 := IBoxBelow bB hZ1 hlB
      have hS9 : (fun Z9 : World => Z9.cell? ⟨w.heap.size, 0, none⟩ = some (.int .i64 a0) ∧ Z9.cell? ⟨w.heap.size, 1, none⟩ = some (.int .i64 a1) ∧ Z9.cell? ⟨w.heap.size, 2, none⟩ = some (.int .i64 a2) ∧ Z9.cell? ⟨w.heap.size, 3, none⟩ = some (.int .i64 a3) ∧ Z9.cell? ⟨w.heap.size, 4, none⟩ = some (.int .i64 a4) ∧ Z9.cell? ⟨w.heap.size, 5, none⟩ = some (.int .i64 a5) ∧ Z9.cell? ⟨w.heap.size + 1, 0, none⟩ = some (.int .i64 b0) ∧ Z9.cell? ⟨w.heap.size + 1, 1, none⟩ = some (.int .i64 b1) ∧ Z9.cell? ⟨w.heap.size + 1, 2, none⟩ = some (.int .i64 b2) ∧ Z9.cell? ⟨w.heap.size + 1, 3, none⟩ = some (.int .i64 b3) ∧ Z9.cell? ⟨w.heap.size + 1, 4, none⟩ = some (.int .i64 b4) ∧ Z9.cell? ⟨w.heap.size + 1, 5, none⟩ = some (.int .i64 b5)) _ := ⟨hA9.cell 0, hA9.cell 1, hA9.cell 2, hA9.cell 3, hA9.cell 4, hA9.cell 5, hB9.cell 0, hB9.cell 1, hB9.cell 2, hB9.cell 3, hB9.cell 4, hB9.cell 5⟩
      refine hK9.out _ _ hS9 (fun _ => ?_)
      clear hK9 K9 hS9 hA9 hB9
      try simp only [Act.put, List.setIfInBounds_toArray, List.set_cons_zero, List.set_cons_succ]
      refine wpAnyH_ready (rs := [3, 4, 5]) (by kernel_rfl) (by simp) (consL rfl (fun K9 hK9 => ?_) (consL rfl (fun K9 hK9 => ?_) (consL rfl (fun K9 hK9 => ?_) (AllReadyH.nil))))
      · go_simp
        refine (HEb.out _).mono ?_
        rintro e Z2 ⟨rfl, hv9⟩
        have hZ2 := hZ1.trans (hv9.mono hZ1.size)
        clear hv9
        have hA9 := IBoxBelow bA hZ2 hlA
        have hB9 := IBoxBelow bB hZ2 hlB
        have hS9 : (fun Z9 : World => Z9.cell? ⟨w.heap.size, 0, none⟩ = some (.int .i64 a0) ∧ Z9.cell? ⟨w.heap.size, 1, none⟩ = some (.int .i64 a1) ∧ Z9.cell? ⟨w.heap.size, 2, none⟩ = some (.int .i64 a2) ∧ Z9.cell? ⟨w.heap.size, 3, none⟩ = some (.int .i64 a3) ∧ Z9.cell? ⟨w.heap.size, 4, none⟩ = some (.int .i64 a4) ∧ Z9.cell? ⟨w.heap.size, 5, none⟩ = some (.int .i64 a5) ∧ Z9.cell? ⟨w.heap.size + 1, 0, none⟩ = some (.int .i64 b0) ∧ Z9.cell? ⟨w.heap.size + 1, 1, none⟩ = some (.int .i64 b1) ∧ Z9.cell? ⟨w.heap.size + 1, 2, none⟩ = some (.int .i64 b2) ∧ Z9.cell? ⟨w.heap.size + 1, 3, none⟩ = some (.int .i64 b3) ∧ Z9.cell? ⟨w.heap.size + 1, 4, none⟩ = some (.int .i64 b4) ∧ Z9.cell? ⟨w.heap.size + 1, 5, none⟩ = some (.int .i64 b5)) _ := ⟨hA9.cell 0, hA9.cell 1, hA9.cell 2, hA9.cell 3, hA9.cell 4, hA9.cell 5, hB9.cell 0, hB9.cell 1, hB9.cell 2, hB9.cell 3, hB9.cell 4, hB9.cell 5⟩
        refine hK9.out _ _ hS9 (fun _ => ?_)
        clear hK9 K9 hS9 hA9 hB9
        try simp only [Act.put, List.setIfInBounds_toArray, List.set_cons_zero, List.set_cons_succ]
        refine wpAnyH_ready (rs := [4, 5]) (by kernel_rfl) (by simp) (consL rfl (fun K9 hK9 => ?_) (consL rfl (fun K9 hK9 => ?_) (AllReadyH.nil)))
        · go_simp
          obtain ⟨Z3, hZ39⟩ : ∃ Z3, Z3 = Z2.alloc (.cells #[.int .i64 0, .int .i64 0, .int .i64 0, .int .i64 0, .int .i64 0, .int .i64 0] 63) := ⟨_, rfl⟩
          have Bd : BoxAt Z3 Z2.heap.size #[.int .i64 0, .int .i64 0, .int .i64 0, .int .i64 0, .int .i64 0, .int .i64 0] 63 := by rw [hZ39]; exact BoxAt.new _ _ _
          have hZ3 : Below W0.heap.size W0 Z3 := by rw [hZ39]; exact hZ2.alloc hZ2.size _
          first | rw [← hZ39] | trace_state
          have ld : W0.heap.size ≤ Z2.heap.size := hZ2.size
          obtain ⟨d, hd9⟩ : ∃ d, d = Z2.heap.size := ⟨_, rfl⟩
          rw [← hd9] at Bd ld ⊢
          clear hd9 hZ39
          have hA9 := IBoxBelow bA hZ3 hlA
          have hB9 := IBoxBelow bB hZ3 hlB
          have hS9 : (fun Z9 : World => Z9.cell? ⟨w.heap.size, 0, none⟩ = some (.int .i64 a0) ∧ Z9.cell? ⟨w.heap.size, 1, none⟩ = some (.int .i64 a1) ∧ Z9.cell? ⟨w.heap.size, 2, none⟩ = some (.int .i64 a2) ∧ Z9.cell? ⟨w.heap.size, 3, none⟩ = some (.int .i64 a3) ∧ Z9.cell? ⟨w.heap.size, 4, none⟩ = some (.int .i64 a4) ∧ Z9.cell? ⟨w.heap.size, 5, none⟩ = some (.int .i64 a5) ∧ Z9.cell? ⟨w.heap.size + 1, 0, none⟩ = some (.int .i64 b0) ∧ Z9.cell? ⟨w.heap.size + 1, 1, none⟩ = some (.int .i64 b1) ∧ Z9.cell? ⟨w.heap.size + 1, 2, none⟩ = some (.int .i64 b2) ∧ Z9.cell? ⟨w.heap.size + 1, 3, none⟩ = some (.int .i64 b3) ∧ Z9.cell? ⟨w.heap.size + 1, 4, none⟩ = some (.int .i64 b4) ∧ Z9.cell? ⟨w.heap.size + 1, 5, none⟩ = some (.int .i64 b5)) _ := ⟨hA9.cell 0, hA9.cell 1, hA9.cell 2, hA9.cell 3, hA9.cell 4, hA9.cell 5, hB9.cell 0, hB9.cell 1, hB9.cell 2, hB9.cell 3, hB9.cell 4, hB9.cell 5⟩
          refine hK9.out _ _ hS9 (fun _ => ?_)
          clear hK9 K9 hS9 hA9 hB9
          try simp only [Act.put, List.setIfInBounds_toArray, List.set_cons_zero, List.set_cons_succ]
          refine wpAnyH_ready (rs := [5]) (by kernel_rfl) (by simp) (consL rfl (fun K9 hK9 => ?_) (AllReadyH.nil))
          go_simp
          obtain ⟨Z4, hZ49⟩ : ∃ Z4, Z4 = Z3.alloc (.cells #[.int .i64 0, .int .i64 0, .int .i64 0, .int .i64 0, .int .i64 0, .int .i64 0] 63) := ⟨_, rfl⟩
          have Be : BoxAt Z4 Z3.heap.size #[.int .i64 0, .int .i64 0, .int .i64 0, .int .i64 0, .int .i64 0, .int .i64 0] 63 := by rw [hZ49]; exact BoxAt.new _ _ _
          have hZ4 : Below W0.heap.size W0 Z4 := by rw [hZ49]; exact hZ3.alloc hZ3.size _
          have nee : d ≠ Z3.heap.size := Nat.ne_of_lt Bd.lt
          have Bd : BoxAt Z4 d #[.int .i64 0, .int .i64 0, .int .i64 0, .int .i64 0, .int .i64 0, .int .i64 0] 63 := by rw [hZ49]; exact Bd.alloc _
          first | rw [← hZ49] | trace_state
          have le : W0.heap.size ≤ Z3.heap.size := hZ3.size
          obtain ⟨e, he9⟩ : ∃ e, e = Z3.heap.size := ⟨_, rfl⟩
          rw [← he9] at Be le nee ⊢
          clear he9 hZ49
          have hA9 := IBoxBelow bA hZ4 hlA
          have hB9 := IBoxBelow bB hZ4 hlB
          have hS9 : (fun Z9 : World => Z9.cell? ⟨w.heap.size, 0, none⟩ = some (.int .i64 a0) ∧ Z9.cell? ⟨w.heap.size, 1, none⟩ = some (.int .i64 a1) ∧ Z9.cell? ⟨w.heap.size, 2, none⟩ = some (.int .i64 a2) ∧ Z9.cell? ⟨w.heap.size, 3, none⟩ = some (.int .i64 a3) ∧ Z9.cell? ⟨w.heap.size, 4, none⟩ = some (.int .i64 a4) ∧ Z9.cell? ⟨w.heap.size, 5, none⟩ = some (.int .i64 a5) ∧ Z9.cell? ⟨w.heap.size + 1, 0, none⟩ = some (.int .i64 b0) ∧ Z9.cell? ⟨w.heap.size + 1, 1, none⟩ = some (.int .i64 b1) ∧ Z9.cell? ⟨w.heap.size + 1, 2, none⟩ = some (.int .i64 b2) ∧ Z9.cell? ⟨w.heap.size + 1, 3, none⟩ = some (.int .i64 b3) ∧ Z9.cell? ⟨w.heap.size + 1, 4, none⟩ = some (.int .i64 b4) ∧ Z9.cell? ⟨w.heap.size + 1, 5, none⟩ = some (.int .i64 b5)) _ := ⟨hA9.cell 0, hA9.cell 1, hA9.cell 2, hA9.cell 3, hA9.cell 4, hA9.cell 5, hB9.cell 0, hB9.cell 1, hB9.cell 2, hB9.cell 3, hB9.cell 4, hB9.cell 5⟩
          refine hK9.out _ _ hS9 (fun _ => ?_)
          clear hK9 K9 hS9 hA9 hB9
          try simp only [Act.put, List.setIfInBounds_toArray, List.set_cons_zero, List.set_cons_succ]
          have nde : d ≠ e := (by first | exact nee | exact fun h => nee h | exact fun h => ned h.symm)
          have q00 : Z4.cell? ⟨d, 0, none⟩ = some (.int .i64 0) := Bd.cell 0
          have q01 : Z4.cell? ⟨d, 1, none⟩ = some (.int .i64 0) := Bd.cell 1
          have q02 : Z4.cell? ⟨d, 2, none⟩ = some (.int .i64 0) := Bd.cell 2
          have q03 : Z4.cell? ⟨d, 3, none⟩ = some (.int .i64 0) := Bd.cell 3
          have q04 : Z4.cell? ⟨d, 4, none⟩ = some (.int .i64 0) := Bd.cell 4
          have q05 : Z4.cell? ⟨d, 5, none⟩ = some (.int .i64 0) := Bd.cell 5
          have z00 : Z4.frozen? ⟨d, 0, none⟩ = false := Bd.free 0
          have z01 : Z4.frozen? ⟨d, 1, none⟩ = false := Bd.free 1
          have z02 : Z4.frozen? ⟨d, 2, none⟩ = false := Bd.free 2
          have z03 : Z4.frozen? ⟨d, 3, none⟩ = false := Bd.free 3
          have z04 : Z4.frozen? ⟨d, 4, none⟩ = false := Bd.free 4
          have z05 : Z4.frozen? ⟨d, 5, none⟩ = false := Bd.free 5
          refine wpAnyH_ready (rs := [6]) (by kernel_rfl) (by simp) (consL rfl (fun K9 hK9 => ?_) AllReadyH.nil)
          go_simp
          obtain ⟨Z5, hZ59⟩ : ∃ Z5, Z5 = ((((((Z4.setCell ⟨d, 0, none⟩ (.int .i64 a0)).setCell ⟨d, 1, none⟩ (.int .i64 a1)).setCell ⟨d, 2, none⟩ (.int .i64 a2)).setCell ⟨d, 3, none⟩ (.int .i64 a3)).setCell ⟨d, 4, none⟩ (.int .i64 a4)).setCell ⟨d, 5, none⟩ (.int .i64 a5)) := ⟨_, rfl⟩
          have Bd1 : BoxAt Z5 d #[.int .i64 a0, .int .i64 a1, .int .i64 a2, .int .i64 a3, .int .i64 a4, .int .i64 a5] 63 := by rw [hZ59]; exact (((((Bd.set 0 _).set 1 _).set 2 _).set 3 _).set 4 _).set 5 _
          have Be1 : BoxAt Z5 e #[.int .i64 0, .int .i64 0, .int .i64 0, .int .i64 0, .int .i64 0, .int .i64 0] 63 := by rw [hZ59]; exact (((((Be.set_other nde.symm _).set_other nde.symm _).set_other nde.symm _).set_other nde.symm _).set_other nde.symm _).set_other nde.symm _
          have hZ5 : Below W0.heap.size W0 Z5 := by rw [hZ59]; exact (((((hZ4.setCell (p := ⟨d, 0, none⟩) ld _).setCell (p := ⟨d, 1, none⟩) ld _).setCell (p := ⟨d, 2, none⟩) ld _).setCell (p := ⟨d, 3, none⟩) ld _).setCell (p := ⟨d, 4, none⟩) ld _).setCell (p := ⟨d, 5, none⟩) ld _
          rw [← hZ59]
          clear hZ59 q00 z00 q01 z01 q02 z02 q03 z03 q04 z04 q05 z05
          have hA9 := IBoxBelow bA hZ5 hlA
          have hB9 := IBoxBelow bB hZ5 hlB
          have hS9 : (fun Z9 : World => Z9.cell? ⟨w.heap.size, 0, none⟩ = some (.int .i64 a0) ∧ Z9.cell? ⟨w.heap.size, 1, none⟩ = some (.int .i64 a1) ∧ Z9.cell? ⟨w.heap.size, 2, none⟩ = some (.int .i64 a2) ∧ Z9.cell? ⟨w.heap.size, 3, none⟩ = some (.int .i64 a3) ∧ Z9.cell? ⟨w.heap.size, 4, none⟩ = some (.int .i64 a4) ∧ Z9.cell? ⟨w.heap.size, 5, none⟩ = some (.int .i64 a5) ∧ Z9.cell? ⟨w.heap.size + 1, 0, none⟩ = some (.int .i64 b0) ∧ Z9.cell? ⟨w.heap.size + 1, 1, none⟩ = some (.int .i64 b1) ∧ Z9.cell? ⟨w.heap.size + 1, 2, none⟩ = some (.int .i64 b2) ∧ Z9.cell? ⟨w.heap.size + 1, 3, none⟩ = some (.int .i64 b3) ∧ Z9.cell? ⟨w.heap.size + 1, 4, none⟩ = some (.int .i64 b4) ∧ Z9.cell? ⟨w.heap.size + 1, 5, none⟩ = some (.int .i64 b5)) _ := ⟨hA9.cell 0, hA9.cell 1, hA9.cell 2, hA9.cell 3, hA9.cell 4, hA9.cell 5, hB9.cell 0, hB9.cell 1, hB9.cell 2, hB9.cell 3, hB9.cell 4, hB9.cell 5⟩
          refine hK9.out _ _ hS9 (fun _ => ?_)
          clear hK9 K9 hS9 hA9 hB9
          try simp only [Act.put, List.setIfInBounds_toArray, List.set_cons_zero, List.set_cons_succ]
          have q00 : Z5.cell? ⟨e, 0, none⟩ = some (.int .i64 0) := Be1.cell 0
          have q01 : Z5.cell? ⟨e, 1, none⟩ = some (.int .i64 0) := Be1.cell 1
          have q02 : Z5.cell? ⟨e, 2, none⟩ = some (.int .i64 0) := Be1.cell 2
          have q03 : Z5.cell? ⟨e, 3, none⟩ = some (.int .i64 0) := Be1.cell 3
          have q04 : Z5.cell? ⟨e, 4, none⟩ = some (.int .i64 0) := Be1.cell 4
          have q05 : Z5.cell? ⟨e, 5, none⟩ = some (.int .i64 0) := Be1.cell 5
          have z00 : Z5.frozen? ⟨e, 0, none⟩ = false := Be1.free 0
          have z01 : Z5.frozen? ⟨e, 1, none⟩ = false := Be1.free 1
          have z02 : Z5.frozen? ⟨e, 2, none⟩ = false := Be1.free 2
          have z03 : Z5.frozen? ⟨e, 3, none⟩ = false := Be1.free 3
          have z04 : Z5.frozen? ⟨e, 4, none⟩ = false := Be1.free 4
          have z05 : Z5.frozen? ⟨e, 5, none⟩ = false := Be1.free 5
          refine wpAnyH_ready (rs := [7]) (by kernel_rfl) (by simp) (consL rfl (fun K9 hK9 => ?_) AllReadyH.nil)
          go_simp
          obtain ⟨Z6, hZ69⟩ : ∃ Z6, Z6 = ((((((Z5.setCell ⟨e, 0, none⟩ (.int .i64 b0)).setCell ⟨e, 1, none⟩ (.int .i64 b1)).setCell ⟨e, 2, none⟩ (.int .i64 b2)).setCell ⟨e, 3, none⟩ (.int .i64 b3)).setCell ⟨e, 4, none⟩ (.int .i64 b4)).setCell ⟨e, 5, none⟩ (.int .i64 b5)) := ⟨_, rfl⟩
          have Bd2 : BoxAt Z6 d #[.int .i64 a0, .int .i64 a1, .int .i64 a2, .int .i64 a3, .int .i64 a4, .int .i64 a5] 63 := by rw [hZ69]; exact (((((Bd1.set_other nde _).set_other nde _).set_other nde _).set_other nde _).set_other nde _).set_other nde _
          have Be2 : BoxAt Z6 e #[.int .i64 b0, .int .i64 b1, .int .i64 b2, .int .i64 b3, .int .i64 b4, .int .i64 b5] 63 := by rw [hZ69]; exact (((((Be1.set 0 _).set 1 _).set 2 _).set 3 _).set 4 _).set 5 _
          have hZ6 : Below W0.heap.size W0 Z6 := by rw [hZ69]; exact (((((hZ5.setCell (p := ⟨e, 0, none⟩) le _).setCell (p := ⟨e, 1, none⟩) le _).setCell (p := ⟨e, 2, none⟩) le _).setCell (p := ⟨e, 3, none⟩) le _).setCell (p := ⟨e, 4, none⟩) le _).setCell (p := ⟨e, 5, none⟩) le _
          rw [← hZ69]
          clear hZ69 q00 z00 q01 z01 q02 z02 q03 z03 q04 z04 q05 z05
          have hA9 := IBoxBelow bA hZ6 hlA
          have hB9 := IBoxBelow bB hZ6 hlB
          have hS9 : (fun Z9 : World => Z9.cell? ⟨w.heap.size, 0, none⟩ = some (.int .i64 a0) ∧ Z9.cell? ⟨w.heap.size, 1, none⟩ = some (.int .i64 a1) ∧ Z9.cell? ⟨w.heap.size, 2, none⟩ = some (.int .i64 a2) ∧ Z9.cell? ⟨w.heap.size, 3, none⟩ = some (.int .i64 a3) ∧ Z9.cell? ⟨w.heap.size, 4, none⟩ = some (.int .i64 a4) ∧ Z9.cell? ⟨w.heap.size, 5, none⟩ = some (.int .i64 a5) ∧ Z9.cell? ⟨w.heap.size + 1, 0, none⟩ = some (.int .i64 b0) ∧ Z9.cell? ⟨w.heap.size + 1, 1, none⟩ = some (.int .i64 b1) ∧ Z9.cell? ⟨w.heap.size + 1, 2, none⟩ = some (.int .i64 b2) ∧ Z9.cell? ⟨w.heap.size + 1, 3, none⟩ = some (.int .i64 b3) ∧ Z9.cell? ⟨w.heap.size + 1, 4, none⟩ = some (.int .i64 b4) ∧ Z9.cell? ⟨w.heap.size + 1, 5, none⟩ = some (.int .i64 b5)) _ := ⟨hA9.cell 0, hA9.cell 1, hA9.cell 2, hA9.cell 3, hA9.cell 4, hA9.cell 5, hB9.cell 0, hB9.cell 1, hB9.cell 2, hB9.cell 3, hB9.cell 4, hB9.cell 5⟩
          refine hK9.out _ _ hS9 (fun _ => ?_)
          clear hK9 K9 hS9 hA9 hB9
          try simp only [Act.put, List.setIfInBounds_toArray, List.set_cons_zero, List.set_cons_succ]
          refine wpAnyH_done (by kernel_rfl) ?_ _
          exact ⟨d, e, rfl, Bd2, Be2, IBoxBelow bC hZ6 bC.lt, IBoxBelow bO hZ6 bO.lt, nde, ld, le, hZ6⟩
        · go_simp
          obtain ⟨Z3, hZ39⟩ : ∃ Z3, Z3 = Z2.alloc (.cells #[.int .i64 0, .int .i64 0, .int .i64 0, .int .i64 0, .int .i64 0, .int .i64 0] 63) := ⟨_, rfl⟩
          have Be : BoxAt Z3 Z2.heap.size #[.int .i64 0, .int .i64 0, .int .i64 0, .int .i64 0, .int .i64 0, .int .i64 0] 63 := by rw [hZ39]; exact BoxAt.new _ _ _
          have hZ3 : Below W0.heap.size W0 Z3 := by rw [hZ39]; exact hZ2.alloc hZ2.size _
          first | rw [← hZ39] | trace_state
          have le : W0.heap.size ≤ Z2.heap.size := hZ2.size
          obtain ⟨e, he9⟩ : ∃ e, e = Z2.heap.size := ⟨_, rfl⟩
          rw [← he9] at Be le ⊢
          clear he9 hZ39
          have hA9 := IBoxBelow bA hZ3 hlA
          have hB9 := IBoxBelow bB hZ3 hlB
          have hS9 : (fun Z9 : World => Z9.cell? ⟨w.heap.size, 0, none⟩ = some (.int .i64 a0) ∧ Z9.cell? ⟨w.heap.size, 1, none⟩ = some (.int .i64 a1) ∧ Z9.cell? ⟨w.heap.size, 2, none⟩ = some (.int .i64 a2) ∧ Z9.cell? ⟨w.heap.size, 3, none⟩ = some (.int .i64 a3) ∧ Z9.cell? ⟨w.heap.size, 4, none⟩ = some (.int .i64 a4) ∧ Z9.cell? ⟨w.heap.size, 5, none⟩ = some (.int .i64 a5) ∧ Z9.cell? ⟨w.heap.size + 1, 0, none⟩ = some (.int .i64 b0) ∧ Z9.cell? ⟨w.heap.size + 1, 1, none⟩ = some (.int .i64 b1) ∧ Z9.cell? ⟨w.heap.size + 1, 2, none⟩ = some (.int .i64 b2) ∧ Z9.cell? ⟨w.heap.size + 1, 3, none⟩ = some (.int .i64 b3) ∧ Z9.cell? ⟨w.heap.size + 1, 4, none⟩ = some (.int .i64 b4) ∧ Z9.cell? ⟨w.heap.size + 1, 5, none⟩ = some (.int .i64 b5)) _ := ⟨hA9.cell 0, hA9.cell 1, hA9.cell 2, hA9.cell 3, hA9.cell 4, hA9.cell 5, hB9.cell 0, hB9.cell 1, hB9.cell 2, hB9.cell 3, hB9.cell 4, hB9.cell 5⟩
          refine hK9.out _ _ hS9 (fun _ => ?_)
          clear hK9 K9 hS9 hA9 hB9
          try simp only [Act.put, List.setIfInBounds_toArray, List.set_cons_zero, List.set_cons_succ]
          refine wpAnyH_ready (rs := [4]) (by kernel_rfl) (by simp) (consL rfl (fun K9 hK9 => ?_) (AllReadyH.nil))
          go_simp
          obtain ⟨Z4, hZ49⟩ : ∃ Z4, Z4 = Z3.alloc (.cells #[.int .i64 0, .int .i64 0, .int .i64 0, .int .i64 0, .int .i64 0, .int .i64 0] 63) := ⟨_, rfl⟩
          have Bd : BoxAt Z4 Z3.heap.size #[.int .i64 0, .int .i64 0, .int .i64 0, .int .i64 0, .int .i64 0, .int .i64 0] 63 := by rw [hZ49]; exact BoxAt.new _ _ _
          have hZ4 : Below W0.heap.size W0 Z4 := by rw [hZ49]; exact hZ3.alloc hZ3.size _
          have ned : e ≠ Z3.heap.size := Nat.ne_of_lt Be.lt
          have Be : BoxAt Z4 e #[.int .i64 0, .int .i64 0, .int .i64 0, .int .i64 0, .int .i64 0, .int .i64 0] 63 := by rw [hZ49]; exact Be.alloc _
          first | rw [← hZ49] | trace_state
          have ld : W0.heap.size ≤ Z3.heap.size := hZ3.size
          obtain ⟨d, hd9⟩ : ∃ d, d = Z3.heap.size := ⟨_, rfl⟩
          rw [← hd9] at Bd ld ned ⊢
          clear hd9 hZ49
          have hA9 := IBoxBelow bA hZ4 hlA
          have hB9 := IBoxBelow bB hZ4 hlB
          have hS9 : (fun Z9 : World => Z9.cell? ⟨w.heap.size, 0, none⟩ = some (.int .i64 a0) ∧ Z9.cell? ⟨w.heap.size, 1, none⟩ = some (.int .i64 a1) ∧ Z9.cell? ⟨w.heap.size, 2, none⟩ = some (.int .i64 a2) ∧ Z9.cell? ⟨w.heap.size, 3, none⟩ = some (.int .i64 a3) ∧ Z9.cell? ⟨w.heap.size, 4, none⟩ = some (.int .i64 a4) ∧ Z9.cell? ⟨w.heap.size, 5, none⟩ = some (.int .i64 a5) ∧ Z9.cell? ⟨w.heap.size + 1, 0, none⟩ = some (.int .i64 b0) ∧ Z9.cell? ⟨w.heap.size + 1, 1, none⟩ = some (.int .i64 b1) ∧ Z9.cell? ⟨w.heap.size + 1, 2, none⟩ = some (.int .i64 b2) ∧ Z9.cell? ⟨w.heap.size + 1, 3, none⟩ = some (.int .i64 b3) ∧ Z9.cell? ⟨w.heap.size + 1, 4, none⟩ = some (.int .i64 b4) ∧ Z9.cell? ⟨w.heap.size + 1, 5, none⟩ = some (.int .i64 b5)) _ := ⟨hA9.cell 0, hA9.cell 1, hA9.cell 2, hA9.cell 3, hA9.cell 4, hA9.cell 5, hB9.cell 0, hB9.cell 1, hB9.cell 2, hB9.cell 3, hB9.cell 4, hB9.cell 5⟩
          refine hK9.out _ _ hS9 (fun _ => ?_)
          clear hK9 K9 hS9 hA9 hB9
          try simp only [Act.put, List.setIfInBounds_toArray, List.set_cons_zero, List.set_cons_succ]
          have nde : d ≠ e := (by first | exact nee | exact fun h => nee h | exact fun h => ned h.symm)
          have q00 : Z4.cell? ⟨d, 0, none⟩ = some (.int .i64 0) := Bd.cell 0
          have q01 : Z4.cell? ⟨d, 1, none⟩ = some (.int .i64 0) := Bd.cell 1
          have q02 : Z4.cell? ⟨d, 2, none⟩ = some (.int .i64 0) := Bd.cell 2
          have q03 : Z4.cell? ⟨d, 3, none⟩ = some (.int .i64 0) := Bd.cell 3
          have q04 : Z4.cell? ⟨d, 4, none⟩ = some (.int .i64 0) := Bd.cell 4
          have q05 : Z4.cell? ⟨d, 5, none⟩ = some (.int .i64 0) := Bd.cell 5
          have z00 : Z4.frozen? ⟨d, 0, none⟩ = false := Bd.free 0
          have z01 : Z4.frozen? ⟨d, 1, none⟩ = false := Bd.free 1
          have z02 : Z4.frozen? ⟨d, 2, none⟩ = false := Bd.free 2
          have z03 : Z4.frozen? ⟨d, 3, none⟩ = false := Bd.free 3
          have z04 : Z4.frozen? ⟨d, 4, none⟩ = false := Bd.free 4
          have z05 : Z4.frozen? ⟨d, 5, none⟩ = false := Bd.free 5
          refine wpAnyH_ready (rs := [6]) (by kernel_rfl) (by simp) (consL rfl (fun K9 hK9 => ?_) AllReadyH.nil)
          go_simp
          obtain ⟨Z5, hZ59⟩ : ∃ Z5, Z5 = ((((((Z4.setCell ⟨d, 0, none⟩ (.int .i64 a0)).setCell ⟨d, 1, none⟩ (.int .i64 a1)).setCell ⟨d, 2, none⟩ (.int .i64 a2)).setCell ⟨d, 3, none⟩ (.int .i64 a3)).setCell ⟨d, 4, none⟩ (.int .i64 a4)).setCell ⟨d, 5, none⟩ (.int .i64 a5)) := ⟨_, rfl⟩
          have Bd1 : BoxAt Z5 d #[.int .i64 a0, .int .i64 a1, .int .i64 a2, .int .i64 a3, .int .i64 a4, .int .i64 a5] 63 := by rw [hZ59]; exact (((((Bd.set 0 _).set 1 _).set 2 _).set 3 _).set 4 _).set 5 _
          have Be1 : BoxAt Z5 e #[.int .i64 0, .int .i64 0, .int .i64 0, .int .i64 0, .int .i64 0, .int .i64 0] 63 := by rw [hZ59]; exact (((((Be.set_other nde.symm _).set_other nde.symm _).set_other nde.symm _).set_other nde.symm _).set_other nde.symm _).set_other nde.symm _
          have hZ5 : Below W0.heap.size W0 Z5 := by rw [hZ59]; exact (((((hZ4.setCell (p := ⟨d, 0, none⟩) ld _).setCell (p := ⟨d, 1, none⟩) ld _).setCell (p := ⟨d, 2, none⟩) ld _).setCell (p := ⟨d, 3, none⟩) ld _).setCell (p := ⟨d, 4, none⟩) ld _).setCell (p := ⟨d, 5, none⟩) ld _
          rw [← hZ59]
          clear hZ59 q00 z00 q01 z01 q02 z02 q03 z03 q04 z04 q05 z05
          have hA9 := IBoxBelow bA hZ5 hlA
          have hB9 := IBoxBelow bB hZ5 hlB
          have hS9 : (fun Z9 : World => Z9.cell? ⟨w.heap.size, 0, none⟩ = some (.int .i64 a0) ∧ Z9.cell? ⟨w.heap.size, 1, none⟩ = some (.int .i64 a1) ∧ Z9.cell? ⟨w.heap.size, 2, none⟩ = some (.int .i64 a2) ∧ Z9.cell? ⟨w.heap.size, 3, none⟩ = some (.int .i64 a3) ∧ Z9.cell? ⟨w.heap.size, 4, none⟩ = some (.int .i64 a4) ∧ Z9.cell? ⟨w.heap.size, 5, none⟩ = some (.int .i64 a5) ∧ Z9.cell? ⟨w.heap.size + 1, 0, none⟩ = some (.int .i64 b0) ∧ Z9.cell? ⟨w.heap.size + 1, 1, none⟩ = some (.int .i64 b1) ∧ Z9.cell? ⟨w.heap.size + 1, 2, none⟩ = some (.int .i64 b2) ∧ Z9.cell? ⟨w.heap.size + 1, 3, none⟩ = some (.int .i64 b3) ∧ Z9.cell? ⟨w.heap.size + 1, 4, none⟩ = some (.int .i64 b4) ∧ Z9.cell? ⟨w.heap.size + 1, 5, none⟩ = some (.int .i64 b5)) _ := ⟨hA9.cell 0, hA9.cell 1, hA9.cell 2, hA9.cell 3, hA9.cell 4, hA9.cell 5, hB9.cell 0, hB9.cell 1, hB9.cell 2, hB9.cell 3, hB9.cell 4, hB9.cell 5⟩
          refine hK9.out _ _ hS9 (fun _ => ?_)
          clear hK9 K9 hS9 hA9 hB9
          try simp only [Act.put, List.setIfInBounds_toArray, List.set_cons_zero, List.set_cons_succ]
          have q00 : Z5.cell? ⟨e, 0, none⟩ = some (.int .i64 0) := Be1.cell 0
          have q01 : Z5.cell? ⟨e, 1, none⟩ = some (.int .i64 0) := Be1.cell 1
          have q02 : Z5.cell? ⟨e, 2, none⟩ = some (.int .i64 0) := Be1.cell 2
          have q03 : Z5.cell? ⟨e, 3, none⟩ = some (.int .i64 0) := Be1.cell 3
          have q04 : Z5.cell? ⟨e, 4, none⟩ = some (.int .i64 0) := Be1.cell 4
          have q05 : Z5.cell? ⟨e, 5, none⟩ = some (.int .i64 0) := Be1.cell 5
          have z00 : Z5.frozen? ⟨e, 0, none⟩ = false := Be1.free 0
          have z01 : Z5.frozen? ⟨e, 1, none⟩ = false := Be1.free 1
          have z02 : Z5.frozen? ⟨e, 2, none⟩ = false := Be1.free 2
          have z03 : Z5.frozen? ⟨e, 3, none⟩ = false := Be1.free 3
          have z04 : Z5.frozen? ⟨e, 4, none⟩ = false := Be1.free 4
          have z05 : Z5.frozen? ⟨e, 5, none⟩ = false := Be1.free 5
          refine wpAnyH_ready (rs := [7]) (by kernel_rfl) (by simp) (consL rfl (fun K9 hK9 => ?_) AllReadyH.nil)
          go_simp
          obtain ⟨Z6, hZ69⟩ : ∃ Z6, Z6 = ((((((Z5.setCell ⟨e, 0, none⟩ (.int .i64 b0)).setCell ⟨e, 1, none⟩ (.int .i64 b1)).setCell ⟨e, 2, none⟩ (.int .i64 b2)).setCell ⟨e, 3, none⟩ (.int .i64 b3)).setCell ⟨e, 4, none⟩ (.int .i64 b4)).setCell ⟨e, 5, none⟩ (.int .i64 b5)) := ⟨_, rfl⟩
          have Bd2 : BoxAt Z6 d #[.int .i64 a0, .int .i64 a1, .int .i64 a2, .int .i64 a3, .int .i64 a4, .int .i64 a5] 63 := by rw [hZ69]; exact (((((Bd1.set_other nde _).set_other nde _).set_other nde _).set_other nde _).set_other nde _).set_other nde _
          have Be2 : BoxAt Z6 e #[.int .i64 b0, .int .i64 b1, .int .i64 b2, .int .i64 b3, .int .i64 b4, .int .i64 b5] 63 := by rw [hZ69]; exact (((((Be1.set 0 _).set 1 _).set 2 _).set 3 _).set 4 _).set 5 _
          have hZ6 : Below W0.heap.size W0 Z6 := by rw [hZ69]; exact (((((hZ5.setCell (p := ⟨e, 0, none⟩) le _).setCell (p := ⟨e, 1, none⟩) le _).setCell (p := ⟨e, 2, none⟩) le _).setCell (p := ⟨e, 3, none⟩) le _).setCell (p := ⟨e, 4, none⟩) le _).setCell (p := ⟨e, 5, none⟩) le _
          rw [← hZ69]
          clear hZ69 q00 z00 q01 z01 q02 z02 q03 z03 q04 z04 q05 z05
          have hA9 := IBoxBelow bA hZ6 hlA
          have hB9 := IBoxBelow bB hZ6 hlB
          have hS9 : (fun Z9 : World => Z9.cell? ⟨w.heap.size, 0, none⟩ = some (.int .i64 a0) ∧ Z9.cell? ⟨w.heap.size, 1, none⟩ = some (.int .i64 a1) ∧ Z9.cell? ⟨w.heap.size, 2, none⟩ = some (.int .i64 a2) ∧ Z9.cell? ⟨w.heap.size, 3, none⟩ = some (.int .i64 a3) ∧ Z9.cell? ⟨w.heap.size, 4, none⟩ = some (.int .i64 a4) ∧ Z9.cell? ⟨w.heap.size, 5, none⟩ = some (.int .i64 a5) ∧ Z9.cell? ⟨w.heap.size + 1, 0, none⟩ = some (.int .i64 b0) ∧ Z9.cell? ⟨w.heap.size + 1, 1, none⟩ = some (.int .i64 b1) ∧ Z9.cell? ⟨w.heap.size + 1, 2, none⟩ = some (.int .i64 b2) ∧ Z9.cell? ⟨w.heap.size + 1, 3, none⟩ = some (.int .i64 b3) ∧ Z9.cell? ⟨w.heap.size + 1, 4, none⟩ = some (.int .i64 b4) ∧ Z9.cell? ⟨w.heap.size + 1, 5, none⟩ = some (.int .i64 b5)) _ := ⟨hA9.cell 0, hA9.cell 1, hA9.cell 2, hA9.cell 3, hA9.cell 4, hA9.cell 5, hB9.cell 0, hB9.cell 1, hB9.cell 2, hB9.cell 3, hB9.cell 4, hB9.cell 5⟩
          refine hK9.out _ _ hS9 (fun _ => ?_)
          clear hK9 K9 hS9 hA9 hB9
          try simp only [Act.put, List.setIfInBounds_toArray, List.set_cons_zero, List.set_cons_succ]
          refine wpAnyH_done (by kernel_rfl) ?_ _
          exact ⟨d, e, rfl, Bd2, Be2, IBoxBelow bC hZ6 bC.lt, IBoxBelow bO hZ6 bO.lt, nde, ld, le, hZ6⟩
      · go_simp
        obtain ⟨Z2, hZ29⟩ : ∃ Z2, Z2 = Z1.alloc (.cells #[.int .i64 0, .int .i64 0, .int .i64 0, .int .i64 0, .int .i64 0, .int .i64 0] 63) := ⟨_, rfl⟩
        have Bd : BoxAt Z2 Z1.heap.size #[.int .i64 0, .int .i64 0, .int .i64 0, .int .i64 0, .int .i64 0, .int .i64 0] 63 := by rw [hZ29]; exact BoxAt.new _ _ _
        have hZ2 : Below W0.heap.size W0 Z2 := by rw [hZ29]; exact hZ1.alloc hZ1.size _
        first | rw [← hZ29] | trace_state
        have ld : W0.heap.size ≤ Z1.heap.size := hZ1.size
        obtain ⟨d, hd9⟩ : ∃ d, d = Z1.heap.size := ⟨_, rfl⟩
        rw [← hd9] at Bd ld ⊢
        clear hd9 hZ29
        have hA9 := IBoxBelow bA hZ2 hlA
        have hB9 := IBoxBelow bB hZ2 hlB
        have hS9 : (fun Z9 : World => Z9.cell? ⟨w.heap.size, 0, none⟩ = some (.int .i64 a0) ∧ Z9.cell? ⟨w.heap.size, 1, none⟩ = some (.int .i64 a1) ∧ Z9.cell? ⟨w.heap.size, 2, none⟩ = some (.int .i64 a2) ∧ Z9.cell? ⟨w.heap.size, 3, none⟩ = some (.int .i64 a3) ∧ Z9.cell? ⟨w.heap.size, 4, none⟩ = some (.int .i64 a4) ∧ Z9.cell? ⟨w.heap.size, 5, none⟩ = some (.int .i64 a5) ∧ Z9.cell? ⟨w.heap.size + 1, 0, none⟩ = some (.int .i64 b0) ∧ Z9.cell? ⟨w.heap.size + 1, 1, none⟩ = some (.int .i64 b1) ∧ Z9.cell? ⟨w.heap.size + 1, 2, none⟩ = some (.int .i64 b2) ∧ Z9.cell? ⟨w.heap.size + 1, 3, none⟩ = some (.int .i64 b3) ∧ Z9.cell? ⟨w.heap.size + 1, 4, none⟩ = some (.int .i64 b4) ∧ Z9.cell? ⟨w.heap.size + 1, 5, none⟩ = some (.int .i64 b5)) _ := ⟨hA9.cell 0, hA9.cell 1, hA9.cell 2, hA9.cell 3, hA9.cell 4, hA9.cell 5, hB9.cell 0, hB9.cell 1, hB9.cell 2, hB9.cell 3, hB9.cell 4, hB9.cell 5⟩
        refine hK9.out _ _ hS9 (fun _ => ?_)
        clear hK9 K9 hS9 hA9 hB9
        try simp only [Act.put, List.setIfInBounds_toArray, List.set_cons_zero, List.set_cons_succ]
        refine wpAnyH_ready (rs := [3, 5]) (by kernel_rfl) (by simp) (consL rfl (fun K9 hK9 => ?_) (consL rfl (fun K9 hK9 => ?_) (AllReadyH.nil)))
        · go_simp
          refine (HEb.out _).mono ?_
          rintro e Z3 ⟨rfl, hv9⟩
          have hZ3 := hZ2.trans (hv9.mono hZ2.size)
          have Bd := Bd.below hv9
          clear hv9
          have hA9 := IBoxBelow bA hZ3 hlA
          have hB9 := IBoxBelow bB hZ3 hlB
          have hS9 : (fun Z9 : World => Z9.cell? ⟨w.heap.size, 0, none⟩ = some (.int .i64 a0) ∧ Z9.cell? ⟨w.heap.size, 1, none⟩ = some (.int .i64 a1) ∧ Z9.cell? ⟨w.heap.size, 2, none⟩ = some (.int .i64 a2) ∧ Z9.cell? ⟨w.heap.size, 3, none⟩ = some (.int .i64 a3) ∧ Z9.cell? ⟨w.heap.size, 4, none⟩ = some (.int .i64 a4) ∧ Z9.cell? ⟨w.heap.size, 5, none⟩ = some (.int .i64 a5) ∧ Z9.cell? ⟨w.heap.size + 1, 0, none⟩ = some (.int .i64 b0) ∧ Z9.cell? ⟨w.heap.size + 1, 1, none⟩ = some (.int .i64 b1) ∧ Z9.cell? ⟨w.heap.size + 1, 2, none⟩ = some (.int .i64 b2) ∧ Z9.cell? ⟨w.heap.size + 1, 3, none⟩ = some (.int .i64 b3) ∧ Z9.cell? ⟨w.heap.size + 1, 4, none⟩ = some (.int .i64 b4) ∧ Z9.cell? ⟨w.heap.size + 1, 5, none⟩ = some (.int .i64 b5)) _ := ⟨hA9.cell 0, hA9.cell 1, hA9.cell 2, hA9.cell 3, hA9.cell 4, hA9.cell 5, hB9.cell 0, hB9.cell 1, hB9.cell 2, hB9.cell 3, hB9.cell 4, hB9.cell 5⟩
          refine hK9.out _ _ hS9 (fun _ => ?_)
          clear hK9 K9 hS9 hA9 hB9
          try simp only [Act.put, List.setIfInBounds_toArray, List.set_cons_zero, List.set_cons_succ]
          refine wpAnyH_ready (rs := [5]) (by kernel_rfl) (by simp) (consL rfl (fun K9 hK9 => ?_) (AllReadyH.nil))
          go_simp
          obtain ⟨Z4, hZ49⟩ : ∃ Z4, Z4 = Z3.alloc (.cells #[.int .i64 0, .int .i64 0, .int .i64 0, .int .i64 0, .int .i64 0, .int .i64 0] 63) := ⟨_, rfl⟩
          have Be : BoxAt Z4 Z3.heap.size #[.int .i64 0, .int .i64 0, .int .i64 0, .int .i64 0, .int .i64 0, .int .i64 0] 63 := by rw [hZ49]; exact BoxAt.new _ _ _
          have hZ4 : Below W0.heap.size W0 Z4 := by rw [hZ49]; exact hZ3.alloc hZ3.size _
          have nee : d ≠ Z3.heap.size := Nat.ne_of_lt Bd.lt
          have Bd : BoxAt Z4 d #[.int .i64 0, .int .i64 0, .int .i64 0, .int .i64 0, .int .i64 0, .int .i64 0] 63 := by rw [hZ49]; exact Bd.alloc _
          first | rw [← hZ49] | trace_state
          have le : W0.heap.size ≤ Z3.heap.size := hZ3.size
          obtain ⟨e, he9⟩ : ∃ e, e = Z3.heap.size := ⟨_, rfl⟩
          rw [← he9] at Be le nee ⊢
          clear he9 hZ49
          have hA9 := IBoxBelow bA hZ4 hlA
          have hB9 := IBoxBelow bB hZ4 hlB
          have hS9 : (fun Z9 : World => Z9.cell? ⟨w.heap.size, 0, none⟩ = some (.int .i64 a0) ∧ Z9.cell? ⟨w.heap.size, 1, none⟩ = some (.int .i64 a1) ∧ Z9.cell? ⟨w.heap.size, 2, none⟩ = some (.int .i64 a2) ∧ Z9.cell? ⟨w.heap.size, 3, none⟩ = some (.int .i64 a3) ∧ Z9.cell? ⟨w.heap.size, 4, none⟩ = some (.int .i64 a4) ∧ Z9.cell? ⟨w.heap.size, 5, none⟩ = some (.int .i64 a5) ∧ Z9.cell? ⟨w.heap.size + 1, 0, none⟩ = some (.int .i64 b0) ∧ Z9.cell? ⟨w.heap.size + 1, 1, none⟩ = some (.int .i64 b1) ∧ Z9.cell? ⟨w.heap.size + 1, 2, none⟩ = some (.int .i64 b2) ∧ Z9.cell? ⟨w.heap.size + 1, 3, none⟩ = some (.int .i64 b3) ∧ Z9.cell? ⟨w.heap.size + 1, 4, none⟩ = some (.int .i64 b4) ∧ Z9.cell? ⟨w.heap.size + 1, 5, none⟩ = some (.int .i64 b5)) _ := ⟨hA9.cell 0, hA9.cell 1, hA9.cell 2, hA9.cell 3, hA9.cell 4, hA9.cell 5, hB9.cell 0, hB9.cell 1, hB9.cell 2, hB9.cell 3, hB9.cell 4, hB9.cell 5⟩
          refine hK9.out _ _ hS9 (fun _ => ?_)
          clear hK9 K9 hS9 hA9 hB9
          try simp only [Act.put, List.setIfInBounds_toArray, List.set_cons_zero, List.set_cons_succ]
          have nde : d ≠ e := (by first | exact nee | exact fun h => nee h | exact fun h => ned h.symm)
          have q00 : Z4.cell? ⟨d, 0, none⟩ = some (.int .i64 0) := Bd.cell 0
          have q01 : Z4.cell? ⟨d, 1, none⟩ = some (.int .i64 0) := Bd.cell 1
          have q02 : Z4.cell? ⟨d, 2, none⟩ = some (.int .i64 0) := Bd.cell 2
          have q03 : Z4.cell? ⟨d, 3, none⟩ = some (.int .i64 0) := Bd.cell 3
          have q04 : Z4.cell? ⟨d, 4, none⟩ = some (.int .i64 0) := Bd.cell 4
          have q05 : Z4.cell? ⟨d, 5, none⟩ = some (.int .i64 0) := Bd.cell 5
          have z00 : Z4.frozen? ⟨d, 0, none⟩ = false := Bd.free 0
          have z01 : Z4.frozen? ⟨d, 1, none⟩ = false := Bd.free 1
          have z02 : Z4.frozen? ⟨d, 2, none⟩ = false := Bd.free 2
          have z03 : Z4.frozen? ⟨d, 3, none⟩ = false := Bd.free 3
          have z04 : Z4.frozen? ⟨d, 4, none⟩ = false := Bd.free 4
          have z05 : Z4.frozen? ⟨d, 5, none⟩ = false := Bd.free 5
          refine wpAnyH_ready (rs := [6]) (by kernel_rfl) (by simp) (consL rfl (fun K9 hK9 => ?_) AllReadyH.nil)
          go_simp
          obtain ⟨Z5, hZ59⟩ : ∃ Z5, Z5 = ((((((Z4.setCell ⟨d, 0, none⟩ (.int .i64 a0)).setCell ⟨d, 1, none⟩ (.int .i64 a1)).setCell ⟨d, 2, none⟩ (.int .i64 a2)).setCell ⟨d, 3, none⟩ (.int .i64 a3)).setCell ⟨d, 4, none⟩ (.int .i64 a4)).setCell ⟨d, 5, none⟩ (.int .i64 a5)) := ⟨_, rfl⟩
          have Bd1 : BoxAt Z5 d #[.int .i64 a0, .int .i64 a1, .int .i64 a2, .int .i64 a3, .int .i64 a4, .int .i64 a5] 63 := by rw [hZ59]; exact (((((Bd.set 0 _).set 1 _).set 2 _).set 3 _).set 4 _).set 5 _
          have Be1 : BoxAt Z5 e #[.int .i64 0, .int .i64 0, .int .i64 0, .int .i64 0, .int .i64 0, .int .i64 0] 63 := by rw [hZ59]; exact (((((Be.set_other nde.symm _).set_other nde.symm _).set_other nde.symm _).set_other nde.symm _).set_other nde.symm _).set_other nde.symm _
          have hZ5 : Below W0.heap.size W0 Z5 := by rw [hZ59]; exact (((((hZ4.setCell (p := ⟨d, 0, none⟩) ld _).setCell (p := ⟨d, 1, none⟩) ld _).setCell (p := ⟨d, 2, none⟩) ld _).setCell (p := ⟨d, 3, none⟩) ld _).setCell (p := ⟨d, 4, none⟩) ld _).setCell (p := ⟨d, 5, none⟩) ld _
          rw [← hZ59]
          clear hZ59 q00 z00 q01 z01 q02 z02 q03 z03 q04 z04 q05 z05
          have hA9 := IBoxBelow bA hZ5 hlA
          have hB9 := IBoxBelow bB hZ5 hlB
          have hS9 : (fun Z9 : World => Z9.cell? ⟨w.heap.size, 0, none⟩ = some (.int .i64 a0) ∧ Z9.cell? ⟨w.heap.size, 1, none⟩ = some (.int .i64 a1) ∧ Z9.cell? ⟨w.heap.size, 2, none⟩ = some (.int .i64 a2) ∧ Z9.cell? ⟨w.heap.size, 3, none⟩ = some (.int .i64 a3) ∧ Z9.cell? ⟨w.heap.size, 4, none⟩ = some (.int .i64 a4) ∧ Z9.cell? ⟨w.heap.size, 5, none⟩ = some (.int .i64 a5) ∧ Z9.cell? ⟨w.heap.size + 1, 0, none⟩ = some (.int .i64 b0) ∧ Z9.cell? ⟨w.heap.size + 1, 1, none⟩ = some (.int .i64 b1) ∧ Z9.cell? ⟨w.heap.size + 1, 2, none⟩ = some (.int .i64 b2) ∧ Z9.cell? ⟨w.heap.size + 1, 3, none⟩ = some (.int .i64 b3) ∧ Z9.cell? ⟨w.heap.size + 1, 4, none⟩ = some (.int .i64 b4) ∧ Z9.cell? ⟨w.heap.size + 1, 5, none⟩ = some (.int .i64 b5)) _ := ⟨hA9.cell 0, hA9.cell 1, hA9.cell 2, hA9.cell 3, hA9.cell 4, hA9.cell 5, hB9.cell 0, hB9.cell 1, hB9.cell 2, hB9.cell 3, hB9.cell 4, hB9.cell 5⟩
          refine hK9.out _ _ hS9 (fun _ => ?_)
          clear hK9 K9 hS9 hA9 hB9
          try simp only [Act.put, List.setIfInBounds_toArray, List.set_cons_zero, List.set_cons_succ]
          have q00 : Z5.cell? ⟨e, 0, none⟩ = some (.int .i64 0) := Be1.cell 0
          have q01 : Z5.cell? ⟨e, 1, none⟩ = some (.int .i64 0) := Be1.cell 1
          have q02 : Z5.cell? ⟨e, 2, none⟩ = some (.int .i64 0) := Be1.cell 2
          have q03 : Z5.cell? ⟨e, 3, none⟩ = some (.int .i64 0) := Be1.cell 3
          have q04 : Z5.cell? ⟨e, 4, none⟩ = some (.int .i64 0) := Be1.cell 4
          have q05 : Z5.cell? ⟨e, 5, none⟩ = some (.int .i64 0) := Be1.cell 5
          have z00 : Z5.frozen? ⟨e, 0, none⟩ = false := Be1.free 0
          have z01 : Z5.frozen? ⟨e, 1, none⟩ = false := Be1.free 1
          have z02 : Z5.frozen? ⟨e, 2, none⟩ = false := Be1.free 2
          have z03 : Z5.frozen? ⟨e, 3, none⟩ = false := Be1.free 3
          have z04 : Z5.frozen? ⟨e, 4, none⟩ = false := Be1.free 4
          have z05 : Z5.frozen? ⟨e, 5, none⟩ = false := Be1.free 5
          refine wpAnyH_ready (rs := [7]) (by kernel_rfl) (by simp) (consL rfl (fun K9 hK9 => ?_) AllReadyH.nil)
          go_simp
          obtain ⟨Z6, hZ69⟩ : ∃ Z6, Z6 = ((((((Z5.setCell ⟨e, 0, none⟩ (.int .i64 b0)).setCell ⟨e, 1, none⟩ (.int .i64 b1)).setCell ⟨e, 2, none⟩ (.int .i64 b2)).setCell ⟨e, 3, none⟩ (.int .i64 b3)).setCell ⟨e, 4, none⟩ (.int .i64 b4)).setCell ⟨e, 5, none⟩ (.int .i64 b5)) := ⟨_, rfl⟩
          have Bd2 : BoxAt Z6 d #[.int .i64 a0, .int .i64 a1, .int .i64 a2, .int .i64 a3, .int .i64 a4, .int .i64 a5] 63 := by rw [hZ69]; exact (((((Bd1.set_other nde _).set_other nde _).set_other nde _).set_other nde _).set_other nde _).set_other nde _
          have Be2 : BoxAt Z6 e #[.int .i64 b0, .int .i64 b1, .int .i64 b2, .int .i64 b3, .int .i64 b4, .int .i64 b5] 63 := by rw [hZ69]; exact (((((Be1.set 0 _).set 1 _).set 2 _).set 3 _).set 4 _).set 5 _
          have hZ6 : Below W0.heap.size W0 Z6 := by rw [hZ69]; exact (((((hZ5.setCell (p := ⟨e, 0, none⟩) le _).setCell (p := ⟨e, 1, none⟩) le _).setCell (p := ⟨e, 2, none⟩) le _).setCell (p := ⟨e, 3, none⟩) le _).setCell (p := ⟨e, 4, none⟩) le _).setCell (p := ⟨e, 5, none⟩) le _
          rw [← hZ69]
          clear hZ69 q00 z00 q01 z01 q02 z02 q03 z03 q04 z04 q05 z05
          have hA9 := IBoxBelow bA hZ6 hlA
          have hB9 := IBoxBelow bB hZ6 hlB
          have hS9 : (fun Z9 : World => Z9.cell? ⟨w.heap.size, 0, none⟩ = some (.int .i64 a0) ∧ Z9.cell? ⟨w.heap.size, 1, none⟩ = some (.int .i64 a1) ∧ Z9.cell? ⟨w.heap.size, 2, none⟩ = some (.int .i64 a2) ∧ Z9.cell? ⟨w.heap.size, 3, none⟩ = some (.int .i64 a3) ∧ Z9.cell? ⟨w.heap.size, 4, none⟩ = some (.int .i64 a4) ∧ Z9.cell? ⟨w.heap.size, 5, none⟩ = some (.int .i64 a5) ∧ Z9.cell? ⟨w.heap.size + 1, 0, none⟩ = some (.int .i64 b0) ∧ Z9.cell? ⟨w.heap.size + 1, 1, none⟩ = some (.int .i64 b1) ∧ Z9.cell? ⟨w.heap.size + 1, 2, none⟩ = some (.int .i64 b2) ∧ Z9.cell? ⟨w.heap.size + 1, 3, none⟩ = some (.int .i64 b3) ∧ Z9.cell? ⟨w.heap.size + 1, 4, none⟩ = some (.int .i64 b4) ∧ Z9.cell? ⟨w.heap.size + 1, 5, none⟩ = some (.int .i64 b5)) _ := ⟨hA9.cell 0, hA9.cell 1, hA9.cell 2, hA9.cell 3, hA9.cell 4, hA9.cell 5, hB9.cell 0, hB9.cell 1, hB9.cell 2, hB9.cell 3, hB9.cell 4, hB9.cell 5⟩
          refine hK9.out _ _ hS9 (fun _ => ?_)
          clear hK9 K9 hS9 hA9 hB9
          try simp only [Act.put, List.setIfInBounds_toArray, List.set_cons_zero, List.set_cons_succ]
          refine wpAnyH_done (by kernel_rfl) ?_ _
          exact ⟨d, e, rfl, Bd2, Be2, IBoxBelow bC hZ6 bC.lt, IBoxBelow bO hZ6 bO.lt, nde, ld, le, hZ6⟩
        · go_simp
          obtain ⟨Z3, hZ39⟩ : ∃ Z3, Z3 = Z2.alloc (.cells #[.int .i64 0, .int .i64 0, .int .i64 0, .int .i64 0, .int .i64 0, .int .i64 0] 63) := ⟨_, rfl⟩
          have Be : BoxAt Z3 Z2.heap.size #[.int .i64 0, .int .i64 0, .int .i64 0, .int .i64 0, .int .i64 0, .int .i64 0] 63 := by rw [hZ39]; exact BoxAt.new _ _ _
          have hZ3 : Below W0.heap.size W0 Z3 := by rw [hZ39]; exact hZ2.alloc hZ2.size _
          have nee : d ≠ Z2.heap.size := Nat.ne_of_lt Bd.lt
          have Bd : BoxAt Z3 d #[.int .i64 0, .int .i64 0, .int .i64 0, .int .i64 0, .int .i64 0, .int .i64 0] 63 := by rw [hZ39]; exact Bd.alloc _
          first | rw [← hZ39] | trace_state
          have le : W0.heap.size ≤ Z2.heap.size := hZ2.size
          obtain ⟨e, he9⟩ : ∃ e, e = Z2.heap.size := ⟨_, rfl⟩
          rw [← he9] at Be le nee ⊢
          clear he9 hZ39
          have hA9 := IBoxBelow bA hZ3 hlA
          have hB9 := IBoxBelow bB hZ3 hlB
          have hS9 : (fun Z9 : World => Z9.cell? ⟨w.heap.size, 0, none⟩ = some (.int .i64 a0) ∧ Z9.cell? ⟨w.heap.size, 1, none⟩ = some (.int .i64 a1) ∧ Z9.cell? ⟨w.heap.size, 2, none⟩ = some (.int .i64 a2) ∧ Z9.cell? ⟨w.heap.size, 3, none⟩ = some (.int .i64 a3) ∧ Z9.cell? ⟨w.heap.size, 4, none⟩ = some (.int .i64 a4) ∧ Z9.cell? ⟨w.heap.size, 5, none⟩ = some (.int .i64 a5) ∧ Z9.cell? ⟨w.heap.size + 1, 0, none⟩ = some (.int .i64 b0) ∧ Z9.cell? ⟨w.heap.size + 1, 1, none⟩ = some (.int .i64 b1) ∧ Z9.cell? ⟨w.heap.size + 1, 2, none⟩ = some (.int .i64 b2) ∧ Z9.cell? ⟨w.heap.size + 1, 3, none⟩ = some (.int .i64 b3) ∧ Z9.cell? ⟨w.heap.size + 1, 4, none⟩ = some (.int .i64 b4) ∧ Z9.cell? ⟨w.heap.size + 1, 5, none⟩ = some (.int .i64 b5)) _ := ⟨hA9.cell 0, hA9.cell 1, hA9.cell 2, hA9.cell 3, hA9.cell 4, hA9.cell 5, hB9.cell 0, hB9.cell 1, hB9.cell 2, hB9.cell 3, hB9.cell 4, hB9.cell 5⟩
          refine hK9.out _ _ hS9 (fun _ => ?_)
          clear hK9 K9 hS9 hA9 hB9
          try simp only [Act.put, List.setIfInBounds_toArray, List.set_cons_zero, List.set_cons_succ]
          refine wpAnyH_ready (rs := [3]) (by kernel_rfl) (by simp) (consL rfl (fun K9 hK9 => ?_) (AllReadyH.nil))
          go_simp
          refine (HEb.out _).mono ?_
          rintro e Z4 ⟨rfl, hv9⟩
          have hZ4 := hZ3.trans (hv9.mono hZ3.size)
          have Bd := Bd.below hv9
          have Be := Be.below hv9
          clear hv9
          have hA9 := IBoxBelow bA hZ4 hlA
          have hB9 := IBoxBelow bB hZ4 hlB
          have hS9 : (fun Z9 : World => Z9.cell? ⟨w.heap.size, 0, none⟩ = some (.int .i64 a0) ∧ Z9.cell? ⟨w.heap.size, 1, none⟩ = some (.int .i64 a1) ∧ Z9.cell? ⟨w.heap.size, 2, none⟩ = some (.int .i64 a2) ∧ Z9.cell? ⟨w.heap.size, 3, none⟩ = some (.int .i64 a3) ∧ Z9.cell? ⟨w.heap.size, 4, none⟩ = some (.int .i64 a4) ∧ Z9.cell? ⟨w.heap.size, 5, none⟩ = some (.int .i64 a5) ∧ Z9.cell? ⟨w.heap.size + 1, 0, none⟩ = some (.int .i64 b0) ∧ Z9.cell? ⟨w.heap.size + 1, 1, none⟩ = some (.int .i64 b1) ∧ Z9.cell? ⟨w.heap.size + 1, 2, none⟩ = some (.int .i64 b2) ∧ Z9.cell? ⟨w.heap.size + 1, 3, none⟩ = some (.int .i64 b3) ∧ Z9.cell? ⟨w.heap.size + 1, 4, none⟩ = some (.int .i64 b4) ∧ Z9.cell? ⟨w.heap.size + 1, 5, none⟩ = some (.int .i64 b5)) _ := ⟨hA9.cell 0, hA9.cell 1, hA9.cell 2, hA9.cell 3, hA9.cell 4, hA9.cell 5, hB9.cell 0, hB9.cell 1, hB9.cell 2, hB9.cell 3, hB9.cell 4, hB9.cell 5⟩
          refine hK9.out _ _ hS9 (fun _ => ?_)
          clear hK9 K9 hS9 hA9 hB9
          try simp only [Act.put, List.setIfInBounds_toArray, List.set_cons_zero, List.set_cons_succ]
          have nde : d ≠ e := (by first | exact nee | exact fun h => nee h | exact fun h => ned h.symm)
          have q00 : Z4.cell? ⟨d, 0, none⟩ = some (.int .i64 0) := Bd.cell 0
          have q01 : Z4.cell? ⟨d, 1, none⟩ = some (.int .i64 0) := Bd.cell 1
          have q02 : Z4.cell? ⟨d, 2, none⟩ = some (.int .i64 0) := Bd.cell 2
          have q03 : Z4.cell? ⟨d, 3, none⟩ = some (.int .i64 0) := Bd.cell 3
          have q04 : Z4.cell? ⟨d, 4, none⟩ = some (.int .i64 0) := Bd.cell 4
          have q05 : Z4.cell? ⟨d, 5, none⟩ = some (.int .i64 0) := Bd.cell 5
          have z00 : Z4.frozen? ⟨d, 0, none⟩ = false := Bd.free 0
          have z01 : Z4.frozen? ⟨d, 1, none⟩ = false := Bd.free 1
          have z02 : Z4.frozen? ⟨d, 2, none⟩ = false := Bd.free 2
          have z03 : Z4.frozen? ⟨d, 3, none⟩ = false := Bd.free 3
          have z04 : Z4.frozen? ⟨d, 4, none⟩ = false := Bd.free 4
          have z05 : Z4.frozen? ⟨d, 5, none⟩ = false := Bd.free 5
          refine wpAnyH_ready (rs := [6]) (by kernel_rfl) (by simp) (consL rfl (fun K9 hK9 => ?_) AllReadyH.nil)
          go_simp
          obtain ⟨Z5, hZ59⟩ : ∃ Z5, Z5 = ((((((Z4.setCell ⟨d, 0, none⟩ (.int .i64 a0)).setCell ⟨d, 1, none⟩ (.int .i64 a1)).setCell ⟨d, 2, none⟩ (.int .i64 a2)).setCell ⟨d, 3, none⟩ (.int .i64 a3)).setCell ⟨d, 4, none⟩ (.int .i64 a4)).setCell ⟨d, 5, none⟩ (.int .i64 a5)) := ⟨_, rfl⟩
          have Bd1 : BoxAt Z5 d #[.int .i64 a0, .int .i64 a1, .int .i64 a2, .int .i64 a3, .int .i64 a4, .int .i64 a5] 63 := by rw [hZ59]; exact (((((Bd.set 0 _).set 1 _).set 2 _).set 3 _).set 4 _).set 5 _
          have Be1 : BoxAt Z5 e #[.int .i64 0, .int .i64 0, .int .i64 0, .int .i64 0, .int .i64 0, .int .i64 0] 63 := by rw [hZ59]; exact (((((Be.set_other nde.symm _).set_other nde.symm _).set_other nde.symm _).set_other nde.symm _).set_other nde.symm _).set_other nde.symm _
          have hZ5 : Below W0.heap.size W0 Z5 := by rw [hZ59]; exact (((((hZ4.setCell (p := ⟨d, 0, none⟩) ld _).setCell (p := ⟨d, 1, none⟩) ld _).setCell (p := ⟨d, 2, none⟩) ld _).setCell (p := ⟨d, 3, none⟩) ld _).setCell (p := ⟨d, 4, none⟩) ld _).setCell (p := ⟨d, 5, none⟩) ld _
          rw [← hZ59]
          clear hZ59 q00 z00 q01 z01 q02 z02 q03 z03 q04 z04 q05 z05
          have hA9 := IBoxBelow bA hZ5 hlA
          have hB9 := IBoxBelow bB hZ5 hlB
          have hS9 : (fun Z9 : World => Z9.cell? ⟨w.heap.size, 0, none⟩ = some (.int .i64 a0) ∧ Z9.cell? ⟨w.heap.size, 1, none⟩ = some (.int .i64 a1) ∧ Z9.cell? ⟨w.heap.size, 2, none⟩ = some (.int .i64 a2) ∧ Z9.cell? ⟨w.heap.size, 3, none⟩ = some (.int .i64 a3) ∧ Z9.cell? ⟨w.heap.size, 4, none⟩ = some (.int .i64 a4) ∧ Z9.cell? ⟨w.heap.size, 5, none⟩ = some (.int .i64 a5) ∧ Z9.cell? ⟨w.heap.size + 1, 0, none⟩ = some (.int .i64 b0) ∧ Z9.cell? ⟨w.heap.size + 1, 1, none⟩ = some (.int .i64 b1) ∧ Z9.cell? ⟨w.heap.size + 1, 2, none⟩ = some (.int .i64 b2) ∧ Z9.cell? ⟨w.heap.size + 1, 3, none⟩ = some (.int .i64 b3) ∧ Z9.cell? ⟨w.heap.size + 1, 4, none⟩ = some (.int .i64 b4) ∧ Z9.cell? ⟨w.heap.size + 1, 5, none⟩ = some (.int .i64 b5)) _ := ⟨hA9.cell 0, hA9.cell 1, hA9.cell 2, hA9.cell 3, hA9.cell 4, hA9.cell 5, hB9.cell 0, hB9.cell 1, hB9.cell 2, hB9.cell 3, hB9.cell 4, hB9.cell 5⟩
          refine hK9.out _ _ hS9 (fun _ => ?_)
          clear hK9 K9 hS9 hA9 hB9
          try simp only [Act.put, List.setIfInBounds_toArray, List.set_cons_zero, List.set_cons_succ]
          have q00 : Z5.cell? ⟨e, 0, none⟩ = some (.int .i64 0) := Be1.cell 0
          have q01 : Z5.cell? ⟨e, 1, none⟩ = some (.int .i64 0) := Be1.cell 1
          have q02 : Z5.cell? ⟨e, 2, none⟩ = some (.int .i64 0) := Be1.cell 2
          have q03 : Z5.cell? ⟨e, 3, none⟩ = some (.int .i64 0) := Be1.cell 3
          have q04 : Z5.cell? ⟨e, 4, none⟩ = some (.int .i64 0) := Be1.cell 4
          have q05 : Z5.cell? ⟨e, 5, none⟩ = some (.int .i64 0) := Be1.cell 5
          have z00 : Z5.frozen? ⟨e, 0, none⟩ = false := Be1.free 0
          have z01 : Z5.frozen? ⟨e, 1, none⟩ = false := Be1.free 1
          have z02 : Z5.frozen? ⟨e, 2, none⟩ = false := Be1.free 2
          have z03 : Z5.frozen? ⟨e, 3, none⟩ = false := Be1.free 3
          have z04 : Z5.frozen? ⟨e, 4, none⟩ = false := Be1.free 4
          have z05 : Z5.frozen? ⟨e, 5, none⟩ = false := Be1.free 5
          refine wpAnyH_ready (rs := [7]) (by kernel_rfl) (by simp) (consL rfl (fun K9 hK9 => ?_) AllReadyH.nil)
          go_simp
          obtain ⟨Z6, hZ69⟩ : ∃ Z6, Z6 = ((((((Z5.setCell ⟨e, 0, none⟩ (.int .i64 b0)).setCell ⟨e, 1, none⟩ (.int .i64 b1)).setCell ⟨e, 2, none⟩ (.int .i64 b2)).setCell ⟨e, 3, none⟩ (.int .i64 b3)).setCell ⟨e, 4, none⟩ (.int .i64 b4)).setCell ⟨e, 5, none⟩ (.int .i64 b5)) := ⟨_, rfl⟩
          have Bd2 : BoxAt Z6 d #[.int .i64 a0, .int .i64 a1, .int .i64 a2, .int .i64 a3, .int .i64 a4, .int .i64 a5] 63 := by rw [hZ69]; exact (((((Bd1.set_other nde _).set_other nde _).set_other nde _).set_other nde _).set_other nde _).set_other nde _
          have Be2 : BoxAt Z6 e #[.int .i64 b0, .int .i64 b1, .int .i64 b2, .int .i64 b3, .int .i64 b4, .int .i64 b5] 63 := by rw [hZ69]; exact (((((Be1.set 0 _).set 1 _).set 2 _).set 3 _).set 4 _).set 5 _
          have hZ6 : Below W0.heap.size W0 Z6 := by rw [hZ69]; exact (((((hZ5.setCell (p := ⟨e, 0, none⟩) le _).setCell (p := ⟨e, 1, none⟩) le _).setCell (p := ⟨e, 2, none⟩) le _).setCell (p := ⟨e, 3, none⟩) le _).setCell (p := ⟨e, 4, none⟩) le _).setCell (p := ⟨e, 5, none⟩) le _
          rw [← hZ69]
          clear hZ69 q00 z00 q01 z01 q02 z02 q03 z03 q04 z04 q05 z05
          have hA9 := IBoxBelow bA hZ6 hlA
          have hB9 := IBoxBelow bB hZ6 hlB
          have hS9 : (fun Z9 : World => Z9.cell? ⟨w.heap.size, 0, none⟩ = some (.int .i64 a0) ∧ Z9.cell? ⟨w.heap.size, 1, none⟩ = some (.int .i64 a1) ∧ Z9.cell? ⟨w.heap.size, 2, none⟩ = some (.int .i64 a2) ∧ Z9.cell? ⟨w.heap.size, 3, none⟩ = some (.int .i64 a3) ∧ Z9.cell? ⟨w.heap.size, 4, none⟩ = some (.int .i64 a4) ∧ Z9.cell? ⟨w.heap.size, 5, none⟩ = some (.int .i64 a5) ∧ Z9.cell? ⟨w.heap.size + 1, 0, none⟩ = some (.int .i64 b0) ∧ Z9.cell? ⟨w.heap.size + 1, 1, none⟩ = some (.int .i64 b1) ∧ Z9.cell? ⟨w.heap.size + 1, 2, none⟩ = some (.int .i64 b2) ∧ Z9.cell? ⟨w.heap.size + 1, 3, none⟩ = some (.int .i64 b3) ∧ Z9.cell? ⟨w.heap.size + 1, 4, none⟩ = some (.int .i64 b4) ∧ Z9.cell? ⟨w.heap.size + 1, 5, none⟩ = some (.int .i64 b5)) _ := ⟨hA9.cell 0, hA9.cell 1, hA9.cell 2, hA9.cell 3, hA9.cell 4, hA9.cell 5, hB9.cell 0, hB9.cell 1, hB9.cell 2, hB9.cell 3, hB9.cell 4, hB9.cell 5⟩
          refine hK9.out _ _ hS9 (fun _ => ?_)
          clear hK9 K9 hS9 hA9 hB9
          try simp only [Act.put, List.setIfInBounds_toArray, List.set_cons_zero, List.set_cons_succ]
          refine wpAnyH_done (by kernel_rfl) ?_ _
          exact ⟨d, e, rfl, Bd2, Be2, IBoxBelow bC hZ6 bC.lt, IBoxBelow bO hZ6 bO.lt, nde, ld, le, hZ6⟩
      · go_simp
        obtain ⟨Z2, hZ29⟩ : ∃ Z2, Z2 = Z1.alloc (.cells #[.int .i64 0, .int .i64 0, .int .i64 0, .int .i64 0, .int .i64 0, .int .i64 0] 63) := ⟨_, rfl⟩
        have Be : BoxAt Z2 Z1.heap.size #[.int .i64 0, .int .i64 0, .int .i64 0, .int .i64 0, .int .i64 0, .int .i64 0] 63 := by rw [hZ29]; exact BoxAt.new _ _ _
        have hZ2 : Below W0.heap.size W0 Z2 := by rw [hZ29]; exact hZ1.alloc hZ1.size _
        first | rw [← hZ29] | trace_state
        have le : W0.heap.size ≤ Z1.heap.size := hZ1.size
        obtain ⟨e, he9⟩ : ∃ e, e = Z1.heap.size := ⟨_, rfl⟩
        rw [← he9] at Be le ⊢
        clear he9 hZ29
        have hA9 := IBoxBelow bA hZ2 hlA
        have hB9 := IBoxBelow bB hZ2 hlB
        have hS9 : (fun Z9 : World => Z9.cell? ⟨w.heap.size, 0, none⟩ = some (.int .i64 a0) ∧ Z9.cell? ⟨w.heap.size, 1, none⟩ = some (.int .i64 a1) ∧ Z9.cell? ⟨w.heap.size, 2, none⟩ = some (.int .i64 a2) ∧ Z9.cell? ⟨w.heap.size, 3, none⟩ = some (.int .i64 a3) ∧ Z9.cell? ⟨w.heap.size, 4, none⟩ = some (.int .i64 a4) ∧ Z9.cell? ⟨w.heap.size, 5, none⟩ = some (.int .i64 a5) ∧ Z9.cell? ⟨w.heap.size + 1, 0, none⟩ = some (.int .i64 b0) ∧ Z9.cell? ⟨w.heap.size + 1, 1, none⟩ = some (.int .i64 b1) ∧ Z9.cell? ⟨w.heap.size + 1, 2, none⟩ = some (.int .i64 b2) ∧ Z9.cell? ⟨w.heap.size + 1, 3, none⟩ = some (.int .i64 b3) ∧ Z9.cell? ⟨w.heap.size + 1, 4, none⟩ = some (.int .i64 b4) ∧ Z9.cell? ⟨w.heap.size + 1, 5, none⟩ = some (.int .i64 b5)) _ := ⟨hA9.cell 0, hA9.cell 1, hA9.cell 2, hA9.cell 3, hA9.cell 4, hA9.cell 5, hB9.cell 0, hB9.cell 1, hB9.cell 2, hB9.cell 3, hB9.cell 4, hB9.cell 5⟩
        refine hK9.out _ _ hS9 (fun _ => ?_)
        clear hK9 K9 hS9 hA9 hB9
        try simp only [Act.put, List.setIfInBounds_toArray, List.set_cons_zero, List.set_cons_succ]
        refine wpAnyH_ready (rs := [3, 4]) (by kernel_rfl) (by simp) (consL rfl (fun K9 hK9 => ?_) (consL rfl (fun K9 hK9 => ?_) (AllReadyH.nil)))
        · go_simp
          refine (HEb.out _).mono ?_
          rintro e Z3 ⟨rfl, hv9⟩
          have hZ3 := hZ2.trans (hv9.mono hZ2.size)
          have Be := Be.below hv9
          clear hv9
          have hA9 := IBoxBelow bA hZ3 hlA
          have hB9 := IBoxBelow bB hZ3 hlB
          have hS9 : (fun Z9 : World => Z9.cell? ⟨w.heap.size, 0, none⟩ = some (.int .i64 a0) ∧ Z9.cell? ⟨w.heap.size, 1, none⟩ = some (.int .i64 a1) ∧ Z9.cell? ⟨w.heap.size, 2, none⟩ = some (.int .i64 a2) ∧ Z9.cell? ⟨w.heap.size, 3, none⟩ = some (.int .i64 a3) ∧ Z9.cell? ⟨w.heap.size, 4, none⟩ = some (.int .i64 a4) ∧ Z9.cell? ⟨w.heap.size, 5, none⟩ = some (.int .i64 a5) ∧ Z9.cell? ⟨w.heap.size + 1, 0, none⟩ = some (.int .i64 b0) ∧ Z9.cell? ⟨w.heap.size + 1, 1, none⟩ = some (.int .i64 b1) ∧ Z9.cell? ⟨w.heap.size + 1, 2, none⟩ = some (.int .i64 b2) ∧ Z9.cell? ⟨w.heap.size + 1, 3, none⟩ = some (.int .i64 b3) ∧ Z9.cell? ⟨w.heap.size + 1, 4, none⟩ = some (.int .i64 b4) ∧ Z9.cell? ⟨w.heap.size + 1, 5, none⟩ = some (.int .i64 b5)) _ := ⟨hA9.cell 0, hA9.cell 1, hA9.cell 2, hA9.cell 3, hA9.cell 4, hA9.cell 5, hB9.cell 0, hB9.cell 1, hB9.cell 2, hB9.cell 3, hB9.cell 4, hB9.cell 5⟩
          refine hK9.out _ _ hS9 (fun _ => ?_)
          clear hK9 K9 hS9 hA9 hB9
          try simp only [Act.put, List.setIfInBounds_toArray, List.set_cons_zero, List.set_cons_succ]
          refine wpAnyH_ready (rs := [4]) (by kernel_rfl) (by simp) (consL rfl (fun K9 hK9 => ?_) (AllReadyH.nil))
          go_simp
          obtain ⟨Z4, hZ49⟩ : ∃ Z4, Z4 = Z3.alloc (.cells #[.int .i64 0, .int .i64 0, .int .i64 0, .int .i64 0, .int .i64 0, .int .i64 0] 63) := ⟨_, rfl⟩
          have Bd : BoxAt Z4 Z3.heap.size #[.int .i64 0, .int .i64 0, .int .i64 0, .int .i64 0, .int .i64 0, .int .i64 0] 63 := by rw [hZ49]; exact BoxAt.new _ _ _
          have hZ4 : Below W0.heap.size W0 Z4 := by rw [hZ49]; exact hZ3.alloc hZ3.size _
          have ned : e ≠ Z3.heap.size := Nat.ne_of_lt Be.lt
          have Be : BoxAt Z4 e #[.int .i64 0, .int .i64 0, .int .i64 0, .int .i64 0, .int .i64 0, .int .i64 0] 63 := by rw [hZ49]; exact Be.alloc _
          first | rw [← hZ49] | trace_state
          have ld : W0.heap.size ≤ Z3.heap.size := hZ3.size
          obtain ⟨d, hd9⟩ : ∃ d, d = Z3.heap.size := ⟨_, rfl⟩
          rw [← hd9] at Bd ld ned ⊢
          clear hd9 hZ49
          have hA9 := IBoxBelow bA hZ4 hlA
          have hB9 := IBoxBelow bB hZ4 hlB
          have hS9 : (fun Z9 : World => Z9.cell? ⟨w.heap.size, 0, none⟩ = some (.int .i64 a0) ∧ Z9.cell? ⟨w.heap.size, 1, none⟩ = some (.int .i64 a1) ∧ Z9.cell? ⟨w.heap.size, 2, none⟩ = some (.int .i64 a2) ∧ Z9.cell? ⟨w.heap.size, 3, none⟩ = some (.int .i64 a3) ∧ Z9.cell? ⟨w.heap.size, 4, none⟩ = some (.int .i64 a4) ∧ Z9.cell? ⟨w.heap.size, 5, none⟩ = some (.int .i64 a5) ∧ Z9.cell? ⟨w.heap.size + 1, 0, none⟩ = some (.int .i64 b0) ∧ Z9.cell? ⟨w.heap.size + 1, 1, none⟩ = some (.int .i64 b1) ∧ Z9.cell? ⟨w.heap.size + 1, 2, none⟩ = some (.int .i64 b2) ∧ Z9.cell? ⟨w.heap.size + 1, 3, none⟩ = some (.int .i64 b3) ∧ Z9.cell? ⟨w.heap.size + 1, 4, none⟩ = some (.int .i64 b4) ∧ Z9.cell? ⟨w.heap.size + 1, 5, none⟩ = some (.int .i64 b5)) _ := ⟨hA9.cell 0, hA9.cell 1, hA9.cell 2, hA9.cell 3, hA9.cell 4, hA9.cell 5, hB9.cell 0, hB9.cell 1, hB9.cell 2, hB9.cell 3, hB9.cell 4, hB9.cell 5⟩
          refine hK9.out _ _ hS9 (fun _ => ?_)
          clear hK9 K9 hS9 hA9 hB9
          try simp only [Act.put, List.setIfInBounds_toArray, List.set_cons_zero, List.set_cons_succ]
          have nde : d ≠ e := (by first | exact nee | exact fun h => nee h | exact fun h => ned h.symm)
          have q00 : Z4.cell? ⟨d, 0, none⟩ = some (.int .i64 0) := Bd.cell 0
          have q01 : Z4.cell? ⟨d, 1, none⟩ = some (.int .i64 0) := Bd.cell 1
          have q02 : Z4.cell? ⟨d, 2, none⟩ = some (.int .i64 0) := Bd.cell 2
          have q03 : Z4.cell? ⟨d, 3, none⟩ = some (.int .i64 0) := Bd.cell 3
          have q04 : Z4.cell? ⟨d, 4, none⟩ = some (.int .i64 0) := Bd.cell 4
          have q05 : Z4.cell? ⟨d, 5, none⟩ = some (.int .i64 0) := Bd.cell 5
          have z00 : Z4.frozen? ⟨d, 0, none⟩ = false := Bd.free 0
          have z01 : Z4.frozen? ⟨d, 1, none⟩ = false := Bd.free 1
          have z02 : Z4.frozen? ⟨d, 2, none⟩ = false := Bd.free 2
          have z03 : Z4.frozen? ⟨d, 3, none⟩ = false := Bd.free 3
          have z04 : Z4.frozen? ⟨d, 4, none⟩ = false := Bd.free 4
          have z05 : Z4.frozen? ⟨d, 5, none⟩ = false := Bd.free 5
          refine wpAnyH_ready (rs := [6]) (by kernel_rfl) (by simp) (consL rfl (fun K9 hK9 => ?_) AllReadyH.nil)
          go_simp
          obtain ⟨Z5, hZ59⟩ : ∃ Z5, Z5 = ((((((Z4.setCell ⟨d, 0, none⟩ (.int .i64 a0)).setCell ⟨d, 1, none⟩ (.int .i64 a1)).setCell ⟨d, 2, none⟩ (.int .i64 a2)).setCell ⟨d, 3, none⟩ (.int .i64 a3)).setCell ⟨d, 4, none⟩ (.int .i64 a4)).setCell ⟨d, 5, none⟩ (.int .i64 a5)) := ⟨_, rfl⟩
          have Bd1 : BoxAt Z5 d #[.int .i64 a0, .int .i64 a1, .int .i64 a2, .int .i64 a3, .int .i64 a4, .int .i64 a5] 63 := by rw [hZ59]; exact (((((Bd.set 0 _).set 1 _).set 2 _).set 3 _).set 4 _).set 5 _
          have Be1 : BoxAt Z5 e #[.int .i64 0, .int .i64 0, .int .i64 0, .int .i64 0, .int .i64 0, .int .i64 0] 63 := by rw [hZ59]; exact (((((Be.set_other nde.symm _).set_other nde.symm _).set_other nde.symm _).set_other nde.symm _).set_other nde.symm _).set_other nde.symm _
          have hZ5 : Below W0.heap.size W0 Z5 := by rw [hZ59]; exact (((((hZ4.setCell (p := ⟨d, 0, none⟩) ld _).setCell (p := ⟨d, 1, none⟩) ld _).setCell (p := ⟨d, 2, none⟩) ld _).setCell (p := ⟨d, 3, none⟩) ld _).setCell (p := ⟨d, 4, none⟩) ld _).setCell (p := ⟨d, 5, none⟩) ld _
          rw [← hZ59]
          clear hZ59 q00 z00 q01 z01 q02 z02 q03 z03 q04 z04 q05 z05
          have hA9 := IBoxBelow bA hZ5 hlA
          have hB9 := IBoxBelow bB hZ5 hlB
          have hS9 : (fun Z9 : World => Z9.cell? ⟨w.heap.size, 0, none⟩ = some (.int .i64 a0) ∧ Z9.cell? ⟨w.heap.size, 1, none⟩ = some (.int .i64 a1) ∧ Z9.cell? ⟨w.heap.size, 2, none⟩ = some (.int .i64 a2) ∧ Z9.cell? ⟨w.heap.size, 3, none⟩ = some (.int .i64 a3) ∧ Z9.cell? ⟨w.heap.size, 4, none⟩ = some (.int .i64 a4) ∧ Z9.cell? ⟨w.heap.size, 5, none⟩ = some (.int .i64 a5) ∧ Z9.cell? ⟨w.heap.size + 1, 0, none⟩ = some (.int .i64 b0) ∧ Z9.cell? ⟨w.heap.size + 1, 1, none⟩ = some (.int .i64 b1) ∧ Z9.cell? ⟨w.heap.size + 1, 2, none⟩ = some (.int .i64 b2) ∧ Z9.cell? ⟨w.heap.size + 1, 3, none⟩ = some (.int .i64 b3) ∧ Z9.cell? ⟨w.heap.size + 1, 4, none⟩ = some (.int .i64 b4) ∧ Z9.cell? ⟨w.heap.size + 1, 5, none⟩ = some (.int .i64 b5)) _ := ⟨hA9.cell 0, hA9.cell 1, hA9.cell 2, hA9.cell 3, hA9.cell 4, hA9.cell 5, hB9.cell 0, hB9.cell 1, hB9.cell 2, hB9.cell 3, hB9.cell 4, hB9.cell 5⟩
          refine hK9.out _ _ hS9 (fun _ => ?_)
          clear hK9 K9 hS9 hA9 hB9
          try simp only [Act.put, List.setIfInBounds_toArray, List.set_cons_zero, List.set_cons_succ]
          have q00 : Z5.cell? ⟨e, 0, none⟩ = some (.int .i64 0) := Be1.cell 0
          have q01 : Z5.cell? ⟨e, 1, none⟩ = some (.int .i64 0) := Be1.cell 1
          have q02 : Z5.cell? ⟨e, 2, none⟩ = some (.int .i64 0) := Be1.cell 2
          have q03 : Z5.cell? ⟨e, 3, none⟩ = some (.int .i64 0) := Be1.cell 3
          have q04 : Z5.cell? ⟨e, 4, none⟩ = some (.int .i64 0) := Be1.cell 4
          have q05 : Z5.cell? ⟨e, 5, none⟩ = some (.int .i64 0) := Be1.cell 5
          have z00 : Z5.frozen? ⟨e, 0, none⟩ = false := Be1.free 0
          have z01 : Z5.frozen? ⟨e, 1, none⟩ = false := Be1.free 1
          have z02 : Z5.frozen? ⟨e, 2, none⟩ = false := Be1.free 2
          have z03 : Z5.frozen? ⟨e, 3, none⟩ = false := Be1.free 3
          have z04 : Z5.frozen? ⟨e, 4, none⟩ = false := Be1.free 4
          have z05 : Z5.frozen? ⟨e, 5, none⟩ = false := Be1.free 5
          refine wpAnyH_ready (rs := [7]) (by kernel_rfl) (by simp) (consL rfl (fun K9 hK9 => ?_) AllReadyH.nil)
          go_simp
          obtain ⟨Z6, hZ69⟩ : ∃ Z6, Z6 = ((((((Z5.setCell ⟨e, 0, none⟩ (.int .i64 b0)).setCell ⟨e, 1, none⟩ (.int .i64 b1)).setCell ⟨e, 2, none⟩ (.int .i64 b2)).setCell ⟨e, 3, none⟩ (.int .i64 b3)).setCell ⟨e, 4, none⟩ (.int .i64 b4)).setCell ⟨e, 5, none⟩ (.int .i64 b5)) := ⟨_, rfl⟩
          have Bd2 : BoxAt Z6 d #[.int .i64 a0, .int .i64 a1, .int .i64 a2, .int .i64 a3, .int .i64 a4, .int .i64 a5] 63 := by rw [hZ69]; exact (((((Bd1.set_other nde _).set_other nde _).set_other nde _).set_other nde _).set_other nde _).set_other nde _
          have Be2 : BoxAt Z6 e #[.int .i64 b0, .int .i64 b1, .int .i64 b2, .int .i64 b3, .int .i64 b4, .int .i64 b5] 63 := by rw [hZ69]; exact (((((Be1.set 0 _).set 1 _).set 2 _).set 3 _).set 4 _).set 5 _
          have hZ6 : Below W0.heap.size W0 Z6 := by rw [hZ69]; exact (((((hZ5.setCell (p := ⟨e, 0, none⟩) le _).setCell (p := ⟨e, 1, none⟩) le _).setCell (p := ⟨e, 2, none⟩) le _).setCell (p := ⟨e, 3, none⟩) le _).setCell (p := ⟨e, 4, none⟩) le _).setCell (p := ⟨e, 5, none⟩) le _
          rw [← hZ69]
          clear hZ69 q00 z00 q01 z01 q02 z02 q03 z03 q04 z04 q05 z05
          have hA9 := IBoxBelow bA hZ6 hlA
          have hB9 := IBoxBelow bB hZ6 hlB
          have hS9 : (fun Z9 : World => Z9.cell? ⟨w.heap.size, 0, none⟩ = some (.int .i64 a0) ∧ Z9.cell? ⟨w.heap.size, 1, none⟩ = some (.int .i64 a1) ∧ Z9.cell? ⟨w.heap.size, 2, none⟩ = some (.int .i64 a2) ∧ Z9.cell? ⟨w.heap.size, 3, none⟩ = some (.int .i64 a3) ∧ Z9.cell? ⟨w.heap.size, 4, none⟩ = some (.int .i64 a4) ∧ Z9.cell? ⟨w.heap.size, 5, none⟩ = some (.int .i64 a5) ∧ Z9.cell? ⟨w.heap.size + 1, 0, none⟩ = some (.int .i64 b0) ∧ Z9.cell? ⟨w.heap.size + 1, 1, none⟩ = some (.int .i64 b1) ∧ Z9.cell? ⟨w.heap.size + 1, 2, none⟩ = some (.int .i64 b2) ∧ Z9.cell? ⟨w.heap.size + 1, 3, none⟩ = some (.int .i64 b3) ∧ Z9.cell? ⟨w.heap.size + 1, 4, none⟩ = some (.int .i64 b4) ∧ Z9.cell? ⟨w.heap.size + 1, 5, none⟩ = some (.int .i64 b5)) _ := ⟨hA9.cell 0, hA9.cell 1, hA9.cell 2, hA9.cell 3, hA9.cell 4, hA9.cell 5, hB9.cell 0, hB9.cell 1, hB9.cell 2, hB9.cell 3, hB9.cell 4, hB9.cell 5⟩
          refine hK9.out _ _ hS9 (fun _ => ?_)
          clear hK9 K9 hS9 hA9 hB9
          try simp only [Act.put, List.setIfInBounds_toArray, List.set_cons_zero, List.set_cons_succ]
          refine wpAnyH_done (by kernel_rfl) ?_ _
          exact ⟨d, e, rfl, Bd2, Be2, IBoxBelow bC hZ6 bC.lt, IBoxBelow bO hZ6 bO.lt, nde, ld, le, hZ6⟩
        · go_simp
          obtain ⟨Z3, hZ39⟩ : ∃ Z3, Z3 = Z2.alloc (.cells #[.int .i64 0, .int .i64 0, .int .i64 0, .int .i64 0, .int .i64 0, .int .i64 0] 63) := ⟨_, rfl⟩
          have Bd : BoxAt Z3 Z2.heap.size #[.int .i64 0, .int .i64 0, .int .i64 0, .int .i64 0, .int .i64 0, .int .i64 0] 63 := by rw [hZ39]; exact BoxAt.new _ _ _
          have hZ3 : Below W0.heap.size W0 Z3 := by rw [hZ39]; exact hZ2.alloc hZ2.size _
          have ned : e ≠ Z2.heap.size := Nat.ne_of_lt Be.lt
          have Be : BoxAt Z3 e #[.int .i64 0, .int .i64 0, .int .i64 0, .int .i64 0, .int .i64 0, .int .i64 0] 63 := by rw [hZ39]; exact Be.alloc _
          first | rw [← hZ39] | trace_state
          have ld : W0.heap.size ≤ Z2.heap.size := hZ2.size
          obtain ⟨d, hd9⟩ : ∃ d, d = Z2.heap.size := ⟨_, rfl⟩
          rw [← hd9] at Bd ld ned ⊢
          clear hd9 hZ39
          have hA9 := IBoxBelow bA hZ3 hlA
          have hB9 := IBoxBelow bB hZ3 hlB
          have hS9 : (fun Z9 : World => Z9.cell? ⟨w.heap.size, 0, none⟩ = some (.int .i64 a0) ∧ Z9.cell? ⟨w.heap.size, 1, none⟩ = some (.int .i64 a1) ∧ Z9.cell? ⟨w.heap.size, 2, none⟩ = some (.int .i64 a2) ∧ Z9.cell? ⟨w.heap.size, 3, none⟩ = some (.int .i64 a3) ∧ Z9.cell? ⟨w.heap.size, 4, none⟩ = some (.int .i64 a4) ∧ Z9.cell? ⟨w.heap.size, 5, none⟩ = some (.int .i64 a5) ∧ Z9.cell? ⟨w.heap.size + 1, 0, none⟩ = some (.int .i64 b0) ∧ Z9.cell? ⟨w.heap.size + 1, 1, none⟩ = some (.int .i64 b1) ∧ Z9.cell? ⟨w.heap.size + 1, 2, none⟩ = some (.int .i64 b2) ∧ Z9.cell? ⟨w.heap.size + 1, 3, none⟩ = some (.int .i64 b3) ∧ Z9.cell? ⟨w.heap.size + 1, 4, none⟩ = some (.int .i64 b4) ∧ Z9.cell? ⟨w.heap.size + 1, 5, none⟩ = some (.int .i64 b5)) _ := ⟨hA9.cell 0, hA9.cell 1, hA9.cell 2, hA9.cell 3, hA9.cell 4, hA9.cell 5, hB9.cell 0, hB9.cell 1, hB9.cell 2, hB9.cell 3, hB9.cell 4, hB9.cell 5⟩
          refine hK9.out _ _ hS9 (fun _ => ?_)
          clear hK9 K9 hS9 hA9 hB9
          try simp only [Act.put, List.setIfInBounds_toArray, List.set_cons_zero, List.set_cons_succ]
          refine wpAnyH_ready (rs := [3]) (by kernel_rfl) (by simp) (consL rfl (fun K9 hK9 => ?_) (AllReadyH.nil))
          go_simp
          refine (HEb.out _).mono ?_
          rintro e Z4 ⟨rfl, hv9⟩
          have hZ4 := hZ3.trans (hv9.mono hZ3.size)
          have Bd := Bd.below hv9
          have Be := Be.below hv9
          clear hv9
          have hA9 := IBoxBelow bA hZ4 hlA
          have hB9 := IBoxBelow bB hZ4 hlB
          have hS9 : (fun Z9 : World => Z9.cell? ⟨w.heap.size, 0, none⟩ = some (.int .i64 a0) ∧ Z9.cell? ⟨w.heap.size, 1, none⟩ = some (.int .i64 a1) ∧ Z9.cell? ⟨w.heap.size, 2, none⟩ = some (.int .i64 a2) ∧ Z9.cell? ⟨w.heap.size, 3, none⟩ = some (.int .i64 a3) ∧ Z9.cell? ⟨w.heap.size, 4, none⟩ = some (.int .i64 a4) ∧ Z9.cell? ⟨w.heap.size, 5, none⟩ = some (.int .i64 a5) ∧ Z9.cell? ⟨w.heap.size + 1, 0, none⟩ = some (.int .i64 b0) ∧ Z9.cell? ⟨w.heap.size + 1, 1, none⟩ = some (.int .i64 b1) ∧ Z9.cell? ⟨w.heap.size + 1, 2, none⟩ = some (.int .i64 b2) ∧ Z9.cell? ⟨w.heap.size + 1, 3, none⟩ = some (.int .i64 b3) ∧ Z9.cell? ⟨w.heap.size + 1, 4, none⟩ = some (.int .i64 b4) ∧ Z9.cell? ⟨w.heap.size + 1, 5, none⟩ = some (.int .i64 b5)) _ := ⟨hA9.cell 0, hA9.cell 1, hA9.cell 2, hA9.cell 3, hA9.cell 4, hA9.cell 5, hB9.cell 0, hB9.cell 1, hB9.cell 2, hB9.cell 3, hB9.cell 4, hB9.cell 5⟩
          refine hK9.out _ _ hS9 (fun _ => ?_)
          clear hK9 K9 hS9 hA9 hB9
          try simp only [Act.put, List.setIfInBounds_toArray, List.set_cons_zero, List.set_cons_succ]
          have nde : d ≠ e := (by first | exact nee | exact fun h => nee h | exact fun h => ned h.symm)
          have q00 : Z4.cell? ⟨d, 0, none⟩ = some (.int .i64 0) := Bd.cell 0
          have q01 : Z4.cell? ⟨d, 1, none⟩ = some (.int .i64 0) := Bd.cell 1
          have q02 : Z4.cell? ⟨d, 2, none⟩ = some (.int .i64 0) := Bd.cell 2
          have q03 : Z4.cell? ⟨d, 3, none⟩ = some (.int .i64 0) := Bd.cell 3
          have q04 : Z4.cell? ⟨d, 4, none⟩ = some (.int .i64 0) := Bd.cell 4
          have q05 : Z4.cell? ⟨d, 5, none⟩ = some (.int .i64 0) := Bd.cell 5
          have z00 : Z4.frozen? ⟨d, 0, none⟩ = false := Bd.free 0
          have z01 : Z4.frozen? ⟨d, 1, none⟩ = false := Bd.free 1
          have z02 : Z4.frozen? ⟨d, 2, none⟩ = false := Bd.free 2
          have z03 : Z4.frozen? ⟨d, 3, none⟩ = false := Bd.free 3
          have z04 : Z4.frozen? ⟨d, 4, none⟩ = false := Bd.free 4
          have z05 : Z4.frozen? ⟨d, 5, none⟩ = false := Bd.free 5
          refine wpAnyH_ready (rs := [6]) (by kernel_rfl) (by simp) (consL rfl (fun K9 hK9 => ?_) AllReadyH.nil)
          go_simp
          obtain ⟨Z5, hZ59⟩ : ∃ Z5, Z5 = ((((((Z4.setCell ⟨d, 0, none⟩ (.int .i64 a0)).setCell ⟨d, 1, none⟩ (.int .i64 a1)).setCell ⟨d, 2, none⟩ (.int .i64 a2)).setCell ⟨d, 3, none⟩ (.int .i64 a3)).setCell ⟨d, 4, none⟩ (.int .i64 a4)).setCell ⟨d, 5, none⟩ (.int .i64 a5)) := ⟨_, rfl⟩
          have Bd1 : BoxAt Z5 d #[.int .i64 a0, .int .i64 a1, .int .i64 a2, .int .i64 a3, .int .i64 a4, .int .i64 a5] 63 := by rw [hZ59]; exact (((((Bd.set 0 _).set 1 _).set 2 _).set 3 _).set 4 _).set 5 _
          have Be1 : BoxAt Z5 e #[.int .i64 0, .int .i64 0, .int .i64 0, .int .i64 0, .int .i64 0, .int .i64 0] 63 := by rw [hZ59]; exact (((((Be.set_other nde.symm _).set_other nde.symm _).set_other nde.symm _).set_other nde.symm _).set_other nde.symm _).set_other nde.symm _
          have hZ5 : Below W0.heap.size W0 Z5 := by rw [hZ59]; exact (((((hZ4.setCell (p := ⟨d, 0, none⟩) ld _).setCell (p := ⟨d, 1, none⟩) ld _).setCell (p := ⟨d, 2, none⟩) ld _).setCell (p := ⟨d, 3, none⟩) ld _).setCell (p := ⟨d, 4, none⟩) ld _).setCell (p := ⟨d, 5, none⟩) ld _
          rw [← hZ59]
          clear hZ59 q00 z00 q01 z01 q02 z02 q03 z03 q04 z04 q05 z05
          have hA9 := IBoxBelow bA hZ5 hlA
          have hB9 := IBoxBelow bB hZ5 hlB
          have hS9 : (fun Z9 : World => Z9.cell? ⟨w.heap.size, 0, none⟩ = some (.int .i64 a0) ∧ Z9.cell? ⟨w.heap.size, 1, none⟩ = some (.int .i64 a1) ∧ Z9.cell? ⟨w.heap.size, 2, none⟩ = some (.int .i64 a2) ∧ Z9.cell? ⟨w.heap.size, 3, none⟩ = some (.int .i64 a3) ∧ Z9.cell? ⟨w.heap.size, 4, none⟩ = some (.int .i64 a4) ∧ Z9.cell? ⟨w.heap.size, 5, none⟩ = some (.int .i64 a5) ∧ Z9.cell? ⟨w.heap.size + 1, 0, none⟩ = some (.int .i64 b0) ∧ Z9.cell? ⟨w.heap.size + 1, 1, none⟩ = some (.int .i64 b1) ∧ Z9.cell? ⟨w.heap.size + 1, 2, none⟩ = some (.int .i64 b2) ∧ Z9.cell? ⟨w.heap.size + 1, 3, none⟩ = some (.int .i64 b3) ∧ Z9.cell? ⟨w.heap.size + 1, 4, none⟩ = some (.int .i64 b4) ∧ Z9.cell? ⟨w.heap.size + 1, 5, none⟩ = some (.int .i64 b5)) _ := ⟨hA9.cell 0, hA9.cell 1, hA9.cell 2, hA9.cell 3, hA9.cell 4, hA9.cell 5, hB9.cell 0, hB9.cell 1, hB9.cell 2, hB9.cell 3, hB9.cell 4, hB9.cell 5⟩
          refine hK9.out _ _ hS9 (fun _ => ?_)
          clear hK9 K9 hS9 hA9 hB9
          try simp only [Act.put, List.setIfInBounds_toArray, List.set_cons_zero, List.set_cons_succ]
          have q00 : Z5.cell? ⟨e, 0, none⟩ = some (.int .i64 0) := Be1.cell 0
          have q01 : Z5.cell? ⟨e, 1, none⟩ = some (.int .i64 0) := Be1.cell 1
          have q02 : Z5.cell? ⟨e, 2, none⟩ = some (.int .i64 0) := Be1.cell 2
          have q03 : Z5.cell? ⟨e, 3, none⟩ = some (.int .i64 0) := Be1.cell 3
          have q04 : Z5.cell? ⟨e, 4, none⟩ = some (.int .i64 0) := Be1.cell 4
          have q05 : Z5.cell? ⟨e, 5, none⟩ = some (.int .i64 0) := Be1.cell 5
          have z00 : Z5.frozen? ⟨e, 0, none⟩ = false := Be1.free 0
          have z01 : Z5.frozen? ⟨e, 1, none⟩ = false := Be1.free 1
          have z02 : Z5.frozen? ⟨e, 2, none⟩ = false := Be1.free 2
          have z03 : Z5.frozen? ⟨e, 3, none⟩ = false := Be1.free 3
          have z04 : Z5.frozen? ⟨e, 4, none⟩ = false := Be1.free 4
          have z05 : Z5.frozen? ⟨e, 5, none⟩ = false := Be1.free 5
          refine wpAnyH_ready (rs := [7]) (by kernel_rfl) (by simp) (consL rfl (fun K9 hK9 => ?_) AllReadyH.nil)
          go_simp
          obtain ⟨Z6, hZ69⟩ : ∃ Z6, Z6 = ((((((Z5.setCell ⟨e, 0, none⟩ (.int .i64 b0)).setCell ⟨e, 1, none⟩ (.int .i64 b1)).setCell ⟨e, 2, none⟩ (.int .i64 b2)).setCell ⟨e, 3, none⟩ (.int .i64 b3)).setCell ⟨e, 4, none⟩ (.int .i64 b4)).setCell ⟨e, 5, none⟩ (.int .i64 b5)) := ⟨_, rfl⟩
          have Bd2 : BoxAt Z6 d #[.int .i64 a0, .int .i64 a1, .int .i64 a2, .int .i64 a3, .int .i64 a4, .int .i64 a5] 63 := by rw [hZ69]; exact (((((Bd1.set_other nde _).set_other nde _).set_other nde _).set_other nde _).set_other nde _).set_other nde _
          have Be2 : BoxAt Z6 e #[.int .i64 b0, .int .i64 b1, .int .i64 b2, .int .i64 b3, .int .i64 b4, .int .i64 b5] 63 := by rw [hZ69]; exact (((((Be1.set 0 _).set 1 _).set 2 _).set 3 _).set 4 _).set 5 _
          have hZ6 : Below W0.heap.size W0 Z6 := by rw [hZ69]; exact (((((hZ5.setCell (p := ⟨e, 0, none⟩) le _).setCell (p := ⟨e, 1, none⟩) le _).setCell (p := ⟨e, 2, none⟩) le _).setCell (p := ⟨e, 3, none⟩) le _).setCell (p := ⟨e, 4, none⟩) le _).setCell (p := ⟨e, 5, none⟩) le _
          rw [← hZ69]
          clear hZ69 q00 z00 q01 z01 q02 z02 q03 z03 q04 z04 q05 z05
          have hA9 := IBoxBelow bA hZ6 hlA
          have hB9 := IBoxBelow bB hZ6 hlB
          have hS9 : (fun Z9 : World => Z9.cell? ⟨w.heap.size, 0, none⟩ = some (.int .i64 a0) ∧ Z9.cell? ⟨w.heap.size, 1, none⟩ = some (.int .i64 a1) ∧ Z9.cell? ⟨w.heap.size, 2, none⟩ = some (.int .i64 a2) ∧ Z9.cell? ⟨w.heap.size, 3, none⟩ = some (.int .i64 a3) ∧ Z9.cell? ⟨w.heap.size, 4, none⟩ = some (.int .i64 a4) ∧ Z9.cell? ⟨w.heap.size, 5, none⟩ = some (.int .i64 a5) ∧ Z9.cell? ⟨w.heap.size + 1, 0, none⟩ = some (.int .i64 b0) ∧ Z9.cell? ⟨w.heap.size + 1, 1, none⟩ = some (.int .i64 b1) ∧ Z9.cell? ⟨w.heap.size + 1, 2, none⟩ = some (.int .i64 b2) ∧ Z9.cell? ⟨w.heap.size + 1, 3, none⟩ = some (.int .i64 b3) ∧ Z9.cell? ⟨w.heap.size + 1, 4, none⟩ = some (.int .i64 b4) ∧ Z9.cell? ⟨w.heap.size + 1, 5, none⟩ = some (.int .i64 b5)) _ := ⟨hA9.cell 0, hA9.cell 1, hA9.cell 2, hA9.cell 3, hA9.cell 4, hA9.cell 5, hB9.cell 0, hB9.cell 1, hB9.cell 2, hB9.cell 3, hB9.cell 4, hB9.cell 5⟩
          refine hK9.out _ _ hS9 (fun _ => ?_)
          clear hK9 K9 hS9 hA9 hB9
          try simp only [Act.put, List.setIfInBounds_toArray, List.set_cons_zero, List.set_cons_succ]
          refine wpAnyH_done (by kernel_rfl) ?_ _
          exact ⟨d, e, rfl, Bd2, Be2, IBoxBelow bC hZ6 bC.lt, IBoxBelow bO hZ6 bO.lt, nde, ld, le, hZ6⟩
    · go_simp
      obtain ⟨Z1, hZ19⟩ : ∃ Z1, Z1 = Z0.alloc (.cells #[.int .i64 0, .int .i64 0, .int .i64 0, .int .i64 0, .int .i64 0, .int .i64 0] 63) := ⟨_, rfl⟩
      have Bd : BoxAt Z1 Z0.heap.size #[.int .i64 0, .int .i64 0, .int .i64 0, .int .i64 0, .int .i64 0, .int .i64 0] 63 := by rw [hZ19]; exact BoxAt.new _ _ _
      have hZ1 : Below W0.heap.size W0 Z1 := by rw [hZ19]; exact hZ0.alloc hZ0.size _
      first | rw [← hZ19] | trace_state
      have ld : W0.heap.size ≤ Z0.heap.size := hZ0.size
      obtain ⟨d, hd9⟩ : ∃ d, d = Z0.heap.size := ⟨_, rfl⟩
      rw [← hd9] at Bd ld ⊢
      clear hd9 hZ19
      have hA9 := IBoxBelow bA hZ1 hlA
      have hB9 := IBoxBelow bB hZ1 hlB
      have hS9 : (fun Z9 : World => Z9.cell? ⟨w.heap.size, 0, none⟩ = some (.int .i64 a0) ∧ Z9.cell? ⟨w.heap.size, 1, none⟩ = some (.int .i64 a1) ∧ Z9.cell? ⟨w.heap.size, 2, none⟩ = some (.int .i64 a2) ∧ Z9.cell? ⟨w.heap.size, 3, none⟩ = some (.int .i64 a3) ∧ Z9.cell? ⟨w.heap.size, 4, none⟩ = some (.int .i64 a4) ∧ Z9.cell? ⟨w.heap.size, 5, none⟩ = some (.int .i64 a5) ∧ Z9.cell? ⟨w.heap.size + 1, 0, none⟩ = some (.int .i64 b0) ∧ Z9.cell? ⟨w.heap.size + 1, 1, none⟩ = some (.int .i64 b1) ∧ Z9.cell? ⟨w.heap.size + 1, 2, none⟩ = some (.int .i64 b2) ∧ Z9.cell? ⟨w.heap.size + 1, 3, none⟩ = some (.int .i64 b3) ∧ Z9.cell? ⟨w.heap.size + 1, 4, none⟩ = some (.int .i64 b4) ∧ Z9.cell? ⟨w.heap.size + 1, 5, none⟩ = some (.int .i64 b5)) _ := ⟨hA9.cell 0, hA9.cell 1, hA9.cell 2, hA9.cell 3, hA9.cell 4, hA9.cell 5, hB9.cell 0, hB9.cell 1, hB9.cell 2, hB9.cell 3, hB9.cell 4, hB9.cell 5⟩
      refine hK9.out _ _ hS9 (fun _ => ?_)
      clear hK9 K9 hS9 hA9 hB9
      try simp only [Act.put, List.setIfInBounds_toArray, List.set_cons_zero, List.set_cons_succ]
      refine wpAnyH_ready (rs := [1, 5]) (by kernel_rfl) (by simp) (consL rfl (fun K9 hK9 => ?_) (consL rfl (fun K9 hK9 => ?_) (AllReadyH.nil)))
      · go_simp
        refine (HEa.out _).mono ?_
        rintro e Z2 ⟨rfl, hv9⟩
        have hZ2 := hZ1.trans (hv9.mono hZ1.size)
        have Bd := Bd.below hv9
        clear hv9
        have hA9 := IBoxBelow bA hZ2 hlA
        have hB9 := IBoxBelow bB hZ2 hlB
        have hS9 : (fun Z9 : World => Z9.cell? ⟨w.heap.size, 0, none⟩ = some (.int .i64 a0) ∧ Z9.cell? ⟨w.heap.size, 1, none⟩ = some (.int .i64 a1) ∧ Z9.cell? ⟨w.heap.size, 2, none⟩ = some (.int .i64 a2) ∧ Z9.cell? ⟨w.heap.size, 3, none⟩ = some (.int .i64 a3) ∧ Z9.cell? ⟨w.heap.size, 4, none⟩ = some (.int .i64 a4) ∧ Z9.cell? ⟨w.heap.size, 5, none⟩ = some (.int .i64 a5) ∧ Z9.cell? ⟨w.heap.size + 1, 0, none⟩ = some (.int .i64 b0) ∧ Z9.cell? ⟨w.heap.size + 1, 1, none⟩ = some (.int .i64 b1) ∧ Z9.cell? ⟨w.heap.size + 1, 2, none⟩ = some (.int .i64 b2) ∧ Z9.cell? ⟨w.heap.size + 1, 3, none⟩ = some (.int .i64 b3) ∧ Z9.cell? ⟨w.heap.size + 1, 4, none⟩ = some (.int .i64 b4) ∧ Z9.cell? ⟨w.heap.size + 1, 5, none⟩ = some (.int .i64 b5)) _ := ⟨hA9.cell 0, hA9.cell 1, hA9.cell 2, hA9.cell 3, hA9.cell 4, hA9.cell 5, hB9.cell 0, hB9.cell 1, hB9.cell 2, hB9.cell 3, hB9.cell 4, hB9.cell 5⟩
        refine hK9.out _ _ hS9 (fun _ => ?_)
        clear hK9 K9 hS9 hA9 hB9
        try simp only [Act.put, List.setIfInBounds_toArray, List.set_cons_zero, List.set_cons_succ]
        refine wpAnyH_ready (rs := [3, 5]) (by kernel_rfl) (by simp) (consL rfl (fun K9 hK9 => ?_) (consL rfl (fun K9 hK9 => ?_) (AllReadyH.nil)))
        · go_simp
          refine (HEb.out _).mono ?_
          rintro e Z3 ⟨rfl, hv9⟩
          have hZ3 := hZ2.trans (hv9.mono hZ2.size)
          have Bd := Bd.below hv9
          clear hv9
          have hA9 := IBoxBelow bA hZ3 hlA
          have hB9 := IBoxBelow bB hZ3 hlB
          have hS9 : (fun Z9 : World => Z9.cell? ⟨w.heap.size, 0, none⟩ = some (.int .i64 a0) ∧ Z9.cell? ⟨w.heap.size, 1, none⟩ = some (.int .i64 a1) ∧ Z9.cell? ⟨w.heap.size, 2, none⟩ = some (.int .i64 a2) ∧ Z9.cell? ⟨w.heap.size, 3, none⟩ = some (.int .i64 a3) ∧ Z9.cell? ⟨w.heap.size, 4, none⟩ = some (.int .i64 a4) ∧ Z9.cell? ⟨w.heap.size, 5, none⟩ = some (.int .i64 a5) ∧ Z9.cell? ⟨w.heap.size + 1, 0, none⟩ = some (.int .i64 b0) ∧ Z9.cell? ⟨w.heap.size + 1, 1, none⟩ = some (.int .i64 b1) ∧ Z9.cell? ⟨w.heap.size + 1, 2, none⟩ = some (.int .i64 b2) ∧ Z9.cell? ⟨w.heap.size + 1, 3, none⟩ = some (.int .i64 b3) ∧ Z9.cell? ⟨w.heap.size + 1, 4, none⟩ = some (.int .i64 b4) ∧ Z9.cell? ⟨w.heap.size + 1, 5, none⟩ = some (.int .i64 b5)) _ := ⟨hA9.cell 0, hA9.cell 1, hA9.cell 2, hA9.cell 3, hA9.cell 4, hA9.cell 5, hB9.cell 0, hB9.cell 1, hB9.cell 2, hB9.cell 3, hB9.cell 4, hB9.cell 5⟩
          refine hK9.out _ _ hS9 (fun _ => ?_)
          clear hK9 K9 hS9 hA9 hB9
          try simp only [Act.put, List.setIfInBounds_toArray, List.set_cons_zero, List.set_cons_succ]
          refine wpAnyH_ready (rs := [5]) (by kernel_rfl) (by simp) (consL rfl (fun K9 hK9 => ?_) (AllReadyH.nil))
          go_simp
          obtain ⟨Z4, hZ49⟩ : ∃ Z4, Z4 = Z3.alloc (.cells #[.int .i64 0, .int .i64 0, .int .i64 0, .int .i64 0, .int .i64 0, .int .i64 0] 63) := ⟨_, rfl⟩
          have Be : BoxAt Z4 Z3.heap.size #[.int .i64 0, .int .i64 0, .int .i64 0, .int .i64 0, .int .i64 0, .int .i64 0] 63 := by rw [hZ49]; exact BoxAt.new _ _ _
          have hZ4 : Below W0.heap.size W0 Z4 := by rw [hZ49]; exact hZ3.alloc hZ3.size _
          have nee : d ≠ Z3.heap.size := Nat.ne_of_lt Bd.lt
          have Bd : BoxAt Z4 d #[.int .i64 0, .int .i64 0, .int .i64 0, .int .i64 0, .int .i64 0, .int .i64 0] 63 := by rw [hZ49]; exact Bd.alloc _
          first | rw [← hZ49] | trace_state
          have le : W0.heap.size ≤ Z3.heap.size := hZ3.size
          obtain ⟨e, he9⟩ : ∃ e, e = Z3.heap.size := ⟨_, rfl⟩
          rw [← he9] at Be le nee ⊢
          clear he9 hZ49
          have hA9 := IBoxBelow bA hZ4 hlA
          have hB9 := IBoxBelow bB hZ4 hlB
          have hS9 : (fun Z9 : World => Z9.cell? ⟨w.heap.size, 0, none⟩ = some (.int .i64 a0) ∧ Z9.cell? ⟨w.heap.size, 1, none⟩ = some (.int .i64 a1) ∧ Z9.cell? ⟨w.heap.size, 2, none⟩ = some (.int .i64 a2) ∧ Z9.cell? ⟨w.heap.size, 3, none⟩ = some (.int .i64 a3) ∧ Z9.cell? ⟨w.heap.size, 4, none⟩ = some (.int .i64 a4) ∧ Z9.cell? ⟨w.heap.size, 5, none⟩ = some (.int .i64 a5) ∧ Z9.cell? ⟨w.heap.size + 1, 0, none⟩ = some (.int .i64 b0) ∧ Z9.cell? ⟨w.heap.size + 1, 1, none⟩ = some (.int .i64 b1) ∧ Z9.cell? ⟨w.heap.size + 1, 2, none⟩ = some (.int .i64 b2) ∧ Z9.cell? ⟨w.heap.size + 1, 3, none⟩ = some (.int .i64 b3) ∧ Z9.cell? ⟨w.heap.size + 1, 4, none⟩ = some (.int .i64 b4) ∧ Z9.cell? ⟨w.heap.size + 1, 5, none⟩ = some (.int .i64 b5)) _ := ⟨hA9.cell 0, hA9.cell 1, hA9.cell 2, hA9.cell 3, hA9.cell 4, hA9.cell 5, hB9.cell 0, hB9.cell 1, hB9.cell 2, hB9.cell 3, hB9.cell 4, hB9.cell 5⟩
          refine hK9.out _ _ hS9 (fun _ => ?_)
          clear hK9 K9 hS9 hA9 hB9
          try simp only [Act.put, List.setIfInBounds_toArray, List.set_cons_zero, List.set_cons_succ]
          have nde : d ≠ e := (by first | exact nee | exact fun h => nee h | exact fun h => ned h.symm)
          have q00 : Z4.cell? ⟨d, 0, none⟩ = some (.int .i64 0) := Bd.cell 0
          have q01 : Z4.cell? ⟨d, 1, none⟩ = some (.int .i64 0) := Bd.cell 1
          have q02 : Z4.cell? ⟨d, 2, none⟩ = some (.int .i64 0) := Bd.cell 2
          have q03 : Z4.cell? ⟨d, 3, none⟩ = some (.int .i64 0) := Bd.cell 3
          have q04 : Z4.cell? ⟨d, 4, none⟩ = some (.int .i64 0) := Bd.cell 4
          have q05 : Z4.cell? ⟨d, 5, none⟩ = some (.int .i64 0) := Bd.cell 5
          have z00 : Z4.frozen? ⟨d, 0, none⟩ = false := Bd.free 0
          have z01 : Z4.frozen? ⟨d, 1, none⟩ = false := Bd.free 1
          have z02 : Z4.frozen? ⟨d, 2, none⟩ = false := Bd.free 2
          have z03 : Z4.frozen? ⟨d, 3, none⟩ = false := Bd.free 3
          have z04 : Z4.frozen? ⟨d, 4, none⟩ = false := Bd.free 4
          have z05 : Z4.frozen? ⟨d, 5, none⟩ = false := Bd.free 5
          refine wpAnyH_ready (rs := [6]) (by kernel_rfl) (by simp) (consL rfl (fun K9 hK9 => ?_) AllReadyH.nil)
          go_simp
          obtain ⟨Z5, hZ59⟩ : ∃ Z5, Z5 = ((((((Z4.setCell ⟨d, 0, none⟩ (.int .i64 a0)).setCell ⟨d, 1, none⟩ (.int .i64 a1)).setCell ⟨d, 2, none⟩ (.int .i64 a2)).setCell ⟨d, 3, none⟩ (.int .i64 a3)).setCell ⟨d, 4, none⟩ (.int .i64 a4)).setCell ⟨d, 5, none⟩ (.int .i64 a5)) := ⟨_, rfl⟩
          have Bd1 : BoxAt Z5 d #[.int .i64 a0, .int .i64 a1, .int .i64 a2, .int .i64 a3, .int .i64 a4, .int .i64 a5] 63 := by rw [hZ59]; exact (((((Bd.set 0 _).set 1 _).set 2 _).set 3 _).set 4 _).set 5 _
          have Be1 : BoxAt Z5 e #[.int .i64 0, .int .i64 0, .int .i64 0, .int .i64 0, .int .i64 0, .int .i64 0] 63 := by rw [hZ59]; exact (((((Be.set_other nde.symm _).set_other nde.symm _).set_other nde.symm _).set_other nde.symm _).set_other nde.symm _).set_other nde.symm _
          have hZ5 : Below W0.heap.size W0 Z5 := by rw [hZ59]; exact (((((hZ4.setCell (p := ⟨d, 0, none⟩) ld _).setCell (p := ⟨d, 1, none⟩) ld _).setCell (p := ⟨d, 2, none⟩) ld _).setCell (p := ⟨d, 3, none⟩) ld _).setCell (p := ⟨d, 4, none⟩) ld _).setCell (p := ⟨d, 5, none⟩) ld _
          rw [← hZ59]
          clear hZ59 q00 z00 q01 z01 q02 z02 q03 z03 q04 z04 q05 z05
          have hA9 := IBoxBelow bA hZ5 hlA
          have hB9 := IBoxBelow bB hZ5 hlB
          have hS9 : (fun Z9 : World => Z9.cell? ⟨w.heap.size, 0, none⟩ = some (.int .i64 a0) ∧ Z9.cell? ⟨w.heap.size, 1, none⟩ = some (.int .i64 a1) ∧ Z9.cell? ⟨w.heap.size, 2, none⟩ = some (.int .i64 a2) ∧ Z9.cell? ⟨w.heap.size, 3, none⟩ = some (.int .i64 a3) ∧ Z9.cell? ⟨w.heap.size, 4, none⟩ = some (.int .i64 a4) ∧ Z9.cell? ⟨w.heap.size, 5, none⟩ = some (.int .i64 a5) ∧ Z9.cell? ⟨w.heap.size + 1, 0, none⟩ = some (.int .i64 b0) ∧ Z9.cell? ⟨w.heap.size + 1, 1, none⟩ = some (.int .i64 b1) ∧ Z9.cell? ⟨w.heap.size + 1, 2, none⟩ = some (.int .i64 b2) ∧ Z9.cell? ⟨w.heap.size + 1, 3, none⟩ = some (.int .i64 b3) ∧ Z9.cell? ⟨w.heap.size + 1, 4, none⟩ = some (.int .i64 b4) ∧ Z9.cell? ⟨w.heap.size + 1, 5, none⟩ = some (.int .i64 b5)) _ := ⟨hA9.cell 0, hA9.cell 1, hA9.cell 2, hA9.cell 3, hA9.cell 4, hA9.cell 5, hB9.cell 0, hB9.cell 1, hB9.cell 2, hB9.cell 3, hB9.cell 4, hB9.cell 5⟩
          refine hK9.out _ _ hS9 (fun _ => ?_)
          clear hK9 K9 hS9 hA9 hB9
          try simp only [Act.put, List.setIfInBounds_toArray, List.set_cons_zero, List.set_cons_succ]
          have q00 : Z5.cell? ⟨e, 0, none⟩ = some (.int .i64 0) := Be1.cell 0
          have q01 : Z5.cell? ⟨e, 1, none⟩ = some (.int .i64 0) := Be1.cell 1
          have q02 : Z5.cell? ⟨e, 2, none⟩ = some (.int .i64 0) := Be1.cell 2
          have q03 : Z5.cell? ⟨e, 3, none⟩ = some (.int .i64 0) := Be1.cell 3
          have q04 : Z5.cell? ⟨e, 4, none⟩ = some (.int .i64 0) := Be1.cell 4
          have q05 : Z5.cell? ⟨e, 5, none⟩ = some (.int .i64 0) := Be1.cell 5
          have z00 : Z5.frozen? ⟨e, 0, none⟩ = false := Be1.free 0
          have z01 : Z5.frozen? ⟨e, 1, none⟩ = false := Be1.free 1
          have z02 : Z5.frozen? ⟨e, 2, none⟩ = false := Be1.free 2
          have z03 : Z5.frozen? ⟨e, 3, none⟩ = false := Be1.free 3
          have z04 : Z5.frozen? ⟨e, 4, none⟩ = false := Be1.free 4
          have z05 : Z5.frozen? ⟨e, 5, none⟩ = false := Be1.free 5
          refine wpAnyH_ready (rs := [7]) (by kernel_rfl) (by simp) (consL rfl (fun K9 hK9 => ?_) AllReadyH.nil)
          go_simp
          obtain ⟨Z6, hZ69⟩ : ∃ Z6, Z6 = ((((((Z5.setCell ⟨e, 0, none⟩ (.int .i64 b0)).setCell ⟨e, 1, none⟩ (.int .i64 b1)).setCell ⟨e, 2, none⟩ (.int .i64 b2)).setCell ⟨e, 3, none⟩ (.int .i64 b3)).setCell ⟨e, 4, none⟩ (.int .i64 b4)).setCell ⟨e, 5, none⟩ (.int .i64 b5)) := ⟨_, rfl⟩
          have Bd2 : BoxAt Z6 d #[.int .i64 a0, .int .i64 a1, .int .i64 a2, .int .i64 a3, .int .i64 a4, .int .i64 a5] 63 := by rw [hZ69]; exact (((((Bd1.set_other nde _).set_other nde _).set_other nde _).set_other nde _).set_other nde _).set_other nde _
          have Be2 : BoxAt Z6 e #[.int .i64 b0, .int .i64 b1, .int .i64 b2, .int .i64 b3, .int .i64 b4, .int .i64 b5] 63 := by rw [hZ69]; exact (((((Be1.set 0 _).set 1 _).set 2 _).set 3 _).set 4 _).set 5 _
          have hZ6 : Below W0.heap.size W0 Z6 := by rw [hZ69]; exact (((((hZ5.setCell (p := ⟨e, 0, none⟩) le _).setCell (p := ⟨e, 1, none⟩) le _).setCell (p := ⟨e, 2, none⟩) le _).setCell (p := ⟨e, 3, none⟩) le _).setCell (p := ⟨e, 4, none⟩) le _).setCell (p := ⟨e, 5, none⟩) le _
          rw [← hZ69]
          clear hZ69 q00 z00 q01 z01 q02 z02 q03 z03 q04 z04 q05 z05
          have hA9 := IBoxBelow bA hZ6 hlA
          have hB9 := IBoxBelow bB hZ6 hlB
          have hS9 : (fun Z9 : World => Z9.cell? ⟨w.heap.size, 0, none⟩ = some (.int .i64 a0) ∧ Z9.cell? ⟨w.heap.size, 1, none⟩ = some (.int .i64 a1) ∧ Z9.cell? ⟨w.heap.size, 2, none⟩ = some (.int .i64 a2) ∧ Z9.cell? ⟨w.heap.size, 3, none⟩ = some (.int .i64 a3) ∧ Z9.cell? ⟨w.heap.size, 4, none⟩ = some (.int .i64 a4) ∧ Z9.cell? ⟨w.heap.size, 5, none⟩ = some (.int .i64 a5) ∧ Z9.cell? ⟨w.heap.size + 1, 0, none⟩ = some (.int .i64 b0) ∧ Z9.cell? ⟨w.heap.size + 1, 1, none⟩ = some (.int .i64 b1) ∧ Z9.cell? ⟨w.heap.size + 1, 2, none⟩ = some (.int .i64 b2) ∧ Z9.cell? ⟨w.heap.size + 1, 3, none⟩ = some (.int .i64 b3) ∧ Z9.cell? ⟨w.heap.size + 1, 4, none⟩ = some (.int .i64 b4) ∧ Z9.cell? ⟨w.heap.size + 1, 5, none⟩ = some (.int .i64 b5)) _ := ⟨hA9.cell 0, hA9.cell 1, hA9.cell 2, hA9.cell 3, hA9.cell 4, hA9.cell 5, hB9.cell 0, hB9.cell 1, hB9.cell 2, hB9.cell 3, hB9.cell 4, hB9.cell 5⟩
          refine hK9.out _ _ hS9 (fun _ => ?_)
          clear hK9 K9 hS9 hA9 hB9
          try simp only [Act.put, List.setIfInBounds_toArray, List.set_cons_zero, List.set_cons_succ]
          refine wpAnyH_done (by kernel_rfl) ?_ _
          exact ⟨d, e, rfl, Bd2, Be2, IBoxBelow bC hZ6 bC.lt, IBoxBelow bO hZ6 bO.lt, nde, ld, le, hZ6⟩
        · go_simp
          obtain ⟨Z3, hZ39⟩ : ∃ Z3, Z3 = Z2.alloc (.cells #[.int .i64 0, .int .i64 0, .int .i64 0, .int .i64 0, .int .i64 0, .int .i64 0] 63) := ⟨_, rfl⟩
          have Be : BoxAt Z3 Z2.heap.size #[.int .i64 0, .int .i64 0, .int .i64 0, .int .i64 0, .int .i64 0, .int .i64 0] 63 := by rw [hZ39]; exact BoxAt.new _ _ _
          have hZ3 : Below W0.heap.size W0 Z3 := by rw [hZ39]; exact hZ2.alloc hZ2.size _
          have nee : d ≠ Z2.heap.size := Nat.ne_of_lt Bd.lt
          have Bd : BoxAt Z3 d #[.int .i64 0, .int .i64 0, .int .i64 0, .int .i64 0, .int .i64 0, .int .i64 0] 63 := by rw [hZ39]; exact Bd.alloc _
          first | rw [← hZ39] | trace_state
          have le : W0.heap.size ≤ Z2.heap.size := hZ2.size
          obtain ⟨e, he9⟩ : ∃ e, e = Z2.heap.size := ⟨_, rfl⟩
          rw [← he9] at Be le nee ⊢
          clear he9 hZ39
          have hA9 := IBoxBelow bA hZ3 hlA
          have hB9 := IBoxBelow bB hZ3 hlB
          have hS9 : (fun Z9 : World => Z9.cell? ⟨w.heap.size, 0, none⟩ = some (.int .i64 a0) ∧ Z9.cell? ⟨w.heap.size, 1, none⟩ = some (.int .i64 a1) ∧ Z9.cell? ⟨w.heap.size, 2, none⟩ = some (.int .i64 a2) ∧ Z9.cell? ⟨w.heap.size, 3, none⟩ = some (.int .i64 a3) ∧ Z9.cell? ⟨w.heap.size, 4, none⟩ = some (.int .i64 a4) ∧ Z9.cell? ⟨w.heap.size, 5, none⟩ = some (.int .i64 a5) ∧ Z9.cell? ⟨w.heap.size + 1, 0, none⟩ = some (.int .i64 b0) ∧ Z9.cell? ⟨w.heap.size + 1, 1, none⟩ = some (.int .i64 b1) ∧ Z9.cell? ⟨w.heap.size + 1, 2, none⟩ = some (.int .i64 b2) ∧ Z9.cell? ⟨w.heap.size + 1, 3, none⟩ = some (.int .i64 b3) ∧ Z9.cell? ⟨w.heap.size + 1, 4, none⟩ = some (.int .i64 b4) ∧ Z9.cell? ⟨w.heap.size + 1, 5, none⟩ = some (.int .i64 b5)) _ := ⟨hA9.cell 0, hA9.cell 1, hA9.cell 2, hA9.cell 3, hA9.cell 4, hA9.cell 5, hB9.cell 0, hB9.cell 1, hB9.cell 2, hB9.cell 3, hB9.cell 4, hB9.cell 5⟩
          refine hK9.out _ _ hS9 (fun _ => ?_)
          clear hK9 K9 hS9 hA9 hB9
          try simp only [Act.put, List.setIfInBounds_toArray, List.set_cons_zero, List.set_cons_succ]
          refine wpAnyH_ready (rs := [3]) (by kernel_rfl) (by simp) (consL rfl (fun K9 hK9 => ?_) (AllReadyH.nil))
          go_simp
          refine (HEb.out _).mono ?_
          rintro e Z4 ⟨rfl, hv9⟩
          have hZ4 := hZ3.trans (hv9.mono hZ3.size)
          have Bd := Bd.below hv9
          have Be := Be.below hv9
          clear hv9
          have hA9 := IBoxBelow bA hZ4 hlA
          have hB9 := IBoxBelow bB hZ4 hlB
          have hS9 : (fun Z9 : World => Z9.cell? ⟨w.heap.size, 0, none⟩ = some (.int .i64 a0) ∧ Z9.cell? ⟨w.heap.size, 1, none⟩ = some (.int .i64 a1) ∧ Z9.cell? ⟨w.heap.size, 2, none⟩ = some (.int .i64 a2) ∧ Z9.cell? ⟨w.heap.size, 3, none⟩ = some (.int .i64 a3) ∧ Z9.cell? ⟨w.heap.size, 4, none⟩ = some (.int .i64 a4) ∧ Z9.cell? ⟨w.heap.size, 5, none⟩ = some (.int .i64 a5) ∧ Z9.cell? ⟨w.heap.size + 1, 0, none⟩ = some (.int .i64 b0) ∧ Z9.cell? ⟨w.heap.size + 1, 1, none⟩ = some (.int .i64 b1) ∧ Z9.cell? ⟨w.heap.size + 1, 2, none⟩ = some (.int .i64 b2) ∧ Z9.cell? ⟨w.heap.size + 1, 3, none⟩ = some (.int .i64 b3) ∧ Z9.cell? ⟨w.heap.size + 1, 4, none⟩ = some (.int .i64 b4) ∧ Z9.cell? ⟨w.heap.size + 1, 5, none⟩ = some (.int .i64 b5)) _ := ⟨hA9.cell 0, hA9.cell 1, hA9.cell 2, hA9.cell 3, hA9.cell 4, hA9.cell 5, hB9.cell 0, hB9.cell 1, hB9.cell 2, hB9.cell 3, hB9.cell 4, hB9.cell 5⟩
          refine hK9.out _ _ hS9 (fun _ => ?_)
          clear hK9 K9 hS9 hA9 hB9
          try simp only [Act.put, List.setIfInBounds_toArray, List.set_cons_zero, List.set_cons_succ]
          have nde : d ≠ e := (by first | exact nee | exact fun h => nee h | exact fun h => ned h.symm)
          have q00 : Z4.cell? ⟨d, 0, none⟩ = some (.int .i64 0) := Bd.cell 0
          have q01 : Z4.cell? ⟨d, 1, none⟩ = some (.int .i64 0) := Bd.cell 1
          have q02 : Z4.cell? ⟨d, 2, none⟩ = some (.int .i64 0) := Bd.cell 2
          have q03 : Z4.cell? ⟨d, 3, none⟩ = some (.int .i64 0) := Bd.cell 3
          have q04 : Z4.cell? ⟨d, 4, none⟩ = some (.int .i64 0) := Bd.cell 4
          have q05 : Z4.cell? ⟨d, 5, none⟩ = some (.int .i64 0) := Bd.cell 5
          have z00 : Z4.frozen? ⟨d, 0, none⟩ = false := Bd.free 0
          have z01 : Z4.frozen? ⟨d, 1, none⟩ = false := Bd.free 1
          have z02 : Z4.frozen? ⟨d, 2, none⟩ = false := Bd.free 2
          have z03 : Z4.frozen? ⟨d, 3, none⟩ = false := Bd.free 3
          have z04 : Z4.frozen? ⟨d, 4, none⟩ = false := Bd.free 4
          have z05 : Z4.frozen? ⟨d, 5, none⟩ = false := Bd.free 5
          refine wpAnyH_ready (rs := [6]) (by kernel_rfl) (by simp) (consL rfl (fun K9 hK9 => ?_) AllReadyH.nil)
          go_simp
          obtain ⟨Z5, hZ59⟩ : ∃ Z5, Z5 = ((((((Z4.setCell ⟨d, 0, none⟩ (.int .i64 a0)).setCell ⟨d, 1, none⟩ (.int .i64 a1)).setCell ⟨d, 2, none⟩ (.int .i64 a2)).setCell ⟨d, 3, none⟩ (.int .i64 a3)).setCell ⟨d, 4, none⟩ (.int .i64 a4)).setCell ⟨d, 5, none⟩ (.int .i64 a5)) := ⟨_, rfl⟩
          have Bd1 : BoxAt Z5 d #[.int .i64 a0, .int .i64 a1, .int .i64 a2, .int .i64 a3, .int .i64 a4, .int .i64 a5] 63 := by rw [hZ59]; exact (((((Bd.set 0 _).set 1 _).set 2 _).set 3 _).set 4 _).set 5 _
          have Be1 : BoxAt Z5 e #[.int .i64 0, .int .i64 0, .int .i64 0, .int .i64 0, .int .i64 0, .int .i64 0] 63 := by rw [hZ59]; exact (((((Be.set_other nde.symm _).set_other nde.symm _).set_other nde.symm _).set_other nde.symm _).set_other nde.symm _).set_other nde.symm _
          have hZ5 : Below W0.heap.size W0 Z5 := by rw [hZ59]; exact (((((hZ4.setCell (p := ⟨d, 0, none⟩) ld _).setCell (p := ⟨d, 1, none⟩) ld _).setCell (p := ⟨d, 2, none⟩) ld _).setCell (p := ⟨d, 3, none⟩) ld _).setCell (p := ⟨d, 4, none⟩) ld _).setCell (p := ⟨d, 5, none⟩) ld _
          rw [← hZ59]
          clear hZ59 q00 z00 q01 z01 q02 z02 q03 z03 q04 z04 q05 z05
          have hA9 := IBoxBelow bA hZ5 hlA
          have hB9 := IBoxBelow bB hZ5 hlB
          have hS9 : (fun Z9 : World => Z9.cell? ⟨w.heap.size, 0, none⟩ = some (.int .i64 a0) ∧ Z9.cell? ⟨w.heap.size, 1, none⟩ = some (.int .i64 a1) ∧ Z9.cell? ⟨w.heap.size, 2, none⟩ = some (.int .i64 a2) ∧ Z9.cell? ⟨w.heap.size, 3, none⟩ = some (.int .i64 a3) ∧ Z9.cell? ⟨w.heap.size, 4, none⟩ = some (.int .i64 a4) ∧ Z9.cell? ⟨w.heap.size, 5, none⟩ = some (.int .i64 a5) ∧ Z9.cell? ⟨w.heap.size + 1, 0, none⟩ = some (.int .i64 b0) ∧ Z9.cell? ⟨w.heap.size + 1, 1, none⟩ = some (.int .i64 b1) ∧ Z9.cell? ⟨w.heap.size + 1, 2, none⟩ = some (.int .i64 b2) ∧ Z9.cell? ⟨w.heap.size + 1, 3, none⟩ = some (.int .i64 b3) ∧ Z9.cell? ⟨w.heap.size + 1, 4, none⟩ = some (.int .i64 b4) ∧ Z9.cell? ⟨w.heap.size + 1, 5, none⟩ = some (.int .i64 b5)) _ := ⟨hA9.cell 0, hA9.cell 1, hA9.cell 2, hA9.cell 3, hA9.cell 4, hA9.cell 5, hB9.cell 0, hB9.cell 1, hB9.cell 2, hB9.cell 3, hB9.cell 4, hB9.cell 5⟩
          refine hK9.out _ _ hS9 (fun _ => ?_)
          clear hK9 K9 hS9 hA9 hB9
          try simp only [Act.put, List.setIfInBounds_toArray, List.set_cons_zero, List.set_cons_succ]
          have q00 : Z5.cell? ⟨e, 0, none⟩ = some (.int .i64 0) := Be1.cell 0
          have q01 : Z5.cell? ⟨e, 1, none⟩ = some (.int .i64 0) := Be1.cell 1
          have q02 : Z5.cell? ⟨e, 2, none⟩ = some (.int .i64 0) := Be1.cell 2
          have q03 : Z5.cell? ⟨e, 3, none⟩ = some (.int .i64 0) := Be1.cell 3
          have q04 : Z5.cell? ⟨e, 4, none⟩ = some (.int .i64 0) := Be1.cell 4
          have q05 : Z5.cell? ⟨e, 5, none⟩ = some (.int .i64 0) := Be1.cell 5
          have z00 : Z5.frozen? ⟨e, 0, none⟩ = false := Be1.free 0
          have z01 : Z5.frozen? ⟨e, 1, none⟩ = false := Be1.free 1
          have z02 : Z5.frozen? ⟨e, 2, none⟩ = false := Be1.free 2
          have z03 : Z5.frozen? ⟨e, 3, none⟩ = false := Be1.free 3
          have z04 : Z5.frozen? ⟨e, 4, none⟩ = false := Be1.free 4
          have z05 : Z5.frozen? ⟨e, 5, none⟩ = false := Be1.free 5
          refine wpAnyH_ready (rs := [7]) (by kernel_rfl) (by simp) (consL rfl (fun K9 hK9 => ?_) AllReadyH.nil)
          go_simp
          obtain ⟨Z6, hZ69⟩ : ∃ Z6, Z6 = ((((((Z5.setCell ⟨e, 0, none⟩ (.int .i64 b0)).setCell ⟨e, 1, none⟩ (.int .i64 b1)).setCell ⟨e, 2, none⟩ (.int .i64 b2)).setCell ⟨e, 3, none⟩ (.int .i64 b3)).setCell ⟨e, 4, none⟩ (.int .i64 b4)).setCell ⟨e, 5, none⟩ (.int .i64 b5)) := ⟨_, rfl⟩
          have Bd2 : BoxAt Z6 d #[.int .i64 a0, .int .i64 a1, .int .i64 a2, .int .i64 a3, .int .i64 a4, .int .i64 a5] 63 := by rw [hZ69]; exact (((((Bd1.set_other nde _).set_other nde _).set_other nde _).set_other nde _).set_other nde _).set_other nde _
          have Be2 : BoxAt Z6 e #[.int .i64 b0, .int .i64 b1, .int .i64 b2, .int .i64 b3, .int .i64 b4, .int .i64 b5] 63 := by rw [hZ69]; exact (((((Be1.set 0 _).set 1 _).set 2 _).set 3 _).set 4 _).set 5 _
          have hZ6 : Below W0.heap.size W0 Z6 := by rw [hZ69]; exact (((((hZ5.setCell (p := ⟨e, 0, none⟩) le _).setCell (p := ⟨e, 1, none⟩) le _).setCell (p := ⟨e, 2, none⟩) le _).setCell (p := ⟨e, 3, none⟩) le _).setCell (p := ⟨e, 4, none⟩) le _).setCell (p := ⟨e, 5, none⟩) le _
          rw [← hZ69]
          clear hZ69 q00 z00 q01 z01 q02 z02 q03 z03 q04 z04 q05 z05
          have hA9 := IBoxBelow bA hZ6 hlA
          have hB9 := IBoxBelow bB hZ6 hlB
          have hS9 : (fun Z9 : World => Z9.cell? ⟨w.heap.size, 0, none⟩ = some (.int .i64 a0) ∧ Z9.cell? ⟨w.heap.size, 1, none⟩ = some (.int .i64 a1) ∧ Z9.cell? ⟨w.heap.size, 2, none⟩ = some (.int .i64 a2) ∧ Z9.cell? ⟨w.heap.size, 3, none⟩ = some (.int .i64 a3) ∧ Z9.cell? ⟨w.heap.size, 4, none⟩ = some (.int .i64 a4) ∧ Z9.cell? ⟨w.heap.size, 5, none⟩ = some (.int .i64 a5) ∧ Z9.cell? ⟨w.heap.size + 1, 0, none⟩ = some (.int .i64 b0) ∧ Z9.cell? ⟨w.heap.size + 1, 1, none⟩ = some (.int .i64 b1) ∧ Z9.cell? ⟨w.heap.size + 1, 2, none⟩ = some (.int .i64 b2) ∧ Z9.cell? ⟨w.heap.size + 1, 3, none⟩ = some (.int .i64 b3) ∧ Z9.cell? ⟨w.heap.size + 1, 4, none⟩ = some (.int .i64 b4) ∧ Z9.cell? ⟨w.heap.size + 1, 5, none⟩ = some (.int .i64 b5)) _ := ⟨hA9.cell 0, hA9.cell 1, hA9.cell 2, hA9.cell 3, hA9.cell 4, hA9.cell 5, hB9.cell 0, hB9.cell 1, hB9.cell 2, hB9.cell 3, hB9.cell 4, hB9.cell 5⟩
          refine hK9.out _ _ hS9 (fun _ => ?_)
          clear hK9 K9 hS9 hA9 hB9
          try simp only [Act.put, List.setIfInBounds_toArray, List.set_cons_zero, List.set_cons_succ]
          refine wpAnyH_done (by kernel_rfl) ?_ _
          exact ⟨d, e, rfl, Bd2, Be2, IBoxBelow bC hZ6 bC.lt, IBoxBelow bO hZ6 bO.lt, nde, ld, le, hZ6⟩
      · go_simp
        obtain ⟨Z2, hZ29⟩ : ∃ Z2, Z2 = Z1.alloc (.cells #[.int .i64 0, .int .i64 0, .int .i64 0, .int .i64 0, .int .i64 0, .int .i64 0] 63) := ⟨_, rfl⟩
        have Be : BoxAt Z2 Z1.heap.size #[.int .i64 0, .int .i64 0, .int .i64 0, .int .i64 0, .int .i64 0, .int .i64 0] 63 := by rw [hZ29]; exact BoxAt.new _ _ _
        have hZ2 : Below W0.heap.size W0 Z2 := by rw [hZ29]; exact hZ1.alloc hZ1.size _
        have nee : d ≠ Z1.heap.size := Nat.ne_of_lt Bd.lt
        have Bd : BoxAt Z2 d #[.int .i64 0, .int .i64 0, .int .i64 0, .int .i64 0, .int .i64 0, .int .i64 0] 63 := by rw [hZ29]; exact Bd.alloc _
        first | rw [← hZ29] | trace_state
        have le : W0.heap.size ≤ Z1.heap.size := hZ1.size
        obtain ⟨e, he9⟩ : ∃ e, e = Z1.heap.size := ⟨_, rfl⟩
        rw [← he9] at Be le nee ⊢
        clear he9 hZ29
        have hA9 := IBoxBelow bA hZ2 hlA
        have hB9 := IBoxBelow bB hZ2 hlB
        have hS9 : (fun Z9 : World => Z9.cell? ⟨w.heap.size, 0, none⟩ = some (.int .i64 a0) ∧ Z9.cell? ⟨w.heap.size, 1, none⟩ = some (.int .i64 a1) ∧ Z9.cell? ⟨w.heap.size, 2, none⟩ = some (.int .i64 a2) ∧ Z9.cell? ⟨w.heap.size, 3, none⟩ = some (.int .i64 a3) ∧ Z9.cell? ⟨w.heap.size, 4, none⟩ = some (.int .i64 a4) ∧ Z9.cell? ⟨w.heap.size, 5, none⟩ = some (.int .i64 a5) ∧ Z9.cell? ⟨w.heap.size + 1, 0, none⟩ = some (.int .i64 b0) ∧ Z9.cell? ⟨w.heap.size + 1, 1, none⟩ = some (.int .i64 b1) ∧ Z9.cell? ⟨w.heap.size + 1, 2, none⟩ = some (.int .i64 b2) ∧ Z9.cell? ⟨w.heap.size + 1, 3, none⟩ = some (.int .i64 b3) ∧ Z9.cell? ⟨w.heap.size + 1, 4, none⟩ = some (.int .i64 b4) ∧ Z9.cell? ⟨w.heap.size + 1, 5, none⟩ = some (.int .i64 b5)) _ := ⟨hA9.cell 0, hA9.cell 1, hA9.cell 2, hA9.cell 3, hA9.cell 4, hA9.cell 5, hB9.cell 0, hB9.cell 1, hB9.cell 2, hB9.cell 3, hB9.cell 4, hB9.cell 5⟩
        refine hK9.out _ _ hS9 (fun _ => ?_)
        clear hK9 K9 hS9 hA9 hB9
        try simp only [Act.put, List.setIfInBounds_toArray, List.set_cons_zero, List.set_cons_succ]
        refine wpAnyH_ready (rs := [1]) (by kernel_rfl) (by simp) (consL rfl (fun K9 hK9 => ?_) (AllReadyH.nil))
        go_simp
        refine (HEa.out _).mono ?_
        rintro e Z3 ⟨rfl, hv9⟩
        have hZ3 := hZ2.trans (hv9.mono hZ2.size)
        have Bd := Bd.below hv9
        have Be := Be.below hv9
        clear hv9
        have hA9 := IBoxBelow bA hZ3 hlA
        have hB9 := IBoxBelow bB hZ3 hlB
        have hS9 : (fun Z9 : World => Z9.cell? ⟨w.heap.size, 0, none⟩ = some (.int .i64 a0) ∧ Z9.cell? ⟨w.heap.size, 1, none⟩ = some (.int .i64 a1) ∧ Z9.cell? ⟨w.heap.size, 2, none⟩ = some (.int .i64 a2) ∧ Z9.cell? ⟨w.heap.size, 3, none⟩ = some (.int .i64 a3) ∧ Z9.cell? ⟨w.heap.size, 4, none⟩ = some (.int .i64 a4) ∧ Z9.cell? ⟨w.heap.size, 5, none⟩ = some (.int .i64 a5) ∧ Z9.cell? ⟨w.heap.size + 1, 0, none⟩ = some (.int .i64 b0) ∧ Z9.cell? ⟨w.heap.size + 1, 1, none⟩ = some (.int .i64 b1) ∧ Z9.cell? ⟨w.heap.size + 1, 2, none⟩ = some (.int .i64 b2) ∧ Z9.cell? ⟨w.heap.size + 1, 3, none⟩ = some (.int .i64 b3) ∧ Z9.cell? ⟨w.heap.size + 1, 4, none⟩ = some (.int .i64 b4) ∧ Z9.cell? ⟨w.heap.size + 1, 5, none⟩ = some (.int .i64 b5)) _ := ⟨hA9.cell 0, hA9.cell 1, hA9.cell 2, hA9.cell 3, hA9.cell 4, hA9.cell 5, hB9.cell 0, hB9.cell 1, hB9.cell 2, hB9.cell 3, hB9.cell 4, hB9.cell 5⟩
        refine hK9.out _ _ hS9 (fun _ => ?_)
        clear hK9 K9 hS9 hA9 hB9
        try simp only [Act.put, List.setIfInBounds_toArray, List.set_cons_zero, List.set_cons_succ]
        refine wpAnyH_ready (rs := [3]) (by kernel_rfl) (by simp) (consL rfl (fun K9 hK9 => ?_) (AllReadyH.nil))
        go_simp
        refine (HEb.out _).mono ?_
        rintro e Z4 ⟨rfl, hv9⟩
        have hZ4 := hZ3.trans (hv9.mono hZ3.size)
        have Bd := Bd.below hv9
        have Be := Be.below hv9
        clear hv9
        have hA9 := IBoxBelow bA hZ4 hlA
        have hB9 := IBoxBelow bB hZ4 hlB
        have hS9 : (fun Z9 : World => Z9.cell? ⟨w.heap.size, 0, none⟩ = some (.int .i64 a0) ∧ Z9.cell? ⟨w.heap.size, 1, none⟩ = some (.int .i64 a1) ∧ Z9.cell? ⟨w.heap.size, 2, none⟩ = some (.int .i64 a2) ∧ Z9.cell? ⟨w.heap.size, 3, none⟩ = some (.int .i64 a3) ∧ Z9.cell? ⟨w.heap.size, 4, none⟩ = some (.int .i64 a4) ∧ Z9.cell? ⟨w.heap.size, 5, none⟩ = some (.int .i64 a5) ∧ Z9.cell? ⟨w.heap.size + 1, 0, none⟩ = some (.int .i64 b0) ∧ Z9.cell? ⟨w.heap.size + 1, 1, none⟩ = some (.int .i64 b1) ∧ Z9.cell? ⟨w.heap.size + 1, 2, none⟩ = some (.int .i64 b2) ∧ Z9.cell? ⟨w.heap.size + 1, 3, none⟩ = some (.int .i64 b3) ∧ Z9.cell? ⟨w.heap.size + 1, 4, none⟩ = some (.int .i64 b4) ∧ Z9.cell? ⟨w.heap.size + 1, 5, none⟩ = some (.int .i64 b5)) _ := ⟨hA9.cell 0, hA9.cell 1, hA9.cell 2, hA9.cell 3, hA9.cell 4, hA9.cell 5, hB9.cell 0, hB9.cell 1, hB9.cell 2, hB9.cell 3, hB9.cell 4, hB9.cell 5⟩
        refine hK9.out _ _ hS9 (fun _ => ?_)
        clear hK9 K9 hS9 hA9 hB9
        try simp only [Act.put, List.setIfInBounds_toArray, List.set_cons_zero, List.set_cons_succ]
        have nde : d ≠ e := (by first | exact nee | exact fun h => nee h | exact fun h => ned h.symm)
        have q00 : Z4.cell? ⟨d, 0, none⟩ = some (.int .i64 0) := Bd.cell 0
        have q01 : Z4.cell? ⟨d, 1, none⟩ = some (.int .i64 0) := Bd.cell 1
        have q02 : Z4.cell? ⟨d, 2, none⟩ = some (.int .i64 0) := Bd.cell 2
        have q03 : Z4.cell? ⟨d, 3, none⟩ = some (.int .i64 0) := Bd.cell 3
        have q04 : Z4.cell? ⟨d, 4, none⟩ = some (.int .i64 0) := Bd.cell 4
        have q05 : Z4.cell? ⟨d, 5, none⟩ = some (.int .i64 0) := Bd.cell 5
        have z00 : Z4.frozen? ⟨d, 0, none⟩ = false := Bd.free 0
        have z01 : Z4.frozen? ⟨d, 1, none⟩ = false := Bd.free 1
        have z02 : Z4.frozen? ⟨d, 2, none⟩ = false := Bd.free 2
        have z03 : Z4.frozen? ⟨d, 3, none⟩ = false := Bd.free 3
        have z04 : Z4.frozen? ⟨d, 4, none⟩ = false := Bd.free 4
        have z05 : Z4.frozen? ⟨d, 5, none⟩ = false := Bd.free 5
        refine wpAnyH_ready (rs := [6]) (by kernel_rfl) (by simp) (consL rfl (fun K9 hK9 => ?_) AllReadyH.nil)
        go_simp
        obtain ⟨Z5, hZ59⟩ : ∃ Z5, Z5 = ((((((Z4.setCell ⟨d, 0, none⟩ (.int .i64 a0)).setCell ⟨d, 1, none⟩ (.int .i64 a1)).setCell ⟨d, 2, none⟩ (.int .i64 a2)).setCell ⟨d, 3, none⟩ (.int .i64 a3)).setCell ⟨d, 4, none⟩ (.int .i64 a4)).setCell ⟨d, 5, none⟩ (.int .i64 a5)) := ⟨_, rfl⟩
        have Bd1 : BoxAt Z5 d #[.int .i64 a0, .int .i64 a1, .int .i64 a2, .int .i64 a3, .int .i64 a4, .int .i64 a5] 63 := by rw [hZ59]; exact (((((Bd.set 0 _).set 1 _).set 2 _).set 3 _).set 4 _).set 5 _
        have Be1 : BoxAt Z5 e #[.int .i64 0, .int .i64 0, .int .i64 0, .int .i64 0, .int .i64 0, .int .i64 0] 63 := by rw [hZ59]; exact (((((Be.set_other nde.symm _).set_other nde.symm _).set_other nde.symm _).set_other nde.symm _).set_other nde.symm _).set_other nde.symm _
        have hZ5 : Below W0.heap.size W0 Z5 := by rw [hZ59]; exact (((((hZ4.setCell (p := ⟨d, 0, none⟩) ld _).setCell (p := ⟨d, 1, none⟩) ld _).setCell (p := ⟨d, 2, none⟩) ld _).setCell (p := ⟨d, 3, none⟩) ld _).setCell (p := ⟨d, 4, none⟩) ld _).setCell (p := ⟨d, 5, none⟩) ld _
        rw [← hZ59]
        clear hZ59 q00 z00 q01 z01 q02 z02 q03 z03 q04 z04 q05 z05
        have hA9 := IBoxBelow bA hZ5 hlA
        have hB9 := IBoxBelow bB hZ5 hlB
        have hS9 : (fun Z9 : World => Z9.cell? ⟨w.heap.size, 0, none⟩ = some (.int .i64 a0) ∧ Z9.cell? ⟨w.heap.size, 1, none⟩ = some (.int .i64 a1) ∧ Z9.cell? ⟨w.heap.size, 2, none⟩ = some (.int .i64 a2) ∧ Z9.cell? ⟨w.heap.size, 3, none⟩ = some (.int .i64 a3) ∧ Z9.cell? ⟨w.heap.size, 4, none⟩ = some (.int .i64 a4) ∧ Z9.cell? ⟨w.heap.size, 5, none⟩ = some (.int .i64 a5) ∧ Z9.cell? ⟨w.heap.size + 1, 0, none⟩ = some (.int .i64 b0) ∧ Z9.cell? ⟨w.heap.size + 1, 1, none⟩ = some (.int .i64 b1) ∧ Z9.cell? ⟨w.heap.size + 1, 2, none⟩ = some (.int .i64 b2) ∧ Z9.cell? ⟨w.heap.size + 1, 3, none⟩ = some (.int .i64 b3) ∧ Z9.cell? ⟨w.heap.size + 1, 4, none⟩ = some (.int .i64 b4) ∧ Z9.cell? ⟨w.heap.size + 1, 5, none⟩ = some (.int .i64 b5)) _ := ⟨hA9.cell 0, hA9.cell 1, hA9.cell 2, hA9.cell 3, hA9.cell 4, hA9.cell 5, hB9.cell 0, hB9.cell 1, hB9.cell 2, hB9.cell 3, hB9.cell 4, hB9.cell 5⟩
        refine hK9.out _ _ hS9 (fun _ => ?_)
        clear hK9 K9 hS9 hA9 hB9
        try simp only [Act.put, List.setIfInBounds_toArray, List.set_cons_zero, List.set_cons_succ]
        have q00 : Z5.cell? ⟨e, 0, none⟩ = some (.int .i64 0) := Be1.cell 0
        have q01 : Z5.cell? ⟨e, 1, none⟩ = some (.int .i64 0) := Be1.cell 1
        have q02 : Z5.cell? ⟨e, 2, none⟩ = some (.int .i64 0) := Be1.cell 2
        have q03 : Z5.cell? ⟨e, 3, none⟩ = some (.int .i64 0) := Be1.cell 3
        have q04 : Z5.cell? ⟨e, 4, none⟩ = some (.int .i64 0) := Be1.cell 4
        have q05 : Z5.cell? ⟨e, 5, none⟩ = some (.int .i64 0) := Be1.cell 5
        have z00 : Z5.frozen? ⟨e, 0, none⟩ = false := Be1.free 0
        have z01 : Z5.frozen? ⟨e, 1, none⟩ = false := Be1.free 1
        have z02 : Z5.frozen? ⟨e, 2, none⟩ = false := Be1.free 2
        have z03 : Z5.frozen? ⟨e, 3, none⟩ = false := Be1.free 3
        have z04 : Z5.frozen? ⟨e, 4, none⟩ = false := Be1.free 4
        have z05 : Z5.frozen? ⟨e, 5, none⟩ = false := Be1.free 5
        refine wpAnyH_ready (rs := [7]) (by kernel_rfl) (by simp) (consL rfl (fun K9 hK9 => ?_) AllReadyH.nil)
        go_simp
        obtain ⟨Z6, hZ69⟩ : ∃ Z6, Z6 = ((((((Z5.setCell ⟨e, 0, none⟩ (.int .i64 b0)).setCell ⟨e, 1, none⟩ (.int .i64 b1)).setCell ⟨e, 2, none⟩ (.int .i64 b2)).setCell ⟨e, 3, none⟩ (.int .i64 b3)).setCell ⟨e, 4, none⟩ (.int .i64 b4)).setCell ⟨e, 5, none⟩ (.int .i64 b5)) := ⟨_, rfl⟩
        have Bd2 : BoxAt Z6 d #[.int .i64 a0, .int .i64 a1, .int .i64 a2, .int .i64 a3, .int .i64 a4, .int .i64 a5] 63 := by rw [hZ69]; exact (((((Bd1.set_other nde _).set_other nde _).set_other nde _).set_other nde _).set_other nde _).set_other nde _
        have Be2 : BoxAt Z6 e #[.int .i64 b0, .int .i64 b1, .int .i64 b2, .int .i64 b3, .int .i64 b4, .int .i64 b5] 63 := by rw [hZ69]; exact (((((Be1.set 0 _).set 1 _).set 2 _).set 3 _).set 4 _).set 5 _
        have hZ6 : Below W0.heap.size W0 Z6 := by rw [hZ69]; exact (((((hZ5.setCell (p := ⟨e, 0, none⟩) le _).setCell (p := ⟨e, 1, none⟩) le _).setCell (p := ⟨e, 2, none⟩) le _).setCell (p := ⟨e, 3, none⟩) le _).setCell (p := ⟨e, 4, none⟩) le _).setCell (p := ⟨e, 5, none⟩) le _
        rw [← hZ69]
        clear hZ69 q00 z00 q01 z01 q02 z02 q03 z03 q04 z04 q05 z05
        have hA9 := IBoxBelow bA hZ6 hlA
        have hB9 := IBoxBelow bB hZ6 hlB
        have hS9 : (fun Z9 : World => Z9.cell? ⟨w.heap.size, 0, none⟩ = some (.int .i64 a0) ∧ Z9.cell? ⟨w.heap.size, 1, none⟩ = some (.int .i64 a1) ∧ Z9.cell? ⟨w.heap.size, 2, none⟩ = some (.int .i64 a2) ∧ Z9.cell? ⟨w.heap.size, 3, none⟩ = some (.int .i64 a3) ∧ Z9.cell? ⟨w.heap.size, 4, none⟩ = some (.int .i64 a4) ∧ Z9.cell? ⟨w.heap.size, 5, none⟩ = some (.int .i64 a5) ∧ Z9.cell? ⟨w.heap.size + 1, 0, none⟩ = some (.int .i64 b0) ∧ Z9.cell? ⟨w.heap.size + 1, 1, none⟩ = some (.int .i64 b1) ∧ Z9.cell? ⟨w.heap.size + 1, 2, none⟩ = some (.int .i64 b2) ∧ Z9.cell? ⟨w.heap.size + 1, 3, none⟩ = some (.int .i64 b3) ∧ Z9.cell? ⟨w.heap.size + 1, 4, none⟩ = some (.int .i64 b4) ∧ Z9.cell? ⟨w.heap.size + 1, 5, none⟩ = some (.int .i64 b5)) _ := ⟨hA9.cell 0, hA9.cell 1, hA9.cell 2, hA9.cell 3, hA9.cell 4, hA9.cell 5, hB9.cell 0, hB9.cell 1, hB9.cell 2, hB9.cell 3, hB9.cell 4, hB9.cell 5⟩
        refine hK9.out _ _ hS9 (fun _ => ?_)
        clear hK9 K9 hS9 hA9 hB9
        try simp only [Act.put, List.setIfInBounds_toArray, List.set_cons_zero, List.set_cons_succ]
        refine wpAnyH_done (by kernel_rfl) ?_ _
        exact ⟨d, e, rfl, Bd2, Be2, IBoxBelow bC hZ6 bC.lt, IBoxBelow bO hZ6 bO.lt, nde, ld, le, hZ6⟩
    · go_simp
      obtain ⟨Z1, hZ19⟩ : ∃ Z1, Z1 = Z0.alloc (.cells #[.int .i64 0, .int .i64 0, .int .i64 0, .int .i64 0, .int .i64 0, .int .i64 0] 63) := ⟨_, rfl⟩
      have Be : BoxAt Z1 Z0.heap.size #[.int .i64 0, .int .i64 0, .int .i64 0, .int .i64 0, .int .i64 0, .int .i64 0] 63 := by rw [hZ19]; exact BoxAt.new _ _ _
      have hZ1 : Below W0.heap.size W0 Z1 := by rw [hZ19]; exact hZ0.alloc hZ0.size _
      first | rw [← hZ19] | trace_state
      have le : W0.heap.size ≤ Z0.heap.size := hZ0.size
      obtain ⟨e, he9⟩ : ∃ e, e = Z0.heap.size := ⟨_, rfl⟩
      rw [← he9] at Be le ⊢
      clear he9 hZ19
      have hA9 := IBoxBelow bA hZ1 hlA
      have hB9 := IBoxBelow bB hZ1 hlB
      have hS9 : (fun Z9 : World => Z9.cell? ⟨w.heap.size, 0, none⟩ = some (.int .i64 a0) ∧ Z9.cell? ⟨w.heap.size, 1, none⟩ = some (.int .i64 a1) ∧ Z9.cell? ⟨w.heap.size, 2, none⟩ = some (.int .i64 a2) ∧ Z9.cell? ⟨w.heap.size, 3, none⟩ = some (.int .i64 a3) ∧ Z9.cell? ⟨w.heap.size, 4, none⟩ = some (.int .i64 a4) ∧ Z9.cell? ⟨w.heap.size, 5, none⟩ = some (.int .i64 a5) ∧ Z9.cell? ⟨w.heap.size + 1, 0, none⟩ = some (.int .i64 b0) ∧ Z9.cell? ⟨w.heap.size + 1, 1, none⟩ = some (.int .i64 b1) ∧ Z9.cell? ⟨w.heap.size + 1, 2, none⟩ = some (.int .i64 b2) ∧ Z9.cell? ⟨w.heap.size + 1, 3, none⟩ = some (.int .i64 b3) ∧ Z9.cell? ⟨w.heap.size + 1, 4, none⟩ = some (.int .i64 b4) ∧ Z9.cell? ⟨w.heap.size + 1, 5, none⟩ = some (.int .i64 b5)) _ := ⟨hA9.cell 0, hA9.cell 1, hA9.cell 2, hA9.cell 3, hA9.cell 4, hA9.cell 5, hB9.cell 0, hB9.cell 1, hB9.cell 2, hB9.cell 3, hB9.cell 4, hB9.cell 5⟩
      refine hK9.out _ _ hS9 (fun _ => ?_)
      clear hK9 K9 hS9 hA9 hB9
      try simp only [Act.put, List.setIfInBounds_toArray, List.set_cons_zero, List.set_cons_succ]
      refine wpAnyH_ready (rs := [1, 4]) (by kernel_rfl) (by simp) (consL rfl (fun K9 hK9 => ?_) (consL rfl (fun K9 hK9 => ?_) (AllReadyH.nil)))
      · go_simp
        refine (HEa.out _).mono ?_
        rintro e Z2 ⟨rfl, hv9⟩
        have hZ2 := hZ1.trans (hv9.mono hZ1.size)
        have Be := Be.below hv9
        clear hv9
        have hA9 := IBoxBelow bA hZ2 hlA
        have hB9 := IBoxBelow bB hZ2 hlB
        have hS9 : (fun Z9 : World => Z9.cell? ⟨w.heap.size, 0, none⟩ = some (.int .i64 a0) ∧ Z9.cell? ⟨w.heap.size, 1, none⟩ = some (.int .i64 a1) ∧ Z9.cell? ⟨w.heap.size, 2, none⟩ = some (.int .i64 a2) ∧ Z9.cell? ⟨w.heap.size, 3, none⟩ = some (.int .i64 a3) ∧ Z9.cell? ⟨w.heap.size, 4, none⟩ = some (.int .i64 a4) ∧ Z9.cell? ⟨w.heap.size, 5, none⟩ = some (.int .i64 a5) ∧ Z9.cell? ⟨w.heap.size + 1, 0, none⟩ = some (.int .i64 b0) ∧ Z9.cell? ⟨w.heap.size + 1, 1, none⟩ = some (.int .i64 b1) ∧ Z9.cell? ⟨w.heap.size + 1, 2, none⟩ = some (.int .i64 b2) ∧ Z9.cell? ⟨w.heap.size + 1, 3, none⟩ = some (.int .i64 b3) ∧ Z9.cell? ⟨w.heap.size + 1, 4, none⟩ = some (.int .i64 b4) ∧ Z9.cell? ⟨w.heap.size + 1, 5, none⟩ = some (.int .i64 b5)) _ := ⟨hA9.cell 0, hA9.cell 1, hA9.cell 2, hA9.cell 3, hA9.cell 4, hA9.cell 5, hB9.cell 0, hB9.cell 1, hB9.cell 2, hB9.cell 3, hB9.cell 4, hB9.cell 5⟩
        refine hK9.out _ _ hS9 (fun _ => ?_)
        clear hK9 K9 hS9 hA9 hB9
        try simp only [Act.put, List.setIfInBounds_toArray, List.set_cons_zero, List.set_cons_succ]
        refine wpAnyH_ready (rs := [3, 4]) (by kernel_rfl) (by simp) (consL rfl (fun K9 hK9 => ?_) (consL rfl (fun K9 hK9 => ?_) (AllReadyH.nil)))
        · go_simp
          refine (HEb.out _).mono ?_
          rintro e Z3 ⟨rfl, hv9⟩
          have hZ3 := hZ2.trans (hv9.mono hZ2.size)
          have Be := Be.below hv9
          clear hv9
          have hA9 := IBoxBelow bA hZ3 hlA
          have hB9 := IBoxBelow bB hZ3 hlB
          have hS9 : (fun Z9 : World => Z9.cell? ⟨w.heap.size, 0, none⟩ = some (.int .i64 a0) ∧ Z9.cell? ⟨w.heap.size, 1, none⟩ = some (.int .i64 a1) ∧ Z9.cell? ⟨w.heap.size, 2, none⟩ = some (.int .i64 a2) ∧ Z9.cell? ⟨w.heap.size, 3, none⟩ = some (.int .i64 a3) ∧ Z9.cell? ⟨w.heap.size, 4, none⟩ = some (.int .i64 a4) ∧ Z9.cell? ⟨w.heap.size, 5, none⟩ = some (.int .i64 a5) ∧ Z9.cell? ⟨w.heap.size + 1, 0, none⟩ = some (.int .i64 b0) ∧ Z9.cell? ⟨w.heap.size + 1, 1, none⟩ = some (.int .i64 b1) ∧ Z9.cell? ⟨w.heap.size + 1, 2, none⟩ = some (.int .i64 b2) ∧ Z9.cell? ⟨w.heap.size + 1, 3, none⟩ = some (.int .i64 b3) ∧ Z9.cell? ⟨w.heap.size + 1, 4, none⟩ = some (.int .i64 b4) ∧ Z9.cell? ⟨w.heap.size + 1, 5, none⟩ = some (.int .i64 b5)) _ := ⟨hA9.cell 0, hA9.cell 1, hA9.cell 2, hA9.cell 3, hA9.cell 4, hA9.cell 5, hB9.cell 0, hB9.cell 1, hB9.cell 2, hB9.cell 3, hB9.cell 4, hB9.cell 5⟩
          refine hK9.out _ _ hS9 (fun _ => ?_)
          clear hK9 K9 hS9 hA9 hB9
          try simp only [Act.put, List.setIfInBounds_toArray, List.set_cons_zero, List.set_cons_succ]
          refine wpAnyH_ready (rs := [4]) (by kernel_rfl) (by simp) (consL rfl (fun K9 hK9 => ?_) (AllReadyH.nil))
          go_simp
          obtain ⟨Z4, hZ49⟩ : ∃ Z4, Z4 = Z3.alloc (.cells #[.int .i64 0, .int .i64 0, .int .i64 0, .int .i64 0, .int .i64 0, .int .i64 0] 63) := ⟨_, rfl⟩
          have Bd : BoxAt Z4 Z3.heap.size #[.int .i64 0, .int .i64 0, .int .i64 0, .int .i64 0, .int .i64 0, .int .i64 0] 63 := by rw [hZ49]; exact BoxAt.new _ _ _
          have hZ4 : Below W0.heap.size W0 Z4 := by rw [hZ49]; exact hZ3.alloc hZ3.size _
          have ned : e ≠ Z3.heap.size := Nat.ne_of_lt Be.lt
          have Be : BoxAt Z4 e #[.int .i64 0, .int .i64 0, .int .i64 0, .int .i64 0, .int .i64 0, .int .i64 0] 63 := by rw [hZ49]; exact Be.alloc _
          first | rw [← hZ49] | trace_state
          have ld : W0.heap.size ≤ Z3.heap.size := hZ3.size
          obtain ⟨d, hd9⟩ : ∃ d, d = Z3.heap.size := ⟨_, rfl⟩
          rw [← hd9] at Bd ld ned ⊢
          clear hd9 hZ49
          have hA9 := IBoxBelow bA hZ4 hlA
          have hB9 := IBoxBelow bB hZ4 hlB
          have hS9 : (fun Z9 : World => Z9.cell? ⟨w.heap.size, 0, none⟩ = some (.int .i64 a0) ∧ Z9.cell? ⟨w.heap.size, 1, none⟩ = some (.int .i64 a1) ∧ Z9.cell? ⟨w.heap.size, 2, none⟩ = some (.int .i64 a2) ∧ Z9.cell? ⟨w.heap.size, 3, none⟩ = some (.int .i64 a3) ∧ Z9.cell? ⟨w.heap.size, 4, none⟩ = some (.int .i64 a4) ∧ Z9.cell? ⟨w.heap.size, 5, none⟩ = some (.int .i64 a5) ∧ Z9.cell? ⟨w.heap.size + 1, 0, none⟩ = some (.int .i64 b0) ∧ Z9.cell? ⟨w.heap.size + 1, 1, none⟩ = some (.int .i64 b1) ∧ Z9.cell? ⟨w.heap.size + 1, 2, none⟩ = some (.int .i64 b2) ∧ Z9.cell? ⟨w.heap.size + 1, 3, none⟩ = some (.int .i64 b3) ∧ Z9.cell? ⟨w.heap.size + 1, 4, none⟩ = some (.int .i64 b4) ∧ Z9.cell? ⟨w.heap.size + 1, 5, none⟩ = some (.int .i64 b5)) _ := ⟨hA9.cell 0, hA9.cell 1, hA9.cell 2, hA9.cell 3, hA9.cell 4, hA9.cell 5, hB9.cell 0, hB9.cell 1, hB9.cell 2, hB9.cell 3, hB9.cell 4, hB9.cell 5⟩
          refine hK9.out _ _ hS9 (fun _ => ?_)
          clear hK9 K9 hS9 hA9 hB9
          try simp only [Act.put, List.setIfInBounds_toArray, List.set_cons_zero, List.set_cons_succ]
          have nde : d ≠ e := (by first | exact nee | exact fun h => nee h | exact fun h => ned h.symm)
          have q00 : Z4.cell? ⟨d, 0, none⟩ = some (.int .i64 0) := Bd.cell 0
          have q01 : Z4.cell? ⟨d, 1, none⟩ = some (.int .i64 0) := Bd.cell 1
          have q02 : Z4.cell? ⟨d, 2, none⟩ = some (.int .i64 0) := Bd.cell 2
          have q03 : Z4.cell? ⟨d, 3, none⟩ = some (.int .i64 0) := Bd.cell 3
          have q04 : Z4.cell? ⟨d, 4, none⟩ = some (.int .i64 0) := Bd.cell 4
          have q05 : Z4.cell? ⟨d, 5, none⟩ = some (.int .i64 0) := Bd.cell 5
          have z00 : Z4.frozen? ⟨d, 0, none⟩ = false := Bd.free 0
          have z01 : Z4.frozen? ⟨d, 1, none⟩ = false := Bd.free 1
          have z02 : Z4.frozen? ⟨d, 2, none⟩ = false := Bd.free 2
          have z03 : Z4.frozen? ⟨d, 3, none⟩ = false := Bd.free 3
          have z04 : Z4.frozen? ⟨d, 4, none⟩ = false := Bd.free 4
          have z05 : Z4.frozen? ⟨d, 5, none⟩ = false := Bd.free 5
          refine wpAnyH_ready (rs := [6]) (by kernel_rfl) (by simp) (consL rfl (fun K9 hK9 => ?_) AllReadyH.nil)
          go_simp
          obtain ⟨Z5, hZ59⟩ : ∃ Z5, Z5 = ((((((Z4.setCell ⟨d, 0, none⟩ (.int .i64 a0)).setCell ⟨d, 1, none⟩ (.int .i64 a1)).setCell ⟨d, 2, none⟩ (.int .i64 a2)).setCell ⟨d, 3, none⟩ (.int .i64 a3)).setCell ⟨d, 4, none⟩ (.int .i64 a4)).setCell ⟨d, 5, none⟩ (.int .i64 a5)) := ⟨_, rfl⟩
          have Bd1 : BoxAt Z5 d #[.int .i64 a0, .int .i64 a1, .int .i64 a2, .int .i64 a3, .int .i64 a4, .int .i64 a5] 63 := by rw [hZ59]; exact (((((Bd.set 0 _).set 1 _).set 2 _).set 3 _).set 4 _).set 5 _
          have Be1 : BoxAt Z5 e #[.int .i64 0, .int .i64 0, .int .i64 0, .int .i64 0, .int .i64 0, .int .i64 0] 63 := by rw [hZ59]; exact (((((Be.set_other nde.symm _).set_other nde.symm _).set_other nde.symm _).set_other nde.symm _).set_other nde.symm _).set_other nde.symm _
          have hZ5 : Below W0.heap.size W0 Z5 := by rw [hZ59]; exact (((((hZ4.setCell (p := ⟨d, 0, none⟩) ld _).setCell (p := ⟨d, 1, none⟩) ld _).setCell (p := ⟨d, 2, none⟩) ld _).setCell (p := ⟨d, 3, none⟩) ld _).setCell (p := ⟨d, 4, none⟩) ld _).setCell (p := ⟨d, 5, none⟩) ld _
          rw [← hZ59]
          clear hZ59 q00 z00 q01 z01 q02 z02 q03 z03 q04 z04 q05 z05
          have hA9 := IBoxBelow bA hZ5 hlA
          have hB9 := IBoxBelow bB hZ5 hlB
          have hS9 : (fun Z9 : World => Z9.cell? ⟨w.heap.size, 0, none⟩ = some (.int .i64 a0) ∧ Z9.cell? ⟨w.heap.size, 1, none⟩ = some (.int .i64 a1) ∧ Z9.cell? ⟨w.heap.size, 2, none⟩ = some (.int .i64 a2) ∧ Z9.cell? ⟨w.heap.size, 3, none⟩ = some (.int .i64 a3) ∧ Z9.cell? ⟨w.heap.size, 4, none⟩ = some (.int .i64 a4) ∧ Z9.cell? ⟨w.heap.size, 5, none⟩ = some (.int .i64 a5) ∧ Z9.cell? ⟨w.heap.size + 1, 0, none⟩ = some (.int .i64 b0) ∧ Z9.cell? ⟨w.heap.size + 1, 1, none⟩ = some (.int .i64 b1) ∧ Z9.cell? ⟨w.heap.size + 1, 2, none⟩ = some (.int .i64 b2) ∧ Z9.cell? ⟨w.heap.size + 1, 3, none⟩ = some (.int .i64 b3) ∧ Z9.cell? ⟨w.heap.size + 1, 4, none⟩ = some (.int .i64 b4) ∧ Z9.cell? ⟨w.heap.size + 1, 5, none⟩ = some (.int .i64 b5)) _ := ⟨hA9.cell 0, hA9.cell 1, hA9.cell 2, hA9.cell 3, hA9.cell 4, hA9.cell 5, hB9.cell 0, hB9.cell 1, hB9.cell 2, hB9.cell 3, hB9.cell 4, hB9.cell 5⟩
          refine hK9.out _ _ hS9 (fun _ => ?_)
          clear hK9 K9 hS9 hA9 hB9
          try simp only [Act.put, List.setIfInBounds_toArray, List.set_cons_zero, List.set_cons_succ]
          have q00 : Z5.cell? ⟨e, 0, none⟩ = some (.int .i64 0) := Be1.cell 0
          have q01 : Z5.cell? ⟨e, 1, none⟩ = some (.int .i64 0) := Be1.cell 1
          have q02 : Z5.cell? ⟨e, 2, none⟩ = some (.int .i64 0) := Be1.cell 2
          have q03 : Z5.cell? ⟨e, 3, none⟩ = some (.int .i64 0) := Be1.cell 3
          have q04 : Z5.cell? ⟨e, 4, none⟩ = some (.int .i64 0) := Be1.cell 4
          have q05 : Z5.cell? ⟨e, 5, none⟩ = some (.int .i64 0) := Be1.cell 5
          have z00 : Z5.frozen? ⟨e, 0, none⟩ = false := Be1.free 0
          have z01 : Z5.frozen? ⟨e, 1, none⟩ = false := Be1.free 1
          have z02 : Z5.frozen? ⟨e, 2, none⟩ = false := Be1.free 2
          have z03 : Z5.frozen? ⟨e, 3, none⟩ = false := Be1.free 3
          have z04 : Z5.frozen? ⟨e, 4, none⟩ = false := Be1.free 4
          have z05 : Z5.frozen? ⟨e, 5, none⟩ = false := Be1.free 5
          refine wpAnyH_ready (rs := [7]) (by kernel_rfl) (by simp) (consL rfl (fun K9 hK9 => ?_) AllReadyH.nil)
          go_simp
          obtain ⟨Z6, hZ69⟩ : ∃ Z6, Z6 = ((((((Z5.setCell ⟨e, 0, none⟩ (.int .i64 b0)).setCell ⟨e, 1, none⟩ (.int .i64 b1)).setCell ⟨e, 2, none⟩ (.int .i64 b2)).setCell ⟨e, 3, none⟩ (.int .i64 b3)).setCell ⟨e, 4, none⟩ (.int .i64 b4)).setCell ⟨e, 5, none⟩ (.int .i64 b5)) := ⟨_, rfl⟩
          have Bd2 : BoxAt Z6 d #[.int .i64 a0, .int .i64 a1, .int .i64 a2, .int .i64 a3, .int .i64 a4, .int .i64 a5] 63 := by rw [hZ69]; exact (((((Bd1.set_other nde _).set_other nde _).set_other nde _).set_other nde _).set_other nde _).set_other nde _
          have Be2 : BoxAt Z6 e #[.int .i64 b0, .int .i64 b1, .int .i64 b2, .int .i64 b3, .int .i64 b4, .int .i64 b5] 63 := by rw [hZ69]; exact (((((Be1.set 0 _).set 1 _).set 2 _).set 3 _).set 4 _).set 5 _
          have hZ6 : Below W0.heap.size W0 Z6 := by rw [hZ69]; exact (((((hZ5.setCell (p := ⟨e, 0, none⟩) le _).setCell (p := ⟨e, 1, none⟩) le _).setCell (p := ⟨e, 2, none⟩) le _).setCell (p := ⟨e, 3, none⟩) le _).setCell (p := ⟨e, 4, none⟩) le _).setCell (p := ⟨e, 5, none⟩) le _
          rw [← hZ69]
          clear hZ69 q00 z00 q01 z01 q02 z02 q03 z03 q04 z04 q05 z05
          have hA9 := IBoxBelow bA hZ6 hlA
          have hB9 := IBoxBelow bB hZ6 hlB
          have hS9 : (fun Z9 : World => Z9.cell? ⟨w.heap.size, 0, none⟩ = some (.int .i64 a0) ∧ Z9.cell? ⟨w.heap.size, 1, none⟩ = some (.int .i64 a1) ∧ Z9.cell? ⟨w.heap.size, 2, none⟩ = some (.int .i64 a2) ∧ Z9.cell? ⟨w.heap.size, 3, none⟩ = some (.int .i64 a3) ∧ Z9.cell? ⟨w.heap.size, 4, none⟩ = some (.int .i64 a4) ∧ Z9.cell? ⟨w.heap.size, 5, none⟩ = some (.int .i64 a5) ∧ Z9.cell? ⟨w.heap.size + 1, 0, none⟩ = some (.int .i64 b0) ∧ Z9.cell? ⟨w.heap.size + 1, 1, none⟩ = some (.int .i64 b1) ∧ Z9.cell? ⟨w.heap.size + 1, 2, none⟩ = some (.int .i64 b2) ∧ Z9.cell? ⟨w.heap.size + 1, 3, none⟩ = some (.int .i64 b3) ∧ Z9.cell? ⟨w.heap.size + 1, 4, none⟩ = some (.int .i64 b4) ∧ Z9.cell? ⟨w.heap.size + 1, 5, none⟩ = some (.int .i64 b5)) _ := ⟨hA9.cell 0, hA9.cell 1, hA9.cell 2, hA9.cell 3, hA9.cell 4, hA9.cell 5, hB9.cell 0, hB9.cell 1, hB9.cell 2, hB9.cell 3, hB9.cell 4, hB9.cell 5⟩
          refine hK9.out _ _ hS9 (fun _ => ?_)
          clear hK9 K9 hS9 hA9 hB9
          try simp only [Act.put, List.setIfInBounds_toArray, List.set_cons_zero, List.set_cons_succ]
          refine wpAnyH_done (by kernel_rfl) ?_ _
          exact ⟨d, e, rfl, Bd2, Be2, IBoxBelow bC hZ6 bC.lt, IBoxBelow bO hZ6 bO.lt, nde, ld, le, hZ6⟩
        · go_simp
          obtain ⟨Z3, hZ39⟩ : ∃ Z3, Z3 = Z2.alloc (.cells #[.int .i64 0, .int .i64 0, .int .i64 0, .int .i64 0, .int .i64 0, .int .i64 0] 63) := ⟨_, rfl⟩
          have Bd : BoxAt Z3 Z2.heap.size #[.int .i64 0, .int .i64 0, .int .i64 0, .int .i64 0, .int .i64 0, .int .i64 0] 63 := by rw [hZ39]; exact BoxAt.new _ _ _
          have hZ3 : Below W0.heap.size W0 Z3 := by rw [hZ39]; exact hZ2.alloc hZ2.size _
          have ned : e ≠ Z2.heap.size := Nat.ne_of_lt Be.lt
          have Be : BoxAt Z3 e #[.int .i64 0, .int .i64 0, .int .i64 0, .int .i64 0, .int .i64 0, .int .i64 0] 63 := by rw [hZ39]; exact Be.alloc _
          first | rw [← hZ39] | trace_state
          have ld : W0.heap.size ≤ Z2.heap.size := hZ2.size
          obtain ⟨d, hd9⟩ : ∃ d, d = Z2.heap.size := ⟨_, rfl⟩
          rw [← hd9] at Bd ld ned ⊢
          clear hd9 hZ39
          have hA9 := IBoxBelow bA hZ3 hlA
          have hB9 := IBoxBelow bB hZ3 hlB
          have hS9 : (fun Z9 : World => Z9.cell? ⟨w.heap.size, 0, none⟩ = some (.int .i64 a0) ∧ Z9.cell? ⟨w.heap.size, 1, none⟩ = some (.int .i64 a1) ∧ Z9.cell? ⟨w.heap.size, 2, none⟩ = some (.int .i64 a2) ∧ Z9.cell? ⟨w.heap.size, 3, none⟩ = some (.int .i64 a3) ∧ Z9.cell? ⟨w.heap.size, 4, none⟩ = some (.int .i64 a4) ∧ Z9.cell? ⟨w.heap.size, 5, none⟩ = some (.int .i64 a5) ∧ Z9.cell? ⟨w.heap.size + 1, 0, none⟩ = some (.int .i64 b0) ∧ Z9.cell? ⟨w.heap.size + 1, 1, none⟩ = some (.int .i64 b1) ∧ Z9.cell? ⟨w.heap.size + 1, 2, none⟩ = some (.int .i64 b2) ∧ Z9.cell? ⟨w.heap.size + 1, 3, none⟩ = some (.int .i64 b3) ∧ Z9.cell? ⟨w.heap.size + 1, 4, none⟩ = some (.int .i64 b4) ∧ Z9.cell? ⟨w.heap.size + 1, 5, none⟩ = some (.int .i64 b5)) _ := ⟨hA9.cell 0, hA9.cell 1, hA9.cell 2, hA9.cell 3, hA9.cell 4, hA9.cell 5, hB9.cell 0, hB9.cell 1, hB9.cell 2, hB9.cell 3, hB9.cell 4, hB9.cell 5⟩
          refine hK9.out _ _ hS9 (fun _ => ?_)
          clear hK9 K9 hS9 hA9 hB9
          try simp only [Act.put, List.setIfInBounds_toArray, List.set_cons_zero, List.set_cons_succ]
          refine wpAnyH_ready (rs := [3]) (by kernel_rfl) (by simp) (consL rfl (fun K9 hK9 => ?_) (AllReadyH.nil))
          go_simp
          refine (HEb.out _).mono ?_
          rintro e Z4 ⟨rfl, hv9⟩
          have hZ4 := hZ3.trans (hv9.mono hZ3.size)
          have Bd := Bd.below hv9
          have Be := Be.below hv9
          clear hv9
          have hA9 := IBoxBelow bA hZ4 hlA
          have hB9 := IBoxBelow bB hZ4 hlB
          have hS9 : (fun Z9 : World => Z9.cell? ⟨w.heap.size, 0, none⟩ = some (.int .i64 a0) ∧ Z9.cell? ⟨w.heap.size, 1, none⟩ = some (.int .i64 a1) ∧ Z9.cell? ⟨w.heap.size, 2, none⟩ = some (.int .i64 a2) ∧ Z9.cell? ⟨w.heap.size, 3, none⟩ = some (.int .i64 a3) ∧ Z9.cell? ⟨w.heap.size, 4, none⟩ = some (.int .i64 a4) ∧ Z9.cell? ⟨w.heap.size, 5, none⟩ = some (.int .i64 a5) ∧ Z9.cell? ⟨w.heap.size + 1, 0, none⟩ = some (.int .i64 b0) ∧ Z9.cell? ⟨w.heap.size + 1, 1, none⟩ = some (.int .i64 b1) ∧ Z9.cell? ⟨w.heap.size + 1, 2, none⟩ = some (.int .i64 b2) ∧ Z9.cell? ⟨w.heap.size + 1, 3, none⟩ = some (.int .i64 b3) ∧ Z9.cell? ⟨w.heap.size + 1, 4, none⟩ = some (.int .i64 b4) ∧ Z9.cell? ⟨w.heap.size + 1, 5, none⟩ = some (.int .i64 b5)) _ := ⟨hA9.cell 0, hA9.cell 1, hA9.cell 2, hA9.cell 3, hA9.cell 4, hA9.cell 5, hB9.cell 0, hB9.cell 1, hB9.cell 2, hB9.cell 3, hB9.cell 4, hB9.cell 5⟩
          refine hK9.out _ _ hS9 (fun _ => ?_)
          clear hK9 K9 hS9 hA9 hB9
          try simp only [Act.put, List.setIfInBounds_toArray, List.set_cons_zero, List.set_cons_succ]
          have nde : d ≠ e := (by first | exact nee | exact fun h => nee h | exact fun h => ned h.symm)
          have q00 : Z4.cell? ⟨d, 0, none⟩ = some (.int .i64 0) := Bd.cell 0
          have q01 : Z4.cell? ⟨d, 1, none⟩ = some (.int .i64 0) := Bd.cell 1
          have q02 : Z4.cell? ⟨d, 2, none⟩ = some (.int .i64 0) := Bd.cell 2
          have q03 : Z4.cell? ⟨d, 3, none⟩ = some (.int .i64 0) := Bd.cell 3
          have q04 : Z4.cell? ⟨d, 4, none⟩ = some (.int .i64 0) := Bd.cell 4
          have q05 : Z4.cell? ⟨d, 5, none⟩ = some (.int .i64 0) := Bd.cell 5
          have z00 : Z4.frozen? ⟨d, 0, none⟩ = false := Bd.free 0
          have z01 : Z4.frozen? ⟨d, 1, none⟩ = false := Bd.free 1
          have z02 : Z4.frozen? ⟨d, 2, none⟩ = false := Bd.free 2
          have z03 : Z4.frozen? ⟨d, 3, none⟩ = false := Bd.free 3
          have z04 : Z4.frozen? ⟨d, 4, none⟩ = false := Bd.free 4
          have z05 : Z4.frozen? ⟨d, 5, none⟩ = false := Bd.free 5
          refine wpAnyH_ready (rs := [6]) (by kernel_rfl) (by simp) (consL rfl (fun K9 hK9 => ?_) AllReadyH.nil)
          go_simp
          obtain ⟨Z5, hZ59⟩ : ∃ Z5, Z5 = ((((((Z4.setCell ⟨d, 0, none⟩ (.int .i64 a0)).setCell ⟨d, 1, none⟩ (.int .i64 a1)).setCell ⟨d, 2, none⟩ (.int .i64 a2)).setCell ⟨d, 3, none⟩ (.int .i64 a3)).setCell ⟨d, 4, none⟩ (.int .i64 a4)).setCell ⟨d, 5, none⟩ (.int .i64 a5)) := ⟨_, rfl⟩
          have Bd1 : BoxAt Z5 d #[.int .i64 a0, .int .i64 a1, .int .i64 a2, .int .i64 a3, .int .i64 a4, .int .i64 a5] 63 := by rw [hZ59]; exact (((((Bd.set 0 _).set 1 _).set 2 _).set 3 _).set 4 _).set 5 _
          have Be1 : BoxAt Z5 e #[.int .i64 0, .int .i64 0, .int .i64 0, .int .i64 0, .int .i64 0, .int .i64 0] 63 := by rw [hZ59]; exact (((((Be.set_other nde.symm _).set_other nde.symm _).set_other nde.symm _).set_other nde.symm _).set_other nde.symm _).set_other nde.symm _
          have hZ5 : Below W0.heap.size W0 Z5 := by rw [hZ59]; exact (((((hZ4.setCell (p := ⟨d, 0, none⟩) ld _).setCell (p := ⟨d, 1, none⟩) ld _).setCell (p := ⟨d, 2, none⟩) ld _).setCell (p := ⟨d, 3, none⟩) ld _).setCell (p := ⟨d, 4, none⟩) ld _).setCell (p := ⟨d, 5, none⟩) ld _
          rw [← hZ59]
          clear hZ59 q00 z00 q01 z01 q02 z02 q03 z03 q04 z04 q05 z05
          have hA9 := IBoxBelow bA hZ5 hlA
          have hB9 := IBoxBelow bB hZ5 hlB
          have hS9 : (fun Z9 : World => Z9.cell? ⟨w.heap.size, 0, none⟩ = some (.int .i64 a0) ∧ Z9.cell? ⟨w.heap.size, 1, none⟩ = some (.int .i64 a1) ∧ Z9.cell? ⟨w.heap.size, 2, none⟩ = some (.int .i64 a2) ∧ Z9.cell? ⟨w.heap.size, 3, none⟩ = some (.int .i64 a3) ∧ Z9.cell? ⟨w.heap.size, 4, none⟩ = some (.int .i64 a4) ∧ Z9.cell? ⟨w.heap.size, 5, none⟩ = some (.int .i64 a5) ∧ Z9.cell? ⟨w.heap.size + 1, 0, none⟩ = some (.int .i64 b0) ∧ Z9.cell? ⟨w.heap.size + 1, 1, none⟩ = some (.int .i64 b1) ∧ Z9.cell? ⟨w.heap.size + 1, 2, none⟩ = some (.int .i64 b2) ∧ Z9.cell? ⟨w.heap.size + 1, 3, none⟩ = some (.int .i64 b3) ∧ Z9.cell? ⟨w.heap.size + 1, 4, none⟩ = some (.int .i64 b4) ∧ Z9.cell? ⟨w.heap.size + 1, 5, none⟩ = some (.int .i64 b5)) _ := ⟨hA9.cell 0, hA9.cell 1, hA9.cell 2, hA9.cell 3, hA9.cell 4, hA9.cell 5, hB9.cell 0, hB9.cell 1, hB9.cell 2, hB9.cell 3, hB9.cell 4, hB9.cell 5⟩
          refine hK9.out _ _ hS9 (fun _ => ?_)
          clear hK9 K9 hS9 hA9 hB9
          try simp only [Act.put, List.setIfInBounds_toArray, List.set_cons_zero, List.set_cons_succ]
          have q00 : Z5.cell? ⟨e, 0, none⟩ = some (.int .i64 0) := Be1.cell 0
          have q01 : Z5.cell? ⟨e, 1, none⟩ = some (.int .i64 0) := Be1.cell 1
          have q02 : Z5.cell? ⟨e, 2, none⟩ = some (.int .i64 0) := Be1.cell 2
          have q03 : Z5.cell? ⟨e, 3, none⟩ = some (.int .i64 0) := Be1.cell 3
          have q04 : Z5.cell? ⟨e, 4, none⟩ = some (.int .i64 0) := Be1.cell 4
          have q05 : Z5.cell? ⟨e, 5, none⟩ = some (.int .i64 0) := Be1.cell 5
          have z00 : Z5.frozen? ⟨e, 0, none⟩ = false := Be1.free 0
          have z01 : Z5.frozen? ⟨e, 1, none⟩ = false := Be1.free 1
          have z02 : Z5.frozen? ⟨e, 2, none⟩ = false := Be1.free 2
          have z03 : Z5.frozen? ⟨e, 3, none⟩ = false := Be1.free 3
          have z04 : Z5.frozen? ⟨e, 4, none⟩ = false := Be1.free 4
          have z05 : Z5.frozen? ⟨e, 5, none⟩ = false := Be1.free 5
          refine wpAnyH_ready (rs := [7]) (by kernel_rfl) (by simp) (consL rfl (fun K9 hK9 => ?_) AllReadyH.nil)
          go_simp
          obtain ⟨Z6, hZ69⟩ : ∃ Z6, Z6 = ((((((Z5.setCell ⟨e, 0, none⟩ (.int .i64 b0)).setCell ⟨e, 1, none⟩ (.int .i64 b1)).setCell ⟨e, 2, none⟩ (.int .i64 b2)).setCell ⟨e, 3, none⟩ (.int .i64 b3)).setCell ⟨e, 4, none⟩ (.int .i64 b4)).setCell ⟨e, 5, none⟩ (.int .i64 b5)) := ⟨_, rfl⟩
          have Bd2 : BoxAt Z6 d #[.int .i64 a0, .int .i64 a1, .int .i64 a2, .int .i64 a3, .int .i64 a4, .int .i64 a5] 63 := by rw [hZ69]; exact (((((Bd1.set_other nde _).set_other nde _).set_other nde _).set_other nde _).set_other nde _).set_other nde _
          have Be2 : BoxAt Z6 e #[.int .i64 b0, .int .i64 b1, .int .i64 b2, .int .i64 b3, .int .i64 b4, .int .i64 b5] 63 := by rw [hZ69]; exact (((((Be1.set 0 _).set 1 _).set 2 _).set 3 _).set 4 _).set 5 _
          have hZ6 : Below W0.heap.size W0 Z6 := by rw [hZ69]; exact (((((hZ5.setCell (p := ⟨e, 0, none⟩) le _).setCell (p := ⟨e, 1, none⟩) le _).setCell (p := ⟨e, 2, none⟩) le _).setCell (p := ⟨e, 3, none⟩) le _).setCell (p := ⟨e, 4, none⟩) le _).setCell (p := ⟨e, 5, none⟩) le _
          rw [← hZ69]
          clear hZ69 q00 z00 q01 z01 q02 z02 q03 z03 q04 z04 q05 z05
          have hA9 := IBoxBelow bA hZ6 hlA
          have hB9 := IBoxBelow bB hZ6 hlB
          have hS9 : (fun Z9 : World => Z9.cell? ⟨w.heap.size, 0, none⟩ = some (.int .i64 a0) ∧ Z9.cell? ⟨w.heap.size, 1, none⟩ = some (.int .i64 a1) ∧ Z9.cell? ⟨w.heap.size, 2, none⟩ = some (.int .i64 a2) ∧ Z9.cell? ⟨w.heap.size, 3, none⟩ = some (.int .i64 a3) ∧ Z9.cell? ⟨w.heap.size, 4, none⟩ = some (.int .i64 a4) ∧ Z9.cell? ⟨w.heap.size, 5, none⟩ = some (.int .i64 a5) ∧ Z9.cell? ⟨w.heap.size + 1, 0, none⟩ = some (.int .i64 b0) ∧ Z9.cell? ⟨w.heap.size + 1, 1, none⟩ = some (.int .i64 b1) ∧ Z9.cell? ⟨w.heap.size + 1, 2, none⟩ = some (.int .i64 b2) ∧ Z9.cell? ⟨w.heap.size + 1, 3, none⟩ = some (.int .i64 b3) ∧ Z9.cell? ⟨w.heap.size + 1, 4, none⟩ = some (.int .i64 b4) ∧ Z9.cell? ⟨w.heap.size + 1, 5, none⟩ = some (.int .i64 b5)) _ := ⟨hA9.cell 0, hA9.cell 1, hA9.cell 2, hA9.cell 3, hA9.cell 4, hA9.cell 5, hB9.cell 0, hB9.cell 1, hB9.cell 2, hB9.cell 3, hB9.cell 4, hB9.cell 5⟩
          refine hK9.out _ _ hS9 (fun _ => ?_)
          clear hK9 K9 hS9 hA9 hB9
          try simp only [Act.put, List.setIfInBounds_toArray, List.set_cons_zero, List.set_cons_succ]
          refine wpAnyH_done (by kernel_rfl) ?_ _
          exact ⟨d, e, rfl, Bd2, Be2, IBoxBelow bC hZ6 bC.lt, IBoxBelow bO hZ6 bO.lt, nde, ld, le, hZ6⟩
      · go_simp
        obtain ⟨Z2, hZ29⟩ : ∃ Z2, Z2 = Z1.alloc (.cells #[.int .i64 0, .int .i64 0, .int .i64 0, .int .i64 0, .int .i64 0, .int .i64 0] 63) := ⟨_, rfl⟩
        have Bd : BoxAt Z2 Z1.heap.size #[.int .i64 0, .int .i64 0, .int .i64 0, .int .i64 0, .int .i64 0, .int .i64 0] 63 := by rw [hZ29]; exact BoxAt.new _ _ _
        have hZ2 : Below W0.heap.size W0 Z2 := by rw [hZ29]; exact hZ1.alloc hZ1.size _
        have ned : e ≠ Z1.heap.size := Nat.ne_of_lt Be.lt
        have Be : BoxAt Z2 e #[.int .i64 0, .int .i64 0, .int .i64 0, .int .i64 0, .int .i64 0, .int .i64 0] 63 := by rw [hZ29]; exact Be.alloc _
        first | rw [← hZ29] | trace_state
        have ld : W0.heap.size ≤ Z1.heap.size := hZ1.size
        obtain ⟨d, hd9⟩ : ∃ d, d = Z1.heap.size := ⟨_, rfl⟩
        rw [← hd9] at Bd ld ned ⊢
        clear hd9 hZ29
        have hA9 := IBoxBelow bA hZ2 hlA
        have hB9 := IBoxBelow bB hZ2 hlB
        have hS9 : (fun Z9 : World => Z9.cell? ⟨w.heap.size, 0, none⟩ = some (.int .i64 a0) ∧ Z9.cell? ⟨w.heap.size, 1, none⟩ = some (.int .i64 a1) ∧ Z9.cell? ⟨w.heap.size, 2, none⟩ = some (.int .i64 a2) ∧ Z9.cell? ⟨w.heap.size, 3, none⟩ = some (.int .i64 a3) ∧ Z9.cell? ⟨w.heap.size, 4, none⟩ = some (.int .i64 a4) ∧ Z9.cell? ⟨w.heap.size, 5, none⟩ = some (.int .i64 a5) ∧ Z9.cell? ⟨w.heap.size + 1, 0, none⟩ = some (.int .i64 b0) ∧ Z9.cell? ⟨w.heap.size + 1, 1, none⟩ = some (.int .i64 b1) ∧ Z9.cell? ⟨w.heap.size + 1, 2, none⟩ = some (.int .i64 b2) ∧ Z9.cell? ⟨w.heap.size + 1, 3, none⟩ = some (.int .i64 b3) ∧ Z9.cell? ⟨w.heap.size + 1, 4, none⟩ = some (.int .i64 b4) ∧ Z9.cell? ⟨w.heap.size + 1, 5, none⟩ = some (.int .i64 b5)) _ := ⟨hA9.cell 0, hA9.cell 1, hA9.cell 2, hA9.cell 3, hA9.cell 4, hA9.cell 5, hB9.cell 0, hB9.cell 1, hB9.cell 2, hB9.cell 3, hB9.cell 4, hB9.cell 5⟩
        refine hK9.out _ _ hS9 (fun _ => ?_)
        clear hK9 K9 hS9 hA9 hB9
        try simp only [Act.put, List.setIfInBounds_toArray, List.set_cons_zero, List.set_cons_succ]
        refine wpAnyH_ready (rs := [1]) (by kernel_rfl) (by simp) (consL rfl (fun K9 hK9 => ?_) (AllReadyH.nil))
        go_simp
        refine (HEa.out _).mono ?_
        rintro e Z3 ⟨rfl, hv9⟩
        have hZ3 := hZ2.trans (hv9.mono hZ2.size)
        have Bd := Bd.below hv9
        have Be := Be.below hv9
        clear hv9
        have hA9 := IBoxBelow bA hZ3 hlA
        have hB9 := IBoxBelow bB hZ3 hlB
        have hS9 : (fun Z9 : World => Z9.cell? ⟨w.heap.size, 0, none⟩ = some (.int .i64 a0) ∧ Z9.cell? ⟨w.heap.size, 1, none⟩ = some (.int .i64 a1) ∧ Z9.cell? ⟨w.heap.size, 2, none⟩ = some (.int .i64 a2) ∧ Z9.cell? ⟨w.heap.size, 3, none⟩ = some (.int .i64 a3) ∧ Z9.cell? ⟨w.heap.size, 4, none⟩ = some (.int .i64 a4) ∧ Z9.cell? ⟨w.heap.size, 5, none⟩ = some (.int .i64 a5) ∧ Z9.cell? ⟨w.heap.size + 1, 0, none⟩ = some (.int .i64 b0) ∧ Z9.cell? ⟨w.heap.size + 1, 1, none⟩ = some (.int .i64 b1) ∧ Z9.cell? ⟨w.heap.size + 1, 2, none⟩ = some (.int .i64 b2) ∧ Z9.cell? ⟨w.heap.size + 1, 3, none⟩ = some (.int .i64 b3) ∧ Z9.cell? ⟨w.heap.size + 1, 4, none⟩ = some (.int .i64 b4) ∧ Z9.cell? ⟨w.heap.size + 1, 5, none⟩ = some (.int .i64 b5)) _ := ⟨hA9.cell 0, hA9.cell 1, hA9.cell 2, hA9.cell 3, hA9.cell 4, hA9.cell 5, hB9.cell 0, hB9.cell 1, hB9.cell 2, hB9.cell 3, hB9.cell 4, hB9.cell 5⟩
        refine hK9.out _ _ hS9 (fun _ => ?_)
        clear hK9 K9 hS9 hA9 hB9
        try simp only [Act.put, List.setIfInBounds_toArray, List.set_cons_zero, List.set_cons_succ]
        refine wpAnyH_ready (rs := [3]) (by kernel_rfl) (by simp) (consL rfl (fun K9 hK9 => ?_) (AllReadyH.nil))
        go_simp
        refine (HEb.out _).mono ?_
        rintro e Z4 ⟨rfl, hv9⟩
        have hZ4 := hZ3.trans (hv9.mono hZ3.size)
        have Bd := Bd.below hv9
        have Be := Be.below hv9
        clear hv9
        have hA9 := IBoxBelow bA hZ4 hlA
        have hB9 := IBoxBelow bB hZ4 hlB
        have hS9 : (fun Z9 : World => Z9.cell? ⟨w.heap.size, 0, none⟩ = some (.int .i64 a0) ∧ Z9.cell? ⟨w.heap.size, 1, none⟩ = some (.int .i64 a1) ∧ Z9.cell? ⟨w.heap.size, 2, none⟩ = some (.int .i64 a2) ∧ Z9.cell? ⟨w.heap.size, 3, none⟩ = some (.int .i64 a3) ∧ Z9.cell? ⟨w.heap.size, 4, none⟩ = some (.int .i64 a4) ∧ Z9.cell? ⟨w.heap.size, 5, none⟩ = some (.int .i64 a5) ∧ Z9.cell? ⟨w.heap.size + 1, 0, none⟩ = some (.int .i64 b0) ∧ Z9.cell? ⟨w.heap.size + 1, 1, none⟩ = some (.int .i64 b1) ∧ Z9.cell? ⟨w.heap.size + 1, 2, none⟩ = some (.int .i64 b2) ∧ Z9.cell? ⟨w.heap.size + 1, 3, none⟩ = some (.int .i64 b3) ∧ Z9.cell? ⟨w.heap.size + 1, 4, none⟩ = some (.int .i64 b4) ∧ Z9.cell? ⟨w.heap.size + 1, 5, none⟩ = some (.int .i64 b5)) _ := ⟨hA9.cell 0, hA9.cell 1, hA9.cell 2, hA9.cell 3, hA9.cell 4, hA9.cell 5, hB9.cell 0, hB9.cell 1, hB9.cell 2, hB9.cell 3, hB9.cell 4, hB9.cell 5⟩
        refine hK9.out _ _ hS9 (fun _ => ?_)
        clear hK9 K9 hS9 hA9 hB9
        try simp only [Act.put, List.setIfInBounds_toArray, List.set_cons_zero, List.set_cons_succ]
        have nde : d ≠ e := (by first | exact nee | exact fun h => nee h | exact fun h => ned h.symm)
        have q00 : Z4.cell? ⟨d, 0, none⟩ = some (.int .i64 0) := Bd.cell 0
        have q01 : Z4.cell? ⟨d, 1, none⟩ = some (.int .i64 0) := Bd.cell 1
        have q02 : Z4.cell? ⟨d, 2, none⟩ = some (.int .i64 0) := Bd.cell 2
        have q03 : Z4.cell? ⟨d, 3, none⟩ = some (.int .i64 0) := Bd.cell 3
        have q04 : Z4.cell? ⟨d, 4, none⟩ = some (.int .i64 0) := Bd.cell 4
        have q05 : Z4.cell? ⟨d, 5, none⟩ = some (.int .i64 0) := Bd.cell 5
        have z00 : Z4.frozen? ⟨d, 0, none⟩ = false := Bd.free 0
        have z01 : Z4.frozen? ⟨d, 1, none⟩ = false := Bd.free 1
        have z02 : Z4.frozen? ⟨d, 2, none⟩ = false := Bd.free 2
        have z03 : Z4.frozen? ⟨d, 3, none⟩ = false := Bd.free 3
        have z04 : Z4.frozen? ⟨d, 4, none⟩ = false := Bd.free 4
        have z05 : Z4.frozen? ⟨d, 5, none⟩ = false := Bd.free 5
        refine wpAnyH_ready (rs := [6]) (by kernel_rfl) (by simp) (consL rfl (fun K9 hK9 => ?_) AllReadyH.nil)
        go_simp
        obtain ⟨Z5, hZ59⟩ : ∃ Z5, Z5 = ((((((Z4.setCell ⟨d, 0, none⟩ (.int .i64 a0)).setCell ⟨d, 1, none⟩ (.int .i64 a1)).setCell ⟨d, 2, none⟩ (.int .i64 a2)).setCell ⟨d, 3, none⟩ (.int .i64 a3)).setCell ⟨d, 4, none⟩ (.int .i64 a4)).setCell ⟨d, 5, none⟩ (.int .i64 a5)) := ⟨_, rfl⟩
        have Bd1 : BoxAt Z5 d #[.int .i64 a0, .int .i64 a1, .int .i64 a2, .int .i64 a3, .int .i64 a4, .int .i64 a5] 63 := by rw [hZ59]; exact (((((Bd.set 0 _).set 1 _).set 2 _).set 3 _).set 4 _).set 5 _
        have Be1 : BoxAt Z5 e #[.int .i64 0, .int .i64 0, .int .i64 0, .int .i64 0, .int .i64 0, .int .i64 0] 63 := by rw [hZ59]; exact (((((Be.set_other nde.symm _).set_other nde.symm _).set_other nde.symm _).set_other nde.symm _).set_other nde.symm _).set_other nde.symm _
        have hZ5 : Below W0.heap.size W0 Z5 := by rw [hZ59]; exact (((((hZ4.setCell (p := ⟨d, 0, none⟩) ld _).setCell (p := ⟨d, 1, none⟩) ld _).setCell (p := ⟨d, 2, none⟩) ld _).setCell (p := ⟨d, 3, none⟩) ld _).setCell (p := ⟨d, 4, none⟩) ld _).setCell (p := ⟨d, 5, none⟩) ld _
        rw [← hZ59]
        clear hZ59 q00 z00 q01 z01 q02 z02 q03 z03 q04 z04 q05 z05
        have hA9 := IBoxBelow bA hZ5 hlA
        have hB9 := IBoxBelow bB hZ5 hlB
        have hS9 : (fun Z9 : World => Z9.cell? ⟨w.heap.size, 0, none⟩ = some (.int .i64 a0) ∧ Z9.cell? ⟨w.heap.size, 1, none⟩ = some (.int .i64 a1) ∧ Z9.cell? ⟨w.heap.size, 2, none⟩ = some (.int .i64 a2) ∧ Z9.cell? ⟨w.heap.size, 3, none⟩ = some (.int .i64 a3) ∧ Z9.cell? ⟨w.heap.size, 4, none⟩ = some (.int .i64 a4) ∧ Z9.cell? ⟨w.heap.size, 5, none⟩ = some (.int .i64 a5) ∧ Z9.cell? ⟨w.heap.size + 1, 0, none⟩ = some (.int .i64 b0) ∧ Z9.cell? ⟨w.heap.size + 1, 1, none⟩ = some (.int .i64 b1) ∧ Z9.cell? ⟨w.heap.size + 1, 2, none⟩ = some (.int .i64 b2) ∧ Z9.cell? ⟨w.heap.size + 1, 3, none⟩ = some (.int .i64 b3) ∧ Z9.cell? ⟨w.heap.size + 1, 4, none⟩ = some (.int .i64 b4) ∧ Z9.cell? ⟨w.heap.size + 1, 5, none⟩ = some (.int .i64 b5)) _ := ⟨hA9.cell 0, hA9.cell 1, hA9.cell 2, hA9.cell 3, hA9.cell 4, hA9.cell 5, hB9.cell 0, hB9.cell 1, hB9.cell 2, hB9.cell 3, hB9.cell 4, hB9.cell 5⟩
        refine hK9.out _ _ hS9 (fun _ => ?_)
        clear hK9 K9 hS9 hA9 hB9
        try simp only [Act.put, List.setIfInBounds_toArray, List.set_cons_zero, List.set_cons_succ]
        have q00 : Z5.cell? ⟨e, 0, none⟩ = some (.int .i64 0) := Be1.cell 0
        have q01 : Z5.cell? ⟨e, 1, none⟩ = some (.int .i64 0) := Be1.cell 1
        have q02 : Z5.cell? ⟨e, 2, none⟩ = some (.int .i64 0) := Be1.cell 2
        have q03 : Z5.cell? ⟨e, 3, none⟩ = some (.int .i64 0) := Be1.cell 3
        have q04 : Z5.cell? ⟨e, 4, none⟩ = some (.int .i64 0) := Be1.cell 4
        have q05 : Z5.cell? ⟨e, 5, none⟩ = some (.int .i64 0) := Be1.cell 5
        have z00 : Z5.frozen? ⟨e, 0, none⟩ = false := Be1.free 0
        have z01 : Z5.frozen? ⟨e, 1, none⟩ = false := Be1.free 1
        have z02 : Z5.frozen? ⟨e, 2, none⟩ = false := Be1.free 2
        have z03 : Z5.frozen? ⟨e, 3, none⟩ = false := Be1.free 3
        have z04 : Z5.frozen? ⟨e, 4, none⟩ = false := Be1.free 4
        have z05 : Z5.frozen? ⟨e, 5, none⟩ = false := Be1.free 5
        refine wpAnyH_ready (rs := [7]) (by kernel_rfl) (by simp) (consL rfl (fun K9 hK9 => ?_) AllReadyH.nil)
        go_simp
        obtain ⟨Z6, hZ69⟩ : ∃ Z6, Z6 = ((((((Z5.setCell ⟨e, 0, none⟩ (.int .i64 b0)).setCell ⟨e, 1, none⟩ (.int .i64 b1)).setCell ⟨e, 2, none⟩ (.int .i64 b2)).setCell ⟨e, 3, none⟩ (.int .i64 b3)).setCell ⟨e, 4, none⟩ (.int .i64 b4)).setCell ⟨e, 5, none⟩ (.int .i64 b5)) := ⟨_, rfl⟩
        have Bd2 : BoxAt Z6 d #[.int .i64 a0, .int .i64 a1, .int .i64 a2, .int .i64 a3, .int .i64 a4, .int .i64 a5] 63 := by rw [hZ69]; exact (((((Bd1.set_other nde _).set_other nde _).set_other nde _).set_other nde _).set_other nde _).set_other nde _
        have Be2 : BoxAt Z6 e #[.int .i64 b0, .int .i64 b1, .int .i64 b2, .int .i64 b3, .int .i64 b4, .int .i64 b5] 63 := by rw [hZ69]; exact (((((Be1.set 0 _).set 1 _).set 2 _).set 3 _).set 4 _).set 5 _
        have hZ6 : Below W0.heap.size W0 Z6 := by rw [hZ69]; exact (((((hZ5.setCell (p := ⟨e, 0, none⟩) le _).setCell (p := ⟨e, 1, none⟩) le _).setCell (p := ⟨e, 2, none⟩) le _).setCell (p := ⟨e, 3, none⟩) le _).setCell (p := ⟨e, 4, none⟩) le _).setCell (p := ⟨e, 5, none⟩) le _
        rw [← hZ69]
        clear hZ69 q00 z00 q01 z01 q02 z02 q03 z03 q04 z04 q05 z05
        have hA9 := IBoxBelow bA hZ6 hlA
        have hB9 := IBoxBelow bB hZ6 hlB
        have hS9 : (fun Z9 : World => Z9.cell? ⟨w.heap.size, 0, none⟩ = some (.int .i64 a0) ∧ Z9.cell? ⟨w.heap.size, 1, none⟩ = some (.int .i64 a1) ∧ Z9.cell? ⟨w.heap.size, 2, none⟩ = some (.int .i64 a2) ∧ Z9.cell? ⟨w.heap.size, 3, none⟩ = some (.int .i64 a3) ∧ Z9.cell? ⟨w.heap.size, 4, none⟩ = some (.int .i64 a4) ∧ Z9.cell? ⟨w.heap.size, 5, none⟩ = some (.int .i64 a5) ∧ Z9.cell? ⟨w.heap.size + 1, 0, none⟩ = some (.int .i64 b0) ∧ Z9.cell? ⟨w.heap.size + 1, 1, none⟩ = some (.int .i64 b1) ∧ Z9.cell? ⟨w.heap.size + 1, 2, none⟩ = some (.int .i64 b2) ∧ Z9.cell? ⟨w.heap.size + 1, 3, none⟩ = some (.int .i64 b3) ∧ Z9.cell? ⟨w.heap.size + 1, 4, none⟩ = some (.int .i64 b4) ∧ Z9.cell? ⟨w.heap.size + 1, 5, none⟩ = some (.int .i64 b5)) _ := ⟨hA9.cell 0, hA9.cell 1, hA9.cell 2, hA9.cell 3, hA9.cell 4, hA9.cell 5, hB9.cell 0, hB9.cell 1, hB9.cell 2, hB9.cell 3, hB9.cell 4, hB9.cell 5⟩
        refine hK9.out _ _ hS9 (fun _ => ?_)
        clear hK9 K9 hS9 hA9 hB9
        try simp only [Act.put, List.setIfInBounds_toArray, List.set_cons_zero, List.set_cons_succ]
        refine wpAnyH_done (by kernel_rfl) ?_ _
        exact ⟨d, e, rfl, Bd2, Be2, IBoxBelow bC hZ6 bC.lt, IBoxBelow bO hZ6 bO.lt, nde, ld, le, hZ6⟩
  case cont =>
    rintro e a' w' hq
    cases e <;> try exact hq.elim
    obtain ⟨d, g, rfl, Bd, Bg, BC, BO, ndg, ld, lg, hb1⟩ := hq
    have HB1 := Lib.hid hb1
    have HBC := Lib.hid BC; have HBD := Lib.hid Bd; have HBG := Lib.hid Bg; have HBO := Lib.hid BO
    have ho4 := bO.lt
    have hd3 : w.heap.size + 3 ≠ d := by omega
    have hd4 : w.heap.size + 3 ≠ g := by omega
    clear hb1 BC Bd Bg BO
    go_wp2
    go_loopw [8] (fun i wr => ∃ (k : Nat), ((k = 0 ∧ BoxAt wr (w.heap.size + 3) #[.int .i64 0, .int .i64 0, .int .i64 0, .int .i64 0, .int .i64 0, .int .i64 0] 63) ∨ (k = 1 ∧ BoxAt wr (w.heap.size + 3) #[.int .i64 (a0 - b1), .int .i64 (a1 - b0), .int .i64 0, .int .i64 0, .int .i64 0, .int .i64 0] 63) ∨ (k = 2 ∧ BoxAt wr (w.heap.size + 3) #[.int .i64 (a0 - b1), .int .i64 (a1 - b0), .int .i64 (a2 - b3), .int .i64 (a3 - b2), .int .i64 0, .int .i64 0] 63) ∨ (k = 3 ∧ BoxAt wr (w.heap.size + 3) #[.int .i64 (a0 - b1), .int .i64 (a1 - b0), .int .i64 (a2 - b3), .int .i64 (a3 - b2), .int .i64 (a4 - b5), .int .i64 (a5 - b4)] 63)) ∧ i = .int .i64 k ∧ BoxAt wr (w.heap.size + 2) #[.int .i64 0, .int .i64 0, .int .i64 0, .int .i64 0, .int .i64 0, .int .i64 0] 63 ∧ BoxAt wr d #[.int .i64 a0, .int .i64 a1, .int .i64 a2, .int .i64 a3, .int .i64 a4, .int .i64 a5] 63 ∧ BoxAt wr g #[.int .i64 b0, .int .i64 b1, .int .i64 b2, .int .i64 b3, .int .i64 b4, .int .i64 b5] 63 ∧ Below w.heap.size w wr) (fun i _ => 3 - (intOf i).toNat)
    case atStart => exact ⟨0, Or.inl ⟨rfl, HBO.out⟩, rfl, HBC.out, HBD.out, HBG.out, hW0b.trans (HB1.out.mono hW0b.size)⟩
    case round =>
      obtain ⟨k, hk, rfl, hC, hD, hG, hB⟩ := hrel
      have HB := Lib.hid hB; have HC := Lib.hid hC; have HD := Lib.hid hD; have HG := Lib.hid hG
      have hdl : w.heap.size ≤ wr.heap.size := hB.size
      rcases hk with ⟨rfl, hx⟩ | ⟨rfl, hx⟩ | ⟨rfl, hx⟩ | ⟨rfl, hx⟩
      · have HX := Lib.hid hx
        have x0 : wr.cell? ⟨d, 0, none⟩ = some (.int .i64 a0) := hD.cell 0
        have g0 : wr.cell? ⟨g, 0, none⟩ = some (.int .i64 b0) := hG.cell 0
        have o0 : wr.cell? ⟨w.heap.size + 1 + 1 + 1, 0, none⟩ = some (.int .i64 0) := hx.cell 0
        have y0 : wr.frozen? ⟨w.heap.size + 1 + 1 + 1, 0, none⟩ = false := hx.free _
        have x1 : wr.cell? ⟨d, 1, none⟩ = some (.int .i64 a1) := hD.cell 1
        have g1 : wr.cell? ⟨g, 1, none⟩ = some (.int .i64 b1) := hG.cell 1
        have o1 : wr.cell? ⟨w.heap.size + 1 + 1 + 1, 1, none⟩ = some (.int .i64 0) := hx.cell 1
        have y1 : wr.frozen? ⟨w.heap.size + 1 + 1 + 1, 1, none⟩ = false := hx.free _
        clear hx hC hD hG hB
        go_wp2
        go_region
        go_wp2
        go_roundw
        case rel =>
          refine ⟨1, Or.inr (Or.inl ⟨rfl, ?_⟩), by go_num, ?_, ?_, ?_, ?_⟩
          · exact ((HX.out.set 0 _).set 1 _).drew
          · exact ((HC.out.set_other (by show w.heap.size + 2 ≠ w.heap.size + 1 + 1 + 1; omega) _).set_other (by show w.heap.size + 2 ≠ w.heap.size + 1 + 1 + 1; omega) _).drew
          · exact ((HD.out.set_other hd3.symm _).set_other hd3.symm _).drew
          · exact ((HG.out.set_other hd4.symm _).set_other hd4.symm _).drew
          · exact ((HB.out.setCell (p := ⟨w.heap.size + 1 + 1 + 1, 0, none⟩) (by show w.heap.size ≤ w.heap.size + 1 + 1 + 1; omega) _).setCell (p := ⟨w.heap.size + 1 + 1 + 1, 1, none⟩) (by show w.heap.size ≤ w.heap.size + 1 + 1 + 1; omega) _).drew
        case measure => simp [intOf] <;> omega
      · have HX := Lib.hid hx
        have x2 : wr.cell? ⟨d, 2, none⟩ = some (.int .i64 a2) := hD.cell 2
        have g2 : wr.cell? ⟨g, 2, none⟩ = some (.int .i64 b2) := hG.cell 2
        have o2 : wr.cell? ⟨w.heap.size + 1 + 1 + 1, 2, none⟩ = some (.int .i64 0) := hx.cell 2
        have y2 : wr.frozen? ⟨w.heap.size + 1 + 1 + 1, 2, none⟩ = false := hx.free _
        have x3 : wr.cell? ⟨d, 3, none⟩ = some (.int .i64 a3) := hD.cell 3
        have g3 : wr.cell? ⟨g, 3, none⟩ = some (.int .i64 b3) := hG.cell 3
        have o3 : wr.cell? ⟨w.heap.size + 1 + 1 + 1, 3, none⟩ = some (.int .i64 0) := hx.cell 3
        have y3 : wr.frozen? ⟨w.heap.size + 1 + 1 + 1, 3, none⟩ = false := hx.free _
        clear hx hC hD hG hB
        go_wp2
        go_region
        go_wp2
        go_roundw
        case rel =>
          refine ⟨2, Or.inr (Or.inr (Or.inl ⟨rfl, ?_⟩)), by go_num, ?_, ?_, ?_, ?_⟩
          · exact ((HX.out.set 2 _).set 3 _).drew
          · exact ((HC.out.set_other (by show w.heap.size + 2 ≠ w.heap.size + 1 + 1 + 1; omega) _).set_other (by show w.heap.size + 2 ≠ w.heap.size + 1 + 1 + 1; omega) _).drew
          · exact ((HD.out.set_other hd3.symm _).set_other hd3.symm _).drew
          · exact ((HG.out.set_other hd4.symm _).set_other hd4.symm _).drew
          · exact ((HB.out.setCell (p := ⟨w.heap.size + 1 + 1 + 1, 2, none⟩) (by show w.heap.size ≤ w.heap.size + 1 + 1 + 1; omega) _).setCell (p := ⟨w.heap.size + 1 + 1 + 1, 3, none⟩) (by show w.heap.size ≤ w.heap.size + 1 + 1 + 1; omega) _).drew
        case measure => simp [intOf] <;> omega
      · have HX := Lib.hid hx
        have x4 : wr.cell? ⟨d, 4, none⟩ = some (.int .i64 a4) := hD.cell 4
        have g4 : wr.cell? ⟨g, 4, none⟩ = some (.int .i64 b4) := hG.cell 4
        have o4 : wr.cell? ⟨w.heap.size + 1 + 1 + 1, 4, none⟩ = some (.int .i64 0) := hx.cell 4
        have y4 : wr.frozen? ⟨w.heap.size + 1 + 1 + 1, 4, none⟩ = false := hx.free _
        have x5 : wr.cell? ⟨d, 5, none⟩ = some (.int .i64 a5) := hD.cell 5
        have g5 : wr.cell? ⟨g, 5, none⟩ = some (.int .i64 b5) := hG.cell 5
        have o5 : wr.cell? ⟨w.heap.size + 1 + 1 + 1, 5, none⟩ = some (.int .i64 0) := hx.cell 5
        have y5 : wr.frozen? ⟨w.heap.size + 1 + 1 + 1, 5, none⟩ = false := hx.free _
        clear hx hC hD hG hB
        go_wp2
        go_region
        go_wp2
        go_roundw
        case rel =>
          refine ⟨3, Or.inr (Or.inr (Or.inr ⟨rfl, ?_⟩)), by go_num, ?_, ?_, ?_, ?_⟩
          · exact ((HX.out.set 4 _).set 5 _).drew
          · exact ((HC.out.set_other (by show w.heap.size + 2 ≠ w.heap.size + 1 + 1 + 1; omega) _).set_other (by show w.heap.size + 2 ≠ w.heap.size + 1 + 1 + 1; omega) _).drew
          · exact ((HD.out.set_other hd3.symm _).set_other hd3.symm _).drew
          · exact ((HG.out.set_other hd4.symm _).set_other hd4.symm _).drew
          · exact ((HB.out.setCell (p := ⟨w.heap.size + 1 + 1 + 1, 4, none⟩) (by show w.heap.size ≤ w.heap.size + 1 + 1 + 1; omega) _).setCell (p := ⟨w.heap.size + 1 + 1 + 1, 5, none⟩) (by show w.heap.size ≤ w.heap.size + 1 + 1 + 1; omega) _).drew
        case measure => simp [intOf] <;> omega
      · have hcl := hC.lt
        have x0 : wr.cell? ⟨w.heap.size + 1 + 1 + 1, 0, none⟩ = some (.int .i64 (a0 - b1)) := hx.cell 0
        have c0 : wr.cell? ⟨w.heap.size + 1 + 1, 0, none⟩ = some (.int .i64 0) := hC.cell 0
        have f0 : wr.frozen? ⟨w.heap.size + 1 + 1, 0, none⟩ = false := hC.free 0
        have x1 : wr.cell? ⟨w.heap.size + 1 + 1 + 1, 1, none⟩ = some (.int .i64 (a1 - b0)) := hx.cell 1
        have c1 : wr.cell? ⟨w.heap.size + 1 + 1, 1, none⟩ = some (.int .i64 0) := hC.cell 1
        have f1 : wr.frozen? ⟨w.heap.size + 1 + 1, 1, none⟩ = false := hC.free 1
        have x2 : wr.cell? ⟨w.heap.size + 1 + 1 + 1, 2, none⟩ = some (.int .i64 (a2 - b3)) := hx.cell 2
        have c2 : wr.cell? ⟨w.heap.size + 1 + 1, 2, none⟩ = some (.int .i64 0) := hC.cell 2
        have f2 : wr.frozen? ⟨w.heap.size + 1 + 1, 2, none⟩ = false := hC.free 2
        have x3 : wr.cell? ⟨w.heap.size + 1 + 1 + 1, 3, none⟩ = some (.int .i64 (a3 - b2)) := hx.cell 3
        have c3 : wr.cell? ⟨w.heap.size + 1 + 1, 3, none⟩ = some (.int .i64 0) := hC.cell 3
        have f3 : wr.frozen? ⟨w.heap.size + 1 + 1, 3, none⟩ = false := hC.free 3
        have x4 : wr.cell? ⟨w.heap.size + 1 + 1 + 1, 4, none⟩ = some (.int .i64 (a4 - b5)) := hx.cell 4
        have c4 : wr.cell? ⟨w.heap.size + 1 + 1, 4, none⟩ = some (.int .i64 0) := hC.cell 4
        have f4 : wr.frozen? ⟨w.heap.size + 1 + 1, 4, none⟩ = false := hC.free 4
        have x5 : wr.cell? ⟨w.heap.size + 1 + 1 + 1, 5, none⟩ = some (.int .i64 (a5 - b4)) := hx.cell 5
        have c5 : wr.cell? ⟨w.heap.size + 1 + 1, 5, none⟩ = some (.int .i64 0) := hC.cell 5
        have f5 : wr.frozen? ⟨w.heap.size + 1 + 1, 5, none⟩ = false := hC.free 5
        clear hx hD hG hB
        go_wp2
        obtain ⟨Y, hY⟩ : ∃ Y, Y = ((((((wr.setCell ⟨w.heap.size + 1 + 1, 0, none⟩ (.int .i64 (a0 - b1))).setCell ⟨w.heap.size + 1 + 1, 1, none⟩ (.int .i64 (a1 - b0))).setCell ⟨w.heap.size + 1 + 1, 2, none⟩ (.int .i64 (a2 - b3))).setCell ⟨w.heap.size + 1 + 1, 3, none⟩ (.int .i64 (a3 - b2))).setCell ⟨w.heap.size + 1 + 1, 4, none⟩ (.int .i64 (a4 - b5))).setCell ⟨w.heap.size + 1 + 1, 5, none⟩ (.int .i64 (a5 - b4))) := ⟨_, rfl⟩
        have bY : BoxAt Y (w.heap.size + 1 + 1) #[.int .i64 (a0 - b1), .int .i64 (a1 - b0), .int .i64 (a2 - b3), .int .i64 (a3 - b2), .int .i64 (a4 - b5), .int .i64 (a5 - b4)] 63 := by rw [hY]; exact (((((hC.set 0 _).set 1 _).set 2 _).set 3 _).set 4 _).set 5 _
        have hB9 : Below w.heap.size w Y := by
          rw [hY]
          (repeat (first | exact HB.out | refine Below.setCell ?_ (by simp <;> omega) _))
        rw [← hY]
        have r0 : Y.cell? ⟨w.heap.size + 1 + 1, 0, none⟩ = some (.int .i64 (a0 - b1)) := bY.cell 0
        have r1 : Y.cell? ⟨w.heap.size + 1 + 1, 1, none⟩ = some (.int .i64 (a1 - b0)) := bY.cell 1
        have r2 : Y.cell? ⟨w.heap.size + 1 + 1, 2, none⟩ = some (.int .i64 (a2 - b3)) := bY.cell 2
        have r3 : Y.cell? ⟨w.heap.size + 1 + 1, 3, none⟩ = some (.int .i64 (a3 - b2)) := bY.cell 3
        have r4 : Y.cell? ⟨w.heap.size + 1 + 1, 4, none⟩ = some (.int .i64 (a4 - b5)) := bY.cell 4
        have r5 : Y.cell? ⟨w.heap.size + 1 + 1, 5, none⟩ = some (.int .i64 (a5 - b4)) := bY.cell 5
        exact bodyPost_ret (v := .agg #[.int .i64 (a0 - b1), .int .i64 (a1 - b0), .int .i64 (a2 - b3), .int .i64 (a3 - b2), .int .i64 (a4 - b5), .int .i64 (a5 - b4)]) (by simp [results, Try.results41, go_sem, r0, r1, r2, r3, r4, r5]) rfl ⟨rfl, hB9⟩
end Go.Proofs.Ytpplcbpnojggcaa
