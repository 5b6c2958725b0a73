/-
  The document's examples of folds, that the law on books looks at first.
-/
import Derived.Test.YtjkjfmahcjcniaaSF
import Derived.Test.YtjkjfmahcjcniaaI6
namespace Go.Proofs.Ytjkjfmahcjcniaa
open Go.RowKit

theorem exB1 : readE 2 1 [⟨3, 0, 4, 0⟩, ⟨2, 0, 1, 0⟩] [⟨1, 1⟩] = 0 := by decide +kernel
theorem exB2 : readP 2 1 [⟨3, 0, 4, 0⟩, ⟨2, 0, 1, 0⟩] [⟨1, 1⟩] = ordP 4 := by decide +kernel
theorem exB3 : (checkFo 2 2 [⟨1, 1⟩]).1 = 1 := by decide +kernel
theorem exB4 : (checkFo 2 2 [⟨1, 1⟩]).2 = 25 := by decide +kernel
theorem okI_one : ∀ x ∈ [(⟨1, 1⟩ : Fold)], OkI x.c := by
  intro x hx
  rw [List.mem_singleton.1 hx]; exact (by decide : (Lit.int .i64 1).wf = true)
theorem checkFo_n (C R : Int) (a : Option Addr) (n : Nat) (L : List Fold) (c : Nat) (w : World) (hn : n = L.length) (hL : RowsAt 2 Fold.l w a L) (hl : L.length ≤ maxLen) (hI : ∀ x ∈ L, OkI x.c) {p q : Int} (h1 : (checkFo C R L).1 = p) (h2 : (checkFo C R L).2 = q) :
    Calls Try.prog 17 #[.agg #[.int .i64 C, .int .i64 R], .slice a n c] w fun e w' => e = .returned (.tuple #[.int .i64 p, .int .i64 q]) ∧ Below w.heap.size w w' := by
  subst hn; rw [← h1, ← h2]; exact checkFolds_any C R a L c w hL hl hI
def exS : List Cell := [⟨3, 0, 4, 0⟩, ⟨2, 0, 1, 0⟩]
def exF : List Fold := [⟨1, 1⟩]
theorem exReads (a b : Addr) (W : World) (h1 : RowsAt 4 Cell.l W (some a) exS) (h2 : RowsAt 2 Fold.l W (some b) exF) :
    Calls Try.prog 30 #[.agg #[.int .i64 2, .int .i64 1, .slice (some a) 2 2], .slice (some b) 1 1] W (ReadsPost W 0 (ordP 4)) :=
  reads_n 2 1 (some a) 2 exS 2 (some b) 1 exF 1 W rfl h1 (by decide) rfl h2 (by decide) okI_one exB1 exB2
theorem exCheck (a : Addr) (W : World) (h : RowsAt 2 Fold.l W (some a) exF) :
    Calls Try.prog 17 #[.agg #[.int .i64 2, .int .i64 2], .slice (some a) 1 2] W fun e w' => e = .returned (.tuple #[.int .i64 1, .int .i64 25]) ∧ Below W.heap.size W w' :=
  checkFo_n 2 2 (some a) 1 exF 2 W rfl h (by decide) okI_one exB3 exB4
theorem exW1 (w : World) : RowsAt 4 Cell.l (w.alloc (.cells #[.int .i64 3, .int .i64 0, .int .i64 4, .int .i64 0, .int .i64 2, .int .i64 0, .int .i64 1, .int .i64 0] 91)) (some ⟨w.heap.size, 0, none⟩) exS := rows_lit cell_l w _ exS _ rfl
theorem exW2 (w : World) : RowsAt 2 Fold.l (w.alloc (.cells #[.int .i64 1, .int .i64 1] 74)) (some ⟨w.heap.size, 0, none⟩) exF := rows_lit fold_l w _ exF _ rfl
set_option maxRecDepth 100000 in
set_option maxHeartbeats 4000000 in
theorem imposed_any (w : World) : Calls Try.prog 71 #[] w fun e w' => e = .returned (.bool true) ∧ Below w.heap.size w w' := by
  go_enter Try.func71, Try.ntmps71
  go_wp2_with fail
  obtain ⟨wa, ha⟩ : ∃ wa, wa = w.alloc (.cells #[.int .i64 3, .int .i64 0, .int .i64 4, .int .i64 0, .int .i64 2, .int .i64 0, .int .i64 1, .int .i64 0] 91) := ⟨_, rfl⟩
  have hs : wa.heap.size = w.heap.size + 1 := by rw [ha]; simp
  have k2 := exW2 wa
  rw [hs] at k2
  have k1 : RowsAt 4 Cell.l wa (some ⟨w.heap.size, 0, none⟩) exS := by rw [ha]; exact exW1 w
  rw [← ha]
  refine (exReads ⟨w.heap.size, 0, none⟩ ⟨w.heap.size + 1, 0, none⟩ _ (k1.alloc _) k2).mono ?_
  clear k1 k2 hs
  rintro e w1 ⟨a1, n1, c1, rfl, hn1, hr1, -, hb1⟩
  have hB0 := ((Below.refl w.heap.size w).alloc (Nat.le_refl _) (.cells #[.int .i64 3, .int .i64 0, .int .i64 4, .int .i64 0, .int .i64 2, .int .i64 0, .int .i64 1, .int .i64 0] 91)).alloc (by simp) (.cells #[.int .i64 1, .int .i64 1] 74)
  rw [← ha] at hB0
  have hB1 := hB0.trans (hb1.mono (B' := w.heap.size) hB0.size)
  have hn1' : n1 = 4 := by rw [hn1]; exact ordP_len 4
  subst hn1'
  clear hb1 hB0 hn1
  go_wp2_with fail
  refine (quarto_any _).mono ?_
  rintro e w2 ⟨rfl, hw2⟩
  have hr2 : RowsAt 2 Fold.l w2 (some ⟨w1.heap.size, 0, none⟩) quartoL := by rw [hw2]; exact rows_lit fold_l w1 _ quartoL _ rfl
  have hb2 : Below w1.heap.size w1 w2 := by rw [hw2]; exact (Below.refl _ _).alloc (Nat.le_refl _) _
  clear hw2
  have hB2 := hB1.trans (hb2.mono (B' := w.heap.size) hB1.size)
  have hr12 := hr1.below hb2
  have hcut : ∀ W, (Instr.sliceAt 23 (.slice (some ⟨w1.heap.size, 0, none⟩) 2 2) none (some (.int .i64 1)) none).run Try.prog W = .ok (.slice (some ⟨w1.heap.size, 0, none⟩) 1 2) W := fun W => cut_low _ _ 2 2 1 foldsUnder 2 foldSize (by decide) W
  clear hb2 hB1 hr1
  go_wp2_with fail
  refine (exCheck _ _ (hr2.take 1)).mono ?_
  rintro e w3 ⟨rfl, hb3⟩
  have hr3 := hr12.below hb3
  have hB3 := hB2.trans (hb3.mono (B' := w.heap.size) hB2.size)
  clear hb3 hB2 hr12 hr2
  go_wp2_with (go_at_call 31; refine (inOrder_any a1 4 4 c1 _ rfl hr3 (by decide)).mono ?_; rintro e v ⟨rfl, hbv⟩; have hB4 := hB3.trans (hbv.mono (B' := w.heap.size) hB3.size))
  go_ret
  exact ⟨rfl, hB4⟩
end Go.Proofs.Ytjkjfmahcjcniaa
