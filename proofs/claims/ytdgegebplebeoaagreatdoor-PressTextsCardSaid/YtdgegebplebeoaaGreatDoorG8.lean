/-
  Package press: the colours and the jobs of the examples, laid in memory.
-/
import Derived.Test.YtdgegebplebeoaaGreatDoorE9
namespace Go.Proofs.YtdgegebplebeoaaGreatDoor
open Go.RowKit Go.Maps Go.Shelf

def InksPost (w : World) (e : Ending) (w' : World) : Prop := ∃ b, e = .returned (inksC b).v ∧ ColsAt w' (inksC b) ∧ Below w.heap.size w w'
def DayPost (w : World) (e : Ending) (w' : World) : Prop := ∃ b, e = .returned (.slice (some ⟨b, 0, none⟩) 2 2) ∧ RowsG 4 jobV w' (some ⟨b, 0, none⟩) dayL ∧ Below w.heap.size w w'
set_option maxHeartbeats 1000000 in
theorem inks_any (w : World) : Calls Tryz.prog 17 #[] w (InksPost w) := by
  go_enter Tryz.func17, Tryz.ntmps17
  go_wp2
  refine bodyPost_ret (v := (inksC (w.heap.size + 1)).v) (by simp [results, Tryz.results17, go_sem]; rfl) rfl ⟨w.heap.size + 1, rfl, ?_, ?_⟩
  · obtain ⟨A1, hA1⟩ : ∃ A1, A1 = w.alloc (.cells #[.slice (some ⟨w.heap.size + 1, 0, none⟩) 3 3, .slice (some ⟨w.heap.size + 1 + 1 + 1 + 1 + 1, 0, none⟩) 3 3] 55) := ⟨_, rfl⟩
    obtain ⟨A2, hA2⟩ : ∃ A2, A2 = A1.alloc (.cells #[.int .i64 10, .int .i64 20, .int .i64 30] 3) := ⟨_, rfl⟩
    obtain ⟨A3, hA3⟩ : ∃ A3, A3 = A2.alloc (.cells #[.int .i64 0, .int .i64 60, .int .i64 0] 3) := ⟨_, rfl⟩
    obtain ⟨A4, hA4⟩ : ∃ A4, A4 = A3.alloc (.cells #[.int .i64 (-1), .int .i64 0, .int .i64 (-1)] 3) := ⟨_, rfl⟩
    obtain ⟨A5, hA5⟩ : ∃ A5, A5 = A4.alloc (.cells #[.int .i64 0, .int .i64 0, .int .i64 0] 3) := ⟨_, rfl⟩
    rw [← hA1, ← hA2, ← hA3, ← hA4, ← hA5]
    have z1 : A1.heap.size = w.heap.size + 1 := by rw [hA1]; simp
    have z2 : A2.heap.size = w.heap.size + 1 + 1 := by rw [hA2]; simp [z1]
    have z3 : A3.heap.size = w.heap.size + 1 + 1 + 1 := by rw [hA3]; simp [z2]
    have z4 : A4.heap.size = w.heap.size + 1 + 1 + 1 + 1 := by rw [hA4]; simp [z3]
    have z5 : A5.heap.size = w.heap.size + 1 + 1 + 1 + 1 + 1 := by rw [hA5]; simp [z4]
    have i1 : IBox A5 (w.heap.size + 1) [10, 20, 30] := by rw [hA5, hA4, hA3, hA2, ← z1]; exact (((BoxAt.new A1 _ _).alloc _).alloc _).alloc _
    have i2 : IBox A5 (w.heap.size + 1 + 1) [0, 60, 0] := by rw [hA5, hA4, hA3, ← z2]; exact ((BoxAt.new A2 _ _).alloc _).alloc _
    have i3 : IBox A5 (w.heap.size + 1 + 1 + 1) [-1, 0, -1] := by rw [hA5, hA4, ← z3]; exact (BoxAt.new A3 _ _).alloc _
    have i4 : IBox A5 (w.heap.size + 1 + 1 + 1 + 1) [0, 0, 0] := by rw [hA5, ← z4]; exact BoxAt.new A4 _ _
    refine ⟨(i1.alloc _).rows, ⟨?_, fun x hx => ?_⟩⟩
    · have h := rowsG_lit (g := prV) (n := 1) (fun _ => rfl) A5 49 (inksC (w.heap.size + 1)).T _ rfl
      rw [z5] at h
      exact h
    · have hx : x = ⟨some ⟨w.heap.size + 1 + 1, 0, none⟩, [0, 60, 0], 3⟩ ∨ x = ⟨some ⟨w.heap.size + 1 + 2, 0, none⟩, [-1, 0, -1], 3⟩ ∨ x = ⟨some ⟨w.heap.size + 1 + 3, 0, none⟩, [0, 0, 0], 3⟩ := by simpa [inksC] using hx
      rcases hx with rfl | rfl | rfl
      · exact (i2.alloc _).rows
      · exact (i3.alloc _).rows
      · exact (i4.alloc _).rows
  · exact ((((((Below.refl w.heap.size w).alloc (Nat.le_refl _) _).alloc (by simp) _).alloc (by simp; omega) _).alloc (by simp; omega) _).alloc (by simp; omega) _).alloc (by simp; omega) _
set_option maxHeartbeats 1000000 in
theorem day_any (w : World) : Calls Tryz.prog 19 #[] w (DayPost w) := by
  go_enter Tryz.func19, Tryz.ntmps19
  go_wp2
  go_ret
  refine ⟨w.heap.size, rfl, ?_, (Below.refl _ _).alloc (Nat.le_refl _) _⟩
  exact rowsG_lit job_l w 99 dayL _ rfl
end Go.Proofs.YtdgegebplebeoaaGreatDoor
