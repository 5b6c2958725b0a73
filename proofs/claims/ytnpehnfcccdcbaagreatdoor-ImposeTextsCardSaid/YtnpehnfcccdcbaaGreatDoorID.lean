/-
  Package impose: the size behind a fold; where a fold brings what lies at a place.
-/
import Derived.Test.YtnpehnfcccdcbaaGreatDoorIC
namespace Go.Proofs.YtnpehnfcccdcbaaGreatDoor
open Go.RowKit

def AggPost (v : Value) (w : World) (e : Ending) (w' : World) : Prop := e = .returned v ∧ Below w.heap.size w w'
set_option maxHeartbeats 1000000 in
theorem after_any (C R : Int) (f : Fold) (w : World) (hC : 1 ≤ C ∧ C ≤ 8) (hR : 1 ≤ R ∧ R ≤ 8) (hc : 0 ≤ f.c ∧ f.c ≤ 8) :
    Calls Tryz.prog 68 #[.agg #[.int .i64 C, .int .i64 R], .agg #[.int .i64 f.k, .int .i64 f.c]] w (AggPost (.agg #[.int .i64 (afterC C f), .int .i64 (afterR R f)]) w) := by
  obtain ⟨k, c⟩ := f
  have hc : 0 ≤ c ∧ c ≤ 8 := hc
  obtain ⟨hC1, hC2⟩ := hC
  obtain ⟨hR1, hR2⟩ := hR
  obtain ⟨hc1, hc2⟩ := hc
  by_cases h1 : k = 1 ∨ k = 2
  · have HE := Lib.hid (show afterC C ⟨k, c⟩ = C - c ∧ afterR R ⟨k, c⟩ = R by unfold afterC afterR; exact ⟨if_pos h1, if_neg (by show ¬ (k = 3 ∨ k = 4); omega)⟩)
    rw [HE.out.1, HE.out.2]
    rcases h1 with rfl | rfl
    all_goals
      go_enter Tryz.func68, Tryz.ntmps68
      go_wp2
      refine bodyPost_ret (v := .agg #[.int .i64 (C - c), .int .i64 R]) (by simp [results, Tryz.results68, go_sem]) rfl ⟨rfl, ?_⟩
      (repeat (first | exact Below.refl _ _ | refine Below.alloc ?_ (by simp <;> omega) _ | refine Below.setCell ?_ (by simp <;> omega) _ | refine below_drewN ?_ _ | refine Below.drew ?_))
  by_cases h2 : k = 3 ∨ k = 4
  · have HE := Lib.hid (show afterC C ⟨k, c⟩ = C ∧ afterR R ⟨k, c⟩ = R - c by unfold afterC afterR; exact ⟨if_neg h1, if_pos h2⟩)
    rw [HE.out.1, HE.out.2]
    clear h1
    rcases h2 with rfl | rfl
    all_goals
      go_enter Tryz.func68, Tryz.ntmps68
      go_wp2
      refine bodyPost_ret (v := .agg #[.int .i64 C, .int .i64 (R - c)]) (by simp [results, Tryz.results68, go_sem]) rfl ⟨rfl, ?_⟩
      (repeat (first | exact Below.refl _ _ | refine Below.alloc ?_ (by simp <;> omega) _ | refine Below.setCell ?_ (by simp <;> omega) _ | refine below_drewN ?_ _ | refine Below.drew ?_))
  have HE := Lib.hid (show afterC C ⟨k, c⟩ = C ∧ afterR R ⟨k, c⟩ = R by unfold afterC afterR; exact ⟨if_neg h1, if_neg h2⟩)
  rw [HE.out.1, HE.out.2]
  have g1 : (k == 1) = false := by simp; omega
  have g2 : (k == 2) = false := by simp; omega
  have g3 : (k == 3) = false := by simp; omega
  have g4 : (k == 4) = false := by simp; omega
  clear h1 h2
  go_enter Tryz.func68, Tryz.ntmps68
  go_wp2
  refine bodyPost_ret (v := .agg #[.int .i64 C, .int .i64 R]) (by simp [results, Tryz.results68, go_sem]) rfl ⟨rfl, ?_⟩
  (repeat (first | exact Below.refl _ _ | refine Below.alloc ?_ (by simp <;> omega) _ | refine Below.setCell ?_ (by simp <;> omega) _ | refine below_drewN ?_ _ | refine Below.drew ?_))
def Way.v (x : Way) : Value := .agg #[.int .i64 x.c, .int .i64 x.r, .int .i64 x.o, .int .i64 x.t]
end Go.Proofs.YtnpehnfcccdcbaaGreatDoor
