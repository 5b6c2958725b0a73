/-
  Package impose: where a fold brings what lies at a place: the walk.
-/
import Derived.Test.YtgoandhlcekmiaaGreatDoorKB
namespace Go.Proofs.YtgoandhlcekmiaaGreatDoor
open Go.RowKit

set_option maxHeartbeats 4000000 in
theorem wayOf_any (C R : Int) (pv : Value) (hpv : ∃ a n m, pv = .slice a n m) (f : Fold) (c r : Int) (w : World) (hC : 1 ≤ C ∧ C ≤ 8) (hR : 1 ≤ R ∧ R ≤ 8) (hf : 0 ≤ f.c ∧ f.c ≤ 8) (hc : 0 ≤ c ∧ c < C) (hr : 0 ≤ r ∧ r < R) (hk : 1 ≤ f.k ∧ f.k ≤ 6) :
    Calls Tryz.prog 78 #[.agg #[.int .i64 C, .int .i64 R, pv], .agg #[.int .i64 f.k, .int .i64 f.c], .int .i64 c, .int .i64 r] w (AggPost (wayOf C R f c r).v w) := by
  obtain ⟨pa, pn, pm, rfl⟩ := hpv
  obtain ⟨k, q⟩ := f
  have hf : 0 ≤ q ∧ q ≤ 8 := hf
  have hk : 1 ≤ k ∧ k ≤ 6 := hk
  obtain ⟨hC1, hC2⟩ := hC
  obtain ⟨hR1, hR2⟩ := hR
  obtain ⟨hq1, hq2⟩ := hf
  obtain ⟨hc1, hc2⟩ := hc
  obtain ⟨hr1, hr2⟩ := hr
  have h6 : k = 1 ∨ k = 2 ∨ k = 3 ∨ k = 4 ∨ k = 5 ∨ k = 6 := by omega
  clear hk
  have T1 : -40 ≤ laidT c (C - q) ∧ laidT c (C - q) ≤ 40 := by unfold laidT; split <;> omega
  have T2 : -40 ≤ laidT (C - 1 - c) (C - q) ∧ laidT (C - 1 - c) (C - q) ≤ 40 := by unfold laidT; split <;> omega
  have T3 : -40 ≤ laidT r (R - q) ∧ laidT r (R - q) ≤ 40 := by unfold laidT; split <;> omega
  have T4 : -40 ≤ laidT (R - 1 - r) (R - q) ∧ laidT (R - 1 - r) (R - q) ≤ 40 := by unfold laidT; split <;> omega
  rcases h6 with rfl | rfl | rfl | rfl | rfl | rfl
  all_goals
    go_enter Tryz.func78, Tryz.ntmps78
    go_wp2_with fail
    go_quiet (fail)
    go_wp2_with (go_at_call 93; refine (laidBack_any _ _ _ (by omega) (by omega) (by omega) (by omega)).mono ?_; rintro e w' ⟨rfl, rfl⟩)
  · refine bodyPost_ret (v := (wayOf C R ⟨1, q⟩ c r).v) (by simp [results, Tryz.results78, go_sem, wayOf, Way.v]) rfl ⟨rfl, ?_⟩
    (repeat (first | exact Below.refl _ _ | refine Below.alloc ?_ (by simp <;> omega) _ | refine Below.setCell ?_ (by simp <;> omega) _ | refine below_drewN ?_ _ | refine Below.drew ?_))
  · refine bodyPost_ret (v := (wayOf C R ⟨2, q⟩ c r).v) (by simp [results, Tryz.results78, go_sem, wayOf, Way.v]) rfl ⟨rfl, ?_⟩
    (repeat (first | exact Below.refl _ _ | refine Below.alloc ?_ (by simp <;> omega) _ | refine Below.setCell ?_ (by simp <;> omega) _ | refine below_drewN ?_ _ | refine Below.drew ?_))
  · refine bodyPost_ret (v := (wayOf C R ⟨3, q⟩ c r).v) (by simp [results, Tryz.results78, go_sem, wayOf, Way.v]) rfl ⟨rfl, ?_⟩
    (repeat (first | exact Below.refl _ _ | refine Below.alloc ?_ (by simp <;> omega) _ | refine Below.setCell ?_ (by simp <;> omega) _ | refine below_drewN ?_ _ | refine Below.drew ?_))
  · refine bodyPost_ret (v := (wayOf C R ⟨4, q⟩ c r).v) (by simp [results, Tryz.results78, go_sem, wayOf, Way.v]) rfl ⟨rfl, ?_⟩
    (repeat (first | exact Below.refl _ _ | refine Below.alloc ?_ (by simp <;> omega) _ | refine Below.setCell ?_ (by simp <;> omega) _ | refine below_drewN ?_ _ | refine Below.drew ?_))
  · refine bodyPost_ret (v := (wayOf C R ⟨5, q⟩ c r).v) (by simp [results, Tryz.results78, go_sem, wayOf, Way.v]) rfl ⟨rfl, ?_⟩
    (repeat (first | exact Below.refl _ _ | refine Below.alloc ?_ (by simp <;> omega) _ | refine Below.setCell ?_ (by simp <;> omega) _ | refine below_drewN ?_ _ | refine Below.drew ?_))
  · refine bodyPost_ret (v := (wayOf C R ⟨6, q⟩ c r).v) (by simp [results, Tryz.results78, go_sem, wayOf, Way.v]) rfl ⟨rfl, ?_⟩
    (repeat (first | exact Below.refl _ _ | refine Below.alloc ?_ (by simp <;> omega) _ | refine Below.setCell ?_ (by simp <;> omega) _ | refine below_drewN ?_ _ | refine Below.drew ?_))
end Go.Proofs.YtgoandhlcekmiaaGreatDoor
