/-
  Pages in order: the reference's InOrder.
-/
import Derived.Test.YtmolejpbpcodbaaSD
import Derived.Test.YtmolejpbpcodbaaIW
namespace Go.Proofs.Ytmolejpbpcodbaa
open Go.RowKit

theorem ordP_len (m : Nat) : (ordP m).length = m := by unfold ordP; rw [List.length_map, List.length_range]
set_option maxRecDepth 100000 in
set_option maxHeartbeats 2000000 in
theorem inOrder_any (a : Option Addr) (n m c : Nat) (w : World) (hn : n = m) (h : RowsAt 2 Page.l w a (ordP m)) (hm : m ≤ 1000) :
    Calls Try.prog 18 #[.slice a n c] w fun e w' => e = .returned (.bool true) ∧ Below w.heap.size w w' := by
  subst hn
  go_enter Try.func18, Try.ntmps18
  go_wp2
  go_loopw [3] (fun i wr => ∃ k : Nat, k ≤ n ∧ i = .int .i64 k ∧ Below w.heap.size w wr) (fun i _ => n - (intOf i).toNat)
  case atStart => exact ⟨0, Nat.zero_le _, rfl, Below.refl _ _⟩
  case round =>
    obtain ⟨k, hk, rfl, hB⟩ := hrel
    by_cases hlt : k < n
    · have hkl : (k : Int) < (n : Int) := by omega
      obtain ⟨p1, rfl, hp1, x0, x1⟩ := (h.below hB).page (k := k) (by rw [ordP_len]; exact hlt)
      have e0 : ((ordP n)[k]'(by rw [ordP_len]; exact hlt)) = ⟨(k : Int) + 1, 0⟩ := by unfold ordP; rw [List.getElem_map, List.getElem_range]
      rw [e0] at x0 x1
      simp only at x0 x1
      clear e0
      go_wp2_with fail
      go_roundw
      case rel => exact ⟨k + 1, by omega, by go_num, hB⟩
      case measure => simp [intOf]; omega
    · have hkI : ¬ (k : Int) < (n : Int) := by omega
      go_wp2
      go_ret
      exact ⟨rfl, hB⟩
end Go.Proofs.Ytmolejpbpcodbaa
