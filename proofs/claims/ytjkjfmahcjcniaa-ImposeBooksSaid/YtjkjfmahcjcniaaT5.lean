/-
  Package impose: the reference's signatures of a right book.
-/
import Derived.Test.YtjkjfmahcjcniaaIV
import Derived.BigQuiet
namespace Go.Proofs.Ytjkjfmahcjcniaa
open Go.RowKit

def RSigPost (w : World) (P S : Int) (e : Ending) (w' : World) : Prop :=
  ∃ (a : Option Addr) (n c : Nat), e = .returned (.tuple #[.slice a n c, .int .i64 ((sigN P S : Nat) * S - P)]) ∧ n = (sigTo P S (sigN P S)).length ∧ RowsAt 2 Rng.l w' a (sigTo P S (sigN P S)) ∧ Below w.heap.size w w'
set_option maxRecDepth 100000 in
set_option maxHeartbeats 8000000 in
theorem refSignatures_any (P S : Int) (pa : Option Addr) (pn pc : Nat) (ca : Option Addr) (cn cc : Nat) (w : World) (g1 : 1 ≤ P) (g2 : P ≤ 4000) (g3 : 2 ≤ S) (g4 : S ≤ 64) :
    Calls Try.prog 60 #[.agg #[.int .i64 P, .int .i64 S, .slice pa pn pc, .slice ca cn cc]] w (RSigPost w P S) := by
  have bx1 := BoxAt.new w #[.int .i64 P, .int .i64 S, .slice pa pn pc, .slice ca cn cc] 93
  have hB1 := (Below.refl w.heap.size w).alloc (Nat.le_refl _) (.cells #[.int .i64 P, .int .i64 S, .slice pa pn pc, .slice ca cn cc] 93)
  go_enter Try.func60, Try.ntmps60
  go_wp2_with fail
  go_loopw [4, 5] (fun v f wr => ∃ (n : Nat) (E : Int), f = .int .i64 (E + 1) ∧ Hid (E = n * S) ∧ 0 ≤ E ∧ E < P + S ∧ OwnR 2 108 Rng.l wr (w.heap.size + 1) v (sigTo P S n) ∧ BoxAt wr w.heap.size #[.int .i64 P, .int .i64 S, .slice pa pn pc, .slice ca cn cc] 93 ∧ Below w.heap.size w wr) (fun _ f _ => (P + 1 - intOf f).toNat)
  case atStart => exact ⟨0, 0, rfl, Lib.hid (by simp), by omega, by omega, OwnR.nil _ _, bx1, hB1⟩
  case round =>
    obtain ⟨n, E, rfl, HE, e1, e2, hO, bx, hB⟩ := hrel
    clear bx1 hB1
    have c0 := bx.cell 0; have c1 := bx.cell 1
    have hbl := bx.lt
    simp at c0 c1
    have hnn : n ≤ 4100 := by
      have h1 : (n : Int) * 1 ≤ n * S := Int.mul_le_mul_of_nonneg_left (by omega) (by omega)
      have := HE.out
      omega
    obtain ⟨a7, c7, ev, -, -, -, -, -⟩ := hO.rows rng_l
    have hlen := sigTo_len P S n
    by_cases hlt : E < P
    · have hlt' : E + 1 ≤ P := by omega
      have hx2 : Hid (E + S = ((n + 1 : Nat) : Int) * S) := Lib.hid (by rw [HE.out]; push_cast; rw [Int.add_mul, Int.one_mul])
      by_cases hm : E + S < P
      · have hx : Hid (sigTo P S n ++ [⟨E + 1, E + S⟩] = sigTo P S (n + 1)) := Lib.hid (by rw [sigTo_succ, ← HE.out, Int.min_eq_left (by omega)])
        have HEV := Lib.hid ev; have HLEN := Lib.hid hlen; clear ev hlen
        have hmin : min P (E + 1 + S - 1) = E + S := by omega
        have hs : E + 1 + S - 1 = E + S := by omega
        go_wp2_with (at_builtin; refine wpList_appX tRng rng_l _ ⟨E + 1, E + S⟩ _ rfl rfl _ _ rfl (w.heap.size + 1) _ (sigTo P S n) rfl hO rfl (by rw [HLEN.out]; omega) (by omega) ?_; intro gg cg wg hOg hgg hBg; have hbx := bx.grown hgg (fun e => by have := (hO.lt w.heap.size e.symm).1; omega); have d0 := hbx.cell 0; have d1 := hbx.cell 1; simp at d0 d1)
        rw [hx.out] at hOg
        have hBw := hB.grown hgg hB.size (fun q e => by have := (hO.lt q e).1; omega)
        go_wp2_with fail
        go_roundw
        case rel => exact ⟨n + 1, E + S, by congr 1; omega, hx2, by omega, by omega, hOg, hbx, hBw⟩
        case measure => simp [intOf]; omega
      · have hx : Hid (sigTo P S n ++ [⟨E + 1, P⟩] = sigTo P S (n + 1)) := Lib.hid (by rw [sigTo_succ, ← HE.out, Int.min_eq_right (by omega)])
        have HEV := Lib.hid ev; have HLEN := Lib.hid hlen; clear ev hlen
        have hmin : min P (E + 1 + S - 1) = P := by omega
        have hs : E + 1 + S - 1 = E + S := by omega
        go_wp2_with (at_builtin; refine wpList_appX tRng rng_l _ ⟨E + 1, P⟩ _ rfl rfl _ _ rfl (w.heap.size + 1) _ (sigTo P S n) rfl hO rfl (by rw [HLEN.out]; omega) (by omega) ?_; intro gg cg wg hOg hgg hBg; have hbx := bx.grown hgg (fun e => by have := (hO.lt w.heap.size e.symm).1; omega); have d0 := hbx.cell 0; have d1 := hbx.cell 1; simp at d0 d1)
        rw [hx.out] at hOg
        have hBw := hB.grown hgg hB.size (fun q e => by have := (hO.lt q e).1; omega)
        go_wp2_with fail
        go_roundw
        case rel => exact ⟨n + 1, E + S, by congr 1; omega, hx2, by omega, by omega, hOg, hbx, hBw⟩
        case measure => simp [intOf]; omega
    · have hN : Hid (sigN P S = n) := Lib.hid (sigN_eq g3 (by rw [← HE.out]; omega) (by rw [← HE.out]; exact e2))
      have hnl : ¬ E + 1 ≤ P := by omega
      have hr := hO.rows rng_l
      obtain ⟨a8, c8, ev8, hrow, -, -, -, -⟩ := hr
      have HEV := Lib.hid ev; have HLEN := Lib.hid hlen; clear ev
      rw [hlen] at ev8
      clear hlen
      subst ev8
      have hE2 : (n : Int) * S = E := HE.out.symm
      have hEw : IntKind.i64.wrap ((n : Int) * S) = E := by rw [hE2]; exact IntWalk.i64_in _ (by omega)
      go_wp2_with fail
      go_quiet (fail)
      go_wp2
      go_ret2
      exact ⟨a8, n, c8, by rw [hN.out, ← HE.out]; rfl, by rw [hN.out]; exact HLEN.out.symm, by rw [hN.out]; exact hrow.drewN _, below_drewN hB _⟩
end Go.Proofs.Ytjkjfmahcjcniaa
