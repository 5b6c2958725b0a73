/-
  Package impose: the reference's CheckScheme.
-/
import Derived.Test.YtnpehnfcccdcbaaGreatDoorYB
namespace Go.Proofs.YtnpehnfcccdcbaaGreatDoor
open Go.RowKit

def hasB (L : List Int) (n : Int) : Bool := L.contains n
theorem contains_far {L : List Int} {n : Int} (h : ∀ j, j < L.length → L[j]? ≠ some n) : L.contains n = false := by
  rw [Bool.eq_false_iff]
  intro hc
  have hm : n ∈ L := by simpa using hc
  obtain ⟨j, hj, e⟩ := List.getElem_of_mem hm
  exact h j hj (by rw [List.getElem?_eq_getElem hj, e])
set_option maxRecDepth 100000 in
set_option maxHeartbeats 800000 in
theorem has_any (a : Option Addr) (L : List Int) (m c : Nat) (n : Int) (w : World) (hL : RowsAt 1 intL w a L) (hm : m = L.length) (hl : L.length ≤ maxLen) :
    Calls Tryz.prog 30 #[.slice a m c, .int .i64 n] w fun e w' => e = .returned (.bool (hasB L n)) ∧ w = w' := by
  subst hm
  unfold maxLen at hl
  go_enter Tryz.func30, Tryz.ntmps30
  go_wp2_with fail
  go_loop [5] (fun v3 => ∃ k : Nat, k ≤ L.length ∧ v3 = .int .i64 k ∧ Hid (∀ j, j < k → L[j]? ≠ some n)) (fun v3 => L.length - (intOf v3).toNat)
  case atStart => exact ⟨0, Nat.zero_le _, rfl, Lib.hid fun j hj => absurd hj (Nat.not_lt_zero _)⟩
  case round =>
    obtain ⟨k, hk, rfl, HN⟩ := hrel
    by_cases hlt : k < L.length
    · have hkl : (k : Int) < (L.length : Int) := by omega
      obtain ⟨ad, rfl, hal, hy⟩ := hL.int hlt
      obtain ⟨x, hx⟩ : ∃ x, x = L[k] := ⟨_, rfl⟩
      rw [← hx] at hy
      have HX := Lib.hid hx
      clear hx
      by_cases he : x = n
      · have HM := Lib.hid (show hasB L n = true from by unfold hasB; rw [← he, HX.out]; simp)
        have hb : (x == n) = true := by rw [beq_iff_eq]; exact he
        clear he
        go_wp2
        go_ret
        exact ⟨ret_bool HM.out.symm, rfl⟩
      · have HS : Hid (∀ j, j < k + 1 → L[j]? ≠ some n) := Lib.hid (fun j hj => by
          by_cases e : j = k
          · subst e; rw [List.getElem?_eq_getElem hlt, ← HX.out]; intro e2; exact he (Option.some.inj e2)
          · exact HN.out j (by omega))
        have hb : (x == n) = false := by simpa using he
        clear he
        go_wp2
        go_round
        case rel => exact ⟨k + 1, by omega, by go_num, HS⟩
        case measure => simp [intOf]; omega
    · have HM := Lib.hid (show hasB L n = false from contains_far (fun j hj => HN.out j (by omega)))
      have hkl : ¬ (k : Int) < (L.length : Int) := by omega
      go_wp2
      go_ret
      exact ⟨ret_bool HM.out.symm, rfl⟩
theorem RowsAt.twoI (w : World) (x y : Int) (T : TypeId) : RowsAt 1 intL (w.alloc (.cells #[.int .i64 x, .int .i64 y] T)) (some ⟨w.heap.size, 0, none⟩) [x, y] := by
  have hb := BoxAt.new w #[.int .i64 x, .int .i64 y] T
  intro k hk
  have hk2 : k = 0 ∨ k = 1 := by simp at hk; omega
  refine ⟨_, rfl, hb.lt, fun j hj => ?_⟩
  have hj2 : j = 0 := by omega
  rw [add0, fld_own, hb.cell]
  rcases hk2 with rfl | rfl <;> subst hj2 <;> rfl
theorem RowsAt.twoG {w : World} {g : Nat} (hg : w.heap.size = g) (x y : Int) (T : TypeId) : RowsAt 1 intL (w.alloc (.cells #[.int .i64 x, .int .i64 y] T)) (some ⟨g, 0, none⟩) [x, y] := by subst hg; exact RowsAt.twoI w x y T
theorem cellB_split (m : Int) (x : Cell) : cellB m x = (inB x.f 1 m && inB x.b 1 m && inB x.ft 0 1 && inB x.bt 0 1) := by
  unfold cellB pageB
  simp only [List.all_cons, List.all_nil, Bool.and_true]
  cases inB x.f 1 m <;> cases inB x.b 1 m <;> cases inB x.ft 0 1 <;> cases inB x.bt 0 1 <;> rfl
set_option maxRecDepth 100000 in
set_option maxHeartbeats 4000000 in
theorem refCheckScheme_any (C R : Int) (a : Option Addr) (L : List Cell) (c : Nat) (w : World) (hL : RowsAt 4 Cell.l w a L) (hl : L.length ≤ 1000000) :
    Calls Tryz.prog 11 #[.agg #[.int .i64 C, .int .i64 R, .slice a L.length c]] w fun e w' => e = .returned (.tuple #[.int .i64 (checkSc C R L).1, .int .i64 (checkSc C R L).2]) ∧ Below w.heap.size w w' := by
  have bx := BoxAt.new w #[.int .i64 C, .int .i64 R, .slice a L.length c] 24
  have hB := (Below.refl w.heap.size w).alloc (Nat.le_refl _) (.cells #[.int .i64 C, .int .i64 R, .slice a L.length c] 24)
  obtain ⟨w1, hw1⟩ : ∃ w1, w1 = w.alloc (.cells #[.int .i64 C, .int .i64 R, .slice a L.length c] 24) := ⟨_, rfl⟩
  rw [← hw1] at bx hB
  have W1 := Lib.hid hw1
  clear hw1
  have c0 := bx.cell 0; have c1 := bx.cell 1; have c2 := bx.cell 2
  have hbl := bx.lt
  simp at c0 c1 c2
  by_cases h1 : sideErr C R = 0
  · obtain ⟨sC, sR, sm⟩ := side_ok h1
    have H1 := Lib.hid h1
    have hp0 : 0 ≤ C * R := Int.mul_nonneg (by omega) (by omega)
    obtain ⟨N, hN⟩ : ∃ N : Nat, C * R = N := ⟨(C * R).toNat, by omega⟩
    have hN32 : N ≤ 32 := by omega
    have HC : Hid (cellsErr C R L.length = if (L.length : Int) ≠ N then 10 else 0) := Lib.hid (by unfold cellsErr; rw [if_neg (by simp [h1]), hN])
    by_cases hn : L.length = N
    · have hnb : ((L.length : Int) != (N : Int)) = false := by simp; omega
      have hL32 : L.length ≤ 32 := by omega
      obtain ⟨m, hm⟩ : ∃ m, 2 * L.length = m := ⟨_, rfl⟩
      have hmI : 2 * (L.length : Int) = (m : Int) := by omega
      have hm64 : m ≤ 64 := by omega
      have HE : Hid (checkSc C R L = schErr m (L.drop 0) (seenP L 0) ((0 : Nat) : Int)) := Lib.hid (by unfold checkSc; rw [HC.out, if_neg (show ¬ (L.length : Int) ≠ N by omega), if_neg (by simp), hmI]; rfl)
      clear h1 hn sC sR sm hp0 hm
      go_enter Tryz.func11, Tryz.ntmps11
      go_wp2_with (go_at_call 27; refine (checkSheet_any _ _ _).mono ?_; rintro e w' ⟨rfl, rfl⟩; rw [H1.out])
      rw [← W1.out]
      clear c0 c1 c2 hN
      go_loopw [5, 6] (fun v i wr => ∃ k : Nat, k ≤ L.length ∧ i = .int .i64 k ∧ Hid (schErr m (L.drop 0) (seenP L 0) ((0 : Nat) : Int) = schErr m (L.drop k) (seenP L k) k) ∧ OwnR 1 3 intL wr (w.heap.size + 1) v (seenP L k) ∧ BoxAt wr w.heap.size #[.int .i64 C, .int .i64 R, .slice a L.length c] 24 ∧ Below w.heap.size w wr) (fun v i _ => L.length - (intOf i).toNat)
      case atStart => exact ⟨0, Nat.zero_le _, rfl, Lib.hid rfl, OwnR.nil _ _, bx, hB⟩
      case round =>
        obtain ⟨k, hk, rfl, HR, hO, bx, hB⟩ := hrel
        have c0 := bx.cell 0; have c1 := bx.cell 1; have c2 := bx.cell 2
        have hbl := bx.lt
        simp at c0 c1 c2
        by_cases hkl : k < L.length
        · have hkI : (k : Int) < (L.length : Int) := by omega
          obtain ⟨ad, rfl, had, s0, s1, s2, s3⟩ := (hL.below hB).cell hkl
          obtain ⟨x, ex⟩ : ∃ x, x = L[k] := ⟨_, rfl⟩
          rw [← ex] at s0 s1 s2 s3
          have EX := Lib.hid ex
          clear ex
          obtain ⟨f, ft, b, bt⟩ := x
          simp only at s0 s1 s2 s3
          have HZ2 : Hid (cellB m ⟨f, ft, b, bt⟩ = false → checkSc C R L = ((k : Int), 2)) := Lib.hid (fun h => by
            rw [HE.out, HR.out]; exact schErr_range hkl (by rw [← EX.out]; exact h))
          have HZ28 : Hid (cellB m ⟨f, ft, b, bt⟩ = true → dblB (seenP L k) ⟨f, ft, b, bt⟩ = true → checkSc C R L = ((k : Int), 28)) := Lib.hid (fun h h2 => by
            rw [HE.out, HR.out]; exact schErr_dbl hkl (by rw [← EX.out]; exact h) (by rw [← EX.out]; exact h2))
          have HG : Hid (cellB m ⟨f, ft, b, bt⟩ = true → dblB (seenP L k) ⟨f, ft, b, bt⟩ = false → schErr m (L.drop 0) (seenP L 0) ((0 : Nat) : Int) = schErr m (L.drop (k + 1)) (seenP L (k + 1)) ((k + 1 : Nat) : Int)) := Lib.hid (fun h h2 => by
            rw [HR.out]; exact schErr_go hkl (by rw [← EX.out]; exact h) (by rw [← EX.out]; exact h2))
          have HSQ : Hid (seenP L (k + 1) = seenP L k ++ [f, b]) := Lib.hid (by rw [seenP_succ hkl, ← EX.out])
          have HSL : Hid ((seenP L k).length ≤ maxLen) := Lib.hid (by have := seenP_len L k; unfold maxLen; omega)
          have hBx := hB.alloc hB.size (.cells #[.int .i64 f, .int .i64 ft, .int .i64 b, .int .i64 bt] 54)
          obtain ⟨sa, sc, ev, hOr, -, -, -, -⟩ := hO.rows int_l
          obtain ⟨sn, hsn⟩ : ∃ n, n = (seenP L k).length := ⟨_, rfl⟩
          rw [← hsn] at ev
          subst ev
          have HSN := Lib.hid hsn
          clear hsn
          cases hf : inB f 1 m
          · have HY : Hid (checkSc C R L = ((k : Int), 2)) := Lib.hid (HZ2.out (by rw [cellB_split]; simp only [hf]; rfl))
            go_wp2_with (first | (go_at_call 28; refine (within_any _ _ _ _).mono ?_; rintro e w' ⟨rfl, rfl⟩) | (go_at_call 29; refine (isTurn_any _ _).mono ?_; rintro e w' ⟨rfl, rfl⟩) | (go_at_call 30; refine (has_any sa (seenP L k) sn sc _ _ (hOr.alloc _) HSN.out HSL.out).mono ?_; rintro e w' ⟨rfl, rfl⟩))
            go_ret2
            exact ⟨two_to HY.out, hBx⟩
          · cases hb : inB b 1 m
            · have HY : Hid (checkSc C R L = ((k : Int), 2)) := Lib.hid (HZ2.out (by rw [cellB_split]; simp only [hf, hb]; rfl))
              go_wp2_with (first | (go_at_call 28; refine (within_any _ _ _ _).mono ?_; rintro e w' ⟨rfl, rfl⟩) | (go_at_call 29; refine (isTurn_any _ _).mono ?_; rintro e w' ⟨rfl, rfl⟩) | (go_at_call 30; refine (has_any sa (seenP L k) sn sc _ _ (hOr.alloc _) HSN.out HSL.out).mono ?_; rintro e w' ⟨rfl, rfl⟩))
              go_ret2
              exact ⟨two_to HY.out, hBx⟩
            · cases hft : inB ft 0 1
              · have HY : Hid (checkSc C R L = ((k : Int), 2)) := Lib.hid (HZ2.out (by rw [cellB_split]; simp only [hf, hb, hft]; rfl))
                go_wp2_with (first | (go_at_call 28; refine (within_any _ _ _ _).mono ?_; rintro e w' ⟨rfl, rfl⟩) | (go_at_call 29; refine (isTurn_any _ _).mono ?_; rintro e w' ⟨rfl, rfl⟩) | (go_at_call 30; refine (has_any sa (seenP L k) sn sc _ _ (hOr.alloc _) HSN.out HSL.out).mono ?_; rintro e w' ⟨rfl, rfl⟩))
                go_ret2
                exact ⟨two_to HY.out, hBx⟩
              · cases hbt : inB bt 0 1
                · have HY : Hid (checkSc C R L = ((k : Int), 2)) := Lib.hid (HZ2.out (by rw [cellB_split]; simp only [hf, hb, hft, hbt]; rfl))
                  go_wp2_with (first | (go_at_call 28; refine (within_any _ _ _ _).mono ?_; rintro e w' ⟨rfl, rfl⟩) | (go_at_call 29; refine (isTurn_any _ _).mono ?_; rintro e w' ⟨rfl, rfl⟩) | (go_at_call 30; refine (has_any sa (seenP L k) sn sc _ _ (hOr.alloc _) HSN.out HSL.out).mono ?_; rintro e w' ⟨rfl, rfl⟩))
                  go_ret2
                  exact ⟨two_to HY.out, hBx⟩
                · have hcb : cellB m ⟨f, ft, b, bt⟩ = true := by rw [cellB_split]; simp only [hf, hb, hft, hbt]; rfl
                  cases hd1 : hasB (seenP L k) f
                  · cases hd2 : hasB (seenP L k) b
                    · by_cases hd3 : f = b
                      · have hfb : (f == b) = true := by simpa using hd3
                        have HY : Hid (checkSc C R L = ((k : Int), 28)) := Lib.hid (HZ28.out hcb (by show (hasB (seenP L k) _ || hasB (seenP L k) _ || _) = _; simp only [hd1, hd2, hfb]; rfl))
                        clear hcb hd3
                        go_wp2_with (first | (go_at_call 28; refine (within_any _ _ _ _).mono ?_; rintro e w' ⟨rfl, rfl⟩) | (go_at_call 29; refine (isTurn_any _ _).mono ?_; rintro e w' ⟨rfl, rfl⟩) | (go_at_call 30; refine (has_any sa (seenP L k) sn sc _ _ (hOr.alloc _) HSN.out HSL.out).mono ?_; rintro e w' ⟨rfl, rfl⟩))
                        go_ret2
                        exact ⟨two_to HY.out, hBx⟩
                      · have hfb : (f == b) = false := by simpa using hd3
                        have HY : Hid (schErr m (L.drop 0) (seenP L 0) ((0 : Nat) : Int) = schErr m (L.drop (k + 1)) (seenP L (k + 1)) ((k + 1 : Nat) : Int)) := Lib.hid (HG.out hcb (by show (hasB (seenP L k) _ || hasB (seenP L k) _ || _) = _; simp only [hd1, hd2, hfb]; rfl))
                        clear hcb hd3
                        go_wp2_with (first | (first | (go_at_call 28; refine (within_any _ _ _ _).mono ?_; rintro e w' ⟨rfl, rfl⟩) | (go_at_call 29; refine (isTurn_any _ _).mono ?_; rintro e w' ⟨rfl, rfl⟩) | (go_at_call 30; refine (has_any sa (seenP L k) sn sc _ _ (hOr.alloc _) HSN.out HSL.out).mono ?_; rintro e w' ⟨rfl, rfl⟩)) | (at_builtin; refine wpList_appL tInt int_l _ (by rfl) _ _ (by rfl) (w.heap.size + 1) _ (seenP L k) (by rfl) ((hO.alloc _).alloc _) (some ⟨wr.heap.size + 1, 0, none⟩) [f, b] 2 (by rfl) (RowsAt.twoG (by simp) f b _) (by simp) (by have := seenP_len L k; omega) (by simp) (by simp; omega) ?_; intro v' w' hown' hg' hB' hor'))
                        refine ⟨⟨k + 1, by omega, by go_num, HY, by rw [HSQ.out]; exact hown', ?_, ?_⟩, by simp [intOf]; omega⟩
                        · exact ((bx.alloc _).alloc _).grown hg' (fun e => by have := (hO.lt _ e.symm).1; omega)
                        · exact ((hB.alloc hB.size _).alloc (by have := hB.size; simp; omega) _).trans (hB'.mono (B' := w.heap.size) (by omega))
                    · have HY : Hid (checkSc C R L = ((k : Int), 28)) := Lib.hid (HZ28.out hcb (by show (hasB (seenP L k) _ || hasB (seenP L k) _ || _) = _; simp only [hd1, hd2]; rfl))
                      clear hcb
                      go_wp2_with (first | (go_at_call 28; refine (within_any _ _ _ _).mono ?_; rintro e w' ⟨rfl, rfl⟩) | (go_at_call 29; refine (isTurn_any _ _).mono ?_; rintro e w' ⟨rfl, rfl⟩) | (go_at_call 30; refine (has_any sa (seenP L k) sn sc _ _ (hOr.alloc _) HSN.out HSL.out).mono ?_; rintro e w' ⟨rfl, rfl⟩))
                      go_ret2
                      exact ⟨two_to HY.out, hBx⟩
                  · have HY : Hid (checkSc C R L = ((k : Int), 28)) := Lib.hid (HZ28.out hcb (by show (hasB (seenP L k) _ || hasB (seenP L k) _ || _) = _; simp only [hd1]; rfl))
                    clear hcb
                    go_wp2_with (first | (go_at_call 28; refine (within_any _ _ _ _).mono ?_; rintro e w' ⟨rfl, rfl⟩) | (go_at_call 29; refine (isTurn_any _ _).mono ?_; rintro e w' ⟨rfl, rfl⟩) | (go_at_call 30; refine (has_any sa (seenP L k) sn sc _ _ (hOr.alloc _) HSN.out HSL.out).mono ?_; rintro e w' ⟨rfl, rfl⟩))
                    go_ret2
                    exact ⟨two_to HY.out, hBx⟩
        · have HZ : Hid (checkSc C R L = (0, 0)) := Lib.hid (by rw [HE.out, HR.out]; exact schErr_end hkl)
          have hkI : ¬ (k : Int) < (L.length : Int) := by omega
          go_wp2_with fail
          go_ret2
          exact ⟨two_to HZ.out, hB⟩
    · have hnb : ((L.length : Int) != (N : Int)) = true := by simp; omega
      have HE : Hid (checkSc C R L = (0, 10)) := Lib.hid (by unfold checkSc; rw [HC.out, if_pos (show (L.length : Int) ≠ N by omega), if_pos (by simp)])
      clear h1 hn sC sR sm hp0
      go_enter Tryz.func11, Tryz.ntmps11
      go_wp2_with (go_at_call 27; refine (checkSheet_any _ _ _).mono ?_; rintro e w' ⟨rfl, rfl⟩; rw [H1.out])
      go_ret2
      rw [← W1.out]
      exact ⟨two_to HE.out, hB⟩
  · have HE : Hid (checkSc C R L = (0, sideErr C R)) := Lib.hid (by
      have : cellsErr C R L.length = sideErr C R := by unfold cellsErr; rw [if_pos h1]
      unfold checkSc; rw [this, if_pos h1])
    have heb : (sideErr C R != 0) = true := by simpa using h1
    clear h1
    go_enter Tryz.func11, Tryz.ntmps11
    go_wp2_with (go_at_call 27; refine (checkSheet_any _ _ _).mono ?_; rintro e w' ⟨rfl, rfl⟩)
    go_ret2
    rw [← W1.out]
    exact ⟨two_to HE.out, hB⟩
end Go.Proofs.YtnpehnfcccdcbaaGreatDoor
