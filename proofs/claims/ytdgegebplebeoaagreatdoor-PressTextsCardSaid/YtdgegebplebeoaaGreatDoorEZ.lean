/-
  Package press: CheckColours.
-/
import Derived.Test.YtdgegebplebeoaaGreatDoorEY
namespace Go.Proofs.YtdgegebplebeoaaGreatDoor
open Go.RowKit Go.Maps Go.Shelf

set_option maxHeartbeats 400000 in
theorem notMin_any (n : Int) (w : World) : Calls Tryz.prog 64 #[.int .i64 n] w fun e w' => e = .returned (.bool (!inB n 0 10000)) ∧ w = w' := by
  go_enter Tryz.func64, Tryz.ntmps64
  go_wp2_with (go_at_call 60; refine (isRunMinutes_any _ _).mono ?_; rintro e w' ⟨rfl, rfl⟩)
  go_ret
  exact ⟨rfl, rfl⟩
set_option maxHeartbeats 2000000 in
theorem indexFunc_any (a : Option Addr) (L : List Int) (n c : Nat) (w : World) (hn : n = L.length) (hL : RowsAt 1 intL w a L) (hl : L.length ≤ 1000000) :
    Calls Tryz.prog 92 #[.slice a n c, .func (.func 64) #[] #[]] w fun e w' => (∃ k : Int, e = .returned (.int .i64 k) ∧ ((L.all (fun x => inB x 0 10000) = true ∧ k = -1) ∨ (L.all (fun x => inB x 0 10000) = false ∧ 0 ≤ k))) ∧ w = w' := by
  subst hn
  go_enter Tryz.func92, Tryz.ntmps92
  go_wp2_with fail
  go_loop [8] (fun i => ∃ k : Nat, k ≤ L.length ∧ i = .int .i64 k ∧ Hid (L.all (fun x => inB x 0 10000) = (L.drop k).all (fun x => inB x 0 10000))) (fun i => L.length - (intOf i).toNat)
  case atStart => exact ⟨0, Nat.zero_le _, rfl, Lib.hid rfl⟩
  case round =>
    obtain ⟨k, hk, rfl, HR⟩ := hrel
    by_cases hlt : k < L.length
    · obtain ⟨ad, rfl, had, s0⟩ := hL.int hlt
      have HAL := Lib.hid (all_step (α := Int) (p := fun x => inB x 0 10000) hlt)
      obtain ⟨x, ex⟩ : ∃ x, x = L[k] := ⟨_, rfl⟩
      rw [← ex] at s0 HAL
      clear ex
      cases hin : inB x 0 10000
      · have HE := Lib.hid (show L.all (fun x => inB x 0 10000) = false by rw [HR.out, HAL.out, hin]; rfl)
        go_wp2_with (go_at_call 64; refine (notMin_any _ _).mono ?_; rintro e w' ⟨rfl, rfl⟩)
        go_ret
        refine ⟨⟨k, rfl, Or.inr ⟨?_, by omega⟩⟩, rfl⟩
        exact HE.out
      · go_wp2_with (go_at_call 64; refine (notMin_any _ _).mono ?_; rintro e w' ⟨rfl, rfl⟩)
        go_round
        case rel => exact ⟨k + 1, by omega, by go_num, Lib.hid (by rw [HR.out, HAL.out, hin]; rfl)⟩
        case measure => simp [intOf]; omega
    · have HE := Lib.hid (show L.all (fun x => inB x 0 10000) = true by rw [HR.out]; exact all_stop hlt)
      go_wp2
      go_ret
      refine ⟨⟨-1, rfl, Or.inl ⟨?_, rfl⟩⟩, rfl⟩
      exact List.all_eq_true.1 HE.out
set_option maxRecDepth 100000 in
set_option maxHeartbeats 1000000 in
theorem containsFunc_any (a : Option Addr) (L : List Int) (n c : Nat) (w : World) (hn : n = L.length) (hL : RowsAt 1 intL w a L) (hl : L.length ≤ 1000000) :
    Calls Tryz.prog 63 #[.slice a n c, .func (.func 64) #[] #[]] w fun e w' => e = .returned (.bool (!L.all (fun x => inB x 0 10000))) ∧ w = w' := by
  have HI := Lib.hid (indexFunc_any a L n c w hn hL hl)
  clear hn hL hl
  cases h : L.all (fun x => inB x 0 10000)
  · have HH := Lib.hid h
    clear h
    go_enter Tryz.func63, Tryz.ntmps63
    go_wp2_with (go_at_call 92; refine HI.out.mono ?_; rintro e w' ⟨⟨k, rfl, ⟨hk, -⟩ | ⟨-, hk⟩⟩, rfl⟩; exact absurd (HH.out.symm.trans hk) (by decide))
    go_ret
    exact ⟨rfl, rfl⟩
  · have HH := Lib.hid h
    clear h
    go_enter Tryz.func63, Tryz.ntmps63
    go_wp2_with (go_at_call 92; refine HI.out.mono ?_; rintro e w' ⟨⟨k, rfl, ⟨-, rfl⟩ | ⟨hk, -⟩⟩, rfl⟩; rotate_left; exact absurd (HH.out.symm.trans hk) (by decide))
    go_ret
    exact ⟨rfl, rfl⟩
/-- The colours of a run, where they lie. -/
structure Cols where
  ma : Option Addr
  m : List Int
  mc : Nat
  da : Option Addr
  T : List PR
  dc : Nat
def Cols.v (x : Cols) : Value := .agg #[.slice x.ma x.m.length x.mc, .slice x.da x.T.length x.dc]
structure ColsAt (w : World) (x : Cols) : Prop where
  mins : RowsAt 1 intL w x.ma x.m
  tab : TabAt w x.da x.T
theorem ColsAt.below {w w' : World} {x : Cols} (h : ColsAt w x) (hb : Below w.heap.size w w') : ColsAt w' x := ⟨h.mins.below hb, h.tab.below hb⟩
def colsErr (x : Cols) : Int := if 6 < x.m.length then 8 else if x.m.all (fun y => inB y 0 10000) = false then 2 else if x.T.length ≠ x.m.length then 10 else rowsE x.T.length (-1) x.T
theorem cols_ok {x : Cols} (h : colsErr x = 0) : x.m.length ≤ 6 ∧ (∀ y ∈ x.m, 0 ≤ y ∧ y ≤ 10000) ∧ x.T.length = x.m.length ∧ ∀ r ∈ x.T, r.l.length = x.m.length ∧ ∀ y ∈ r.l, -1 ≤ y ∧ y ≤ 10000 := by
  unfold colsErr at h
  split at h
  · cases h
  split at h
  · cases h
  rename_i h2
  split at h
  · cases h
  rename_i h3
  have h4 := rowsE_ok h
  refine ⟨by omega, fun y hy => ?_, by omega, fun r hr => ⟨by have := (h4 r hr).1; omega, (h4 r hr).2⟩⟩
  exact inB_iff.1 (List.all_eq_true.1 (by simpa using h2) y hy)
set_option maxRecDepth 100000 in
set_option maxHeartbeats 2000000 in
theorem checkColours_any (x : Cols) (w : World) (hx : ColsAt w x) (hm : x.m.length ≤ maxLen) (hT : x.T.length ≤ maxLen) :
    Calls Tryz.prog 42 #[x.v] w (CheckPost (colsErr x) w) := by
  obtain ⟨ma, m, mc, da, T, dc⟩ := x
  have hm : m.length ≤ maxLen := hm
  have hT : T.length ≤ maxLen := hT
  unfold maxLen at hm hT
  show Calls _ _ #[.agg #[.slice ma m.length mc, .slice da T.length dc]] _ _
  have bx := BoxAt.new w #[.slice ma m.length mc, .slice da T.length dc] 55
  have hb := (Below.refl w.heap.size w).alloc (Nat.le_refl _) (.cells #[.slice ma m.length mc, .slice da T.length dc] 55)
  have hx2 := hx.below hb
  have HM := hx2.mins; have HT := hx2.tab
  clear hx hx2
  go_enter Tryz.func42, Tryz.ntmps42
  by_cases h1 : 6 < m.length
  · have HE := Lib.hid (show colsErr ⟨ma, m, mc, da, T, dc⟩ = 8 by unfold colsErr; rw [if_pos h1])
    have h1' : (6 : Int) < (m.length : Int) := by omega
    clear h1
    go_wp2_with fail
    go_ret
    exact ⟨ret_int HE.out.symm, hb⟩
  have h1' : ¬ (6 : Int) < (m.length : Int) := by omega
  cases h2 : m.all (fun y => inB y 0 10000)
  · have HE := Lib.hid (show colsErr ⟨ma, m, mc, da, T, dc⟩ = 2 by unfold colsErr; rw [if_neg h1, if_pos h2])
    have HC := Lib.hid (containsFunc_any ma m m.length mc _ rfl HM (by omega))
    rw [h2] at HC
    clear h1 h2 HM HT
    go_wp2_with (go_at_call 63; refine HC.out.mono ?_; rintro e w' ⟨rfl, rfl⟩)
    go_ret
    exact ⟨ret_int HE.out.symm, hb⟩
  have HC := Lib.hid (containsFunc_any ma m m.length mc _ rfl HM (by omega))
  rw [h2] at HC
  by_cases h3 : T.length = m.length
  · have HE := Lib.hid (show colsErr ⟨ma, m, mc, da, T, dc⟩ = rowsE T.length (-1) T by unfold colsErr; rw [if_neg h1, if_neg (by rw [h2]; decide), if_neg (by simp [h3])])
    have h3' : ((T.length : Int) == (m.length : Int)) = true := by simp [h3]
    have HRW := Lib.hid (errorOfRows_any T da T.length dc (-1) _ rfl HT (by omega))
    clear h1 h2 h3 HM HT
    go_wp2_with (first | (go_at_call 63; refine HC.out.mono ?_; rintro e w' ⟨rfl, rfl⟩) | (go_at_call 65; refine HRW.out.mono ?_; rintro e w' ⟨rfl, rfl⟩))
    go_ret
    exact ⟨ret_int HE.out.symm, hb⟩
  · have HE := Lib.hid (show colsErr ⟨ma, m, mc, da, T, dc⟩ = 10 by unfold colsErr; rw [if_neg h1, if_neg (by rw [h2]; decide), if_pos h3])
    have h3' : ((T.length : Int) == (m.length : Int)) = false := by simp; omega
    clear h1 h2 h3 HM HT
    go_wp2_with (go_at_call 63; refine HC.out.mono ?_; rintro e w' ⟨rfl, rfl⟩)
    go_ret
    exact ⟨ret_int HE.out.symm, hb⟩
end Go.Proofs.YtdgegebplebeoaaGreatDoor
