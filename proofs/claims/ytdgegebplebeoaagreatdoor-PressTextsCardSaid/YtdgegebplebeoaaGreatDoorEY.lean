/-
  Package press: tables of minutes, the check of colours.
-/
import Derived.Test.YtdgegebplebeoaaGreatDoorEX
namespace Go.Proofs.YtdgegebplebeoaaGreatDoor
open Go.RowKit Go.Maps Go.Shelf

/-- A row of a table, where it lies. -/
structure PR where
  a : Option Addr
  l : List Int
  c : Nat
def prV (x : PR) : List Value := [.slice x.a x.l.length x.c]
structure TabAt (w : World) (a : Option Addr) (T : List PR) : Prop where
  rows : RowsG 1 prV w a T
  ints : ∀ x ∈ T, RowsAt 1 intL w x.a x.l
theorem TabAt.below {w w' : World} {a : Option Addr} {T : List PR} (h : TabAt w a T) (hb : Below w.heap.size w w') : TabAt w' a T := ⟨h.rows.below hb, fun x hx => (h.ints x hx).below hb⟩
theorem TabAt.row {w : World} {a : Option Addr} {T : List PR} (h : TabAt w a T) {k : Nat} (hk : k < T.length) : ∃ ad, a = some ad ∧ ad.block < w.heap.size ∧ w.cell? (ad.add k) = some (.slice T[k].a T[k].l.length T[k].c) := by
  obtain ⟨ad, e, hlt, hs⟩ := h.rows k hk
  have := hs 0 (by decide)
  exact ⟨ad, e, hlt, by simpa [fld, prV] using this⟩
/-- What is wrong with the rows of a table. -/
def rowErr (n : Nat) (least : Int) (l : List Int) : Int := if l.length ≠ n then 10 else if l.all (fun x => inB x least 10000) then 0 else 2
def rowsE (n : Nat) (least : Int) : List PR → Int
  | [] => 0
  | x :: L => if rowErr n least x.l ≠ 0 then rowErr n least x.l else rowsE n least L
theorem rowsE_stop {n : Nat} {least : Int} {T : List PR} {k : Nat} (hk : k < T.length) (h : rowErr n least T[k].l ≠ 0) : rowsE n least (T.drop k) = rowErr n least T[k].l := by
  rw [List.drop_eq_getElem_cons hk]; unfold rowsE; rw [if_pos h]
theorem rowsE_go {n : Nat} {least : Int} {T : List PR} {k : Nat} (hk : k < T.length) (h : rowErr n least T[k].l = 0) : rowsE n least (T.drop k) = rowsE n least (T.drop (k + 1)) := by
  rw [List.drop_eq_getElem_cons hk]; conv => lhs; unfold rowsE; rw [if_neg (by simp [h])]
theorem rowsE_ok {n : Nat} {least : Int} : ∀ {T : List PR}, rowsE n least T = 0 → ∀ x ∈ T, x.l.length = n ∧ ∀ y ∈ x.l, least ≤ y ∧ y ≤ 10000
  | [], _, x, hx => by cases hx
  | y :: T, h, x, hx => by
    unfold rowsE at h
    split at h
    · rename_i h1; exact absurd h h1
    · rename_i h1
      have h1 : rowErr n least y.l = 0 := by simpa using h1
      rcases List.mem_cons.1 hx with rfl | hx
      · unfold rowErr at h1
        split at h1
        · cases h1
        split at h1
        · rename_i h2 h3
          refine ⟨by omega, fun z hz => ?_⟩
          have := List.all_eq_true.1 h3 z hz
          simpa [inB] using this
        · cases h1
      · exact rowsE_ok h x hx
set_option maxRecDepth 100000 in
set_option maxHeartbeats 4000000 in
theorem errorOfRows_any (T : List PR) (a : Option Addr) (n c : Nat) (least : Int) (w : World) (hn : n = T.length) (hT : TabAt w a T) (hl : T.length ≤ 1000000) :
    Calls Tryz.prog 65 #[.slice a n c, .int .i64 least] w fun e w' => e = .returned (.int .i64 (rowsE T.length least T)) ∧ w = w' := by
  subst hn
  go_enter Tryz.func65, Tryz.ntmps65
  go_wp2_with fail
  go_loop [11] (fun i => ∃ k : Nat, k ≤ T.length ∧ i = .int .i64 k ∧ Hid (rowsE T.length least T = rowsE T.length least (T.drop k))) (fun i => T.length - (intOf i).toNat)
  case atStart => exact ⟨0, Nat.zero_le _, rfl, Lib.hid rfl⟩
  case round =>
    obtain ⟨k, hk, rfl, HR⟩ := hrel
    by_cases hlt : k < T.length
    · obtain ⟨ad, rfl, had, s0⟩ := hT.row hlt
      have hI := hT.ints _ (List.getElem_mem hlt)
      have HST := Lib.hid (fun h => rowsE_stop (n := T.length) (least := least) hlt h)
      have HGO := Lib.hid (fun h => rowsE_go (n := T.length) (least := least) hlt h)
      obtain ⟨x, ex⟩ : ∃ x, x = T[k] := ⟨_, rfl⟩
      rw [← ex] at s0 hI HST HGO
      obtain ⟨xa, xl, xc⟩ := x
      have s0 : w.cell? (ad.add k) = some (.slice xa xl.length xc) := s0
      have hI : RowsAt 1 intL w xa xl := hI
      clear ex
      by_cases hx : xl.length = T.length
      · have hx' : ((xl.length : Int) == (T.length : Int)) = true := by simp [hx]
        have hxl : xl.length ≤ 1000000 := by omega
        have HX := Lib.hid hx
        clear hx
        go_wp2
        go_loop [22] (fun i => ∃ m : Nat, m ≤ xl.length ∧ i = .int .i64 m ∧ Hid (xl.all (fun x => inB x least 10000) = (xl.drop m).all (fun x => inB x least 10000))) (fun i => xl.length - (intOf i).toNat)
        case atStart => exact ⟨0, Nat.zero_le _, rfl, Lib.hid rfl⟩
        case round =>
          obtain ⟨m, hm, rfl, HM⟩ := hrel
          by_cases hml : m < xl.length
          · obtain ⟨ad2, rfl, had2, s2⟩ := hI.int hml
            have HAS := Lib.hid (any_step (α := Int) (p := fun x => inB x least 10000) hml)
            have HAL := Lib.hid (all_step (α := Int) (p := fun x => inB x least 10000) hml)
            obtain ⟨y, ey⟩ : ∃ y, y = xl[m] := ⟨_, rfl⟩
            rw [← ey] at s2 HAL
            clear ey HAS
            cases hin : inB y least 10000
            · have HE := Lib.hid (show rowsE T.length least T = 2 by
                have h1 : rowErr T.length least xl = 2 := by unfold rowErr; rw [if_neg (by simp [HX.out]), if_neg (by rw [HM.out, HAL.out, hin]; simp)]
                rw [HR.out, HST.out (by show rowErr T.length least xl ≠ 0; rw [h1]; decide)]; exact h1)
              go_wp2_with (go_at_call 35; refine (isFrom_any _ _ _ _).mono ?_; rintro e w' ⟨rfl, rfl⟩)
              go_ret
              exact ⟨ret_int HE.out.symm, rfl⟩
            · go_wp2_with (go_at_call 35; refine (isFrom_any _ _ _ _).mono ?_; rintro e w' ⟨rfl, rfl⟩)
              go_round
              case rel => exact ⟨m + 1, by omega, by go_num, Lib.hid (by rw [HM.out, HAL.out, hin]; rfl)⟩
              case measure => simp [intOf]; omega
          · have HE := Lib.hid (show rowErr T.length least xl = 0 by unfold rowErr; rw [if_neg (by simp [HX.out]), if_pos (by rw [HM.out]; exact all_stop hml)])
            go_wp2
            go_round
            case rel => exact ⟨k + 1, by omega, by go_num, Lib.hid (by rw [HR.out, HGO.out HE.out])⟩
            case measure => simp [intOf]; omega
      · have hx' : ((xl.length : Int) == (T.length : Int)) = false := by simp; omega
        have HE := Lib.hid (show rowsE T.length least T = 10 by
          have h1 : rowErr T.length least xl = 10 := by unfold rowErr; rw [if_pos hx]
          rw [HR.out, HST.out (by show rowErr T.length least xl ≠ 0; rw [h1]; decide)]; exact h1)
        clear hx
        go_wp2
        go_ret
        exact ⟨ret_int HE.out.symm, rfl⟩
    · have HE := Lib.hid (show rowsE T.length least T = 0 by rw [HR.out, List.drop_of_length_le (by omega)]; rfl)
      go_wp2
      go_ret
      exact ⟨ret_int HE.out.symm, rfl⟩
end Go.Proofs.YtdgegebplebeoaaGreatDoor
