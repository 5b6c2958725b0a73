/-
  Package impose: FirstMisplaced, the program's and the reference's; copies of lists of numbers.
-/
import Derived.Test.YtjkjfmahcjcniaaIS
namespace Go.Proofs.Ytjkjfmahcjcniaa
open Go.RowKit

def outO (x : Int) : Bool := !inB x 0 4000
def misI : List Int → Int → Int × Int
  | [], _ => (0, 12)
  | x :: L, i => if x ≠ i then (i, 0) else misI L (i + 1)
def orderE (L : List Int) : Int × Int := if inB L.length 1 4000 = false then (0, 10) else if L.any outO = true then (0, 2) else misI L 0
theorem any_step {α : Type} {p : α → Bool} {L : List α} {k : Nat} (hk : k < L.length) : (L.drop k).any p = (p L[k] || (L.drop (k + 1)).any p) := by
  rw [List.drop_eq_getElem_cons hk]; rfl
theorem any_stop {α : Type} {p : α → Bool} {L : List α} {k : Nat} (hk : ¬ k < L.length) : (L.drop k).any p = false := by
  rw [List.drop_of_length_le (by omega)]; rfl
theorem misI_stop {L : List Int} {k : Nat} (hk : k < L.length) (h : L[k] ≠ (k : Int)) : misI (L.drop k) k = ((k : Int), 0) := by
  rw [List.drop_eq_getElem_cons hk]; unfold misI; rw [if_pos h]
theorem misI_go {L : List Int} {k : Nat} (hk : k < L.length) (h : L[k] = (k : Int)) : misI (L.drop k) k = misI (L.drop (k + 1)) ((k + 1 : Nat) : Int) := by
  rw [List.drop_eq_getElem_cons hk]
  show (if _ then _ else _) = _
  rw [if_neg (by simp [h])]; rfl
theorem misI_end {L : List Int} {k : Nat} (hk : ¬ k < L.length) : misI (L.drop k) k = (0, 12) := by
  rw [List.drop_of_length_le (by omega)]; rfl
set_option maxRecDepth 100000 in
set_option maxHeartbeats 2000000 in
theorem firstMis_any (a : Option Addr) (L : List Int) (c : Nat) (w : World) (hL : RowsAt 1 intL w a L) (hl : L.length ≤ maxLen) :
    Calls Try.prog 66 #[.slice a L.length c] w fun e w' => e = .returned (.tuple #[.int .i64 (orderE L).1, .int .i64 (orderE L).2]) ∧ w = w' := by
  unfold maxLen at hl
  cases h1 : inB L.length 1 4000
  · have HE := Lib.hid (show orderE L = (0, 10) by unfold orderE; rw [if_pos h1])
    go_enter Try.func66, Try.ntmps66
    go_wp2_with (go_at_call 102; refine (isFrom_any _ _ _ _).mono ?_; rintro e w' ⟨rfl, rfl⟩)
    go_ret2
    exact ⟨two_to HE.out, rfl⟩
  have HE := Lib.hid (show orderE L = if (L.drop 0).any outO = true then (0, 2) else misI (L.drop 0) ((0 : Nat) : Int) by unfold orderE; rw [if_neg (by simp [h1]), List.drop_zero]; rfl)
  go_enter Try.func66, Try.ntmps66
  go_wp2_with (go_at_call 102; refine (isFrom_any _ _ _ _).mono ?_; rintro e w' ⟨rfl, rfl⟩)
  go_loop [14] (fun i => ∃ k : Nat, k ≤ L.length ∧ i = .int .i64 k ∧ Hid ((L.drop 0).any outO = (L.drop k).any outO)) (fun i => L.length - (intOf i).toNat)
  case atStart => exact ⟨0, Nat.zero_le _, rfl, Lib.hid rfl⟩
  case round =>
    obtain ⟨k, hk, rfl, HR⟩ := hrel
    by_cases hlt : k < L.length
    · obtain ⟨ad, rfl, had, s0⟩ := hL.int hlt
      obtain ⟨x, ex⟩ : ∃ x, x = L[k] := ⟨_, rfl⟩
      have hst := any_step (p := outO) hlt
      rw [← ex] at s0 hst
      have HST := Lib.hid hst
      clear ex hst
      cases hx : inB x 0 4000
      · have HO := Lib.hid (show orderE L = (0, 2) by rw [HE.out, HR.out, HST.out, show outO x = true by unfold outO; rw [hx]; rfl]; rfl)
        go_wp2_with (go_at_call 102; refine (isFrom_any _ _ _ _).mono ?_; rintro e w' ⟨rfl, rfl⟩)
        go_ret2
        exact ⟨two_to HO.out, rfl⟩
      · have HO := Lib.hid (show (L.drop 0).any outO = (L.drop (k + 1)).any outO by rw [HR.out, HST.out, show outO x = false by unfold outO; rw [hx]; rfl]; rfl)
        go_wp2_with (go_at_call 102; refine (isFrom_any _ _ _ _).mono ?_; rintro e w' ⟨rfl, rfl⟩)
        go_round
        case rel => exact ⟨k + 1, by omega, by go_num, HO⟩
        case measure => simp [intOf]; omega
    · have HO := Lib.hid (show orderE L = misI (L.drop 0) ((0 : Nat) : Int) by rw [HE.out, HR.out, any_stop hlt]; rfl)
      go_wp2
      go_loop [24] (fun i => ∃ k : Nat, k ≤ L.length ∧ i = .int .i64 k ∧ Hid (misI (L.drop 0) ((0 : Nat) : Int) = misI (L.drop k) k)) (fun i => L.length - (intOf i).toNat)
      case atStart => exact ⟨0, Nat.zero_le _, rfl, Lib.hid rfl⟩
      case round =>
        obtain ⟨m, hm, rfl, HM⟩ := hrel
        by_cases hml : m < L.length
        · obtain ⟨ad, rfl, had, s0⟩ := hL.int hml
          obtain ⟨x, ex⟩ : ∃ x, x = L[m] := ⟨_, rfl⟩
          rw [← ex] at s0
          by_cases hx : x = (m : Int)
          · have HG := Lib.hid (misI_go hml (by rw [← ex]; exact hx))
            have hxb : (x != (m : Int)) = false := by simpa using hx
            clear ex hx
            go_wp2
            go_round
            case rel => exact ⟨m + 1, by omega, by go_num, Lib.hid (HM.out.trans HG.out)⟩
            case measure => simp [intOf]; omega
          · have HG := Lib.hid (misI_stop hml (by rw [← ex]; exact hx))
            have hxb : (x != (m : Int)) = true := by simpa using hx
            clear ex hx
            go_wp2
            go_ret2
            exact ⟨two_to (by rw [HO.out, HM.out, HG.out]), rfl⟩
        · have HG := Lib.hid (misI_end hml)
          go_wp2
          go_ret2
          exact ⟨two_to (by rw [HO.out, HM.out, HG.out]), rfl⟩
set_option maxRecDepth 100000 in
set_option maxHeartbeats 2000000 in
theorem refFirstMis_any (a : Option Addr) (L : List Int) (c : Nat) (w : World) (hL : RowsAt 1 intL w a L) (hl : L.length ≤ maxLen) :
    Calls Try.prog 70 #[.slice a L.length c] w fun e w' => e = .returned (.tuple #[.int .i64 (orderE L).1, .int .i64 (orderE L).2]) ∧ w = w' := by
  unfold maxLen at hl
  by_cases h0 : L.length = 0
  · have HE := Lib.hid (show orderE L = (0, 10) by unfold orderE; rw [if_pos (inB_no (by omega))])
    obtain rfl := List.length_eq_zero_iff.1 h0
    go_enter Try.func70, Try.ntmps70
    go_wp2
    go_ret2
    exact ⟨two_to HE.out, rfl⟩
  have h0' : ((L.length : Int) == 0) = false := by simp; intro h; exact h0 (by rw [h]; rfl)
  by_cases h1 : 4000 < L.length
  · have HE := Lib.hid (show orderE L = (0, 10) by unfold orderE; rw [if_pos (inB_no (by omega))])
    go_enter Try.func70, Try.ntmps70
    go_wp2
    go_ret2
    exact ⟨two_to HE.out, rfl⟩
  have HE := Lib.hid (show orderE L = if (L.drop 0).any outO = true then (0, 2) else misI (L.drop 0) ((0 : Nat) : Int) by unfold orderE; rw [if_neg (by rw [inB_yes (by omega)]; simp), List.drop_zero]; rfl)
  clear h0
  go_enter Try.func70, Try.ntmps70
  go_wp2
  go_loop [4] (fun i => ∃ k : Nat, k ≤ L.length ∧ i = .int .i64 k ∧ Hid ((L.drop 0).any outO = (L.drop k).any outO)) (fun i => L.length - (intOf i).toNat)
  case atStart => exact ⟨0, Nat.zero_le _, rfl, Lib.hid rfl⟩
  case round =>
    obtain ⟨k, hk, rfl, HR⟩ := hrel
    by_cases hlt : k < L.length
    · obtain ⟨ad, rfl, had, s0⟩ := hL.int hlt
      obtain ⟨x, ex⟩ : ∃ x, x = L[k] := ⟨_, rfl⟩
      have hst := any_step (p := outO) hlt
      rw [← ex] at s0 hst
      have HST := Lib.hid hst
      clear ex hst
      cases hx : inB x 0 4000
      · have HO := Lib.hid (show orderE L = (0, 2) by rw [HE.out, HR.out, HST.out, show outO x = true by unfold outO; rw [hx]; rfl]; rfl)
        go_wp2_with (go_at_call 42; refine (within_any _ _ _ _).mono ?_; rintro e w' ⟨rfl, rfl⟩)
        go_ret2
        exact ⟨two_to HO.out, rfl⟩
      · have HO := Lib.hid (show (L.drop 0).any outO = (L.drop (k + 1)).any outO by rw [HR.out, HST.out, show outO x = false by unfold outO; rw [hx]; rfl]; rfl)
        go_wp2_with (go_at_call 42; refine (within_any _ _ _ _).mono ?_; rintro e w' ⟨rfl, rfl⟩)
        go_round
        case rel => exact ⟨k + 1, by omega, by go_num, HO⟩
        case measure => simp [intOf]; omega
    · have HO := Lib.hid (show orderE L = misI (L.drop 0) ((0 : Nat) : Int) by rw [HE.out, HR.out, any_stop hlt]; rfl)
      go_wp2
      go_loop [5] (fun i => ∃ k : Nat, k ≤ L.length ∧ i = .int .i64 k ∧ Hid (misI (L.drop 0) ((0 : Nat) : Int) = misI (L.drop k) k)) (fun i => L.length - (intOf i).toNat)
      case atStart => exact ⟨0, Nat.zero_le _, rfl, Lib.hid rfl⟩
      case round =>
        obtain ⟨m, hm, rfl, HM⟩ := hrel
        by_cases hml : m < L.length
        · obtain ⟨ad, rfl, had, s0⟩ := hL.int hml
          obtain ⟨x, ex⟩ : ∃ x, x = L[m] := ⟨_, rfl⟩
          rw [← ex] at s0
          by_cases hx : x = (m : Int)
          · have HG := Lib.hid (misI_go hml (by rw [← ex]; exact hx))
            have hxb : (x != (m : Int)) = false := by simpa using hx
            clear ex hx
            go_wp2
            go_round
            case rel => exact ⟨m + 1, by omega, by go_num, Lib.hid (HM.out.trans HG.out)⟩
            case measure => simp [intOf]; omega
          · have HG := Lib.hid (misI_stop hml (by rw [← ex]; exact hx))
            have hxb : (x != (m : Int)) = true := by simpa using hx
            clear ex hx
            go_wp2
            go_ret2
            exact ⟨two_to (by rw [HO.out, HM.out, HG.out]), rfl⟩
        · have HG := Lib.hid (misI_end hml)
          go_wp2
          go_ret2
          exact ⟨two_to (by rw [HO.out, HM.out, HG.out]), rfl⟩
set_option maxRecDepth 100000 in
set_option maxHeartbeats 1000000 in
theorem copyInts_any (a : Option Addr) (L : List Int) (c : Nat) (w : World) (hL : RowsAt 1 intL w a L) (hl : L.length ≤ 1000000) (hn : a = none → c = 0) :
    Calls Try.prog 67 #[.slice a L.length c] w (ClonePost 1 3 intL w L) := by
  have hm := World.ownsRow_made (e := 3) (size := 1) (base := w.heap.size) w #[] 0 (Nat.le_refl _) (Nat.zero_le _) rfl
  have hown : OwnR 1 3 intL (w.alloc (.cells #[] 3)) w.heap.size (.slice (some ⟨w.heap.size, 0, none⟩) 0 0) [] := hm
  have hB := (Below.refl w.heap.size w).alloc (Nat.le_refl _) (.cells #[] 3)
  have HL := Lib.hid (hL.alloc (.cells #[] 3))
  clear hm hL
  go_enter Try.func67, Try.ntmps67
  go_wp2_with (at_builtin; refine wpList_appL tInt int_l _ rfl _ _ rfl w.heap.size _ [] rfl hown a L c rfl HL.out hn (by simp) hl (by simp) ?_; intro v' w' hown' hg' hB' hor')
  go_ret
  exact ⟨_, rfl, hown', hB.trans hB'⟩
end Go.Proofs.Ytjkjfmahcjcniaa
