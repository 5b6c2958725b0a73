/-
  Whether a text is a name: the program's own test, and the reference's.
-/
import Derived.Test.YtjkcomafgkabeaaDoorA1
namespace Go.Proofs.YtjkcomafgkabeaaDoor
open Go.RowKit

theorem isName_short (s : ByteArray) (h : s.size < 1 ∨ 12 < s.size) : isNameB s = false := by
  unfold isNameB
  rcases h with h | h
  · rw [decide_eq_false (by omega : ¬ 1 ≤ s.size)]; rfl
  · rw [decide_eq_false (by omega : ¬ s.size ≤ 12)]; simp
theorem isName_head (s : ByteArray) (h1 : 1 ≤ s.size) (h2 : s.size ≤ 12) : isNameB s = (letB (s[0].toNat : Int) && nmsB s.data.toList) := by
  unfold isNameB
  rw [decide_eq_true h1, decide_eq_true h2, head_at s (by omega)]; rfl
theorem nm_of_let {c : Int} (h : letB c = true) : nmB c = true := by unfold nmB; rw [h]; rfl
theorem nm_of_dig {c : Int} (h : digB c = true) : nmB c = true := by unfold nmB; rw [h]; simp
theorem nm_of_dash {c : Int} (h : c = 45) : nmB c = true := by unfold nmB dashB; rw [h]; simp
theorem nm_of_none {c : Int} (h1 : letB c = false) (h2 : digB c = false) (h3 : ¬ c = 45) : nmB c = false := by unfold nmB dashB; rw [h1, h2]; simpa using h3

set_option maxHeartbeats 1000000 in
theorem isName_any (s : ByteArray) (w : World) (hs : s.size ≤ maxLen) :
    Calls Tryd.prog 107 #[.string s] w fun e w' => e = .returned (.bool (isNameB s)) ∧ w = w' := by
  unfold maxLen at hs
  by_cases h1 : s.size < 1
  · have hn := isName_short s (.inl h1)
    have HN := Lib.hid hn; clear hn
    go_enter Tryd.func107, Tryd.ntmps107
    go_wp2
    go_ret
    exact ⟨ret_bool HN.out.symm, rfl⟩
  by_cases h2 : 12 < s.size
  · have hn := isName_short s (.inr h2)
    have HN := Lib.hid hn; clear hn
    go_enter Tryd.func107, Tryd.ntmps107
    go_wp2
    go_ret
    exact ⟨ret_bool HN.out.symm, rfl⟩
  have hn := isName_head s (by omega) (by omega)
  have h0 : 0 < s.size := by omega
  by_cases h3 : letB (s[0].toNat : Int) = true
  · rw [h3, Bool.true_and] at hn
    have HN := Lib.hid hn; clear hn
    go_enter Tryd.func107, Tryd.ntmps107
    go_wp2_with (go_at_call 123; refine (isLetter_any _ _).mono ?_; rintro e w' ⟨rfl, rfl⟩)
    go_loop [20] (fun i => ∃ k : Nat, k ≤ s.size ∧ i = .int .i64 k ∧ Hid (nmsB s.data.toList = nmsB (s.data.toList.drop k))) (fun i => s.size - (intOf i).toNat)
    case atStart => exact ⟨0, Nat.zero_le _, rfl, Lib.hid (by rw [List.drop_zero])⟩
    case round =>
      obtain ⟨k, hk, rfl, HR⟩ := hrel
      by_cases hlt : k < s.size
      · have hc := nms_cons s k hlt
        by_cases l1 : letB (s[k].toNat : Int) = true
        · rw [nm_of_let l1, Bool.true_and] at hc
          have HC := Lib.hid hc; clear hc
          go_wp2_with (go_at_call 123; refine (isLetter_any _ _).mono ?_; rintro e w' ⟨rfl, rfl⟩)
          go_round
          case rel => exact ⟨k + 1, by omega, by go_num, Lib.hid (HR.out.trans HC.out)⟩
          case measure => simp [intOf]; omega
        have l1' : letB (s[k].toNat : Int) = false := by simpa using l1
        by_cases l2 : digB (s[k].toNat : Int) = true
        · rw [nm_of_dig l2, Bool.true_and] at hc
          have HC := Lib.hid hc; clear hc l1
          go_wp2_with (first | (go_at_call 123; refine (isLetter_any _ _).mono ?_; rintro e w' ⟨rfl, rfl⟩) | (go_at_call 124; refine (isDigit_any _ _).mono ?_; rintro e w' ⟨rfl, rfl⟩))
          go_round
          case rel => exact ⟨k + 1, by omega, by go_num, Lib.hid (HR.out.trans HC.out)⟩
          case measure => simp [intOf]; omega
        have l2' : digB (s[k].toNat : Int) = false := by simpa using l2
        by_cases l3 : (s[k].toNat : Int) = 45
        · rw [nm_of_dash l3, Bool.true_and] at hc
          have HC := Lib.hid hc; clear hc l1 l2
          have e1 : ((s[k].toNat : Int) != 45) = false := by simpa using l3
          clear l3
          go_wp2_with (first | (go_at_call 123; refine (isLetter_any _ _).mono ?_; rintro e w' ⟨rfl, rfl⟩) | (go_at_call 124; refine (isDigit_any _ _).mono ?_; rintro e w' ⟨rfl, rfl⟩))
          go_round
          case rel => exact ⟨k + 1, by omega, by go_num, Lib.hid (HR.out.trans HC.out)⟩
          case measure => simp [intOf]; omega
        · rw [nm_of_none l1' l2' l3, Bool.false_and] at hc
          have HC := Lib.hid hc; clear hc l1 l2
          have e1 : ((s[k].toNat : Int) != 45) = true := by simpa using l3
          clear l3
          go_wp2_with (first | (go_at_call 123; refine (isLetter_any _ _).mono ?_; rintro e w' ⟨rfl, rfl⟩) | (go_at_call 124; refine (isDigit_any _ _).mono ?_; rintro e w' ⟨rfl, rfl⟩))
          go_ret
          exact ⟨ret_bool (by rw [HN.out, HR.out, HC.out]), rfl⟩
      · have hc := nms_end s k hlt
        have HC := Lib.hid hc; clear hc
        go_wp2
        go_ret
        exact ⟨ret_bool (by rw [HN.out, HR.out, HC.out]), rfl⟩
  · have h3' : letB (s[0].toNat : Int) = false := by simpa using h3
    rw [h3', Bool.false_and] at hn
    have HN := Lib.hid hn; clear hn h3
    go_enter Tryd.func107, Tryd.ntmps107
    go_wp2_with (go_at_call 123; refine (isLetter_any _ _).mono ?_; rintro e w' ⟨rfl, rfl⟩)
    go_ret
    exact ⟨ret_bool HN.out.symm, rfl⟩

def nmFrom (s : ByteArray) (k : Nat) : Bool := (decide (k ≠ 0) || letB ((s.data.toList.headD 0).toNat : Int)) && nmsB (s.data.toList.drop k)
theorem nmFrom_start (s : ByteArray) (h1 : 1 ≤ s.size) (h2 : s.size ≤ 12) : isNameB s = nmFrom s 0 := by
  unfold isNameB nmFrom
  rw [decide_eq_true h1, decide_eq_true h2]; simp
theorem nmFrom_let (s : ByteArray) (k : Nat) (h : k < s.size) (hl : letB (s[k].toNat : Int) = true) : nmFrom s k = nmFrom s (k + 1) := by
  unfold nmFrom
  rw [nms_cons s k h, nm_of_let hl]
  by_cases hk : k = 0
  · subst hk; rw [head_at s h, hl]; simp
  · simp [hk]
theorem nmFrom_first (s : ByteArray) (k : Nat) (h : k < s.size) (hk : k = 0) (hl : letB (s[k].toNat : Int) = false) : nmFrom s k = false := by
  subst hk; unfold nmFrom; rw [head_at s h, hl]; simp
theorem nmFrom_other (s : ByteArray) (k : Nat) (h : k < s.size) (hk : k ≠ 0) (hl : nmB (s[k].toNat : Int) = true) : nmFrom s k = nmFrom s (k + 1) := by
  unfold nmFrom; rw [nms_cons s k h, hl]; simp [hk]
theorem nmFrom_no (s : ByteArray) (k : Nat) (h : k < s.size) (hl : nmB (s[k].toNat : Int) = false) : nmFrom s k = false := by
  unfold nmFrom; rw [nms_cons s k h, hl]; simp
theorem nmFrom_end (s : ByteArray) (k : Nat) (h : ¬ k < s.size) (hk : k ≠ 0) : nmFrom s k = true := by
  unfold nmFrom; rw [nms_end s k h]; simp [hk]

set_option maxHeartbeats 1000000 in
theorem refIsName_any (s : ByteArray) (w : World) (hs : s.size ≤ maxLen) :
    Calls Tryd.prog 73 #[.string s] w fun e w' => e = .returned (.bool (isNameB s)) ∧ w = w' := by
  unfold maxLen at hs
  by_cases h1 : s.size < 1
  · have hn := isName_short s (.inl h1)
    have HN := Lib.hid hn; clear hn
    go_enter Tryd.func73, Tryd.ntmps73
    go_wp2
    go_ret
    exact ⟨ret_bool HN.out.symm, rfl⟩
  by_cases h2 : 12 < s.size
  · have hn := isName_short s (.inr h2)
    have HN := Lib.hid hn; clear hn
    go_enter Tryd.func73, Tryd.ntmps73
    go_wp2
    go_ret
    exact ⟨ret_bool HN.out.symm, rfl⟩
  have HN := Lib.hid (nmFrom_start s (by omega) (by omega))
  have h0 : 0 < s.size := by omega
  go_enter Tryd.func73, Tryd.ntmps73
  go_wp2
  go_loop [3] (fun i => ∃ k : Nat, k ≤ s.size ∧ i = .int .i64 k ∧ Hid (nmFrom s 0 = nmFrom s k)) (fun i => s.size - (intOf i).toNat)
  case atStart => exact ⟨0, Nat.zero_le _, rfl, Lib.hid rfl⟩
  case round =>
    obtain ⟨k, hk, rfl, HR⟩ := hrel
    by_cases hlt : k < s.size
    · by_cases l1 : (97 ≤ (s[k].toNat : Int) ∧ (s[k].toNat : Int) ≤ 122) ∨ (65 ≤ (s[k].toNat : Int) ∧ (s[k].toNat : Int) ≤ 90)
      · have HC := Lib.hid (nmFrom_let s k hlt (by unfold letB; exact decide_eq_true l1))
        go_wp2
        all_goals first | (exfalso; omega) | (exfalso; (simp at *) <;> omega) | skip
        all_goals go_round
        all_goals first | exact ⟨k + 1, by omega, by go_num, Lib.hid (HR.out.trans HC.out)⟩ | (simp [intOf]; omega)
      have l1' : letB (s[k].toNat : Int) = false := by unfold letB; exact decide_eq_false l1
      by_cases hk0 : k = 0
      · have HC := Lib.hid (nmFrom_first s k hlt hk0 l1')
        have hz : ((k : Int) == 0) = true := by simpa using hk0
        clear hk0
        go_wp2
        all_goals first | (exfalso; omega) | (exfalso; (simp at *) <;> omega) | skip
        all_goals go_ret
        all_goals exact ⟨ret_bool (by rw [HN.out, HR.out, HC.out]), rfl⟩
      have hz : ((k : Int) == 0) = false := by simpa using hk0
      by_cases l3 : (s[k].toNat : Int) = 45
      · have HC := Lib.hid (nmFrom_other s k hlt hk0 (nm_of_dash l3))
        have e1 : ((s[k].toNat : Int) != 45) = false := by simpa using l3
        clear l1'
        go_wp2
        all_goals first | (exfalso; omega) | (exfalso; (simp at *) <;> omega) | skip
        all_goals go_round
        all_goals first | exact ⟨k + 1, by omega, by go_num, Lib.hid (HR.out.trans HC.out)⟩ | (simp [intOf]; omega)
      have e1 : ((s[k].toNat : Int) != 45) = true := by simpa using l3
      by_cases l2 : 48 ≤ (s[k].toNat : Int) ∧ (s[k].toNat : Int) ≤ 57
      · have HC := Lib.hid (nmFrom_other s k hlt hk0 (nm_of_dig (by unfold digB; exact decide_eq_true l2)))
        obtain ⟨l2a, l2b⟩ := l2
        clear l1'
        go_wp2
        all_goals first | (exfalso; omega) | (exfalso; (simp at *) <;> omega) | skip
        all_goals go_round
        all_goals first | exact ⟨k + 1, by omega, by go_num, Lib.hid (HR.out.trans HC.out)⟩ | (simp [intOf]; omega)
      · have HC := Lib.hid (nmFrom_no s k hlt (nm_of_none l1' (by unfold digB; exact decide_eq_false l2) l3))
        clear l1'
        go_wp2
        all_goals first | (exfalso; omega) | (exfalso; (simp at *) <;> omega) | skip
        all_goals go_ret
        all_goals exact ⟨ret_bool (by rw [HN.out, HR.out, HC.out]), rfl⟩
    · have HC := Lib.hid (nmFrom_end s k hlt (by omega))
      go_wp2
      go_ret
      exact ⟨ret_bool (by rw [HN.out, HR.out, HC.out]), rfl⟩
end Go.Proofs.YtjkcomafgkabeaaDoor
