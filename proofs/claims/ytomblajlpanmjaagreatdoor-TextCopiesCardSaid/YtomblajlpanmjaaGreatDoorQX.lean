/-
  The small tests of package text on bytes: what each call answers; the world stays as it was. Words and texts of small letters, as mathematics.
-/
import Derived.Test.YtomblajlpanmjaaGreatDoorZA
import Derived.Test.YtomblajlpanmjaaGreatDoorZD
import Derived.Lib.Strings
import Derived.Laws.ResultCell
import Derived.Deep.AppendLies
namespace Go.Proofs.YtomblajlpanmjaaGreatDoor
open Go.RowKit

def smallB (c : Int) : Bool := decide (97 ≤ c ∧ c ≤ 122)
def prB (c : Int) : Bool := decide (33 ≤ c ∧ c ≤ 126)
/-- All bytes of a list have a property. -/
def allB (p : Int → Bool) (l : List UInt8) : Bool := l.all fun c => p (c.toNat : Int)
/-- A word: 1 to 30 bytes from 33 to 126. -/
def isWordB (s : ByteArray) : Bool := decide (1 ≤ s.size) && decide (s.size ≤ 30) && allB prB s.data.toList
def areSmallB (s : ByteArray) : Bool := allB smallB s.data.toList
def wordErr (s : ByteArray) : Int := if isWordB s = true then 0 else 3

theorem allB_cons (p : Int → Bool) (s : ByteArray) (k : Nat) (h : k < s.size) :
    allB p (s.data.toList.drop k) = (p (s[k].toNat : Int) && allB p (s.data.toList.drop (k + 1))) := by
  rw [drop_cons s k h]; try rfl
theorem allB_end (p : Int → Bool) (s : ByteArray) (k : Nat) (h : ¬ k < s.size) : allB p (s.data.toList.drop k) = true := by
  rw [List.drop_of_length_le (by simpa using h)]; try rfl
theorem allB_go {p : Int → Bool} {s : ByteArray} {k : Nat} (h : k < s.size) (hp : p (s[k].toNat : Int) = true) :
    allB p (s.data.toList.drop k) = allB p (s.data.toList.drop (k + 1)) := by rw [allB_cons p s k h, hp, Bool.true_and]
theorem allB_no {p : Int → Bool} {s : ByteArray} {k : Nat} (h : k < s.size) (hp : p (s[k].toNat : Int) = false) :
    allB p (s.data.toList.drop k) = false := by rw [allB_cons p s k h, hp, Bool.false_and]

set_option maxHeartbeats 400000 in
theorem isSmall_any (c : Int) (w : World) :
    Calls Tryz.prog 167 #[.int .u8 c] w fun e w' => e = .returned (.bool (smallB c)) ∧ w = w' := by
  go_enter Tryz.func167, Tryz.ntmps167
  go_wp2
  all_goals go_ret
  all_goals exact ⟨ret_bool (by rw [Bool.eq_iff_iff]; simp [smallB]; try omega), rfl⟩

set_option maxHeartbeats 400000 in
theorem textDigit_any (c : Int) (w : World) :
    Calls Tryz.prog 166 #[.int .u8 c] w fun e w' => e = .returned (.bool (digB c)) ∧ w = w' := by
  go_enter Tryz.func166, Tryz.ntmps166
  go_wp2
  all_goals go_ret
  all_goals exact ⟨ret_bool (by rw [Bool.eq_iff_iff]; simp [digB]; try omega), rfl⟩

set_option maxHeartbeats 400000 in
theorem refByte_any (c : Int) (w : World) :
    Calls Tryz.prog 76 #[.int .u8 c] w fun e w' => e = .returned (.bool (prB c)) ∧ w = w' := by
  go_enter Tryz.func76, Tryz.ntmps76
  go_wp2
  all_goals go_ret
  all_goals exact ⟨ret_bool (by rw [Bool.eq_iff_iff]; simp [prB]; try omega), rfl⟩

end Go.Proofs.YtomblajlpanmjaaGreatDoor
/-
  Whether a text is a word, or of small letters alone: the program's own tests, and the reference's.
-/
namespace Go.Proofs.YtomblajlpanmjaaGreatDoor
open Go.RowKit

theorem isWord_short (s : ByteArray) (h : s.size < 1 ∨ 30 < s.size) : isWordB s = false := by
  unfold isWordB
  rcases h with h | h
  · rw [decide_eq_false (by omega : ¬ 1 ≤ s.size)]; try rfl
  · rw [decide_eq_false (by omega : ¬ s.size ≤ 30)]; simp
theorem isWord_all (s : ByteArray) (h1 : 1 ≤ s.size) (h2 : s.size ≤ 30) : isWordB s = allB prB s.data.toList := by
  unfold isWordB
  rw [decide_eq_true h1, decide_eq_true h2]; try rfl
theorem isWord_bad (s : ByteArray) (h : allB prB s.data.toList = false) : isWordB s = false := by
  unfold isWordB; rw [h]; simp
theorem isWord_good (s : ByteArray) (h : allB prB s.data.toList = true) : isWordB s = inB s.size 1 30 := by
  unfold isWordB inB; rw [h, Bool.and_true, Bool.eq_iff_iff]; simp; omega

set_option maxHeartbeats 1000000 in
theorem isWord_any (s : ByteArray) (w : World) (hs : s.size ≤ maxLen) :
    Calls Tryz.prog 136 #[.string s] w fun e w' => e = .returned (.bool (isWordB s)) ∧ w = w' := by
  unfold maxLen at hs
  by_cases h1 : s.size < 1
  · have hn := isWord_short s (.inl h1)
    have HN := Lib.hid hn; clear hn
    go_enter Tryz.func136, Tryz.ntmps136
    go_wp2
    go_ret
    exact ⟨ret_bool HN.out.symm, rfl⟩
  by_cases h2 : 30 < s.size
  · have hn := isWord_short s (.inr h2)
    have HN := Lib.hid hn; clear hn
    go_enter Tryz.func136, Tryz.ntmps136
    go_wp2
    go_ret
    exact ⟨ret_bool HN.out.symm, rfl⟩
  have HN := Lib.hid (isWord_all s (by omega) (by omega))
  go_enter Tryz.func136, Tryz.ntmps136
  go_wp2
  go_loop [14] (fun i => ∃ k : Nat, k ≤ s.size ∧ i = .int .i64 k ∧ Hid (allB prB s.data.toList = allB prB (s.data.toList.drop k))) (fun i => s.size - (intOf i).toNat)
  case atStart => exact ⟨0, Nat.zero_le _, rfl, Lib.hid (by rw [List.drop_zero])⟩
  case round =>
    obtain ⟨k, hk, rfl, HR⟩ := hrel
    by_cases hlt : k < s.size
    · by_cases l1 : 33 ≤ (s[k].toNat : Int) ∧ (s[k].toNat : Int) ≤ 126
      · have HC := Lib.hid (allB_go (p := prB) hlt (by unfold prB; exact decide_eq_true l1))
        obtain ⟨la, lb⟩ := l1
        go_wp2
        go_round
        case rel => exact ⟨k + 1, by omega, by go_num, Lib.hid (HR.out.trans HC.out)⟩
        case measure => simp [intOf]; omega
      · have HC := Lib.hid (allB_no (p := prB) hlt (by unfold prB; exact decide_eq_false l1))
        go_wp2
        all_goals first | (exfalso; omega) | skip
        all_goals go_ret
        all_goals exact ⟨ret_bool (by rw [HN.out, HR.out, HC.out]), rfl⟩
    · have HC := Lib.hid (allB_end prB s k hlt)
      go_wp2
      go_ret
      exact ⟨ret_bool (by rw [HN.out, HR.out, HC.out]), rfl⟩

set_option maxHeartbeats 1000000 in
theorem areSmall_any (s : ByteArray) (w : World) (hs : s.size ≤ maxLen) :
    Calls Tryz.prog 137 #[.string s] w fun e w' => e = .returned (.bool (areSmallB s)) ∧ w = w' := by
  unfold maxLen at hs
  go_enter Tryz.func137, Tryz.ntmps137
  go_wp2
  go_loop [6] (fun i => ∃ k : Nat, k ≤ s.size ∧ i = .int .i64 k ∧ Hid (areSmallB s = allB smallB (s.data.toList.drop k))) (fun i => s.size - (intOf i).toNat)
  case atStart => exact ⟨0, Nat.zero_le _, rfl, Lib.hid (by rw [List.drop_zero]; try rfl)⟩
  case round =>
    obtain ⟨k, hk, rfl, HR⟩ := hrel
    by_cases hlt : k < s.size
    · by_cases l1 : smallB (s[k].toNat : Int) = true
      · have HC := Lib.hid (allB_go (p := smallB) hlt l1)
        go_wp2_with (go_at_call 167; refine (isSmall_any _ _).mono ?_; rintro e w' ⟨rfl, rfl⟩)
        go_round
        case rel => exact ⟨k + 1, by omega, by go_num, Lib.hid (HR.out.trans HC.out)⟩
        case measure => simp [intOf]; omega
      · have l1' : smallB (s[k].toNat : Int) = false := by simpa using l1
        have HC := Lib.hid (allB_no (p := smallB) hlt l1')
        clear l1
        go_wp2_with (go_at_call 167; refine (isSmall_any _ _).mono ?_; rintro e w' ⟨rfl, rfl⟩)
        go_ret
        exact ⟨ret_bool (by rw [HR.out, HC.out]), rfl⟩
    · have HC := Lib.hid (allB_end smallB s k hlt)
      go_wp2
      go_ret
      exact ⟨ret_bool (by rw [HR.out, HC.out]), rfl⟩

set_option maxHeartbeats 1000000 in
theorem refIsWord_any (s : ByteArray) (w : World) (hs : s.size ≤ maxLen) :
    Calls Tryz.prog 70 #[.string s] w fun e w' => e = .returned (.bool (isWordB s)) ∧ w = w' := by
  unfold maxLen at hs
  go_enter Tryz.func70, Tryz.ntmps70
  go_wp2
  go_loop [3] (fun i => ∃ k : Nat, k ≤ s.size ∧ i = .int .i64 k ∧ Hid (allB prB s.data.toList = allB prB (s.data.toList.drop k))) (fun i => s.size - (intOf i).toNat)
  case atStart => exact ⟨0, Nat.zero_le _, rfl, Lib.hid (by rw [List.drop_zero])⟩
  case round =>
    obtain ⟨k, hk, rfl, HR⟩ := hrel
    by_cases hlt : k < s.size
    · by_cases l1 : prB (s[k].toNat : Int) = true
      · have HC := Lib.hid (allB_go (p := prB) hlt l1)
        go_wp2_with (go_at_call 76; refine (refByte_any _ _).mono ?_; rintro e w' ⟨rfl, rfl⟩)
        go_round
        case rel => exact ⟨k + 1, by omega, by go_num, Lib.hid (HR.out.trans HC.out)⟩
        case measure => simp [intOf]; omega
      · have l1' : prB (s[k].toNat : Int) = false := by simpa using l1
        have HC := Lib.hid (allB_no (p := prB) hlt l1')
        clear l1
        go_wp2_with (go_at_call 76; refine (refByte_any _ _).mono ?_; rintro e w' ⟨rfl, rfl⟩)
        go_ret
        exact ⟨ret_bool (isWord_bad s (by rw [HR.out, HC.out])).symm, rfl⟩
    · have HC := Lib.hid (allB_end prB s k hlt)
      go_wp2_with (go_at_call 44; refine (within_any _ _ _ _).mono ?_; rintro e w' ⟨rfl, rfl⟩)
      go_ret
      exact ⟨ret_bool (isWord_good s (by rw [HR.out, HC.out])).symm, rfl⟩

set_option maxHeartbeats 400000 in
theorem errorOfWord_any (s : ByteArray) (w : World) (hs : s.size ≤ maxLen) :
    Calls Tryz.prog 111 #[.string s] w fun e w' => e = .returned (.int .i64 (wordErr s)) ∧ w = w' := by
  by_cases h : isWordB s = true
  · have HN := Lib.hid (show wordErr s = 0 by unfold wordErr; rw [if_pos h])
    go_enter Tryz.func111, Tryz.ntmps111
    go_wp2_with (go_at_call 136; refine (isWord_any _ _ hs).mono ?_; rintro e w' ⟨rfl, rfl⟩)
    go_ret
    exact ⟨ret_int HN.out.symm, rfl⟩
  · have h' : isWordB s = false := by simpa using h
    have HN := Lib.hid (show wordErr s = 3 by unfold wordErr; rw [if_neg h])
    clear h
    go_enter Tryz.func111, Tryz.ntmps111
    go_wp2_with (go_at_call 136; refine (isWord_any _ _ hs).mono ?_; rintro e w' ⟨rfl, rfl⟩)
    go_ret
    exact ⟨ret_int HN.out.symm, rfl⟩
end Go.Proofs.YtomblajlpanmjaaGreatDoor

/-
  Marks of parts, kinds by their marks, the first byte of a line that no copy has.
-/
namespace Go.Proofs.YtomblajlpanmjaaGreatDoor
open Go.RowKit

def kindOfW (s : ByteArray) : Int := if (s.toList == [35]) = true then 2 else if (s.toList == [94]) = true then 3 else 1
def markB (s : ByteArray) : Bool := s.toList == [35] || s.toList == [94]
def markW (k : Int) : ByteArray := if k = 2 then ⟨#[35]⟩ else if k = 3 then ⟨#[94]⟩ else ⟨#[]⟩
def lineB (c : Int) : Bool := decide (32 ≤ c ∧ c ≤ 126)
/-- The first byte of a line that no copy has, counted from k on. -/
def strangeL : List UInt8 → Nat → Int × Bool
  | [], _ => (0, false)
  | c :: l, k => if lineB (c.toNat : Int) = true then strangeL l (k + 1) else ((k : Int), true)

theorem strange_go {s : ByteArray} {k : Nat} (h : k < s.size) (hp : lineB (s[k].toNat : Int) = true) :
    strangeL (s.data.toList.drop k) k = strangeL (s.data.toList.drop (k + 1)) (k + 1) := by
  rw [drop_cons s k h]; show (if _ then _ else _) = _; rw [if_pos hp]
theorem strange_at {s : ByteArray} {k : Nat} (h : k < s.size) (hp : lineB (s[k].toNat : Int) = false) :
    strangeL (s.data.toList.drop k) k = ((k : Int), true) := by
  rw [drop_cons s k h]; show (if _ then _ else _) = _; rw [if_neg (by rw [hp]; simp)]
theorem strange_end {s : ByteArray} {k : Nat} (h : ¬ k < s.size) : strangeL (s.data.toList.drop k) k = (0, false) := by
  rw [List.drop_of_length_le (by simpa using h)]; try rfl
theorem markB_kind (s : ByteArray) : markB s = (kindOfW s != 1) := by
  unfold markB kindOfW
  cases h1 : (s.toList == [35]) <;> cases h2 : (s.toList == [94]) <;> rfl
theorem ret_str {a b : ByteArray} (h : a = b) : Ending.returned (.string a) = .returned (.string b) := by rw [h]

set_option maxHeartbeats 400000 in
theorem kindOf_any (s : ByteArray) (w : World) :
    Calls Tryz.prog 147 #[.string s] w fun e w' => e = .returned (.int .i64 (kindOfW s)) ∧ w = w' := by
  by_cases h1 : (s.toList == [35]) = true
  · have HN := Lib.hid (show kindOfW s = 2 by unfold kindOfW; rw [if_pos h1])
    go_enter Tryz.func147, Tryz.ntmps147
    go_wp2
    go_ret
    exact ⟨ret_int HN.out.symm, rfl⟩
  have h1' : (s.toList == [35]) = false := by simpa using h1
  by_cases h2 : (s.toList == [94]) = true
  · have HN := Lib.hid (show kindOfW s = 3 by unfold kindOfW; rw [if_neg h1, if_pos h2])
    clear h1
    go_enter Tryz.func147, Tryz.ntmps147
    go_wp2
    go_ret
    exact ⟨ret_int HN.out.symm, rfl⟩
  have h2' : (s.toList == [94]) = false := by simpa using h2
  have HN := Lib.hid (show kindOfW s = 1 by unfold kindOfW; rw [if_neg h1, if_neg h2])
  clear h1 h2
  go_enter Tryz.func147, Tryz.ntmps147
  go_wp2
  go_ret
  exact ⟨ret_int HN.out.symm, rfl⟩

set_option maxHeartbeats 400000 in
theorem isMark_any (s : ByteArray) (w : World) :
    Calls Tryz.prog 110 #[.string s] w fun e w' => e = .returned (.bool (markB s)) ∧ w = w' := by
  go_enter Tryz.func110, Tryz.ntmps110
  go_wp2_with (go_at_call 147; refine (kindOf_any _ _).mono ?_; rintro e w' ⟨rfl, rfl⟩)
  go_ret
  exact ⟨ret_bool (by rw [markB_kind]), rfl⟩

set_option maxHeartbeats 400000 in
theorem refMark_any (s : ByteArray) (w : World) :
    Calls Tryz.prog 71 #[.string s] w fun e w' => e = .returned (.bool (markB s)) ∧ w = w' := by
  cases h1 : (s.toList == [35]) with
  | true =>
    have HN := Lib.hid (show markB s = true by unfold markB; rw [h1]; try rfl)
    go_enter Tryz.func71, Tryz.ntmps71
    go_wp2
    go_ret
    exact ⟨ret_bool HN.out.symm, rfl⟩
  | false =>
    have HN := Lib.hid (show markB s = (s.toList == [94]) by unfold markB; rw [h1]; try rfl)
    go_enter Tryz.func71, Tryz.ntmps71
    go_wp2
    go_ret
    exact ⟨ret_bool HN.out.symm, rfl⟩

set_option maxHeartbeats 400000 in
theorem markOf_any (k : Int) (w : World) :
    Calls Tryz.prog 68 #[.int .i64 k] w fun e w' => e = .returned (.string (markW k)) ∧ w = w' := by
  by_cases h1 : k = 2
  · have HN := Lib.hid (show markW k = ⟨#[35]⟩ by unfold markW; rw [if_pos h1])
    have e1 : (k == 2) = true := by simpa using h1
    clear h1
    go_enter Tryz.func68, Tryz.ntmps68
    go_wp2
    go_ret
    exact ⟨ret_str HN.out.symm, rfl⟩
  have e1 : (k == 2) = false := by simpa using h1
  by_cases h2 : k = 3
  · have HN := Lib.hid (show markW k = ⟨#[94]⟩ by unfold markW; rw [if_neg h1, if_pos h2])
    have e2 : (k == 3) = true := by simpa using h2
    clear h1 h2
    go_enter Tryz.func68, Tryz.ntmps68
    go_wp2
    go_ret
    exact ⟨ret_str HN.out.symm, rfl⟩
  have e2 : (k == 3) = false := by simpa using h2
  have HN := Lib.hid (show markW k = ⟨#[]⟩ by unfold markW; rw [if_neg h1, if_neg h2])
  clear h1 h2
  go_enter Tryz.func68, Tryz.ntmps68
  go_wp2
  go_ret
  exact ⟨ret_str HN.out.symm, rfl⟩

set_option maxHeartbeats 1000000 in
theorem firstStrange_any (s : ByteArray) (w : World) (hs : s.size ≤ maxLen) :
    Calls Tryz.prog 73 #[.string s] w fun e w' =>
      e = .returned (.tuple #[.int .i64 (strangeL s.data.toList 0).1, .bool (strangeL s.data.toList 0).2]) ∧ w = w' := by
  unfold maxLen at hs
  go_enter Tryz.func73, Tryz.ntmps73
  go_wp2
  go_loop [7] (fun i => ∃ k : Nat, k ≤ s.size ∧ i = .int .i64 k ∧ Hid (strangeL s.data.toList 0 = strangeL (s.data.toList.drop k) k)) (fun i => s.size - (intOf i).toNat)
  case atStart => exact ⟨0, Nat.zero_le _, rfl, Lib.hid (by rw [List.drop_zero])⟩
  case round =>
    obtain ⟨k, hk, rfl, HR⟩ := hrel
    by_cases hlt : k < s.size
    · by_cases l1 : 32 ≤ (s[k].toNat : Int) ∧ (s[k].toNat : Int) ≤ 126
      · have HC := Lib.hid (strange_go hlt (by unfold lineB; exact decide_eq_true l1))
        obtain ⟨la, lb⟩ := l1
        go_wp2
        go_round
        case rel => exact ⟨k + 1, by omega, by go_num, Lib.hid (HR.out.trans HC.out)⟩
        case measure => simp [intOf]; omega
      · have HC := Lib.hid (strange_at hlt (by unfold lineB; exact decide_eq_false l1))
        go_wp2
        all_goals first | (exfalso; omega) | skip
        all_goals go_ret2
        all_goals exact ⟨by rw [HR.out, HC.out]; try rfl, rfl⟩
    · have HC := Lib.hid (strange_end (s := s) hlt)
      go_wp2
      go_ret2
      exact ⟨by rw [HR.out, HC.out]; try rfl, rfl⟩
end Go.Proofs.YtomblajlpanmjaaGreatDoor

/-
  Lists of texts: whether one has a text, whether two are equal, a copy.
-/
namespace Go.Proofs.YtomblajlpanmjaaGreatDoor
open Go.RowKit Go.Maps

abbrev noTx : ByteArray := ByteArray.empty
def TextsAt (w : World) (a : Option Addr) (l : List ByteArray) : Prop :=
  ∀ k, k < l.length → ∃ ad, a = some ad ∧ ad.block < w.heap.size ∧ w.cell? (ad.add k) = some (.string (l.getD k noTx))
theorem TextsAt.below {w w' : World} {a : Option Addr} {l : List ByteArray} (h : TextsAt w a l) (hb : Below w.heap.size w w') : TextsAt w' a l := fun k hk => by
  obtain ⟨ad, e, hlt, hs⟩ := h k hk
  exact ⟨ad, e, Nat.lt_of_lt_of_le hlt hb.size, (hb.cell (by rw [add_block]; exact hlt)).trans hs⟩
theorem TextsAt.alloc {w : World} {a : Option Addr} {l : List ByteArray} (h : TextsAt w a l) (o : Obj) : TextsAt (w.alloc o) a l := h.below ((Below.refl _ _).alloc (Nat.le_refl _) o)
theorem TextsAt.at_ {w : World} {a : Option Addr} {l : List ByteArray} {k : Nat} (h : TextsAt w a l) (hk : k < l.length) : ∃ ad, a = some ad ∧ ad.block < w.heap.size ∧ w.cell? (ad.add k) = some (.string (l.getD k noTx)) := h k hk
theorem Drew.texts {w0 wr : World} (h : Drew w0 wr) {a : Option Addr} {l : List ByteArray} (hi : TextsAt w0 a l) : TextsAt wr a l := by obtain ⟨n, rfl⟩ := h; exact hi
theorem getT {l : List ByteArray} {k : Nat} (h : k < l.length) : l.getD k noTx = l[k] := by
  rw [List.getD_eq_getElem?_getD, List.getElem?_eq_getElem h]; try rfl
theorem toList_inj {a b : ByteArray} (h : a.toList = b.toList) : a = b := by
  rw [ByteArray.toList_eq, ByteArray.toList_eq] at h
  cases a; cases b; congr; exact Array.toList_inj.1 h
theorem texts_eq {l1 l2 : List ByteArray} (h : l1.length = l2.length) (hj : ∀ j, j < l1.length → l1.getD j noTx = l2.getD j noTx) : l1 = l2 := by
  apply List.ext_getElem h
  intro i h1 h2
  have := hj i h1
  rwa [getT h1, getT h2] at this
def diffTx (l1 l2 : List ByteArray) (j : Nat) : Bool := !((l1.getD j noTx).toList == (l2.getD j noTx).toList)

set_option maxRecDepth 100000 in
set_option maxHeartbeats 1000000 in
theorem texts_any (b1 : Option Addr) (l1 : List ByteArray) (d1 : Nat) (b2 : Option Addr) (l2 : List ByteArray) (d2 : Nat) (w : World) (hX1 : TextsAt w b1 l1) (hX2 : TextsAt w b2 l2) (hl1 : l1.length ≤ maxLen) (hl2 : l2.length ≤ maxLen) :
    Calls Tryz.prog 39 #[.slice b1 l1.length d1, .slice b2 l2.length d2] w fun e w' => (∃ q, e = .returned (.bool q) ∧ (q = true ↔ l1 = l2)) ∧ Drew w w' := by
  unfold maxLen at hl1 hl2
  by_cases hn : l1.length = l2.length
  · have hne : ((l1.length : Int) != (l2.length : Int)) = false := by simp [hn]
    have hle : l1.length ≤ l2.length := by omega
    have HN := Lib.hid hn; clear hn
    go_enter Tryz.func39, Tryz.ntmps39
    go_wp2
    go_loopw [5] (fun i wr => ∃ k : Nat, k ≤ l1.length ∧ i = .int .i64 k ∧ Hid (firstAt (diffTx l1 l2) (l1.length - 0) 0 = firstAt (diffTx l1 l2) (l1.length - k) k) ∧ Drew w wr) (fun i _ => l1.length - (intOf i).toNat)
    case atStart => exact ⟨0, Nat.zero_le _, rfl, Lib.hid rfl, Drew.refl _⟩
    case round =>
      obtain ⟨k, hk, rfl, HR, hD⟩ := hrel
      by_cases hlt : k < l1.length
      · obtain ⟨p1, rfl, hp1, hc1⟩ := (hD.texts hX1).at_ hlt
        obtain ⟨p2, rfl, hp2, hc2⟩ := (hD.texts hX2).at_ (k := k) (by omega)
        have hkl1 : (k : Int) < (l1.length : Int) := by omega
        have hkl2 : (k : Int) < (l2.length : Int) := by omega
        cases hq : diffTx l1 l2 k
        · have HS := Lib.hid (firstAt_go hlt hq)
          have hq' : ((l1.getD k noTx).toList == (l2.getD k noTx).toList) = true := by unfold diffTx at hq; simpa using hq
          clear hq
          obtain ⟨x, ex⟩ : ∃ x, x = l1.getD k noTx := ⟨_, rfl⟩
          obtain ⟨y, ey⟩ : ∃ x, x = l2.getD k noTx := ⟨_, rfl⟩
          rw [← ex] at hc1 hq'
          rw [← ey] at hc2 hq'
          clear ex ey
          go_wp2_with fail
          go_quiet (fail)
          go_wp2
          go_roundw
          case rel => exact ⟨k + 1, by omega, by go_num, Lib.hid (HR.out.trans HS.out), hD.drewN _⟩
          case measure => simp [intOf]; omega
        · have HS := Lib.hid (firstAt_stop hlt hq)
          have hq' : ((l1.getD k noTx).toList == (l2.getD k noTx).toList) = false := by unfold diffTx at hq; simpa using hq
          clear hq
          have HQ := Lib.hid hq'
          obtain ⟨x, ex⟩ : ∃ x, x = l1.getD k noTx := ⟨_, rfl⟩
          obtain ⟨y, ey⟩ : ∃ x, x = l2.getD k noTx := ⟨_, rfl⟩
          rw [← ex] at hc1 hq'
          rw [← ey] at hc2 hq'
          clear ex ey
          go_wp2_with fail
          go_quiet (fail)
          go_wp2
          go_ret
          exact ⟨⟨false, rfl, by simp; intro e; have := HQ.out; rw [e] at this; simp at this⟩, hD.drewN _⟩
      · have HS := Lib.hid (firstAt_end (q := diffTx l1 l2) hlt)
        go_wp2
        go_ret
        exact ⟨⟨true, rfl, by simp; exact texts_eq HN.out (fun j hj => by
          have := firstAt_none (HR.out.trans HS.out) j (Nat.zero_le _) (by omega)
          unfold diffTx at this
          exact toList_inj (by simpa using this))⟩, hD⟩
  · have hne : ((l1.length : Int) != (l2.length : Int)) = true := by simp; omega
    have HN := Lib.hid hn; clear hn
    go_enter Tryz.func39, Tryz.ntmps39
    go_wp2
    go_ret
    exact ⟨⟨false, rfl, by simp; intro e; exact HN.out (by rw [e])⟩, Drew.refl _⟩

def txs (l : List ByteArray) : List Value := l.map Value.string
theorem txs_at {l : List ByteArray} {k : Nat} (h : k < l.length) : (txs l)[k]? = some (.string (l.getD k noTx)) := by
  unfold txs; rw [List.getElem?_map, List.getElem?_eq_getElem h, getT h]; try rfl
theorem texts_of_row {w : World} {base g n cap : Nat} {l : List ByteArray} (h : w.ownsRow base 9 1 (.slice (some ⟨g, 0, none⟩) n cap) n (txs l)) : TextsAt w (some ⟨g, 0, none⟩) l := fun k hk =>
  ⟨_, rfl, (h.lt g rfl).2, h.cells (g := g) rfl k _ (txs_at hk)⟩
theorem infoS : (Tryz.prog.info? 9).map (fun i => (i.zero, i.size, i.bytes)) = some (some (.string ⟨#[]⟩), 1, 16) := by kernel_rfl
def CopyTxPost (w : World) (l : List ByteArray) (e : Ending) (w' : World) : Prop :=
  ∃ g cap, e = .returned (.slice (some ⟨g, 0, none⟩) l.length cap) ∧ w'.ownsRow w.heap.size 9 1 (.slice (some ⟨g, 0, none⟩) l.length cap) l.length (txs l) ∧ Below w.heap.size w w'

set_option maxRecDepth 100000 in
set_option maxHeartbeats 1000000 in
theorem copyTexts_any (b : Option Addr) (l : List ByteArray) (d : Nat) (w : World) (hX : TextsAt w b l) (hl : l.length ≤ 1000000) (hd : b = none → d = 0) :
    Calls Tryz.prog 34 #[.slice b l.length d] w (CopyTxPost w l) := by
  have hm := World.ownsRow_made (e := 9) (size := 1) (base := w.heap.size) w #[] 0 (Nat.le_refl _) (Nat.zero_le _) rfl
  have hB := (Below.refl w.heap.size w).alloc (Nat.le_refl _) (.cells #[] 9)
  obtain ⟨i0, hi, hz0, hz1, hz2⟩ := info_parts infoS
  cases b with
  | none =>
    have hl0 : l = [] := by
      rcases l with _ | ⟨x, r⟩
      · rfl
      · obtain ⟨ad, h, _⟩ := hX 0 (by simp); cases h
    have hd0 : d = 0 := hd rfl
    subst hl0 hd0
    go_enter Tryz.func34, Tryz.ntmps34
    go_wp2_with (at_builtin; refine wpList_append_own_none rfl _ _ 22 rfl w.heap.size 9 i0 1 Tryz.underlying22 hi _ 0 [] rfl hm rfl ?_)
    go_ret
    exact ⟨_, _, rfl, hm, hB⟩
  | some ad =>
    have hnews : ∀ j u, (txs l)[j]? = some u → (w.alloc (.cells #[] 9)).cell? (ad.add j) = some u := by
      intro j u hj
      have hjl : j < l.length := by
        have := (List.getElem?_eq_some_iff.1 hj).1
        simpa [txs] using this
      obtain ⟨ad', e, _, hc⟩ := (hX.alloc (.cells #[] 9)) j hjl
      cases e
      rw [txs_at hjl] at hj
      rw [hc, hj]
    have hone : ∀ u ∈ txs l, u.oneCell' = true := by
      intro u hu
      obtain ⟨x, _, rfl⟩ := List.mem_map.1 hu
      rfl
    have hlen : (txs l).length = l.length * 1 := by simp [txs]
    have h63 : 0 + l.length ≤ maxLen := by unfold maxLen; omega
    have hby : (0 + l.length) * 16 ≤ 140737488355328 := by omega
    have HN := Lib.hid hnews; have HO := Lib.hid hone; have HL := Lib.hid hlen; have H63 := Lib.hid h63; have HB := Lib.hid hby
    clear hnews hone hlen h63 hby
    go_enter Tryz.func34, Tryz.ntmps34
    go_wp2_with (at_builtin; refine wpList_append_own _ rfl _ _ 22 rfl w.heap.size 9 i0 (.string ⟨#[]⟩) 1 16 Tryz.underlying22 hi hz0 hz1 hz2 rfl (by decide) _ 0 [] rfl hm ad l.length d (txs l) rfl HL.out HN.out HO.out H63.out HB.out (by simp) ?_; intro v' w1 hown1 hgrow1 hnil1)
    go_ret
    have hnn : ¬ v' = .slice none 0 0 := fun e => by have := (hnil1.1 e).1; cases this
    have hB1 : Below w.heap.size w w1 := hB.grown hgrow1 (by simp) (fun k e => by cases e; exact Nat.le_refl _)
    rw [Nat.zero_add, List.nil_append] at hown1
    rcases hown1.2 with ⟨e, _⟩ | ⟨g, cap, cur, e, r⟩
    · exact absurd e hnn
    · subst e
      exact ⟨g, cap, rfl, hown1, hB1⟩
end Go.Proofs.YtomblajlpanmjaaGreatDoor

/-
  Whether a text begins or ends with another one; cutting such a one off; at texts of one byte, in lists' words.
-/
namespace Go.Proofs.YtomblajlpanmjaaGreatDoor
open Go.RowKit Go.Maps

def preB (s p : ByteArray) : Bool := decide (p.size ≤ s.size) && (s.extract 0 p.size).toList == p.toList
def sufB (s p : ByteArray) : Bool := decide (p.size ≤ s.size) && (s.extract (s.size - p.size) s.size).toList == p.toList
theorem preB_long {s p : ByteArray} (h : p.size ≤ s.size) : preB s p = ((s.extract 0 p.size).toList == p.toList) := by
  unfold preB; rw [decide_eq_true h, Bool.true_and]
theorem preB_short {s p : ByteArray} (h : ¬ p.size ≤ s.size) : preB s p = false := by
  unfold preB; rw [decide_eq_false h, Bool.false_and]
theorem sufB_long {s p : ByteArray} (h : p.size ≤ s.size) : sufB s p = ((s.extract (s.size - p.size) s.size).toList == p.toList) := by
  unfold sufB; rw [decide_eq_true h, Bool.true_and]
theorem sufB_short {s p : ByteArray} (h : ¬ p.size ≤ s.size) : sufB s p = false := by
  unfold sufB; rw [decide_eq_false h, Bool.false_and]
theorem preB_size {s p : ByteArray} (h : preB s p = true) : p.size ≤ s.size := by
  unfold preB at h; simp only [Bool.and_eq_true, decide_eq_true_eq] at h; exact h.1
theorem sufB_size {s p : ByteArray} (h : sufB s p = true) : p.size ≤ s.size := by
  unfold sufB at h; simp only [Bool.and_eq_true, decide_eq_true_eq] at h; exact h.1

set_option maxHeartbeats 400000 in
theorem liteHasPrefix_any (s p : ByteArray) (w : World) :
    Calls Tryz.prog 190 #[.string s, .string p] w fun e w' => e = .returned (.bool (preB s p)) ∧ w = w' := by
  go_enter Tryz.func190, Tryz.ntmps190
  go_wp2
  · rename_i h
    go_ret
    exact ⟨ret_bool (preB_long h).symm, rfl⟩
  · rename_i h
    go_ret
    exact ⟨ret_bool (preB_short h).symm, rfl⟩

set_option maxHeartbeats 400000 in
theorem liteHasSuffix_any (s p : ByteArray) (w : World) (hs : s.size ≤ maxLen) :
    Calls Tryz.prog 214 #[.string s, .string p] w fun e w' => e = .returned (.bool (sufB s p)) ∧ w = w' := by
  unfold maxLen at hs
  have hlo : p.size ≤ s.size → ((s.size : Int) - (p.size : Int) + 9223372036854775808) % 18446744073709551616 - 9223372036854775808 = ((s.size - p.size : Nat) : Int) := fun _ => by omega
  go_enter Tryz.func214, Tryz.ntmps214
  go_wp2
  · rename_i h
    go_ret
    exact ⟨ret_bool (sufB_long h).symm, rfl⟩
  · rename_i h
    go_ret
    exact ⟨ret_bool (sufB_short h).symm, rfl⟩

theorem hasPrefix_any (s p : ByteArray) (w : World) :
    Calls Tryz.prog 162 #[.string s, .string p] w fun e w' => e = .returned (.bool (preB s p)) ∧ w = w' := by
  go_enter Tryz.func162, Tryz.ntmps162
  go_wp2_with fail
  refine (liteHasPrefix_any s p _).mono ?_
  rintro e w' ⟨rfl, rfl⟩
  go_wp2
  go_ret
  exact ⟨rfl, rfl⟩

def cutPre (s p : ByteArray) : ByteArray := if preB s p = true then s.extract p.size s.size else s
def cutSuf (s p : ByteArray) : ByteArray := if sufB s p = true then s.extract 0 (s.size - p.size) else s
theorem ret_sb {a b : ByteArray} {x y : Bool} (h : a = b) (h' : x = y) : Ending.returned (.tuple #[.string a, .bool x]) = .returned (.tuple #[.string b, .bool y]) := by rw [h, h']

set_option maxHeartbeats 400000 in
theorem liteCutPrefix_any (s p : ByteArray) (w : World) :
    Calls Tryz.prog 193 #[.string s, .string p] w fun e w' => e = .returned (.tuple #[.string (cutPre s p), .bool (preB s p)]) ∧ w = w' := by
  cases hq : preB s p
  · have HC := Lib.hid (show cutPre s p = s by unfold cutPre; rw [hq]; try rfl)
    have HQ := Lib.hid hq
    clear hq
    go_enter Tryz.func193, Tryz.ntmps193
    go_wp2_with fail
    refine (liteHasPrefix_any s p _).mono ?_
    rintro e w' ⟨rfl, rfl⟩
    rw [HQ.out]
    go_wp2
    go_ret2
    exact ⟨ret_sb HC.out.symm rfl, rfl⟩
  · have HC := Lib.hid (show cutPre s p = s.extract p.size s.size by unfold cutPre; rw [if_pos hq])
    have hz := preB_size hq
    have HQ := Lib.hid hq
    clear hq
    go_enter Tryz.func193, Tryz.ntmps193
    go_wp2_with fail
    refine (liteHasPrefix_any s p _).mono ?_
    rintro e w' ⟨rfl, rfl⟩
    rw [HQ.out]
    go_wp2
    go_ret2
    exact ⟨ret_sb HC.out.symm rfl, rfl⟩

set_option maxHeartbeats 400000 in
theorem cutPrefix_any (s p : ByteArray) (w : World) :
    Calls Tryz.prog 164 #[.string s, .string p] w fun e w' => e = .returned (.tuple #[.string (cutPre s p), .bool (preB s p)]) ∧ w = w' := by
  go_enter Tryz.func164, Tryz.ntmps164
  go_wp2_with fail
  refine (liteCutPrefix_any s p _).mono ?_
  rintro e w' ⟨rfl, rfl⟩
  go_wp2
  go_ret2
  exact ⟨rfl, rfl⟩

set_option maxHeartbeats 400000 in
theorem liteCutSuffix_any (s p : ByteArray) (w : World) (hs : s.size ≤ maxLen) :
    Calls Tryz.prog 194 #[.string s, .string p] w fun e w' => e = .returned (.tuple #[.string (cutSuf s p), .bool (sufB s p)]) ∧ w = w' := by
  have HS := Lib.hid hs
  unfold maxLen at hs
  cases hq : sufB s p
  · have HC := Lib.hid (show cutSuf s p = s by unfold cutSuf; rw [hq]; try rfl)
    have HQ := Lib.hid hq
    clear hq
    go_enter Tryz.func194, Tryz.ntmps194
    go_wp2_with fail
    refine (liteHasSuffix_any s p _ HS.out).mono ?_
    rintro e w' ⟨rfl, rfl⟩
    rw [HQ.out]
    go_wp2
    go_ret2
    exact ⟨ret_sb HC.out.symm rfl, rfl⟩
  · have HC := Lib.hid (show cutSuf s p = s.extract 0 (s.size - p.size) by unfold cutSuf; rw [if_pos hq])
    have hz := sufB_size hq
    have HQ := Lib.hid hq
    clear hq
    go_enter Tryz.func194, Tryz.ntmps194
    go_wp2_with fail
    refine (liteHasSuffix_any s p _ HS.out).mono ?_
    rintro e w' ⟨rfl, rfl⟩
    rw [HQ.out]
    go_wp2
    go_ret2
    exact ⟨ret_sb HC.out.symm rfl, rfl⟩

set_option maxHeartbeats 400000 in
theorem cutSuffix_any (s p : ByteArray) (w : World) (hs : s.size ≤ maxLen) :
    Calls Tryz.prog 165 #[.string s, .string p] w fun e w' => e = .returned (.tuple #[.string (cutSuf s p), .bool (sufB s p)]) ∧ w = w' := by
  go_enter Tryz.func165, Tryz.ntmps165
  go_wp2_with fail
  refine (liteCutSuffix_any s p _ hs).mono ?_
  rintro e w' ⟨rfl, rfl⟩
  go_wp2
  go_ret2
  exact ⟨rfl, rfl⟩

/- In lists' words, at a text of one byte. -/
theorem data_of_list {s : ByteArray} : s.toList = s.data.toList := ByteArray.toList_eq s
theorem pre_none {s : ByteArray} {c : UInt8} (h : s.data.toList.head? ≠ some c) : preB s ⟨#[c]⟩ = false := by
  by_cases hz : 1 ≤ s.size
  · rw [preB_long (s := s) (p := ⟨#[c]⟩) hz, data_of_list, data_of_list, Lib.extract_data]
    rw [show ((⟨#[c]⟩ : ByteArray).size) = 1 from rfl, ← Bool.not_eq_true]
    intro e
    apply h
    have := beq_iff_eq.1 e
    cases hl : s.data.toList with
    | nil => rw [hl] at this; simp at this
    | cons a r => rw [hl] at this; simp at this; rw [this]; try rfl
  · exact preB_short hz
theorem pre_some {s : ByteArray} {c : UInt8} {r : List UInt8} (h : s.data.toList = c :: r) : preB s ⟨#[c]⟩ = true ∧ (cutPre s ⟨#[c]⟩).data.toList = r := by
  have hz : s.size = r.length + 1 := by
    have := congrArg List.length h; simpa using this
  have hp : preB s ⟨#[c]⟩ = true := by
    rw [preB_long (s := s) (p := ⟨#[c]⟩) (show 1 ≤ s.size by omega), data_of_list, data_of_list, Lib.extract_data, h, show ((⟨#[c]⟩ : ByteArray).size) = 1 from rfl]; simp
  refine ⟨hp, ?_⟩
  unfold cutPre
  rw [if_pos hp, Lib.extract_data, h, show ((⟨#[c]⟩ : ByteArray).size) = 1 from rfl]
  rw [List.drop_one, List.tail_cons]; exact List.take_of_length_le (by omega)
theorem suf_some {s : ByteArray} {c : UInt8} {r : List UInt8} (h : s.data.toList = r ++ [c]) : sufB s ⟨#[c]⟩ = true ∧ (cutSuf s ⟨#[c]⟩).data.toList = r := by
  have hz : s.size = r.length + 1 := by
    have := congrArg List.length h; simpa using this
  have hp : sufB s ⟨#[c]⟩ = true := by
    rw [sufB_long (s := s) (p := ⟨#[c]⟩) (show 1 ≤ s.size by omega), data_of_list, data_of_list, Lib.extract_data, h, show ((⟨#[c]⟩ : ByteArray).size) = 1 from rfl, hz]; simp
  refine ⟨hp, ?_⟩
  unfold cutSuf
  rw [if_pos hp, Lib.extract_data, h, show ((⟨#[c]⟩ : ByteArray).size) = 1 from rfl, hz]; simp
theorem suf_none {s : ByteArray} {c : UInt8} (h : s.data.toList.getLast? ≠ some c) : sufB s ⟨#[c]⟩ = false := by
  by_cases hz : 1 ≤ s.size
  · rw [← Bool.not_eq_true]
    intro e
    apply h
    rw [sufB_long (s := s) (p := ⟨#[c]⟩) hz, data_of_list, data_of_list, Lib.extract_data] at e
    have e' := beq_iff_eq.1 e
    rcases List.eq_nil_or_concat s.data.toList with hl | ⟨r, a, hl⟩
    · have : s.data.toList.length = 0 := by rw [hl]; try rfl
      rw [Array.length_toList] at this; have hz2 : s.data.size = s.size := rfl; omega
    · have hz' : s.size = r.length + 1 := by
        have := congrArg List.length hl; simpa using this
      rw [List.concat_eq_append] at hl
      rw [hl, show ((⟨#[c]⟩ : ByteArray).size) = 1 from rfl, hz'] at e'
      simp at e'
      rw [hl, e']; simp
  · exact sufB_short hz
end Go.Proofs.YtomblajlpanmjaaGreatDoor

/-
  The plain mathematics of patterns: reading the letters and the digits, with the dots at the ends; both readers keep it.
-/
namespace Go.Proofs.YtomblajlpanmjaaGreatDoor
open Go.RowKit Go.Maps

def headIs (c : UInt8) (l : List UInt8) : Bool := l.head? == some c
def lastIs (c : UInt8) (l : List UInt8) : Bool := l.getLast? == some c
/-- What has been read of a pattern: its letters, the digit ahead of each of them (-1: none), the digit behind them. -/
structure PS where
  ls : List UInt8
  ds : List Int
  d : Int
def noPS : PS := ⟨[], [], -1⟩
def stepS (x : PS) (c : UInt8) : Option PS :=
  if digB (c.toNat : Int) = true then (if x.d = -1 then some ⟨x.ls, x.ds, (c.toNat : Int) - 48⟩ else none)
  else if smallB (c.toNat : Int) = true then some ⟨x.ls ++ [c], x.ds ++ [x.d], -1⟩ else none
def runS : List UInt8 → PS → Option PS
  | [], x => some x
  | c :: l, x => match stepS x c with
    | none => none
    | some y => runS l y
/-- The letters' pattern: 1 to 16 letters; the digits of its places, one more than letters. -/
def endS (x : Option PS) : Option (List UInt8 × List Int) := match x with
  | none => none
  | some y => if 1 ≤ y.ls.length ∧ y.ls.length ≤ 16 then some (y.ls, y.ds ++ [y.d]) else none
structure Pat where
  ls : List UInt8
  ds : List Int
  start : Bool
  stop : Bool
def cutHead (l : List UInt8) : List UInt8 × Bool := if headIs 46 l = true then (l.tail, true) else (l, false)
def cutLast (l : List UInt8) : List UInt8 × Bool := if lastIs 46 l = true then (l.dropLast, true) else (l, false)
def patOf (l : List UInt8) : Option Pat :=
  match endS (runS (cutLast (cutHead l).1).1 noPS) with
  | none => none
  | some (ls, ds) => some ⟨ls, ds, (cutHead l).2, (cutLast (cutHead l).1).2⟩

theorem runS_go {s : ByteArray} {k : Nat} {x y : PS} (h : k < s.size) (e : stepS x s[k] = some y) : runS (s.data.toList.drop k) x = runS (s.data.toList.drop (k + 1)) y := by
  rw [drop_cons s k h]; show (match stepS x s[k] with | none => none | some y => runS _ y) = _; rw [e]
theorem runS_no {s : ByteArray} {k : Nat} {x : PS} (h : k < s.size) (e : stepS x s[k] = none) : runS (s.data.toList.drop k) x = none := by
  rw [drop_cons s k h]; show (match stepS x s[k] with | none => none | some y => runS _ y) = _; rw [e]
theorem runS_end {s : ByteArray} {k : Nat} {x : PS} (h : ¬ k < s.size) : runS (s.data.toList.drop k) x = some x := by
  rw [List.drop_of_length_le (by simpa using h)]; try rfl
theorem stepS_grows {x y : PS} {c : UInt8} (e : stepS x c = some y) : x.ls.length ≤ y.ls.length := by
  unfold stepS at e
  split at e
  · split at e
    · cases e; exact Nat.le_refl _
    · cases e
  · split at e
    · cases e; simp
    · cases e
theorem runS_grows {l : List UInt8} : ∀ {x y : PS}, runS l x = some y → x.ls.length ≤ y.ls.length := by
  induction l with
  | nil => intro x y e; cases e; exact Nat.le_refl _
  | cons c r ih =>
    intro x y e
    have e' : (match stepS x c with | none => none | some y => runS r y) = some y := e
    cases hs : stepS x c with
    | none => rw [hs] at e'; cases e'
    | some z => rw [hs] at e'; exact Nat.le_trans (stepS_grows hs) (ih e')
/-- Behind a 17th letter nothing is a pattern. -/
theorem endS_large {l : List UInt8} {x : PS} (h : 16 < x.ls.length) : endS (runS l x) = none := by
  cases hr : runS l x with
  | none => rfl
  | some y =>
    have := runS_grows hr
    show (if _ then _ else _) = _
    rw [if_neg (by omega)]
theorem endS_large_step {s : ByteArray} {k : Nat} {x : PS} (h : k < s.size) (hl : x.ls.length = 16) (h1 : digB (s[k].toNat : Int) = false) (h2 : smallB (s[k].toNat : Int) = true) :
    endS (runS (s.data.toList.drop k) x) = none := by
  rw [runS_go h (y := ⟨x.ls ++ [s[k]], x.ds ++ [x.d], -1⟩) (by unfold stepS; rw [h1, h2]; try rfl)]
  exact endS_large (by simp [hl])
/-- Lists of digits are one longer than the letters, and each is -1 to 9. -/
structure PS.Ok (x : PS) : Prop where
  len : x.ds.length = x.ls.length
  digs : ∀ e ∈ x.ds, -1 ≤ e ∧ e ≤ 9
  dig : -1 ≤ x.d ∧ x.d ≤ 9
  small : ∀ c ∈ x.ls, smallB (c.toNat : Int) = true
theorem noPS_ok : noPS.Ok := ⟨rfl, (by intro e h; cases h), (by decide), (by intro c h; cases h)⟩
theorem PS.Ok.step {x y : PS} {c : UInt8} (h : x.Ok) (e : stepS x c = some y) : y.Ok := by
  unfold stepS at e
  split at e
  · rename_i hd
    split at e
    · cases e
      unfold digB at hd
      have hd' := of_decide_eq_true hd
      exact ⟨h.len, h.digs, ⟨by show -1 ≤ (c.toNat : Int) - 48; omega, by show (c.toNat : Int) - 48 ≤ 9; omega⟩, h.small⟩
    · cases e
  · split at e
    · rename_i hs
      cases e
      refine ⟨by simp [h.len], ?_, ⟨by show (-1 : Int) ≤ -1; omega, by show (-1 : Int) ≤ 9; omega⟩, ?_⟩
      · intro e he
        rcases List.mem_append.1 he with he | he
        · exact h.digs e he
        · rw [List.mem_singleton.1 he]; exact h.dig
      · intro b hb
        rcases List.mem_append.1 hb with hb | hb
        · exact h.small b hb
        · rw [List.mem_singleton.1 hb]; exact hs
    · cases e
theorem runS_ok {l : List UInt8} : ∀ {x y : PS}, x.Ok → runS l x = some y → y.Ok := by
  induction l with
  | nil => intro x y h e; cases e; exact h
  | cons c r ih =>
    intro x y h e
    have e' : (match stepS x c with | none => none | some y => runS r y) = some y := e
    cases hs : stepS x c with
    | none => rw [hs] at e'; cases e'
    | some z => rw [hs] at e'; exact ih (h.step hs) e'
theorem patOf_ok {l : List UInt8} {p : Pat} (h : patOf l = some p) :
    1 ≤ p.ls.length ∧ p.ls.length ≤ 16 ∧ p.ds.length = p.ls.length + 1 ∧ (∀ e ∈ p.ds, -1 ≤ e ∧ e ≤ 9) ∧ ∀ c ∈ p.ls, smallB (c.toNat : Int) = true := by
  unfold patOf at h
  cases hr : runS (cutLast (cutHead l).1).1 noPS with
  | none => rw [hr] at h; cases h
  | some y =>
    rw [hr] at h
    have hy := runS_ok noPS_ok hr
    by_cases hq : 1 ≤ y.ls.length ∧ y.ls.length ≤ 16
    · have he : endS (some y) = some (y.ls, y.ds ++ [y.d]) := by show (if _ then _ else _) = _; rw [if_pos hq]
      rw [he] at h
      cases h
      refine ⟨hq.1, hq.2, by simp [hy.len], ?_, hy.small⟩
      intro e he
      rcases List.mem_append.1 he with he | he
      · exact hy.digs e he
      · rw [List.mem_singleton.1 he]; exact hy.dig
    · have he : endS (some y) = none := by show (if _ then _ else _) = _; rw [if_neg hq]
      rw [he] at h; cases h
end Go.Proofs.YtomblajlpanmjaaGreatDoor

/-
  A pattern of the program: what the call returns.
-/
namespace Go.Proofs.YtomblajlpanmjaaGreatDoor
open Go.RowKit Go.Maps

abbrev dotW : ByteArray := ⟨#[46]⟩
theorem cut_head (s : ByteArray) : cutHead s.data.toList = ((cutPre s dotW).data.toList, preB s dotW) := by
  by_cases h : s.data.toList.head? = some 46
  · obtain ⟨r, hr⟩ : ∃ r, s.data.toList = 46 :: r := by
      cases hl : s.data.toList with
      | nil => rw [hl] at h; cases h
      | cons a r => rw [hl] at h; cases h; exact ⟨r, rfl⟩
    obtain ⟨h1, h2⟩ := pre_some hr
    rw [h1, h2, hr]; try rfl
  · have h1 := pre_none h
    have h2 : cutPre s dotW = s := by unfold cutPre; rw [h1]; try rfl
    rw [h1, h2]
    unfold cutHead headIs
    rw [if_neg (by simpa using h)]
theorem cut_last (s : ByteArray) : cutLast s.data.toList = ((cutSuf s dotW).data.toList, sufB s dotW) := by
  by_cases h : s.data.toList.getLast? = some 46
  · obtain ⟨r, hr⟩ : ∃ r, s.data.toList = r ++ [46] := by
      rcases List.eq_nil_or_concat s.data.toList with hl | ⟨r, a, hl⟩
      · rw [hl] at h; cases h
      · rw [List.concat_eq_append] at hl
        rw [hl, List.getLast?_append] at h; simp at h; subst h; exact ⟨r, hl⟩
    obtain ⟨h1, h2⟩ := suf_some hr
    rw [h1, h2, hr]
    unfold cutLast lastIs
    simp
  · have h1 := suf_none h
    have h2 : cutSuf s dotW = s := by unfold cutSuf; rw [h1]; try rfl
    rw [h1, h2]
    unfold cutLast lastIs
    rw [if_neg (by simpa using h)]
theorem patOf_cut (s : ByteArray) : patOf s.data.toList = match endS (runS (cutSuf (cutPre s dotW) dotW).data.toList noPS) with
    | none => none
    | some (ls, ds) => some ⟨ls, ds, preB s dotW, sufB (cutPre s dotW) dotW⟩ := by
  unfold patOf
  rw [cut_head, cut_last]
  all_goals rfl

def PatPost (w : World) (o : Option Pat) (e : Ending) (w' : World) : Prop := match o with
  | none => (∃ s0 A n c b1 b2, e = .returned (.tuple #[.agg #[.string s0, .slice A n c, .bool b1, .bool b2], .bool false])) ∧ Below w.heap.size w w'
  | some p => ∃ s v, e = .returned (.tuple #[.agg #[.string s, v, .bool p.start, .bool p.stop], .bool true]) ∧ s.data.toList = p.ls ∧ w'.ownsRow w.heap.size 3 1 v p.ds.length (vals p.ds) ∧ Below w.heap.size w w'

theorem pat_set {w : World} {b : Nat} {cs : Array Value} {T : TypeId} {fr : Nat × Nat} (h : w.heap[b]? = some (.cells cs T fr)) (j : Nat) (u : Value) : (w.setCell ⟨b, j, none⟩ u).heap[b]? = some (.cells (cs.setIfInBounds j u) T fr) := by
  simp [World.setCell, Array.getElem?_modify, h]
theorem own_set {w : World} {b base e n size : Nat} {v : Value} {xs : List Value} (h : w.ownsRow base e size v n xs) (hb : b < base) (j : Nat) (u : Value) : (w.setCell ⟨b, j, none⟩ u).ownsRow base e size v n xs := by
  obtain ⟨h1, h2⟩ := h
  refine ⟨h1, ?_⟩
  rcases h2 with h2 | ⟨g, cap, cur, hv, hg, hh, q⟩
  · exact .inl h2
  · exact .inr ⟨g, cap, cur, hv, hg, (Below.heap_setCell _ _ _ _ (by show g ≠ b; omega)).trans hh, q⟩
theorem own_pos {w : World} {base e n size : Nat} {v : Value} {xs : List Value} (h : w.ownsRow base e size v (n + 1) xs) : ∃ g cap, v = .slice (some ⟨g, 0, none⟩) (n + 1) cap := by
  rcases h.2 with ⟨_, ex⟩ | ⟨g, cap, cur, ev, _⟩
  · exact absurd ex (by omega)
  · exact ⟨g, cap, ev⟩
theorem own_mono {w : World} {base B e n size : Nat} {v : Value} {xs : List Value} (h : w.ownsRow base e size v n xs) (hB : B ≤ base) : w.ownsRow B e size v n xs := by
  obtain ⟨h1, h2⟩ := h
  refine ⟨h1, ?_⟩
  rcases h2 with h2 | ⟨g, cap, cur, hv, hg, hh, q⟩
  · exact .inl h2
  · exact .inr ⟨g, cap, cur, hv, Nat.le_trans hB hg, hh, q⟩
theorem own_drew {w : World} {base e n size : Nat} {v : Value} {xs : List Value} (h : w.ownsRow base e size v n xs) : w.drew.ownsRow base e size v n xs := h
theorem vals_push (L : List Int) (k : Int) : vals (L ++ [k]) = vals L ++ [.int .i64 k] := by unfold vals; rw [List.map_append]; try rfl
/-- The world of a pattern that is being read: its own cell, that of the result. -/
structure PAt (w wr : World) (x : PS) (ls : ByteArray) (v : Value) (a b : Bool) : Prop where
  c0 : wr.heap[w.heap.size]? = some (.cells #[.string ⟨#[]⟩, .slice none 0 0, .bool false, .bool false] 225 (0, 0))
  c1 : wr.heap[w.heap.size + 1]? = some (.cells #[.string ls, v, .bool a, .bool b] 225 (0, 0))
  own : wr.ownsRow (w.heap.size + 2) 3 1 v x.ds.length (vals x.ds)
  bel : Below w.heap.size w wr
  lsx : ls.data.toList = x.ls
section
variable {w wr : World} {x : PS} {ls : ByteArray} {v : Value} {a b : Bool}
theorem PAt.lt (h : PAt w wr x ls v a b) : w.heap.size + 1 < wr.heap.size := by
  rcases Nat.lt_or_ge (w.heap.size + 1) wr.heap.size with h1 | h1
  · exact h1
  · have := h.c1; rw [Array.getElem?_eq_none h1] at this; cases this
theorem PAt.q0 (h : PAt w wr x ls v a b) : wr.cell? ⟨w.heap.size + 1, 0, none⟩ = some (.string ls) := by rw [cell_of_row wr _ 0 _ _ (0, 0) h.c1]; try rfl
theorem PAt.q1 (h : PAt w wr x ls v a b) : wr.cell? ⟨w.heap.size + 1, 1, none⟩ = some v := by rw [cell_of_row wr _ 1 _ _ (0, 0) h.c1]; try rfl
theorem PAt.q2 (h : PAt w wr x ls v a b) : wr.cell? ⟨w.heap.size + 1, 2, none⟩ = some (.bool a) := by rw [cell_of_row wr _ 2 _ _ (0, 0) h.c1]; try rfl
theorem PAt.q3 (h : PAt w wr x ls v a b) : wr.cell? ⟨w.heap.size + 1, 3, none⟩ = some (.bool b) := by rw [cell_of_row wr _ 3 _ _ (0, 0) h.c1]; try rfl
theorem PAt.f1 (h : PAt w wr x ls v a b) (j : Nat) : wr.frozen? ⟨w.heap.size + 1, j, none⟩ = false := by simp [World.frozen?, h.c1]
theorem PAt.f0 (h : PAt w wr x ls v a b) (j : Nat) : wr.frozen? ⟨w.heap.size, j, none⟩ = false := by simp [World.frozen?, h.c0]
theorem PAt.r0 (h : PAt w wr x ls v a b) : wr.cell? ⟨w.heap.size, 0, none⟩ = some (.string ⟨#[]⟩) := by rw [cell_of_row wr _ 0 _ _ (0, 0) h.c0]; try rfl
theorem PAt.r1 (h : PAt w wr x ls v a b) : wr.cell? ⟨w.heap.size, 1, none⟩ = some (.slice none 0 0) := by rw [cell_of_row wr _ 1 _ _ (0, 0) h.c0]; try rfl
theorem PAt.r2 (h : PAt w wr x ls v a b) : wr.cell? ⟨w.heap.size, 2, none⟩ = some (.bool false) := by rw [cell_of_row wr _ 2 _ _ (0, 0) h.c0]; try rfl
theorem PAt.r3 (h : PAt w wr x ls v a b) : wr.cell? ⟨w.heap.size, 3, none⟩ = some (.bool false) := by rw [cell_of_row wr _ 3 _ _ (0, 0) h.c0]; try rfl
theorem PAt.digit (h : PAt w wr x ls v a b) (d : Int) : PAt w wr ⟨x.ls, x.ds, d⟩ ls v a b := ⟨h.c0, h.c1, h.own, h.bel, h.lsx⟩
theorem PAt.drewN (h : PAt w wr x ls v a b) (n : Nat) : PAt w (wr.drewN n) x ls v a b := ⟨h.c0, h.c1, h.own, below_drewN h.bel n, h.lsx⟩
theorem PAt.drew (h : PAt w wr x ls v a b) : PAt w wr.drew x ls v a b := ⟨h.c0, h.c1, h.own, h.bel.drew, h.lsx⟩
theorem PAt.far (h : PAt w wr x ls v a b) : some (w.heap.size + 1) ≠ v.ownBlock := fun e => by have := (h.own.lt _ e.symm).1; omega
theorem PAt.set0 (h : PAt w wr x ls v a b) (ls' : ByteArray) (l' : List UInt8) (hl : ls'.data.toList = l') : PAt w (wr.setCell ⟨w.heap.size + 1, 0, none⟩ (.string ls')) ⟨l', x.ds, x.d⟩ ls' v a b :=
  ⟨(Below.heap_setCell _ _ _ _ (by show w.heap.size ≠ w.heap.size + 1; omega)).trans h.c0, by rw [pat_set h.c1]; try rfl, own_set h.own (by omega) _ _, h.bel.setCell (by simp) _, hl⟩
theorem PAt.alloc (h : PAt w wr x ls v a b) (o : Obj) : PAt w (wr.alloc o) x ls v a b := by
  have hlt := h.lt
  exact ⟨(heap_alloc_old wr o (r := w.heap.size) (by omega)).trans h.c0, (heap_alloc_old wr o hlt).trans h.c1, h.own.alloc o, h.bel.alloc (by omega) o, h.lsx⟩
theorem PAt.grown {w' : World} (h : PAt w wr x ls v a b) (hg : wr.grownBy w' v.ownBlock) {v' : Value} {ds : List Int} (ho : w'.ownsRow (w.heap.size + 2) 3 1 v' ds.length (vals ds)) : PAt w (w'.setCell ⟨w.heap.size + 1, 1, none⟩ v') ⟨x.ls, ds, x.d⟩ ls v' a b := by
  have hlt := h.lt
  have hne : ∀ q, v.ownBlock = some q → w.heap.size + 2 ≤ q := fun q hq => (h.own.lt q hq).1
  have h0 : w'.heap[w.heap.size]? = some _ := (hg.block _ (by omega) (fun e => by have := hne _ e.symm; omega)).trans h.c0
  have h1 : w'.heap[w.heap.size + 1]? = some _ := (hg.block _ (by omega) (fun e => by have := hne _ e.symm; omega)).trans h.c1
  refine ⟨(Below.heap_setCell _ _ _ _ (by show w.heap.size ≠ w.heap.size + 1; omega)).trans h0, by rw [pat_set h1]; try rfl, own_set ho (by omega) _ _, ?_, h.lsx⟩
  exact (h.bel.grown hg (by omega) (fun q hq => by have := hne q hq; omega)).setCell (by simp) _
end

set_option maxRecDepth 100000 in
set_option maxHeartbeats 4000000 in
theorem patternOf_any (s : ByteArray) (w : World) (hs : s.size ≤ maxLen) :
    Calls Tryz.prog 134 #[.string s] w (PatPost w (patOf s.data.toList)) := by
  obtain ⟨i0, hi0, hz0, hz1, hz2⟩ := info_parts info3
  have hs2 : (cutPre s dotW).size ≤ maxLen := by
    unfold cutPre; split
    · exact Nat.le_trans (by simp) hs
    · exact hs
  have hs3 : (cutSuf (cutPre s dotW) dotW).size ≤ maxLen := by
    unfold cutSuf; split
    · exact Nat.le_trans (by simp) hs2
    · exact hs2
  have HP := Lib.hid (patOf_cut s)
  have HS2 := Lib.hid hs2
  clear hs2
  unfold maxLen at hs hs3
  go_enter Tryz.func134, Tryz.ntmps134
  go_wp2_with fail
  refine (cutPrefix_any s ⟨#[46]⟩ _).mono ?_
  rintro e w1 ⟨rfl, rfl⟩
  go_wp2_with fail
  refine (cutSuffix_any (cutPre s ⟨#[46]⟩) ⟨#[46]⟩ _ HS2.out).mono ?_
  rintro e w1 ⟨rfl, rfl⟩
  generalize hT : cutSuf (cutPre s dotW) dotW = t at *
  generalize hA : preB s dotW = pa at *
  generalize hB : sufB (cutPre s dotW) dotW = pb at *
  clear hT hA hB HS2
  go_wp2_with fail
  have P0 : PAt w ((w.alloc (.cells #[.string ⟨#[]⟩, .slice none 0 0, .bool false, .bool false] 225)).alloc (.cells #[.string ⟨#[]⟩, .slice none 0 0, .bool pa, .bool pb] 225)) noPS ⟨#[]⟩ (.slice none 0 0) pa pb :=
    ⟨by rw [heap_alloc_old _ _ (by simp)]; exact heap_alloc_new w _, by
      have := heap_alloc_new (w.alloc (.cells #[.string ⟨#[]⟩, .slice none 0 0, .bool false, .bool false] 225)) (.cells #[.string ⟨#[]⟩, .slice none 0 0, .bool pa, .bool pb] 225)
      rwa [show (w.alloc (.cells #[.string ⟨#[]⟩, .slice none 0 0, .bool false, .bool false] 225)).heap.size = w.heap.size + 1 by simp] at this,
      World.ownsRow_nil _ _ _ _, ((Below.refl w.heap.size w).alloc (Nat.le_refl _) _).alloc (by simp) _, rfl⟩
  go_loopw [5, 23] (fun dg i wr => ∃ (k : Nat) (x : PS) (ls : ByteArray) (v : Value), k ≤ t.size ∧ i = .int .i64 k ∧ dg = .int .i64 x.d ∧ x.Ok ∧ x.ls.length ≤ 16 ∧ PAt w wr x ls v pa pb ∧ Hid (endS (runS t.data.toList noPS) = endS (runS (t.data.toList.drop k) x))) (fun _ i _ => t.size - (intOf i).toNat)
  case atStart => exact ⟨0, noPS, _, _, Nat.zero_le _, rfl, rfl, noPS_ok, Nat.zero_le _, P0, Lib.hid (by rw [List.drop_zero])⟩
  case round =>
    obtain ⟨k, x, ls, v, hk, rfl, rfl, hok, hl16, PW, HR⟩ := hrel
    clear P0
    have hlt0 := PW.lt
    have r0 := PW.r0; have r1 := PW.r1; have r2 := PW.r2; have r3 := PW.r3
    have q0 := PW.q0; have q1 := PW.q1; have q2 := PW.q2; have q3 := PW.q3
    have hf0 := PW.f0; have hf1 := PW.f1
    by_cases hlt : k < t.size
    · by_cases d1 : digB (t[k].toNat : Int) = true
      · have hc := of_decide_eq_true (show decide (48 ≤ (t[k].toNat : Int) ∧ (t[k].toNat : Int) ≤ 57) = true from d1)
        obtain ⟨la, lb⟩ := hc
        by_cases d2 : x.d = -1
        · have hst : stepS x t[k] = some ⟨x.ls, x.ds, (t[k].toNat : Int) - 48⟩ := by unfold stepS; rw [if_pos d1, if_pos d2]
          have HC := Lib.hid (runS_go hlt hst)
          have HK := Lib.hid (hok.step hst)
          have e2 : (x.d == -1) = true := by simpa using d2
          clear hst d2 r0 r1 r2 r3 q0 q1 q2 q3 hf0 hf1
          go_wp2_with (go_at_call 166; refine (textDigit_any _ _).mono ?_; rintro e w' ⟨rfl, rfl⟩)
          go_roundw
          case rel => exact ⟨k + 1, _, ls, v, by omega, by go_num, by go_num, HK.out, hl16, PW.digit _, Lib.hid (HR.out.trans (by rw [HC.out]))⟩
          case measure => simp [intOf]; omega
        · have hst : stepS x t[k] = none := by unfold stepS; rw [if_pos d1, if_neg d2]
          have HC := Lib.hid (runS_no hlt hst)
          have e2 : (x.d == -1) = false := by simpa using d2
          have e3 : smallB (t[k].toNat : Int) = false := decide_eq_false (by omega)
          clear hst d2
          go_wp2_with (first | (go_at_call 166; refine (textDigit_any _ _).mono ?_; rintro e w' ⟨rfl, rfl⟩) | (go_at_call 167; refine (isSmall_any _ _).mono ?_; rintro e w' ⟨rfl, rfl⟩))
          have HN : patOf s.data.toList = none := by rw [HP.out, HR.out, HC.out]; try rfl
          refine bodyPost_ret (v := .tuple #[.agg #[.string ⟨#[]⟩, .slice none 0 0, .bool false, .bool false], .bool false]) ?_ rfl ?_
          · simp [results, Tryz.results134, go_sem, r0, r1, r2, r3]
          · rw [HN]; exact ⟨⟨_, _, _, _, _, _, rfl⟩, (((PW.bel.setCell (by simp) _).setCell (by simp) _).setCell (by simp) _).setCell (by simp) _⟩
      · have d1' : digB (t[k].toNat : Int) = false := by simpa using d1
        by_cases l1 : smallB (t[k].toNat : Int) = true
        · have hlsz : ls.size = x.ls.length := by rw [← PW.lsx, Array.length_toList]; try rfl
          by_cases l2 : x.ls.length = 16
          · have HC := Lib.hid (endS_large_step (x := x) hlt l2 d1' l1)
            have e2 : ls.size = 16 := by omega
            clear d1 l2
            go_wp2_with (first | (go_at_call 166; refine (textDigit_any _ _).mono ?_; rintro e w' ⟨rfl, rfl⟩) | (go_at_call 167; refine (isSmall_any _ _).mono ?_; rintro e w' ⟨rfl, rfl⟩))
            have HN : patOf s.data.toList = none := by rw [HP.out, HR.out, HC.out]
            refine bodyPost_ret (v := .tuple #[.agg #[.string ⟨#[]⟩, .slice none 0 0, .bool false, .bool false], .bool false]) ?_ rfl ?_
            · simp [results, Tryz.results134, go_sem, r0, r1, r2, r3]
            · rw [HN]; exact ⟨⟨_, _, _, _, _, _, rfl⟩, (((PW.bel.setCell (by simp) _).setCell (by simp) _).setCell (by simp) _).setCell (by simp) _⟩
          · have e2 : ls.size < 16 := by omega
            have e2' : (ls.size : Int) < 16 := by omega
            have hst : stepS x t[k] = some ⟨x.ls ++ [t[k]], x.ds ++ [x.d], -1⟩ := by unfold stepS; rw [d1', l1]; try rfl
            have HC := Lib.hid (runS_go hlt hst)
            have HK := Lib.hid (hok.step hst)
            clear hst d1 l2
            go_wp2_with (first | (go_at_call 166; refine (textDigit_any _ _).mono ?_; rintro e w' ⟨rfl, rfl⟩) | (go_at_call 167; refine (isSmall_any _ _).mono ?_; rintro e w' ⟨rfl, rfl⟩))
            have hk1 : (k : Int) + 1 ≤ (t.size : Int) := by omega
            have hks : (t.size : Int) ≤ 9223372036854775807 := by omega
            go_region
            have P1 := (PW.set0 (ls ++ t.extract k (k + 1)) (x.ls ++ [t[k]]) (by
              rw [ByteArray.data_append, Array.toList_append, PW.lsx, Lib.extract_data, drop_cons t k hlt, show k + 1 - k = 1 by omega]; try rfl)).drew
            clear q0 q1 q2 q3 r0 r1 r2 r3 hf0 hf1 hlt0
            generalize hW5 : (wr.setCell ⟨w.heap.size + 1, 0, none⟩ (.string (ls ++ t.extract k (k + 1)))).drew = w5 at P1 ⊢
            generalize ls ++ t.extract k (k + 1) = ls5 at P1 ⊢
            clear hW5 PW
            have q1 := P1.q1
            have hlt5 := P1.lt
            have P2 := P1.alloc (.cells #[.int .i64 x.d] 3)
            have owna := P2.own
            have HNW := Lib.hid (World.news_of_block (cs := #[.int .i64 x.d]) (t := 3) (fr := (0, 0)) (heap_alloc_new w5 _))
            have HO1 : Hid (∀ u ∈ [Value.int .i64 x.d], u.oneCell' = true) := Lib.hid (by intro u hu; rw [List.mem_singleton.1 hu]; try rfl)
            have hdl := hok.len
            have H63 : Hid (x.ds.length + 1 ≤ maxLen) := Lib.hid (by unfold maxLen; omega)
            have HBY : Hid ((x.ds.length + 1) * 8 ≤ 140737488355328) := Lib.hid (by omega)
            have hbase : w.heap.size + 2 ≤ (w5.alloc (.cells #[.int .i64 x.d] 3)).heap.size := by simp; omega
            have HV := Lib.hid (vals_push x.ds x.d)
            clear hdl
            have HL17 : Hid ((x.ls ++ [t[k]]).length ≤ 16) := Lib.hid (by simp; omega)
            go_wp2_with (at_builtin; refine wpList_append_own _ rfl _ _ 63 rfl (w.heap.size + 2) 3 i0 (.int .i64 0) 1 8 Tryz.underlying63 hi0 hz0 hz1 hz2 rfl (by decide) _ x.ds.length (vals x.ds) rfl owna ⟨w5.heap.size, 0, none⟩ 1 1 [.int .i64 x.d] rfl rfl (by simpa using HNW.out) HO1.out H63.out HBY.out hbase ?_; intro v' w10 hown10 hgrow10 hnil10; obtain ⟨g5, cap5, rfl⟩ : ∃ g cap, v' = .slice (some ⟨g, 0, none⟩) (x.ds.length + 1) cap := own_pos hown10; have z5 := (hgrow10.frozen_far ⟨w.heap.size + 1, 1, none⟩ P2.lt P2.far).trans (P2.f1 1); have x5 := (hgrow10.cell_far ⟨w.heap.size + 1, 1, none⟩ P2.lt P2.far).trans P2.q1)
            have P3 := (P2.grown hgrow10 (v' := .slice (some ⟨g5, 0, none⟩) (x.ds.length + 1) cap5) (ds := x.ds ++ [x.d]) (by rw [HV.out, List.length_append]; exact hown10)).digit (-1)
            go_roundw
            case rel => exact ⟨k + 1, _, ls5, _, by omega, by go_num, rfl, HK.out, HL17.out, P3, Lib.hid (HR.out.trans (by rw [HC.out]))⟩
            case measure => simp [intOf]; omega
        · have l1' : smallB (t[k].toNat : Int) = false := by simpa using l1
          have HC := Lib.hid (runS_no (x := x) hlt (by unfold stepS; rw [d1', l1']; try rfl))
          clear d1 l1
          go_wp2_with (first | (go_at_call 166; refine (textDigit_any _ _).mono ?_; rintro e w' ⟨rfl, rfl⟩) | (go_at_call 167; refine (isSmall_any _ _).mono ?_; rintro e w' ⟨rfl, rfl⟩))
          have HN : patOf s.data.toList = none := by rw [HP.out, HR.out, HC.out]; try rfl
          refine bodyPost_ret (v := .tuple #[.agg #[.string ⟨#[]⟩, .slice none 0 0, .bool false, .bool false], .bool false]) ?_ rfl ?_
          · simp [results, Tryz.results134, go_sem, r0, r1, r2, r3]
          · rw [HN]; exact ⟨⟨_, _, _, _, _, _, rfl⟩, (((PW.bel.setCell (by simp) _).setCell (by simp) _).setCell (by simp) _).setCell (by simp) _⟩
    · have HC := Lib.hid (runS_end (x := x) hlt)
      have hdl := hok.len
      have HNW := Lib.hid (World.news_of_block (cs := #[.int .i64 x.d]) (t := 3) (fr := (0, 0)) (heap_alloc_new wr _))
      have HO1 : Hid (∀ u ∈ [Value.int .i64 x.d], u.oneCell' = true) := Lib.hid (by intro u hu; rw [List.mem_singleton.1 hu]; try rfl)
      have H63 : Hid (x.ds.length + 1 ≤ maxLen) := Lib.hid (by unfold maxLen; omega)
      have HBY : Hid ((x.ds.length + 1) * 8 ≤ 140737488355328) := Lib.hid (by omega)
      have P2 := PW.alloc (.cells #[.int .i64 x.d] 3)
      have owna := P2.own
      have hbase : w.heap.size + 2 ≤ (wr.alloc (.cells #[.int .i64 x.d] 3)).heap.size := by simp; omega
      have HV := Lib.hid (vals_push x.ds x.d)
      have HDL := Lib.hid hdl
      clear hdl
      go_wp2_with (at_builtin; refine wpList_append_own _ rfl _ _ 63 rfl (w.heap.size + 2) 3 i0 (.int .i64 0) 1 8 Tryz.underlying63 hi0 hz0 hz1 hz2 rfl (by decide) _ x.ds.length (vals x.ds) rfl owna ⟨wr.heap.size, 0, none⟩ 1 1 [.int .i64 x.d] rfl rfl (by simpa using HNW.out) HO1.out H63.out HBY.out hbase ?_; intro v' w10 hown10 hgrow10 hnil10; obtain ⟨g5, cap5, rfl⟩ : ∃ g cap, v' = .slice (some ⟨g, 0, none⟩) (x.ds.length + 1) cap := own_pos hown10; have z5 := (hgrow10.frozen_far ⟨w.heap.size + 1, 1, none⟩ P2.lt P2.far).trans (P2.f1 1); have x5 := (hgrow10.cell_far ⟨w.heap.size + 1, 1, none⟩ P2.lt P2.far).trans P2.q1)
      have P3 := P2.grown hgrow10 (v' := .slice (some ⟨g5, 0, none⟩) (x.ds.length + 1) cap5) (ds := x.ds ++ [x.d]) (by rw [HV.out, List.length_append]; exact hown10)
      generalize hW6 : w10.setCell ⟨w.heap.size + 1, 1, none⟩ (.slice (some ⟨g5, 0, none⟩) (x.ds.length + 1) cap5) = w6 at P3 ⊢
      clear hW6 z5 x5 hgrow10 hown10 hnil10 P2 owna PW q0 q1 q2 q3 r0 r1 r2 r3 hf0 hf1
      have q0 := P3.q0; have q1 := P3.q1; have q2 := P3.q2; have q3 := P3.q3
      have r0 := P3.r0; have r1 := P3.r1; have r2 := P3.r2; have r3 := P3.r3
      have hf0 := P3.f0
      have hlx := P3.lt
      have hlsz : ls.toList = x.ls := (data_of_list).trans P3.lsx
      go_region
      go_wp2
      refine bodyPost_ret (v := .tuple #[.agg #[.string ls, .slice (some ⟨g5, 0, none⟩) (x.ds.length + 1) cap5, .bool pa, .bool pb], .bool (!x.ls.isEmpty)]) ?_ rfl ?_
      · simp [results, Tryz.results134, go_sem, r0, r1, r2, r3]
      · have hbel := ((((P3.bel.setCell (p := ⟨w.heap.size, 0, none⟩) (Nat.le_refl _) (.string ls)).setCell (p := ⟨w.heap.size, 1, none⟩) (Nat.le_refl _) (.slice (some ⟨g5, 0, none⟩) (x.ds.length + 1) cap5)).setCell (p := ⟨w.heap.size, 2, none⟩) (Nat.le_refl _) (.bool pa)).setCell (p := ⟨w.heap.size, 3, none⟩) (Nat.le_refl _) (.bool pb)).drew
        have hown := own_drew (own_set (own_set (own_set (own_set (own_mono P3.own (B := w.heap.size + 1) (by omega)) (b := w.heap.size) (by omega) 0 (.string ls)) (b := w.heap.size) (by omega) 1 (.slice (some ⟨g5, 0, none⟩) (x.ds.length + 1) cap5)) (b := w.heap.size) (by omega) 2 (.bool pa)) (b := w.heap.size) (by omega) 3 (.bool pb))
        by_cases hz : x.ls = []
        · have HN : patOf s.data.toList = none := by
            rw [HP.out, HR.out, HC.out]
            have : endS (some x) = none := by show (if _ then _ else _) = _; rw [hz]; try rfl
            rw [this]
          rw [HN]; exact ⟨⟨_, _, _, _, _, _, by rw [hz]; try rfl⟩, hbel⟩
        · have hpos : 1 ≤ x.ls.length := by
            cases hq : x.ls with
            | nil => exact absurd hq hz
            | cons a r => simp
          have HN : patOf s.data.toList = some ⟨x.ls, x.ds ++ [x.d], pa, pb⟩ := by
            rw [HP.out, HR.out, HC.out]
            have : endS (some x) = some (x.ls, x.ds ++ [x.d]) := by show (if _ then _ else _) = _; rw [if_pos ⟨hpos, hl16⟩]
            rw [this]
          have hne : (!x.ls.isEmpty) = true := by simpa using hz
          rw [HN, hne]
          exact ⟨ls, _, rfl, P3.lsx, by
            show World.ownsRow _ _ _ _ _ (x.ds ++ [x.d]).length _
            rw [List.length_append]
            exact own_mono (by simpa using hown) (by omega), hbel⟩
end Go.Proofs.YtomblajlpanmjaaGreatDoor
