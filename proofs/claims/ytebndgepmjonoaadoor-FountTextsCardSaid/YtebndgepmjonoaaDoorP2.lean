/-
  Cutting a text at a byte; copies of texts; blanks.
-/
import Derived.Test.YtebndgepmjonoaaDoorP1
import Derived.Test.YtebndgepmjonoaaDoorShelf2
import Derived.Lib.IndexBytes
import Derived.Lib.Strings
namespace Go.Proofs.YtebndgepmjonoaaDoor
open Go.RowKit Go.Maps

theorem clone_any (s : ByteArray) (w : World) (hs : s.size ≤ 1000000) :
    Calls Tryd.prog 96 #[.string s] w fun e w' => e = .returned (.string s) ∧ Below w.heap.size w w' := by
  go_enter Tryd.func96, Tryd.ntmps96
  go_wp2_with fail
  refine (Tryd.stringslite_Clone s _ (by omega)).mono ?_
  rintro e w1 ⟨rfl, hb⟩
  go_wp2
  go_ret
  exact ⟨rfl, hb⟩
theorem idx_found {c : UInt8} {B : List UInt8} : ∀ (A : List UInt8), c ∉ A → Lib.indexByte (A ++ c :: B) c = A.length := by
  intro A
  induction A with
  | nil => intro _; simp [Lib.indexByte]
  | cons a r ih =>
    intro h
    have h1 : (a == c) = false := by simp only [List.mem_cons, not_or] at h; simpa using (fun e => h.1 e.symm)
    have h2 := ih (fun hc => h (by simp [hc]))
    show (if a == c then 0 else if Lib.indexByte (r ++ c :: B) c == -1 then -1 else Lib.indexByte (r ++ c :: B) c + 1) = _
    rw [h2, if_neg (by simp [h1]), if_neg (by simp)]
    rw [List.length_cons]; omega
theorem idx_none {c : UInt8} : ∀ (A : List UInt8), c ∉ A → Lib.indexByte A c = -1 := by
  intro A
  induction A with
  | nil => intro _; rfl
  | cons a r ih =>
    intro h
    have h1 : (a == c) = false := by simp only [List.mem_cons, not_or] at h; simpa using (fun e => h.1 e.symm)
    have h2 := ih (fun hc => h (by simp [hc]))
    show (if a == c then 0 else if Lib.indexByte r c == -1 then -1 else Lib.indexByte r c + 1) = _
    rw [h2, if_neg (by simp [h1])]
    rfl
def CutYes (w : World) (A B : List UInt8) (e : Ending) (w' : World) : Prop := (∃ a b : ByteArray, e = .returned (.tuple #[.string a, .string b, .bool true]) ∧ a.data.toList = A ∧ b.data.toList = B) ∧ Drew w w'
set_option maxRecDepth 100000 in
theorem liteCut_yes (s : ByteArray) (A B : List UInt8) (c : UInt8) (w : World) (hs : s.data.toList = A ++ c :: B) (hA : c ∉ A) (h6 : s.size ≤ 1000000) :
    Calls Tryd.prog 64 #[.string s, .string ⟨#[c]⟩] w (CutYes w A B) := by
  have hix : Lib.indexByte s.data.toList c = A.length := by rw [hs]; exact idx_found A hA
  have hsz : s.size = A.length + 1 + B.length := by rw [← len_data, hs]; simp; omega
  have ha := Lib.hid (show (s.extract 0 A.length).data.toList = A by rw [Lib.extract_data, hs]; simp)
  have hb := Lib.hid (show (s.extract (A.length + 1) s.size).data.toList = B by
    rw [Lib.extract_data, hs, show A ++ c :: B = (A ++ [c]) ++ B by simp, List.drop_left' (by simp)]
    exact List.take_of_length_le (by omega))
  have h1 : (A.length : Int) ≤ (s.size : Int) := by omega
  have h2 : (A.length : Int) + 1 ≤ (s.size : Int) := by omega
  have HIX := Lib.hid hix
  clear hs hA hix hsz
  go_enter Tryd.func64, Tryd.ntmps64
  go_wp2_with fail
  refine (Tryd.stringslite_Index_one s c _).mono ?_
  rintro e w1 ⟨rfl, rfl⟩
  rw [HIX.out]
  go_wp2_with fail
  go_quiet (fail)
  go_wp2
  go_ret3
  exact ⟨⟨_, _, rfl, ha.out, hb.out⟩, _, rfl⟩
set_option maxRecDepth 100000 in
theorem cut_yes (s : ByteArray) (A B : List UInt8) (c : UInt8) (w : World) (hs : s.data.toList = A ++ c :: B) (hA : c ∉ A) (h6 : s.size ≤ 1000000) :
    Calls Tryd.prog 49 #[.string s, .string ⟨#[c]⟩] w (CutYes w A B) := by
  have H := Lib.hid (fun w => liteCut_yes s A B c w hs hA h6)
  clear hs hA
  go_enter Tryd.func49, Tryd.ntmps49
  go_wp2_with fail
  refine (H.out _).mono ?_
  rintro e w1 ⟨⟨a, b, rfl, ha, hb⟩, hD⟩
  go_wp2
  go_ret3
  exact ⟨⟨a, b, rfl, ha, hb⟩, hD⟩
set_option maxRecDepth 100000 in
theorem liteCut_no (s : ByteArray) (c : UInt8) (w : World) (hA : c ∉ s.data.toList) :
    Calls Tryd.prog 64 #[.string s, .string ⟨#[c]⟩] w fun e w' => e = .returned (.tuple #[.string s, .string ⟨#[]⟩, .bool false]) ∧ w' = w := by
  have HIX := Lib.hid (idx_none _ hA)
  clear hA
  go_enter Tryd.func64, Tryd.ntmps64
  go_wp2_with fail
  refine (Tryd.stringslite_Index_one s c _).mono ?_
  rintro e w1 ⟨rfl, rfl⟩
  rw [HIX.out]
  go_wp2
  go_ret3
  exact ⟨rfl, rfl⟩
set_option maxRecDepth 100000 in
theorem cut_no (s : ByteArray) (c : UInt8) (w : World) (hA : c ∉ s.data.toList) :
    Calls Tryd.prog 49 #[.string s, .string ⟨#[c]⟩] w fun e w' => e = .returned (.tuple #[.string s, .string ⟨#[]⟩, .bool false]) ∧ w' = w := by
  have H := Lib.hid (fun w => liteCut_no s c w hA)
  clear hA
  go_enter Tryd.func49, Tryd.ntmps49
  go_wp2_with fail
  refine (H.out _).mono ?_
  rintro e w1 ⟨rfl, rfl⟩
  go_wp2
  go_ret3
  exact ⟨rfl, rfl⟩
def blB (c : Int) : Bool := decide (c = 32 ∨ c = 9)
theorem isBlank_any (c : Int) (w : World) :
    Calls Tryd.prog 65 #[.int .u8 c] w fun e w' => e = .returned (.bool (blB c)) ∧ w = w' := by
  by_cases h1 : c = 32
  · subst h1
    go_enter Tryd.func65, Tryd.ntmps65
    go_wp2
    go_ret
    exact ⟨rfl, rfl⟩
  · have HE := Lib.hid (show (c == 9) = blB c by unfold blB; rw [Bool.eq_iff_iff]; simp [h1])
    have h1b : (c == 32) = false := by simpa using h1
    clear h1
    go_enter Tryd.func65, Tryd.ntmps65
    go_wp2
    go_ret
    exact ⟨ret_bool HE.out, rfl⟩
/-- A width in units: digits alone. -/
theorem widthOf_any (s : ByteArray) (em : Int) (w : World) (h1 : 1 ≤ s.size) (h7 : s.size ≤ 7) (hd : digsB s.data.toList) (h0 : s.data.toList.headD 0 ≠ 48) (hw : widthErr (valL s.data.toList) = 0) :
    Calls Tryd.prog 98 #[.string s, .int .i64 em] w fun e w' => e = .returned (.tuple #[.int .i64 (valL s.data.toList), .int .i64 0]) ∧ w' = w := by
  have hA : (47 : UInt8) ∉ s.data.toList := fun h => by
    have := (hd 47 h).1
    have e : ((47 : UInt8).toNat : Int) = 47 := rfl
    omega
  have HC := Lib.hid (fun w => cut_no s 47 w hA)
  have HN := Lib.hid (fun w => numberOf_any s w h1 h7 hd h0)
  have HW := Lib.hid (fun w => errorOfWidth_any (valL s.data.toList) w)
  have HWE := Lib.hid hw
  clear hd h0 hw hA
  go_enter Tryd.func98, Tryd.ntmps98
  go_wp2_with fail
  refine (HC.out _).mono ?_
  rintro e w1 ⟨rfl, rfl⟩
  go_wp2_with fail
  refine (HN.out _).mono ?_
  rintro e w2 ⟨rfl, rfl⟩
  go_wp2_with fail
  refine (HW.out _).mono ?_
  rintro e w3 ⟨rfl, rfl⟩
  rw [HWE.out]
  go_wp2
  go_ret2
  exact ⟨rfl, rfl⟩
end Go.Proofs.YtebndgepmjonoaaDoor
