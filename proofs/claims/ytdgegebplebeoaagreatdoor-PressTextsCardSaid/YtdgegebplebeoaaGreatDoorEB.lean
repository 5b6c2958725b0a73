/-
  Package press: names; a list's names so far.
-/
import Derived.Test.YtdgegebplebeoaaGreatDoorEA
import Derived.Test.YtdgegebplebeoaaGreatDoorV1
namespace Go.Proofs.YtdgegebplebeoaaGreatDoor
open Go.RowKit

def letB (c : Int) : Bool := decide ((97 ≤ c ∧ c ≤ 122) ∨ (65 ≤ c ∧ c ≤ 90))
def digB (c : Int) : Bool := decide (48 ≤ c ∧ c ≤ 57)
def dashB (c : Int) : Bool := decide (c = 45)
def nmB (c : Int) : Bool := letB c || digB c || dashB c
def nmsB (l : List UInt8) : Bool := l.all fun c => nmB (c.toNat : Int)
/-- A name: 1 to 12 letters, digits and dashes, a letter first. -/
def isNameB (s : ByteArray) : Bool := decide (1 ≤ s.size) && decide (s.size ≤ 12) && letB ((s.data.toList.headD 0).toNat : Int) && nmsB s.data.toList
theorem drop_cons (s : ByteArray) (k : Nat) (h : k < s.size) : s.data.toList.drop k = s[k] :: s.data.toList.drop (k + 1) :=
  List.drop_eq_getElem_cons (by simpa using h)
theorem nms_cons (s : ByteArray) (k : Nat) (h : k < s.size) : nmsB (s.data.toList.drop k) = (nmB (s[k].toNat : Int) && nmsB (s.data.toList.drop (k + 1))) := by
  rw [drop_cons s k h]; rfl
theorem nms_end (s : ByteArray) (k : Nat) (h : ¬ k < s.size) : nmsB (s.data.toList.drop k) = true := by
  rw [List.drop_of_length_le (by simpa using h)]; rfl
theorem head_at (s : ByteArray) (h : 0 < s.size) : s.data.toList.headD 0 = s[0] := by
  have := drop_cons s 0 h
  rw [List.drop_zero] at this
  rw [this]; rfl
set_option maxHeartbeats 400000 in
theorem isLetter_any (c : Int) (w : World) :
    Calls Tryz.prog 90 #[.int .u8 c] w fun e w' => e = .returned (.bool (letB c)) ∧ w = w' := by
  go_enter Tryz.func90, Tryz.ntmps90
  go_wp2
  all_goals go_ret
  all_goals exact ⟨ret_bool (by rw [Bool.eq_iff_iff]; simp [letB]; try omega), rfl⟩
set_option maxHeartbeats 400000 in
theorem isDigit_any (c : Int) (w : World) :
    Calls Tryz.prog 91 #[.int .u8 c] w fun e w' => e = .returned (.bool (digB c)) ∧ w = w' := by
  go_enter Tryz.func91, Tryz.ntmps91
  go_wp2
  all_goals go_ret
  all_goals exact ⟨ret_bool (by rw [Bool.eq_iff_iff]; simp [digB]; try omega), rfl⟩
theorem isName_short (s : ByteArray) (h : s.size < 1 ∨ 12 < s.size) : isNameB s = false := by
  unfold isNameB
  rcases h with h | h
  · rw [decide_eq_false (by omega : ¬ 1 ≤ s.size)]; rfl
  · rw [decide_eq_false (by omega : ¬ s.size ≤ 12)]; simp
theorem isName_head (s : ByteArray) (h1 : 1 ≤ s.size) (h2 : s.size ≤ 12) : isNameB s = (letB (s[0].toNat : Int) && nmsB s.data.toList) := by
  unfold isNameB
  rw [decide_eq_true h1, decide_eq_true h2, head_at s (by omega)]; rfl
theorem nm_of_let {c : Int} (h : letB c = true) : nmB c = true := by unfold nmB; rw [h]; rfl
theorem nm_of_dig {c : Int} (h : digB c = true) : nmB c = true := by unfold nmB; rw [h]; simp
theorem nm_of_dash {c : Int} (h : c = 45) : nmB c = true := by unfold nmB dashB; rw [h]; simp
theorem nm_of_none {c : Int} (h1 : letB c = false) (h2 : digB c = false) (h3 : ¬ c = 45) : nmB c = false := by unfold nmB dashB; rw [h1, h2]; simpa using h3
set_option maxHeartbeats 1000000 in
theorem isName_any (s : ByteArray) (w : World) (hs : s.size ≤ maxLen) :
    Calls Tryz.prog 58 #[.string s] w fun e w' => e = .returned (.bool (isNameB s)) ∧ w = w' := by
  unfold maxLen at hs
  cases hin : inB (s.size : Int) 1 12
  · have hno : ¬ inB (s.size : Int) 1 12 = true := by simp [hin]
    rw [inB_iff] at hno
    have HN := Lib.hid (isName_short s (by omega))
    clear hno
    go_enter Tryz.func58, Tryz.ntmps58
    go_wp2_with (first | (go_at_call 35; refine (isFrom_any _ _ _ _).mono ?_; rintro e w' ⟨rfl, rfl⟩))
    go_ret
    exact ⟨ret_bool HN.out.symm, rfl⟩
  have hb := inB_iff.1 hin
  have hn := isName_head s (by omega) (by omega)
  have h0 : 0 < s.size := by omega
  by_cases h3 : letB (s[0].toNat : Int) = true
  · rw [h3, Bool.true_and] at hn
    have HN := Lib.hid hn; clear hn
    go_enter Tryz.func58, Tryz.ntmps58
    go_wp2_with (first | (go_at_call 35; refine (isFrom_any _ _ _ _).mono ?_; rintro e w' ⟨rfl, rfl⟩) | (go_at_call 90; refine (isLetter_any _ _).mono ?_; rintro e w' ⟨rfl, rfl⟩))
    go_loop [16] (fun i => ∃ k : Nat, k ≤ s.size ∧ i = .int .i64 k ∧ Hid (nmsB s.data.toList = nmsB (s.data.toList.drop k))) (fun i => s.size - (intOf i).toNat)
    case atStart => exact ⟨0, Nat.zero_le _, rfl, Lib.hid (by rw [List.drop_zero])⟩
    case round =>
      obtain ⟨k, hk, rfl, HR⟩ := hrel
      by_cases hlt : k < s.size
      · have hc := nms_cons s k hlt
        by_cases l1 : letB (s[k].toNat : Int) = true
        · rw [nm_of_let l1, Bool.true_and] at hc
          have HC := Lib.hid hc; clear hc
          go_wp2_with (go_at_call 90; refine (isLetter_any _ _).mono ?_; rintro e w' ⟨rfl, rfl⟩)
          go_round
          case rel => exact ⟨k + 1, by omega, by go_num, Lib.hid (HR.out.trans HC.out)⟩
          case measure => simp [intOf]; omega
        have l1' : letB (s[k].toNat : Int) = false := by simpa using l1
        by_cases l2 : digB (s[k].toNat : Int) = true
        · rw [nm_of_dig l2, Bool.true_and] at hc
          have HC := Lib.hid hc; clear hc l1
          go_wp2_with (first | (go_at_call 90; refine (isLetter_any _ _).mono ?_; rintro e w' ⟨rfl, rfl⟩) | (go_at_call 91; refine (isDigit_any _ _).mono ?_; rintro e w' ⟨rfl, rfl⟩))
          go_round
          case rel => exact ⟨k + 1, by omega, by go_num, Lib.hid (HR.out.trans HC.out)⟩
          case measure => simp [intOf]; omega
        have l2' : digB (s[k].toNat : Int) = false := by simpa using l2
        by_cases l3 : (s[k].toNat : Int) = 45
        · rw [nm_of_dash l3, Bool.true_and] at hc
          have HC := Lib.hid hc; clear hc l1 l2
          have e1 : ((s[k].toNat : Int) != 45) = false := by simpa using l3
          clear l3
          go_wp2_with (first | (go_at_call 90; refine (isLetter_any _ _).mono ?_; rintro e w' ⟨rfl, rfl⟩) | (go_at_call 91; refine (isDigit_any _ _).mono ?_; rintro e w' ⟨rfl, rfl⟩))
          go_round
          case rel => exact ⟨k + 1, by omega, by go_num, Lib.hid (HR.out.trans HC.out)⟩
          case measure => simp [intOf]; omega
        · rw [nm_of_none l1' l2' l3, Bool.false_and] at hc
          have HC := Lib.hid hc; clear hc l1 l2
          have e1 : ((s[k].toNat : Int) != 45) = true := by simpa using l3
          clear l3
          go_wp2_with (first | (go_at_call 90; refine (isLetter_any _ _).mono ?_; rintro e w' ⟨rfl, rfl⟩) | (go_at_call 91; refine (isDigit_any _ _).mono ?_; rintro e w' ⟨rfl, rfl⟩))
          go_ret
          exact ⟨ret_bool (by rw [HN.out, HR.out, HC.out]), rfl⟩
      · have hc := nms_end s k hlt
        have HC := Lib.hid hc; clear hc
        go_wp2
        go_ret
        exact ⟨ret_bool (by rw [HN.out, HR.out, HC.out]), rfl⟩
  · have h3' : letB (s[0].toNat : Int) = false := by simpa using h3
    rw [h3', Bool.false_and] at hn
    have HN := Lib.hid hn; clear hn h3
    go_enter Tryz.func58, Tryz.ntmps58
    go_wp2_with (first | (go_at_call 35; refine (isFrom_any _ _ _ _).mono ?_; rintro e w' ⟨rfl, rfl⟩) | (go_at_call 90; refine (isLetter_any _ _).mono ?_; rintro e w' ⟨rfl, rfl⟩))
    go_ret
    exact ⟨ret_bool HN.out.symm, rfl⟩

/-- A map of names so far. -/
def NamesAt (w : World) (b : Nat) (L : List ByteArray) : Prop := MapAt Tryz.prog 9 w b (L.map fun s => (s.data.toList, .bool true))
theorem names_get (L : List ByteArray) (s : ByteArray) : mapGet (L.map fun s => (s.data.toList, Value.bool true)) s.data.toList (.bool false) = .bool (L.any fun x => decide (x = s)) := by
  have key : ∀ (L : List ByteArray) (b : Bool), (L.map fun s => (s.data.toList, Value.bool true)).foldl (getE s.data.toList) (.bool b) = .bool (b || L.any fun x => decide (x = s)) := by
    intro L
    induction L with
    | nil => intro b; simp
    | cons x L ih =>
      intro b
      rw [List.map_cons, List.foldl_cons, List.any_cons]
      by_cases h : x = s
      · rw [show getE s.data.toList (.bool b) (x.data.toList, Value.bool true) = .bool true by unfold getE; rw [if_pos (by rw [h])], ih, decide_eq_true h]; simp
      · rw [show getE s.data.toList (.bool b) (x.data.toList, Value.bool true) = .bool b by
          unfold getE
          rw [if_neg (fun e => h (by
            cases x; cases s; congr 1; exact Array.ext' e))], ih, decide_eq_false h]
        simp
  unfold mapGet
  rw [key]; simp
/-- The error of one more name. -/
def nmErr (L : List ByteArray) (s : ByteArray) : Int := if isNameB s = false then 4 else if (L.any fun x => decide (x = s)) = true then 5 else 0
def AddPost (w : World) (b : Nat) (L : List ByteArray) (s : ByteArray) (e : Ending) (w' : World) : Prop :=
  e = .returned (.int .i64 (nmErr L s)) ∧ w.grownBy w' (some b) ∧ (nmErr L s = 0 → NamesAt w' b (L ++ [s]))
set_option maxHeartbeats 1000000 in
theorem add_any (b : Nat) (L : List ByteArray) (s : ByteArray) (w : World) (hs : s.size ≤ maxLen) (hm : NamesAt w b L) (hl : L.length < maxLen) :
    Calls Tryz.prog 59 #[.map (some b), .string s] w (AddPost w b L s) := by
  have hz : ∀ w : World, (zeroValue 4).run Tryz.prog w = .ok (.bool false) w := fun w => by kernel_rfl
  cases h1 : isNameB s
  · have HE := Lib.hid (show nmErr L s = 4 by unfold nmErr; rw [if_pos h1])
    go_enter Tryz.func59, Tryz.ntmps59
    go_wp2_with (go_at_call 58; refine (isName_any _ _ hs).mono ?_; rintro e w' ⟨rfl, rfl⟩)
    go_ret
    exact ⟨ret_int HE.out.symm, ⟨rfl, rfl, rfl, Nat.le_refl _, fun _ _ _ => rfl⟩, fun h => by rw [HE.out] at h; cases h⟩
  have hg := names_get L s
  cases h2 : L.any fun x => decide (x = s)
  · have HE := Lib.hid (show nmErr L s = 0 by unfold nmErr; rw [if_neg (by simp [h1]), if_neg (by simp [h2])])
    rw [h2] at hg
    have HG := Lib.hid hg; clear hg h2
    go_enter Tryz.func59, Tryz.ntmps59
    go_wp2_with (first
      | (go_at_call 58; refine (isName_any _ _ hs).mono ?_; rintro e w' ⟨rfl, rfl⟩)
      | (refine wpList_mapAt _ rfl _ _ _ rfl 9 4 Tryz.underlying9 Tryz.underlying113 (.bool false) hz b _ rfl hm s rfl hs ?_; rw [HG.out])
      | (refine wpList_mapPut _ rfl _ _ _ _ rfl 9 4 Tryz.underlying9 Tryz.underlying113 b _ rfl hm (by rw [List.length_map]; exact hl) s (.bool true) rfl rfl hs ?_; intro w1 hm1 hg1))
    go_ret
    exact ⟨ret_int HE.out.symm, hg1, fun _ => by unfold NamesAt; rw [List.map_append]; exact hm1⟩
  · have HE := Lib.hid (show nmErr L s = 5 by unfold nmErr; rw [if_neg (by simp [h1]), if_pos h2])
    rw [h2] at hg
    have HG := Lib.hid hg; clear hg h2
    go_enter Tryz.func59, Tryz.ntmps59
    go_wp2_with (first
      | (go_at_call 58; refine (isName_any _ _ hs).mono ?_; rintro e w' ⟨rfl, rfl⟩)
      | (refine wpList_mapAt _ rfl _ _ _ rfl 9 4 Tryz.underlying9 Tryz.underlying113 (.bool false) hz b _ rfl hm s rfl hs ?_; rw [HG.out]))
    go_ret
    exact ⟨ret_int HE.out.symm, ⟨rfl, rfl, rfl, Nat.le_refl _, fun _ _ _ => rfl⟩, fun h => by rw [HE.out] at h; cases h⟩
end Go.Proofs.YtdgegebplebeoaaGreatDoor
