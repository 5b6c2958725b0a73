/-
  The plain mathematics of founts: sorts, the first error of a fount, what the two maps of a reader hold. No program is named here.
-/
import Derived.WalkKit
import Derived.Maps.OwnSet
import Derived.Test.YtomblajlpanmjaaGreatDoorProg
import Derived.WalkSpells
import Derived.WalkLawsBesides
import Derived.BigQuiet
import Derived.Deep.QuietTactic
import Derived.Lib.Hide
import Derived.Maps.OwnOps
namespace Go.Proofs.YtomblajlpanmjaaGreatDoor
open Go.RowKit

structure TS where
  name : ByteArray
  text : ByteArray
  kind : Int
  width : Int

def noTS : TS := ⟨ByteArray.empty, ByteArray.empty, 0, 0⟩

def letB (c : Int) : Bool := decide ((97 ≤ c ∧ c ≤ 122) ∨ (65 ≤ c ∧ c ≤ 90))
def digB (c : Int) : Bool := decide (48 ≤ c ∧ c ≤ 57)
def dashB (c : Int) : Bool := decide (c = 45)
def nmB (c : Int) : Bool := letB c || digB c || dashB c
def inB (n lo hi : Int) : Bool := decide (lo ≤ n ∧ n ≤ hi)
def nmsB (l : List UInt8) : Bool := l.all fun c => nmB (c.toNat : Int)
/-- A name: 1 to 12 letters, digits and dashes, a letter first. -/
def isNameB (s : ByteArray) : Bool := decide (1 ≤ s.size) && decide (s.size ≤ 12) && letB ((s.data.toList.headD 0).toNat : Int) && nmsB s.data.toList

/-- How many bytes a kind prints at least, at most. -/
def leastOf (kind : Int) : Int := if kind = 1 then 1 else if kind = 2 then 2 else 0
def mostOf (kind : Int) : Int := if kind = 1 then 1 else if kind = 2 then 4 else 0
def badB (c : Int) : Bool := decide (c < 33 ∨ 126 < c)
def badsB (l : List UInt8) : Bool := l.any fun c => badB (c.toNat : Int)
def sameName (s : ByteArray) (x : TS) : Bool := x.name.toList == s.toList
def sameText (s : ByteArray) (x : TS) : Bool := x.kind != 3 && x.text.toList == s.toList
/-- The error of what a sort of a kind prints, behind other sorts. -/
def textErr (before : List TS) (kind : Int) (s : ByteArray) : Int :=
  if inB s.size (leastOf kind) (mostOf kind) = false then 3 else if badsB s.data.toList = true then 3 else if kind ≠ 3 ∧ before.any (sameText s) = true then 13 else 0
def nameErr (before : List TS) (s : ByteArray) : Int := if isNameB s = false then 4 else if before.any (sameName s) = true then 5 else 0
def widthErr (n : Int) : Int := if inB n 1 100000 = false then 2 else 0
def sortErr (before : List TS) (x : TS) : Int :=
  if nameErr before x.name ≠ 0 then nameErr before x.name else if inB x.kind 1 3 = false then 15 else if widthErr x.width ≠ 0 then widthErr x.width else textErr before x.kind x.text
def frameErr (name : ByteArray) (body : Int) (n : Nat) : Int :=
  if isNameB name = false then 4 else if inB body 1 144 = false then 2 else if n = 0 then 10 else if 120 < n then 8 else 0
/-- The first sort with an error, from the i-th on: its number, the error. -/
def firstErr (l : List TS) : Nat → Nat → Int × Int
  | 0, _ => (0, 0)
  | n + 1, i => if sortErr (l.take i) (l.getD i noTS) ≠ 0 then ((i : Int), sortErr (l.take i) (l.getD i noTS)) else firstErr l n (i + 1)
structure FT where
  name : ByteArray
  body : Int
  sorts : List TS
def checkF (f : FT) : Int × Int := if frameErr f.name f.body f.sorts.length ≠ 0 then (0, frameErr f.name f.body f.sorts.length) else firstErr f.sorts f.sorts.length 0

theorem firstErr_go {l : List TS} {k : Nat} (h : k < l.length) (e : sortErr (l.take k) (l.getD k noTS) = 0) : firstErr l (l.length - k) k = firstErr l (l.length - (k + 1)) (k + 1) := by
  obtain ⟨m, hm⟩ : ∃ m, l.length - k = m + 1 := ⟨l.length - k - 1, by omega⟩
  rw [hm, show l.length - (k + 1) = m by omega]
  show (if _ then _ else _) = _
  rw [if_neg (fun h => h e)]
theorem firstErr_stop {l : List TS} {k : Nat} (h : k < l.length) (e : sortErr (l.take k) (l.getD k noTS) ≠ 0) : firstErr l (l.length - k) k = ((k : Int), sortErr (l.take k) (l.getD k noTS)) := by
  obtain ⟨m, hm⟩ : ∃ m, l.length - k = m + 1 := ⟨l.length - k - 1, by omega⟩
  rw [hm]
  unfold firstErr
  rw [if_pos e]
theorem firstErr_end {l : List TS} {k : Nat} (h : ¬ k < l.length) : firstErr l (l.length - k) k = (0, 0) := by
  rw [show l.length - k = 0 by omega]; rfl

theorem getD_eq {l : List TS} {k : Nat} (h : k < l.length) : l.getD k noTS = l[k] := by
  rw [List.getD_eq_getElem?_getD, List.getElem?_eq_getElem h]; rfl
theorem take_snoc {l : List TS} {k : Nat} (h : k < l.length) : l.take (k + 1) = l.take k ++ [l[k]] := by
  rw [List.take_succ_eq_append_getElem h]

theorem isKey_str (b : List UInt8) : WideAt.IsKeyLit (.string b) := by unfold WideAt.IsKeyLit; trivial

/-- What a map from texts to numbers holds: of each text the number of the first sort that has it. -/
def IdxOk (D : DataW Unit) (l : List TS) (p : ByteArray → TS → Bool) : Prop :=
  Maps.Tidy D ∧ ∀ s : ByteArray, (l.findIdx? (p s) = none → Maps.has D (.string s.data.toList) = false) ∧
    ∀ i : Nat, l.findIdx? (p s) = some i → Maps.has D (.string s.data.toList) = true ∧ ∀ z, D.atKey (.string s.data.toList) z = .lit (.int .i64 i)

theorem any_none {l : List TS} {p : TS → Bool} (h : l.findIdx? p = none) : l.any p = false := by
  rw [List.findIdx?_eq_none_iff] at h
  simpa using h
theorem any_some {l : List TS} {p : TS → Bool} {i : Nat} (h : l.findIdx? p = some i) : l.any p = true := by
  rw [List.findIdx?_eq_some_iff_getElem] at h
  obtain ⟨hi, hp, _⟩ := h
  exact List.any_eq_true.2 ⟨l[i], List.getElem_mem hi, hp⟩
theorem none_of_any {l : List TS} {p : TS → Bool} (h : l.any p = false) : l.findIdx? p = none := by
  rw [List.findIdx?_eq_none_iff]; simpa using h

theorem IdxOk.has {D : DataW Unit} {l : List TS} {p : ByteArray → TS → Bool} (h : IdxOk D l p) (s : ByteArray) : Maps.has D (.string s.data.toList) = l.any (p s) := by
  cases e : l.findIdx? (p s) with
  | none => rw [(h.2 s).1 e, any_none e]
  | some i => rw [((h.2 s).2 i e).1, any_some e]
theorem IdxOk.start (p : ByteArray → TS → Bool) : IdxOk (.map []) [] p := ⟨Maps.tidy_empty, fun s => ⟨fun _ => rfl, fun i h => by simp at h⟩⟩
theorem IdxOk.skip {D : DataW Unit} {l : List TS} {p : ByteArray → TS → Bool} (h : IdxOk D l p) {x : TS} (hx : ∀ s, p s x = false) : IdxOk D (l ++ [x]) p := by
  refine ⟨h.1, fun s => ?_⟩
  have e : (l ++ [x]).findIdx? (p s) = l.findIdx? (p s) := by
    rw [List.findIdx?_append]
    cases l.findIdx? (p s) <;> simp [List.findIdx?_cons, hx s]
  rw [e]; exact h.2 s
theorem IdxOk.add {D : DataW Unit} {l : List TS} {p : ByteArray → TS → Bool} (h : IdxOk D l p) {x : TS} {nm : ByteArray} (hx : ∀ s, p s x = (nm.toList == s.toList)) (hn : l.any (p nm) = false) :
    IdxOk (D.put (.string nm.data.toList) (.lit (.int .i64 l.length))) (l ++ [x]) p := by
  have hk := isKey_str nm.data.toList
  refine ⟨h.1.put hk _, fun s => ?_⟩
  by_cases hs : s.data.toList = nm.data.toList
  · obtain rfl : s = nm := WideShapes.bytes_inj hs
    have e : (l ++ [x]).findIdx? (p s) = some l.length := by
      rw [List.findIdx?_append, none_of_any hn]
      simp [List.findIdx?_cons, hx s]
    rw [e]
    exact ⟨fun h => (by cases h), fun i hi => by cases hi; exact ⟨Maps.has_put_same h.1.isMap hk _, fun z => Maps.atKey_put_same h.1.isMap hk _ z⟩⟩
  · have hne : (Lit.string s.data.toList) ≠ .string nm.data.toList := fun e => hs (by injection e)
    have e : (l ++ [x]).findIdx? (p s) = l.findIdx? (p s) := by
      have : p s x = false := by
        rw [hx s, ByteArray.toList_eq, ByteArray.toList_eq]
        exact beq_false_of_ne (fun e => hs e.symm)
      rw [List.findIdx?_append]
      cases l.findIdx? (p s) <;> simp [List.findIdx?_cons, this]
    rw [e]
    refine ⟨fun hh => by rw [Maps.has_put_other hne]; exact (h.2 s).1 hh, fun i hi => ?_⟩
    rw [Maps.has_put_other hne]
    exact ⟨((h.2 s).2 i hi).1, fun z => by rw [Maps.atKey_put_other hne]; exact ((h.2 s).2 i hi).2 z⟩
theorem IdxOk.size_add {D : DataW Unit} {l : List TS} {p : ByteArray → TS → Bool} (h : IdxOk D l p) {nm : ByteArray} (hn : l.any (p nm) = false) (d : DataW Unit) :
    Maps.size (D.put (.string nm.data.toList) d) = Maps.size D + 1 := by
  rw [Maps.size_put h.1, h.has, hn]; rfl

theorem sortErr_zero {l : List TS} {x : TS} (h : sortErr l x = 0) : isNameB x.name = true ∧ l.any (sameName x.name) = false ∧ inB x.kind 1 3 = true ∧ inB x.width 1 100000 = true ∧ textErr l x.kind x.text = 0 := by
  unfold sortErr at h
  split at h
  · rename_i h1; exact absurd h h1
  rename_i h1
  split at h
  · cases h
  rename_i h2
  split at h
  · rename_i h3; exact absurd h h3
  rename_i h3
  simp only [nameErr, widthErr, Decidable.not_not] at h1 h3
  refine ⟨?_, ?_, by simpa using h2, ?_, h⟩
  · cases e : isNameB x.name
    · rw [e] at h1; simp at h1
    · rfl
  · cases e : l.any (sameName x.name)
    · rfl
    · cases e' : isNameB x.name <;> simp [e, e'] at h1
  · cases e : inB x.width 1 100000
    · rw [e] at h3; simp at h3
    · rfl
theorem textErr_zero {l : List TS} {k : Int} {s : ByteArray} (h : textErr l k s = 0) : inB s.size (leastOf k) (mostOf k) = true ∧ badsB s.data.toList = false ∧ (k ≠ 3 → l.any (sameText s) = false) := by
  unfold textErr at h
  split at h
  · cases h
  split at h
  · cases h
  split at h
  · cases h
  rename_i h1 h2 h3
  refine ⟨by simpa using h1, by simpa using h2, fun hk => ?_⟩
  cases e : l.any (sameText s)
  · rfl
  · exact absurd ⟨hk, e⟩ h3
end Go.Proofs.YtomblajlpanmjaaGreatDoor
/-
  The small tests on bytes, numbers and names: what each call answers; the world stays as it was.
-/
namespace Go.Proofs.YtomblajlpanmjaaGreatDoor
open Go.RowKit

theorem ret_bool {a b : Bool} (h : a = b) : Ending.returned (.bool a) = .returned (.bool b) := by rw [h]
theorem ret_int {k : IntKind} {a b : Int} (h : a = b) : Ending.returned (.int k a) = .returned (.int k b) := by rw [h]
theorem drop_cons (s : ByteArray) (k : Nat) (h : k < s.size) : s.data.toList.drop k = s[k] :: s.data.toList.drop (k + 1) :=
  List.drop_eq_getElem_cons (by simpa using h)
theorem nms_cons (s : ByteArray) (k : Nat) (h : k < s.size) : nmsB (s.data.toList.drop k) = (nmB (s[k].toNat : Int) && nmsB (s.data.toList.drop (k + 1))) := by
  rw [drop_cons s k h]; rfl
theorem nms_end (s : ByteArray) (k : Nat) (h : ¬ k < s.size) : nmsB (s.data.toList.drop k) = true := by
  rw [List.drop_of_length_le (by simpa using h)]; rfl
theorem head_at (s : ByteArray) (h : 0 < s.size) : s.data.toList.headD 0 = s[0] := by
  have := drop_cons s 0 h
  rw [List.drop_zero] at this
  rw [this]; rfl

set_option maxHeartbeats 400000 in
theorem isLetter_any (c : Int) (w : World) :
    Calls Tryz.prog 188 #[.int .u8 c] w fun e w' => e = .returned (.bool (letB c)) ∧ w = w' := by
  go_enter Tryz.func188, Tryz.ntmps188
  go_wp2
  all_goals go_ret
  all_goals exact ⟨ret_bool (by rw [Bool.eq_iff_iff]; simp [letB]; try omega), rfl⟩

set_option maxHeartbeats 400000 in
theorem isDigit_any (c : Int) (w : World) :
    Calls Tryz.prog 189 #[.int .u8 c] w fun e w' => e = .returned (.bool (digB c)) ∧ w = w' := by
  go_enter Tryz.func189, Tryz.ntmps189
  go_wp2
  all_goals go_ret
  all_goals exact ⟨ret_bool (by rw [Bool.eq_iff_iff]; simp [digB]; try omega), rfl⟩

set_option maxHeartbeats 400000 in
theorem within_any (n lo hi : Int) (w : World) :
    Calls Tryz.prog 44 #[.int .i64 n, .int .i64 lo, .int .i64 hi] w fun e w' => e = .returned (.bool (inB n lo hi)) ∧ w = w' := by
  go_enter Tryz.func44, Tryz.ntmps44
  go_wp2
  all_goals go_ret
  all_goals exact ⟨ret_bool (by rw [Bool.eq_iff_iff]; simp [inB]; try omega), rfl⟩

end Go.Proofs.YtomblajlpanmjaaGreatDoor

/-
  Whether a text is a name: the program's own test, and the reference's.
-/
namespace Go.Proofs.YtomblajlpanmjaaGreatDoor
open Go.RowKit

theorem isName_short (s : ByteArray) (h : s.size < 1 ∨ 12 < s.size) : isNameB s = false := by
  unfold isNameB
  rcases h with h | h
  · rw [decide_eq_false (by omega : ¬ 1 ≤ s.size)]; rfl
  · rw [decide_eq_false (by omega : ¬ s.size ≤ 12)]; simp
theorem isName_head (s : ByteArray) (h1 : 1 ≤ s.size) (h2 : s.size ≤ 12) : isNameB s = (letB (s[0].toNat : Int) && nmsB s.data.toList) := by
  unfold isNameB
  rw [decide_eq_true h1, decide_eq_true h2, head_at s (by omega)]; rfl
theorem nm_of_let {c : Int} (h : letB c = true) : nmB c = true := by unfold nmB; rw [h]; rfl
theorem nm_of_dig {c : Int} (h : digB c = true) : nmB c = true := by unfold nmB; rw [h]; simp
theorem nm_of_dash {c : Int} (h : c = 45) : nmB c = true := by unfold nmB dashB; rw [h]; simp
theorem nm_of_none {c : Int} (h1 : letB c = false) (h2 : digB c = false) (h3 : ¬ c = 45) : nmB c = false := by unfold nmB dashB; rw [h1, h2]; simpa using h3

set_option maxHeartbeats 1000000 in
theorem isName_any (s : ByteArray) (w : World) (hs : s.size ≤ maxLen) :
    Calls Tryz.prog 157 #[.string s] w fun e w' => e = .returned (.bool (isNameB s)) ∧ w = w' := by
  unfold maxLen at hs
  by_cases h1 : s.size < 1
  · have hn := isName_short s (.inl h1)
    have HN := Lib.hid hn; clear hn
    go_enter Tryz.func157, Tryz.ntmps157
    go_wp2
    go_ret
    exact ⟨ret_bool HN.out.symm, rfl⟩
  by_cases h2 : 12 < s.size
  · have hn := isName_short s (.inr h2)
    have HN := Lib.hid hn; clear hn
    go_enter Tryz.func157, Tryz.ntmps157
    go_wp2
    go_ret
    exact ⟨ret_bool HN.out.symm, rfl⟩
  have hn := isName_head s (by omega) (by omega)
  have h0 : 0 < s.size := by omega
  by_cases h3 : letB (s[0].toNat : Int) = true
  · rw [h3, Bool.true_and] at hn
    have HN := Lib.hid hn; clear hn
    go_enter Tryz.func157, Tryz.ntmps157
    go_wp2_with (go_at_call 188; refine (isLetter_any _ _).mono ?_; rintro e w' ⟨rfl, rfl⟩)
    go_loop [20] (fun i => ∃ k : Nat, k ≤ s.size ∧ i = .int .i64 k ∧ Hid (nmsB s.data.toList = nmsB (s.data.toList.drop k))) (fun i => s.size - (intOf i).toNat)
    case atStart => exact ⟨0, Nat.zero_le _, rfl, Lib.hid (by rw [List.drop_zero])⟩
    case round =>
      obtain ⟨k, hk, rfl, HR⟩ := hrel
      by_cases hlt : k < s.size
      · have hc := nms_cons s k hlt
        by_cases l1 : letB (s[k].toNat : Int) = true
        · rw [nm_of_let l1, Bool.true_and] at hc
          have HC := Lib.hid hc; clear hc
          go_wp2_with (go_at_call 188; refine (isLetter_any _ _).mono ?_; rintro e w' ⟨rfl, rfl⟩)
          go_round
          case rel => exact ⟨k + 1, by omega, by go_num, Lib.hid (HR.out.trans HC.out)⟩
          case measure => simp [intOf]; omega
        have l1' : letB (s[k].toNat : Int) = false := by simpa using l1
        by_cases l2 : digB (s[k].toNat : Int) = true
        · rw [nm_of_dig l2, Bool.true_and] at hc
          have HC := Lib.hid hc; clear hc l1
          go_wp2_with (first | (go_at_call 188; refine (isLetter_any _ _).mono ?_; rintro e w' ⟨rfl, rfl⟩) | (go_at_call 189; refine (isDigit_any _ _).mono ?_; rintro e w' ⟨rfl, rfl⟩))
          go_round
          case rel => exact ⟨k + 1, by omega, by go_num, Lib.hid (HR.out.trans HC.out)⟩
          case measure => simp [intOf]; omega
        have l2' : digB (s[k].toNat : Int) = false := by simpa using l2
        by_cases l3 : (s[k].toNat : Int) = 45
        · rw [nm_of_dash l3, Bool.true_and] at hc
          have HC := Lib.hid hc; clear hc l1 l2
          have e1 : ((s[k].toNat : Int) != 45) = false := by simpa using l3
          clear l3
          go_wp2_with (first | (go_at_call 188; refine (isLetter_any _ _).mono ?_; rintro e w' ⟨rfl, rfl⟩) | (go_at_call 189; refine (isDigit_any _ _).mono ?_; rintro e w' ⟨rfl, rfl⟩))
          go_round
          case rel => exact ⟨k + 1, by omega, by go_num, Lib.hid (HR.out.trans HC.out)⟩
          case measure => simp [intOf]; omega
        · rw [nm_of_none l1' l2' l3, Bool.false_and] at hc
          have HC := Lib.hid hc; clear hc l1 l2
          have e1 : ((s[k].toNat : Int) != 45) = true := by simpa using l3
          clear l3
          go_wp2_with (first | (go_at_call 188; refine (isLetter_any _ _).mono ?_; rintro e w' ⟨rfl, rfl⟩) | (go_at_call 189; refine (isDigit_any _ _).mono ?_; rintro e w' ⟨rfl, rfl⟩))
          go_ret
          exact ⟨ret_bool (by rw [HN.out, HR.out, HC.out]), rfl⟩
      · have hc := nms_end s k hlt
        have HC := Lib.hid hc; clear hc
        go_wp2
        go_ret
        exact ⟨ret_bool (by rw [HN.out, HR.out, HC.out]), rfl⟩
  · have h3' : letB (s[0].toNat : Int) = false := by simpa using h3
    rw [h3', Bool.false_and] at hn
    have HN := Lib.hid hn; clear hn h3
    go_enter Tryz.func157, Tryz.ntmps157
    go_wp2_with (go_at_call 188; refine (isLetter_any _ _).mono ?_; rintro e w' ⟨rfl, rfl⟩)
    go_ret
    exact ⟨ret_bool HN.out.symm, rfl⟩

end Go.Proofs.YtomblajlpanmjaaGreatDoor

/-
  What the reader's tests of one sort answer: of its name, its width, what it prints.
-/
namespace Go.Proofs.YtomblajlpanmjaaGreatDoor
open Go.RowKit Go.Maps

theorem lawS : Keyed Tryz.prog 9 := string_keyed Tryz.underlying9
theorem zeroInt (w : World) : (zeroValue 3).run Tryz.prog w = .ok (.int .i64 0) w := by kernel_rfl

/-- The two maps of what is known of the sorts l. -/
def KnownAt (w : World) (b1 b2 : Nat) (l : List TS) : Prop :=
  b1 ≠ b2 ∧ ∃ D1 D2 : DataW Unit, w.ownsMap Tryz.prog 9 (plainElem Tryz.prog 3) b1 l.length D1 ∧ w.ownsMap Tryz.prog 9 (plainElem Tryz.prog 3) b2 l.length D2 ∧
    IdxOk D1 l sameName ∧ Maps.size D1 = l.length ∧ IdxOk D2 l sameText ∧ ∀ x ∈ l, x.kind ≠ 3 → 0 < x.text.size

theorem ownsMap_below {w w' : World} {B b n : Nat} {k e : TypeId} {D : DataW Unit} (h : w.ownsMap Tryz.prog k (plainElem Tryz.prog e) b n D) (hb : Below B w w') (hB : b < B) : w'.ownsMap Tryz.prog k (plainElem Tryz.prog e) b n D := by
  obtain ⟨es, c, h1, h2⟩ := h
  exact ⟨es, c, (hb.block b hB).trans h1, h2⟩
theorem KnownAt.below {w w' : World} {b1 b2 B : Nat} {l : List TS} (h : KnownAt w b1 b2 l) (hb : Below B w w') (h1 : b1 < B) (h2 : b2 < B) : KnownAt w' b1 b2 l := by
  obtain ⟨hn, D1, D2, a, b, r⟩ := h
  exact ⟨hn, D1, D2, ownsMap_below a hb h1, ownsMap_below b hb h2, r⟩
theorem KnownAt.lt {w : World} {b1 b2 : Nat} {l : List TS} (h : KnownAt w b1 b2 l) : b1 < w.heap.size ∧ b2 < w.heap.size := by
  obtain ⟨_, D1, D2, a, b, _⟩ := h
  exact ⟨a.lt, b.lt⟩

theorem nameErr_bad {l : List TS} {s : ByteArray} (h : isNameB s = false) : nameErr l s = 4 := by unfold nameErr; rw [if_pos h]
theorem nameErr_dup {l : List TS} {s : ByteArray} (h : isNameB s = true) (h2 : l.any (sameName s) = true) : nameErr l s = 5 := by unfold nameErr; rw [if_neg (by simp [h]), if_pos h2]
theorem nameErr_ok {l : List TS} {s : ByteArray} (h : isNameB s = true) (h2 : l.any (sameName s) = false) : nameErr l s = 0 := by unfold nameErr; rw [if_neg (by simp [h]), if_neg (by simp [h2])]

set_option maxHeartbeats 400000 in
theorem errorOfName_any (b1 b2 : Nat) (l : List TS) (s : ByteArray) (w : World) (hs : s.size ≤ maxLen) (hK : KnownAt w b1 b2 l) :
    Calls Tryz.prog 158 #[.agg #[.map (some b1), .map (some b2)], .string s] w fun e w' => e = .returned (.int .i64 (nameErr l s)) ∧ Below w.heap.size w w' := by
  obtain ⟨hne, D1, D2, ho1, ho2, hi1, hz1, hi2, hx0⟩ := hK
  have hkey := WideMaps.keyOf_string_mk (P := Tryz.prog) Tryz.underlying9 hs
  have hh := hi1.has s
  clear hz1 hi2 hi1 hx0
  cases hn : isNameB s
  · have HE := Lib.hid (nameErr_bad (l := l) hn)
    have HH := Lib.hid hh; clear hh
    go_enter Tryz.func158, Tryz.ntmps158
    go_wp2_with (go_at_call 157; refine (isName_any _ _ hs).mono ?_; rintro e w' ⟨rfl, rfl⟩)
    go_ret
    exact ⟨ret_int HE.out.symm, (Below.refl _ _).alloc (Nat.le_refl _) _⟩
  · cases ha : l.any (sameName s)
    · have HE := Lib.hid (nameErr_ok hn ha)
      rw [ha] at hh
      clear ha
      go_enter Tryz.func158, Tryz.ntmps158
      go_wp2_with (first | (go_at_call 157; refine (isName_any _ _ hs).mono ?_; rintro e w' ⟨rfl, rfl⟩) | (at_lookup; refine wpList_lookup_own_ok_int _ rfl _ _ 165 rfl 9 3 .i64 lawS Tryz.underlying165 Tryz.underlying3 (zeroInt _) b1 _ _ rfl (ho1.alloc _) _ _ rfl hkey ?_; intro c hat hwc))
      go_ret
      exact ⟨ret_int HE.out.symm, (Below.refl _ _).alloc (Nat.le_refl _) _⟩
    · have HE := Lib.hid (nameErr_dup hn ha)
      rw [ha] at hh
      clear ha
      go_enter Tryz.func158, Tryz.ntmps158
      go_wp2_with (first | (go_at_call 157; refine (isName_any _ _ hs).mono ?_; rintro e w' ⟨rfl, rfl⟩) | (at_lookup; refine wpList_lookup_own_ok_int _ rfl _ _ 165 rfl 9 3 .i64 lawS Tryz.underlying165 Tryz.underlying3 (zeroInt _) b1 _ _ rfl (ho1.alloc _) _ _ rfl hkey ?_; intro c hat hwc))
      go_ret
      exact ⟨ret_int HE.out.symm, (Below.refl _ _).alloc (Nat.le_refl _) _⟩

theorem widthErr_bad {n : Int} (h : n < 1 ∨ 100000 < n) : widthErr n = 2 := by
  unfold widthErr inB; rw [if_pos (decide_eq_false (by omega))]
theorem widthErr_ok {n : Int} (h : 1 ≤ n) (h2 : n ≤ 100000) : widthErr n = 0 := by
  unfold widthErr inB; rw [if_neg (by rw [decide_eq_true ⟨h, h2⟩]; simp)]
set_option maxHeartbeats 400000 in
theorem errorOfWidth_any (n : Int) (w : World) :
    Calls Tryz.prog 159 #[.int .i64 n] w fun e w' => e = .returned (.int .i64 (widthErr n)) ∧ w = w' := by
  by_cases h : 1 ≤ n ∧ n ≤ 100000
  · have HE := Lib.hid (widthErr_ok h.1 h.2)
    obtain ⟨h1, h2⟩ := h
    go_enter Tryz.func159, Tryz.ntmps159
    go_wp2
    go_ret
    exact ⟨ret_int HE.out.symm, rfl⟩
  · have HE := Lib.hid (widthErr_bad (n := n) (by omega))
    go_enter Tryz.func159, Tryz.ntmps159
    go_wp2
    all_goals first | (exfalso; omega) | (exfalso; (simp at *) <;> omega) | skip
    all_goals go_ret
    all_goals exact ⟨ret_int HE.out.symm, rfl⟩
end Go.Proofs.YtomblajlpanmjaaGreatDoor

/-
  What a sort prints: the test of its kind's lengths (read off the program's own table), of its bytes, of what is known.
-/
namespace Go.Proofs.YtomblajlpanmjaaGreatDoor
open Go.RowKit Go.Maps

/-- The table of the kinds' lengths lies in its variable. -/
def TabOk (w : World) : Prop :=
  1 < w.heap.size ∧ w.cell? ⟨1, 2, none⟩ = some (.int .i64 1) ∧ w.cell? ⟨1, 3, none⟩ = some (.int .i64 1) ∧
    w.cell? ⟨1, 4, none⟩ = some (.int .i64 2) ∧ w.cell? ⟨1, 5, none⟩ = some (.int .i64 4) ∧
    w.cell? ⟨1, 6, none⟩ = some (.int .i64 0) ∧ w.cell? ⟨1, 7, none⟩ = some (.int .i64 0)
theorem TabOk.below {w w' : World} {B : Nat} (h : TabOk w) (hb : Below B w w') (hB : 1 < B) : TabOk w' := by
  obtain ⟨h0, h1, h2, h3, h4, h5, h6⟩ := h
  refine ⟨Nat.lt_of_lt_of_le h0 hb.size, ?_, ?_, ?_, ?_, ?_, ?_⟩
  all_goals first | exact (hb.cell (p := ⟨_, _, none⟩) hB).trans h1 | exact (hb.cell (p := ⟨_, _, none⟩) hB).trans h2 | exact (hb.cell (p := ⟨_, _, none⟩) hB).trans h3 | exact (hb.cell (p := ⟨_, _, none⟩) hB).trans h4 | exact (hb.cell (p := ⟨_, _, none⟩) hB).trans h5 | exact (hb.cell (p := ⟨_, _, none⟩) hB).trans h6

theorem bads_cons (s : ByteArray) (k : Nat) (h : k < s.size) : badsB (s.data.toList.drop k) = (badB (s[k].toNat : Int) || badsB (s.data.toList.drop (k + 1))) := by
  rw [drop_cons s k h]; rfl
theorem bads_end (s : ByteArray) (k : Nat) (h : ¬ k < s.size) : badsB (s.data.toList.drop k) = false := by
  rw [List.drop_of_length_le (by simpa using h)]; rfl
theorem textErr_len {l : List TS} {k : Int} {s : ByteArray} (h : inB s.size (leastOf k) (mostOf k) = false) : textErr l k s = 3 := by unfold textErr; rw [if_pos h]
theorem textErr_rest {l : List TS} {k : Int} {s : ByteArray} (h : inB s.size (leastOf k) (mostOf k) = true) : textErr l k s = if badsB s.data.toList = true then 3 else if k ≠ 3 ∧ l.any (sameText s) = true then 13 else 0 := by
  unfold textErr; rw [if_neg (by simp [h])]
theorem any_empty {l : List TS} {s : ByteArray} (h : ∀ x ∈ l, x.kind ≠ 3 → 0 < x.text.size) (hs : s.size = 0) : l.any (sameText s) = false := by
  rw [Bool.eq_false_iff]
  intro ha
  obtain ⟨x, hx, e⟩ := List.any_eq_true.1 ha
  unfold sameText at e
  rw [Bool.and_eq_true, beq_iff_eq, ByteArray.toList_eq, ByteArray.toList_eq] at e
  have h1 := h x hx (by simpa using e.1)
  have h2 : x.text = s := WideShapes.bytes_inj e.2
  rw [h2] at h1; omega

theorem inB_eq {n lo hi : Int} (h1 : lo ≤ n) (h2 : n ≤ hi) : inB n lo hi = true := decide_eq_true ⟨h1, h2⟩
theorem inB_no {n lo hi : Int} (h : n < lo ∨ hi < n) : inB n lo hi = false := decide_eq_false (by omega)
theorem bad_yes {c : Int} (h : c < 33 ∨ 126 < c) : badB c = true := decide_eq_true h
theorem bad_no {c : Int} (h : ¬ (c < 33 ∨ 126 < c)) : badB c = false := decide_eq_false h

set_option maxRecDepth 100000 in
set_option maxHeartbeats 2000000 in
theorem errorOfText_any (b1 b2 : Nat) (l : List TS) (kind : Int) (s : ByteArray) (w : World) (hs : s.size ≤ maxLen) (hk : 1 ≤ kind ∧ kind ≤ 3) (hK : KnownAt w b1 b2 l) (hT : TabOk w) :
    Calls Tryz.prog 160 #[.agg #[.map (some b1), .map (some b2)], .int .i64 kind, .string s] w fun e w' => e = .returned (.int .i64 (textErr l kind s)) ∧ Below w.heap.size w w' := by
  obtain ⟨hne, D1, D2, ho1, ho2, hi1, hz1, hi2, hx0⟩ := hK
  have hkey := WideMaps.keyOf_string_mk (P := Tryz.prog) Tryz.underlying9 hs
  have hh := hi2.has s
  have hem := fun h => any_empty (s := s) hx0 h
  unfold maxLen at hs
  obtain ⟨hg, t1, t2, t3, t4, t5, t6⟩ := hT
  clear hz1 hi1 hi2 hx0
  have h3 : kind = 1 ∨ kind = 2 ∨ kind = 3 := by omega
  clear hk
  obtain ⟨lo, hi, hlo, hhi⟩ : ∃ lo hi, lo = leastOf kind ∧ hi = mostOf kind := ⟨_, _, rfl, rfl⟩
  by_cases hlen : (s.size : Int) < lo ∨ hi < (s.size : Int)
  · have HE := Lib.hid (textErr_len (l := l) (k := kind) (s := s) (inB_no (by omega)))
    have HH := Lib.hid hh; clear hh
    have HM := Lib.hid hem; clear hem
    rcases h3 with rfl | rfl | rfl
    all_goals
      simp only [leastOf, mostOf] at hlo hhi
      simp at hlo hhi
      subst hlo hhi
      go_enter Tryz.func160, Tryz.ntmps160
      go_wp2
      all_goals first | (exfalso; omega) | skip
      all_goals go_ret
      all_goals exact ⟨ret_int HE.out.symm, (Below.refl _ _).alloc (Nat.le_refl _) _⟩
  have HE := Lib.hid (textErr_rest (l := l) (k := kind) (s := s) (inB_eq (by omega) (by omega)))
  have hl1 : lo ≤ (s.size : Int) := by omega
  have hl2 : (s.size : Int) ≤ hi := by omega
  clear hlen
  cases ha : l.any (sameText s)
  · rw [ha] at hh
    have HA := Lib.hid ha; clear ha hem
    rcases h3 with rfl | rfl | rfl
    all_goals
      simp only [leastOf, mostOf] at hlo hhi
      simp at hlo hhi
      subst hlo hhi
      go_enter Tryz.func160, Tryz.ntmps160
      go_wp2
      go_loop [28] (fun i => ∃ k : Nat, k ≤ s.size ∧ i = .int .i64 k ∧ Hid (badsB s.data.toList = badsB (s.data.toList.drop k))) (fun i => s.size - (intOf i).toNat)
      case atStart => exact ⟨0, Nat.zero_le _, rfl, Lib.hid (by rw [List.drop_zero])⟩
      case round =>
        obtain ⟨k, hk, rfl, HR⟩ := hrel
        by_cases hlt : k < s.size
        · have hc := bads_cons s k hlt
          by_cases hb : (s[k].toNat : Int) < 33 ∨ 126 < (s[k].toNat : Int)
          · rw [bad_yes hb, Bool.true_or] at hc
            have HC := Lib.hid hc; clear hc
            go_wp2
            all_goals first | (exfalso; omega) | (exfalso; (simp at *) <;> omega) | skip
            all_goals go_ret
            all_goals exact ⟨ret_int (by rw [HE.out, HR.out, HC.out]; rfl), (Below.refl _ _).alloc (Nat.le_refl _) _⟩
          · rw [bad_no hb, Bool.false_or] at hc
            have HC := Lib.hid hc; clear hc
            have h33 : 33 ≤ (s[k].toNat : Int) := by omega
            have h126 : (s[k].toNat : Int) ≤ 126 := by omega
            clear hb
            go_wp2
            all_goals go_round
            all_goals first | exact ⟨k + 1, by omega, by go_num, Lib.hid (HR.out.trans HC.out)⟩ | (simp [intOf]; omega)
        · have HC := Lib.hid (bads_end s k hlt)
          go_wp2_with (at_lookup; refine wpList_lookup_own_ok_int _ rfl _ _ 165 rfl 9 3 .i64 lawS Tryz.underlying165 Tryz.underlying3 (zeroInt _) b2 _ _ rfl (ho2.alloc _) _ _ rfl hkey ?_; intro c hat hwc)
          go_ret
          exact ⟨ret_int (by rw [HE.out, HR.out, HC.out, HA.out]; rfl), (Below.refl _ _).alloc (Nat.le_refl _) _⟩
  · rw [ha] at hh
    have hnz : ¬ s.size = 0 := fun h => by rw [hem h] at ha; cases ha
    have HA := Lib.hid ha; clear ha hem
    rcases h3 with rfl | rfl | rfl
    case inr.inr =>
      simp only [leastOf, mostOf] at hlo hhi
      simp at hlo hhi
      exfalso; omega
    all_goals
      simp only [leastOf, mostOf] at hlo hhi
      simp at hlo hhi
      subst hlo hhi
      go_enter Tryz.func160, Tryz.ntmps160
      go_wp2
      go_loop [28] (fun i => ∃ k : Nat, k ≤ s.size ∧ i = .int .i64 k ∧ Hid (badsB s.data.toList = badsB (s.data.toList.drop k))) (fun i => s.size - (intOf i).toNat)
      case atStart => exact ⟨0, Nat.zero_le _, rfl, Lib.hid (by rw [List.drop_zero])⟩
      case round =>
        obtain ⟨k, hk, rfl, HR⟩ := hrel
        by_cases hlt : k < s.size
        · have hc := bads_cons s k hlt
          by_cases hb : (s[k].toNat : Int) < 33 ∨ 126 < (s[k].toNat : Int)
          · rw [bad_yes hb, Bool.true_or] at hc
            have HC := Lib.hid hc; clear hc
            go_wp2
            all_goals first | (exfalso; omega) | (exfalso; (simp at *) <;> omega) | skip
            all_goals go_ret
            all_goals exact ⟨ret_int (by rw [HE.out, HR.out, HC.out]; rfl), (Below.refl _ _).alloc (Nat.le_refl _) _⟩
          · rw [bad_no hb, Bool.false_or] at hc
            have HC := Lib.hid hc; clear hc
            have h33 : 33 ≤ (s[k].toNat : Int) := by omega
            have h126 : (s[k].toNat : Int) ≤ 126 := by omega
            clear hb
            go_wp2
            all_goals go_round
            all_goals first | exact ⟨k + 1, by omega, by go_num, Lib.hid (HR.out.trans HC.out)⟩ | (simp [intOf]; omega)
        · have HC := Lib.hid (bads_end s k hlt)
          go_wp2_with (at_lookup; refine wpList_lookup_own_ok_int _ rfl _ _ 165 rfl 9 3 .i64 lawS Tryz.underlying165 Tryz.underlying3 (zeroInt _) b2 _ _ rfl (ho2.alloc _) _ _ rfl hkey ?_; intro c hat hwc)
          go_ret
          exact ⟨ret_int (by rw [HE.out, HR.out, HC.out, HA.out]; rfl), (Below.refl _ _).alloc (Nat.le_refl _) _⟩
end Go.Proofs.YtomblajlpanmjaaGreatDoor

/-
  The test of a whole sort; taking a sort; nothing known; the test of a fount's frame.
-/
namespace Go.Proofs.YtomblajlpanmjaaGreatDoor
open Go.RowKit Go.Maps

theorem bcell {W w1 : World} {B : Nat} (hb : Below B W w1) : (∀ b o, b < B → w1.cell? ⟨b, o, none⟩ = W.cell? ⟨b, o, none⟩) ∧ (∀ b o, b < B → w1.frozen? ⟨b, o, none⟩ = W.frozen? ⟨b, o, none⟩) :=
  ⟨fun b o h => hb.cell (p := ⟨b, o, none⟩) h, fun b o h => hb.frozen (p := ⟨b, o, none⟩) h⟩
theorem KnownAt.alloc {w : World} {b1 b2 : Nat} {l : List TS} (h : KnownAt w b1 b2 l) (o : Obj) : KnownAt (w.alloc o) b1 b2 l :=
  h.below ((Below.refl _ _).alloc (Nat.le_refl _) o) h.lt.1 h.lt.2
theorem TabOk.alloc {w : World} (h : TabOk w) (o : Obj) : TabOk (w.alloc o) := h.below ((Below.refl _ _).alloc (Nat.le_refl _) o) h.1

theorem sortErr_name {l : List TS} {x : TS} (h : nameErr l x.name ≠ 0) : sortErr l x = nameErr l x.name := by unfold sortErr; rw [if_pos h]
theorem sortErr_kind {l : List TS} {x : TS} (h : nameErr l x.name = 0) (h2 : inB x.kind 1 3 = false) : sortErr l x = 15 := by unfold sortErr; rw [if_neg (by simp [h]), if_pos h2]
theorem sortErr_width {l : List TS} {x : TS} (h : nameErr l x.name = 0) (h2 : inB x.kind 1 3 = true) (h3 : widthErr x.width ≠ 0) : sortErr l x = widthErr x.width := by
  unfold sortErr; rw [if_neg (by simp [h]), if_neg (by simp [h2]), if_pos h3]
theorem sortErr_text {l : List TS} {x : TS} (h : nameErr l x.name = 0) (h2 : inB x.kind 1 3 = true) (h3 : widthErr x.width = 0) : sortErr l x = textErr l x.kind x.text := by
  unfold sortErr; rw [if_neg (by simp [h]), if_neg (by simp [h2]), if_neg (by simp [h3])]
theorem inB_iff {n lo hi : Int} : inB n lo hi = true ↔ lo ≤ n ∧ n ≤ hi := by unfold inB; simp

set_option maxRecDepth 100000 in
set_option maxHeartbeats 1000000 in
theorem errorOfSort_any (b1 b2 : Nat) (l : List TS) (x : TS) (w : World) (hs1 : x.name.size ≤ maxLen) (hs2 : x.text.size ≤ maxLen) (hK : KnownAt w b1 b2 l) (hT : TabOk w) :
    Calls Tryz.prog 127 #[.agg #[.map (some b1), .map (some b2)], .agg #[.string x.name, .string x.text, .int .i64 x.kind, .int .i64 x.width]] w fun e w' => e = .returned (.int .i64 (sortErr l x)) ∧ Below w.heap.size w w' := by
  have hlt := hK.lt
  have hT0 := hT.1
  by_cases h1 : nameErr l x.name = 0
  · by_cases h2 : 1 ≤ x.kind ∧ x.kind ≤ 3
    · have h2' := inB_iff.2 h2
      by_cases h3 : widthErr x.width = 0
      · have HE := Lib.hid (sortErr_text h1 h2' h3)
        obtain ⟨h2a, h2b⟩ := h2
        clear h2'
        go_enter Tryz.func127, Tryz.ntmps127
        go_wp2_with fail
        refine (errorOfName_any b1 b2 l _ _ hs1 (by exact (hK.alloc _).alloc _)).mono ?_
        rintro e w1 ⟨rfl, hb⟩
        rw [h1]
        obtain ⟨hc, hf⟩ := bcell hb
        have hz : w.heap.size + 2 ≤ w1.heap.size := by have := hb.size; simpa using this
        have hB := ((((Below.refl w.heap.size w).alloc (Nat.le_refl _) (.cells #[.map (some b1), .map (some b2)] 167)).alloc (by simp) (.cells #[.string x.name, .string x.text, .int .i64 x.kind, .int .i64 x.width] 97)).trans (hb.mono (by simp <;> omega)))
        have hK1 := (hK.below hB hlt.1 hlt.2)
        have hT1 := (hT.below hB hT0)
        go_wp2_with fail
        refine (errorOfWidth_any _ _).mono ?_
        rintro e w' ⟨rfl, rfl⟩
        rw [h3]
        go_wp2_with fail
        refine (errorOfText_any b1 b2 l _ _ _ hs2 ⟨h2a, h2b⟩ hK1 hT1).mono ?_
        rintro e w2 ⟨rfl, hb2⟩
        go_wp2
        go_ret
        exact ⟨ret_int HE.out.symm, hB.trans (hb2.mono (by omega))⟩
      · have HE := Lib.hid (sortErr_width h1 h2' h3)
        have h3b : (widthErr x.width != 0) = true := by simpa using h3
        obtain ⟨h2a, h2b⟩ := h2
        clear h2' h3
        go_enter Tryz.func127, Tryz.ntmps127
        go_wp2_with fail
        refine (errorOfName_any b1 b2 l _ _ hs1 (by exact (hK.alloc _).alloc _)).mono ?_
        rintro e w1 ⟨rfl, hb⟩
        rw [h1]
        obtain ⟨hc, hf⟩ := bcell hb
        have hz : w.heap.size + 2 ≤ w1.heap.size := by have := hb.size; simpa using this
        have hB := ((((Below.refl w.heap.size w).alloc (Nat.le_refl _) (.cells #[.map (some b1), .map (some b2)] 167)).alloc (by simp) (.cells #[.string x.name, .string x.text, .int .i64 x.kind, .int .i64 x.width] 97)).trans (hb.mono (by simp <;> omega)))
        go_wp2_with fail
        refine (errorOfWidth_any _ _).mono ?_
        rintro e w' ⟨rfl, rfl⟩
        go_wp2
        go_ret
        exact ⟨ret_int HE.out.symm, hB⟩
    · have h2' : inB x.kind 1 3 = false := by rw [Bool.eq_false_iff]; exact fun h => h2 (inB_iff.1 h)
      have HE := Lib.hid (sortErr_kind h1 h2')
      clear h2'
      first
      | (
        go_enter Tryz.func127, Tryz.ntmps127
        go_wp2_with fail
        refine (errorOfName_any b1 b2 l _ _ hs1 (by exact (hK.alloc _).alloc _)).mono ?_
        rintro e w1 ⟨rfl, hb⟩
        rw [h1]
        obtain ⟨hc, hf⟩ := bcell hb
        have hz : w.heap.size + 2 ≤ w1.heap.size := by have := hb.size; simpa using this
        have hB := ((((Below.refl w.heap.size w).alloc (Nat.le_refl _) (.cells #[.map (some b1), .map (some b2)] 167)).alloc (by simp) (.cells #[.string x.name, .string x.text, .int .i64 x.kind, .int .i64 x.width] 97)).trans (hb.mono (by simp <;> omega)))
        go_wp2
        all_goals first | (exfalso; omega) | (exfalso; (simp at *) <;> omega) | skip
        all_goals go_ret
        all_goals exact ⟨ret_int HE.out.symm, hB⟩)
  · have HE := Lib.hid (sortErr_name h1)
    have h1b : (nameErr l x.name != 0) = true := by simpa using h1
    clear h1
    first
    | (
        go_enter Tryz.func127, Tryz.ntmps127
        go_wp2_with fail
        refine (errorOfName_any b1 b2 l _ _ hs1 (by exact (hK.alloc _).alloc _)).mono ?_
        rintro e w1 ⟨rfl, hb⟩
        obtain ⟨hc, hf⟩ := bcell hb
        have hz : w.heap.size + 2 ≤ w1.heap.size := by have := hb.size; simpa using this
        have hB := ((((Below.refl w.heap.size w).alloc (Nat.le_refl _) (.cells #[.map (some b1), .map (some b2)] 167)).alloc (by simp) (.cells #[.string x.name, .string x.text, .int .i64 x.kind, .int .i64 x.width] 97)).trans (hb.mono (by simp <;> omega)))
        go_wp2
        go_ret
        exact ⟨ret_int HE.out.symm, hB⟩)

end Go.Proofs.YtomblajlpanmjaaGreatDoor

/-
  A sort is taken into what is known; nothing known; the test of a fount's frame.
-/
namespace Go.Proofs.YtomblajlpanmjaaGreatDoor
open Go.RowKit Go.Maps

/-- Of what was there nothing has turned but the blocks b1 and b2. -/
structure But2 (w w' : World) (b1 b2 : Nat) : Prop where
  os : w'.os = w.os
  tape : w'.tape = w.tape
  output : w'.output = w.output
  size : w.heap.size ≤ w'.heap.size
  block : ∀ k, k < w.heap.size → k ≠ b1 → k ≠ b2 → w'.heap[k]? = w.heap[k]?
theorem But2.refl (w : World) (b1 b2 : Nat) : But2 w w b1 b2 := ⟨rfl, rfl, rfl, Nat.le_refl _, fun _ _ _ _ => rfl⟩
theorem But2.alloc {a w : World} {b1 b2 : Nat} (h : But2 a w b1 b2) (o : Obj) : But2 a (w.alloc o) b1 b2 :=
  ⟨h.os, h.tape, h.output, Nat.le_trans h.size (by simp), fun k hk h1 h2 => (Below.heap_alloc w o k (Nat.lt_of_lt_of_le hk h.size)).trans (h.block k hk h1 h2)⟩
theorem But2.grown1 {a w w' : World} {b1 b2 : Nat} (h : But2 a w b1 b2) (hg : w.grownBy w' (some b1)) : But2 a w' b1 b2 :=
  ⟨hg.os.trans h.os, hg.tape.trans h.tape, hg.output.trans h.output, Nat.le_trans h.size hg.size, fun k hk h1 h2 => (hg.block k (Nat.lt_of_lt_of_le hk h.size) (fun e => h1 (by injection e))).trans (h.block k hk h1 h2)⟩
theorem But2.grown2 {a w w' : World} {b1 b2 : Nat} (h : But2 a w b1 b2) (hg : w.grownBy w' (some b2)) : But2 a w' b1 b2 :=
  ⟨hg.os.trans h.os, hg.tape.trans h.tape, hg.output.trans h.output, Nat.le_trans h.size hg.size, fun k hk h1 h2 => (hg.block k (Nat.lt_of_lt_of_le hk h.size) (fun e => h2 (by injection e))).trans (h.block k hk h1 h2)⟩
theorem But2.below {w w' : World} {b1 b2 B : Nat} (h : But2 w w' b1 b2) (h1 : B ≤ b1) (h2 : B ≤ b2) (hB : B ≤ w.heap.size) : Below B w w' :=
  ⟨h.os, h.tape, h.output, h.size, fun k hk => h.block k (by omega) (by omega) (by omega)⟩
theorem But2.cell {w w' : World} {b1 b2 : Nat} (h : But2 w w' b1 b2) {b o : Nat} (hb : b < w.heap.size) (h1 : b ≠ b1) (h2 : b ≠ b2) : w'.cell? ⟨b, o, none⟩ = w.cell? ⟨b, o, none⟩ :=
  World.cell?_of_block (w := w) (h.block b hb h1 h2)
theorem But2.frozen {w w' : World} {b1 b2 : Nat} (h : But2 w w' b1 b2) {b o : Nat} (hb : b < w.heap.size) (h1 : b ≠ b1) (h2 : b ≠ b2) : w'.frozen? ⟨b, o, none⟩ = w.frozen? ⟨b, o, none⟩ :=
  World.frozen?_of_block (w := w) (h.block b hb h1 h2)

theorem grown_cell {W w' : World} {g b o : Nat} (h : W.grownBy w' (some g)) (hb : b < W.heap.size) (hne : b ≠ g) : w'.cell? ⟨b, o, none⟩ = W.cell? ⟨b, o, none⟩ :=
  World.cell?_of_block (w := W) (h.block b hb (fun e => hne (by injection e)))
theorem ownsMap_grown {w w' : World} {b g n : Nat} {k e : TypeId} {D : DataW Unit} (h : w.ownsMap Tryz.prog k (plainElem Tryz.prog e) b n D) (hg : w.grownBy w' (some g)) (hne : b ≠ g) : w'.ownsMap Tryz.prog k (plainElem Tryz.prog e) b n D :=
  h.kept hg (fun e => hne (by injection e))
theorem wf_nat (n : Nat) (h : n < 9223372036854775808) : (Lit.int .i64 (n : Int)).wf = true := WalkArith.wf_i64 (by omega)

set_option maxRecDepth 100000 in
set_option maxHeartbeats 1000000 in
theorem add_any (b1 b2 : Nat) (l : List TS) (x : TS) (w : World) (hs1 : x.name.size ≤ maxLen) (hs2 : x.text.size ≤ maxLen) (hK : KnownAt w b1 b2 l) (he : sortErr l x = 0) (hlen : l.length < 1000) :
    Calls Tryz.prog 128 #[.agg #[.map (some b1), .map (some b2)], .agg #[.string x.name, .string x.text, .int .i64 x.kind, .int .i64 x.width]] w fun e w' => e = .returned (.tuple #[]) ∧ KnownAt w' b1 b2 (l ++ [x]) ∧ But2 w w' b1 b2 := by
  have hlt := hK.lt
  obtain ⟨hne, D1, D2, ho1, ho2, hi1, hz1, hi2, hx0⟩ := hK
  obtain ⟨e1, e2, e3, e4, e5⟩ := sortErr_zero he
  obtain ⟨f1, f2, f3⟩ := textErr_zero e5
  have hkey1 := WideMaps.keyOf_string_mk (P := Tryz.prog) Tryz.underlying9 hs1
  have hkey2 := WideMaps.keyOf_string_mk (P := Tryz.prog) Tryz.underlying9 hs2
  have hml : l.length < maxLen := by unfold maxLen; omega
  have hwf := wf_nat l.length (by omega)
  have hi1' : IdxOk (D1.put (.string x.name.data.toList) (.lit (.int .i64 l.length))) (l ++ [x]) sameName := hi1.add (fun s => rfl) e2
  have hz1' : Maps.size (D1.put (.string x.name.data.toList) (.lit (.int .i64 l.length))) = (l ++ [x]).length := by rw [hi1.size_add e2, hz1]; simp
  have HI1 := Lib.hid hi1'; have HZ1 := Lib.hid hz1'; clear hi1' hz1' hi1
  have HZ := Lib.hid hz1; clear hz1
  have HL := Lib.hid hml; clear hml
  have e3k := e3
  clear e1 e2 e3 e4 he
  by_cases hk : x.kind = 3
  · have hi2' : IdxOk D2 (l ++ [x]) sameText := hi2.skip (fun s => by unfold sameText; rw [hk]; rfl)
    have hx1 : ∀ y ∈ l ++ [x], y.kind ≠ 3 → 0 < y.text.size := by
      intro y hy hy3
      rcases List.mem_append.1 hy with h | h
      · exact hx0 y h hy3
      · rw [List.mem_singleton.1 h] at hy3; exact absurd hk hy3
    have HI2 := Lib.hid hi2'; clear hi2' hi2
    have HX := Lib.hid hx1; clear hx1 hx0
    have hk3 : (x.kind != 3) = false := by simpa using hk
    clear hk f1 f2 f3 e5 hkey2
    go_enter Tryz.func128, Tryz.ntmps128
    go_wp2_with (first
      | (at_len; refine wpList_len_own _ rfl _ 165 rfl 9 3 Tryz.underlying165 _ b1 _ D1 rfl ((ho1.alloc _).alloc _) ?_; rw [HZ.out])
      | (at_mapUpdate; refine wpList_mapUpdate_own _ rfl _ _ _ 165 rfl 9 3 lawS Tryz.underlying165 _ b1 l.length D1 rfl ((ho1.alloc _).alloc _) HL.out _ _ _ rfl rfl hkey1 _ [] (plainElem_int Tryz.underlying3 hwf) ?_; intro w1 hown1 hgrow1; have q2 := (grown_cell hgrow1 (o := 2) (show w.heap.size + 1 < _ by simp) (by omega)).trans (show _ = some (Value.int .i64 x.kind) by go_simp); have HG := Lib.hid hgrow1; have HO := Lib.hid hown1; clear hgrow1 hown1))
    go_end0
    refine ⟨rfl, ⟨hne, _, D2, by simpa using HO.out, ?_, HI1.out, HZ1.out, HI2.out, HX.out⟩, (((But2.refl w b1 b2).alloc _).alloc _).grown1 HG.out⟩
    exact (ownsMap_grown ((ho2.alloc _).alloc _) HG.out (by omega)).mono (by simp)
  · have hk3 : (x.kind != 3) = true := by simpa using hk
    have hsame : ∀ s, sameText s x = (x.text.toList == s.toList) := fun s => by unfold sameText; rw [hk3]; rfl
    have hi2' : IdxOk (D2.put (.string x.text.data.toList) (.lit (.int .i64 l.length))) (l ++ [x]) sameText := hi2.add hsame (f3 hk)
    have hx1 : ∀ y ∈ l ++ [x], y.kind ≠ 3 → 0 < y.text.size := by
      intro y hy hy3
      rcases List.mem_append.1 hy with h | h
      · exact hx0 y h hy3
      · rw [List.mem_singleton.1 h]
        have h1 := (inB_iff.1 f1).1
        have h2 : 1 ≤ leastOf x.kind := by
          have := inB_iff.1 e3k
          unfold leastOf
          split
          · omega
          · rw [if_pos (by omega)]; omega
        omega
    have HI2 := Lib.hid hi2'; clear hi2' hi2 hsame
    have HX := Lib.hid hx1; clear hx1 hx0
    clear hk f1 f2 f3 e5
    go_enter Tryz.func128, Tryz.ntmps128
    go_wp2_with (first
      | (at_len; refine wpList_len_own _ rfl _ 165 rfl 9 3 Tryz.underlying165 _ b1 _ D1 rfl ((ho1.alloc _).alloc _) ?_; rw [HZ.out])
      | (at_mapUpdate; refine wpList_mapUpdate_own _ rfl _ _ _ 165 rfl 9 3 lawS Tryz.underlying165 _ b1 l.length D1 rfl ((ho1.alloc _).alloc _) HL.out _ _ _ rfl rfl hkey1 _ [] (plainElem_int Tryz.underlying3 hwf) ?_; intro w1 hown1 hgrow1; have q2 := (grown_cell hgrow1 (o := 2) (show w.heap.size + 1 < _ by simp) (by omega)).trans (show _ = some (Value.int .i64 x.kind) by go_simp); have q1 := (grown_cell hgrow1 (o := 1) (show w.heap.size + 1 < _ by simp) (by omega)).trans (show _ = some (Value.string x.text) by go_simp); have q3 := (grown_cell hgrow1 (o := 1) (show w.heap.size < _ by simp <;> omega) (by omega)).trans (show _ = some (Value.map (some b2)) by go_simp); have HG := Lib.hid hgrow1; have HO := Lib.hid hown1; clear hgrow1 hown1)
      | (at_mapUpdate; refine wpList_mapUpdate_own _ rfl _ _ _ 165 rfl 9 3 lawS Tryz.underlying165 _ b2 l.length D2 rfl (ownsMap_grown ((ho2.alloc _).alloc _) HG.out (by omega)) HL.out _ _ _ rfl rfl hkey2 _ [] (plainElem_int Tryz.underlying3 hwf) ?_; intro w2 hown2 hgrow2))
    go_end0
    refine ⟨rfl, ⟨hne, _, _, ?_, by simpa using hown2, HI1.out, HZ1.out, HI2.out, HX.out⟩, ((((But2.refl w b1 b2).alloc _).alloc _).grown1 HG.out).grown2 hgrow2⟩
    have := ownsMap_grown HO.out hgrow2 hne
    simpa using this
end Go.Proofs.YtomblajlpanmjaaGreatDoor

/-
  Nothing known; the test of a fount's frame; learning all sorts of a fount; the check of a fount.
-/
namespace Go.Proofs.YtomblajlpanmjaaGreatDoor
open Go.RowKit Go.Maps

def FreshMaps (w : World) (e : Ending) (w' : World) : Prop :=
  ∃ b1 b2, e = .returned (.agg #[.map (some b1), .map (some b2)]) ∧ KnownAt w' b1 b2 [] ∧ w.heap.size ≤ b1 ∧ w.heap.size ≤ b2 ∧ Below w.heap.size w w'

set_option maxHeartbeats 400000 in
theorem nothingKnown_any (w : World) : Calls Tryz.prog 125 #[] w (FreshMaps w) := by
  have hmm := @run_makeMap Tryz.prog
  go_enter Tryz.func125, Tryz.ntmps125
  go_wp2
  refine bodyPost_ret (v := .agg #[.map (some (w.heap.size + 1)), .map (some (w.heap.size + 2))]) (by simp [results, Tryz.results125, go_sem]) rfl ⟨w.heap.size + 1, w.heap.size + 2, rfl, ⟨by omega, .map [], .map [], ?_, ?_, IdxOk.start _, rfl, IdxOk.start _, fun x hx => by cases hx⟩, by omega, by omega, ?_⟩
  · simpa using (World.ownsMap_made (H := Unit) (w.alloc (.cells #[.map (some (w.heap.size + 1)), .map (some (w.heap.size + 1 + 1))] 167)) Tryz.prog 9 (plainElem Tryz.prog 3)).alloc (.map #[] 0)
  · simpa using (World.ownsMap_made (H := Unit) ((w.alloc (.cells #[.map (some (w.heap.size + 1)), .map (some (w.heap.size + 1 + 1))] 167)).alloc (.map #[] 0)) Tryz.prog 9 (plainElem Tryz.prog 3))
  · exact (((Below.refl _ _).alloc (Nat.le_refl _) _).alloc (by simp) _).alloc (by simp <;> omega) _

theorem frame_name {nm : ByteArray} {body : Int} {n : Nat} (h : isNameB nm = false) : frameErr nm body n = 4 := by unfold frameErr; rw [if_pos h]
theorem frame_body {nm : ByteArray} {body : Int} {n : Nat} (h : isNameB nm = true) (h2 : body < 1 ∨ 144 < body) : frameErr nm body n = 2 := by unfold frameErr; rw [if_neg (by simp [h]), if_pos (inB_no h2)]
theorem frame_len {nm : ByteArray} {body : Int} {n : Nat} (h : isNameB nm = true) (h2 : 1 ≤ body) (h3 : body ≤ 144) : frameErr nm body n = if n = 0 then 10 else if 120 < n then 8 else 0 := by
  unfold frameErr; rw [if_neg (by simp [h]), if_neg (by rw [inB_eq h2 h3]; simp)]

set_option maxRecDepth 100000 in
set_option maxHeartbeats 400000 in
theorem errorOfFrame_any (nm : ByteArray) (body : Int) (a : Option Addr) (n c : Nat) (w : World) (hs : nm.size ≤ maxLen) (hn : n ≤ maxLen) :
    Calls Tryz.prog 126 #[.agg #[.string nm, .int .i64 body, .slice a n c]] w fun e w' => e = .returned (.int .i64 (frameErr nm body n)) ∧ Below w.heap.size w w' := by
  unfold maxLen at hn
  cases h1 : isNameB nm
  · have HE := Lib.hid (frame_name (body := body) (n := n) h1)
    go_enter Tryz.func126, Tryz.ntmps126
    go_wp2_with (go_at_call 157; refine (isName_any _ _ hs).mono ?_; rintro e w' ⟨rfl, rfl⟩)
    go_ret
    exact ⟨ret_int HE.out.symm, (Below.refl _ _).alloc (Nat.le_refl _) _⟩
  by_cases h2 : body < 1 ∨ 144 < body
  · have HE := Lib.hid (frame_body (n := n) h1 h2)
    go_enter Tryz.func126, Tryz.ntmps126
    go_wp2_with (go_at_call 157; refine (isName_any _ _ hs).mono ?_; rintro e w' ⟨rfl, rfl⟩)
    all_goals first | (exfalso; omega) | (exfalso; (simp at *) <;> omega) | skip
    all_goals go_ret
    all_goals exact ⟨ret_int HE.out.symm, (Below.refl _ _).alloc (Nat.le_refl _) _⟩
  have h2a : 1 ≤ body := by omega
  have h2b : body ≤ 144 := by omega
  have HE := Lib.hid (frame_len (n := n) h1 h2a h2b)
  clear h2
  by_cases h3 : n = 0
  · have h3' : ((n : Int) == 0) = true := by simpa using h3
    have H3 := Lib.hid h3; clear h3
    go_enter Tryz.func126, Tryz.ntmps126
    go_wp2_with (go_at_call 157; refine (isName_any _ _ hs).mono ?_; rintro e w' ⟨rfl, rfl⟩)
    go_ret
    exact ⟨ret_int (by rw [HE.out, if_pos H3.out]), (Below.refl _ _).alloc (Nat.le_refl _) _⟩
  · have h3' : ((n : Int) == 0) = false := by simpa using h3
    by_cases h4 : 120 < n
    · go_enter Tryz.func126, Tryz.ntmps126
      go_wp2_with (go_at_call 157; refine (isName_any _ _ hs).mono ?_; rintro e w' ⟨rfl, rfl⟩)
      go_ret
      exact ⟨ret_int (by rw [HE.out, if_neg h3, if_pos h4]), (Below.refl _ _).alloc (Nat.le_refl _) _⟩
    · go_enter Tryz.func126, Tryz.ntmps126
      go_wp2_with (go_at_call 157; refine (isName_any _ _ hs).mono ?_; rintro e w' ⟨rfl, rfl⟩)
      go_ret
      exact ⟨ret_int (by rw [HE.out, if_neg h3, if_neg h4]), (Below.refl _ _).alloc (Nat.le_refl _) _⟩

/-- The four cells of a sort lie at p. -/
def SortAt (w : World) (p : Addr) (x : TS) : Prop :=
  w.cell? p = some (.string x.name) ∧ w.cell? ⟨p.block, p.off + 1, none⟩ = some (.string x.text) ∧ w.cell? ⟨p.block, p.off + 2, none⟩ = some (.int .i64 x.kind) ∧ w.cell? ⟨p.block, p.off + 3, none⟩ = some (.int .i64 x.width)
def SortsAt (w : World) (a : Option Addr) (l : List TS) : Prop :=
  ∀ k, k < l.length → ∃ ad, a = some ad ∧ ad.block < w.heap.size ∧ SortAt w (ad.add (k * 4)) (l.getD k noTS)
def OkF (f : FT) : Prop := f.name.size ≤ maxLen ∧ f.sorts.length ≤ maxLen ∧ ∀ x ∈ f.sorts, x.name.size ≤ maxLen ∧ x.text.size ≤ maxLen
theorem add_block (a : Addr) (n : Nat) : (a.add n).block = a.block := by unfold Addr.add; split <;> rfl
theorem SortAt.below {w w' : World} {p : Addr} {x : TS} {B : Nat} (h : SortAt w p x) (hb : Below B w w') (hB : p.block < B) : SortAt w' p x :=
  ⟨(hb.cell hB).trans h.1, (hb.cell (p := ⟨_, _, none⟩) hB).trans h.2.1, (hb.cell (p := ⟨_, _, none⟩) hB).trans h.2.2.1, (hb.cell (p := ⟨_, _, none⟩) hB).trans h.2.2.2⟩
theorem SortsAt.below {w w' : World} {a : Option Addr} {l : List TS} (h : SortsAt w a l) (hb : Below w.heap.size w w') : SortsAt w' a l := fun k hk => by
  obtain ⟨ad, e, hlt, hs⟩ := h k hk
  exact ⟨ad, e, Nat.lt_of_lt_of_le hlt hb.size, hs.below hb (by rw [add_block]; exact hlt)⟩
theorem SortsAt.at_ {w : World} {a : Option Addr} {l : List TS} {k : Nat} (h : SortsAt w a l) (hk : k < l.length) : ∃ ad, a = some ad ∧ ad.block < w.heap.size ∧ SortAt w (ad.add (k * 4)) (l.getD k noTS) := h k hk
theorem OkF.at_ {f : FT} (h : OkF f) {k : Nat} (hk : k < f.sorts.length) : (f.sorts.getD k noTS).name.size ≤ maxLen ∧ (f.sorts.getD k noTS).text.size ≤ maxLen := by
  rw [getD_eq hk]; exact h.2.2 _ (List.getElem_mem hk)
end Go.Proofs.YtomblajlpanmjaaGreatDoor

/-
  Learning all sorts of a fount, or the first error; the check of a fount.
-/
namespace Go.Proofs.YtomblajlpanmjaaGreatDoor
open Go.RowKit Go.Maps

def Learned (w : World) (f : FT) (e : Ending) (w' : World) : Prop :=
  ∃ b1 b2, e = .returned (.tuple #[.agg #[.map (some b1), .map (some b2)], .int .i64 (checkF f).1, .int .i64 (checkF f).2]) ∧ ((checkF f).2 = 0 → KnownAt w' b1 b2 f.sorts) ∧ Below w.heap.size w w'

theorem KnownAt.setCell {w : World} {b1 b2 : Nat} {l : List TS} (h : KnownAt w b1 b2 l) {p : Addr} (h1 : b1 ≠ p.block) (h2 : b2 ≠ p.block) (u : Value) : KnownAt (w.setCell p u) b1 b2 l := by
  obtain ⟨hn, D1, D2, a, b, r⟩ := h
  exact ⟨hn, D1, D2, a.setCell h1 u, b.setCell h2 u, r⟩
theorem SortsAt.alloc {w : World} {a : Option Addr} {l : List TS} (h : SortsAt w a l) (o : Obj) : SortsAt (w.alloc o) a l := h.below ((Below.refl _ _).alloc (Nat.le_refl _) o)
structure LearnRel (w w1 : World) (b1 b2 : Nat) (f : FT) (k : Nat) (wr : World) : Prop where
  below : Below w.heap.size w wr
  known : KnownAt wr b1 b2 (f.sorts.take k)
  err : firstErr f.sorts f.sorts.length 0 = firstErr f.sorts (f.sorts.length - k) k
  lt : w1.heap.size < wr.heap.size
  k0 : wr.cell? ⟨w1.heap.size, 0, none⟩ = some (.map (some b1))
  k1 : wr.cell? ⟨w1.heap.size, 1, none⟩ = some (.map (some b2))
  r0 : wr.cell? ⟨w.heap.size + 1, 0, none⟩ = some (.map none)
  r1 : wr.cell? ⟨w.heap.size + 1, 1, none⟩ = some (.map none)
  z0 : wr.frozen? ⟨w.heap.size + 1, 0, none⟩ = false
  z1 : wr.frozen? ⟨w.heap.size + 1, 1, none⟩ = false
theorem checkF_of {f : FT} (h : frameErr f.name f.body f.sorts.length = 0) : checkF f = firstErr f.sorts f.sorts.length 0 := by unfold checkF; rw [if_neg (by simp [h])]
theorem checkF_frame {f : FT} (h : frameErr f.name f.body f.sorts.length ≠ 0) : checkF f = (0, frameErr f.name f.body f.sorts.length) := by unfold checkF; rw [if_pos h]
theorem frame_le {f : FT} (h : frameErr f.name f.body f.sorts.length = 0) : f.sorts.length ≤ 120 := by
  unfold frameErr at h
  split at h
  · cases h
  split at h
  · cases h
  split at h
  · cases h
  split at h
  · cases h
  · omega

set_option maxRecDepth 100000 in
set_option maxHeartbeats 1000000 in
theorem learn_any (f : FT) (a : Option Addr) (c : Nat) (w : World) (hO : OkF f) (hF : SortsAt w a f.sorts) (hT : TabOk w) :
    Calls Tryz.prog 87 #[.agg #[.string f.name, .int .i64 f.body, .slice a f.sorts.length c]] w (Learned w f) := by
  have hO1 := hO.1
  have hO2 := hO.2.1
  have hT0 := hT.1
  by_cases h1 : frameErr f.name f.body f.sorts.length = 0
  · have HC := Lib.hid (checkF_of h1)
    have hle := frame_le h1
    go_enter Tryz.func87, Tryz.ntmps87
    go_wp2_with fail
    refine (nothingKnown_any _).mono ?_
    rintro e w1 ⟨b1, b2, rfl, hK, hb1, hb2, hb⟩
    have hz : w.heap.size + 2 ≤ w1.heap.size := by have := hb.size; simpa using this
    have hb1' : w.heap.size + 2 ≤ b1 := by simpa using hb1
    have hb2' : w.heap.size + 2 ≤ b2 := by simpa using hb2
    clear hb1 hb2
    obtain ⟨hc, hf⟩ := bcell hb
    have hlt1 : w.heap.size < w1.heap.size := by omega
    have hlt2 : w.heap.size + 1 < w1.heap.size := by omega
    have hklt := hK.lt
    have hB1 := (((Below.refl w.heap.size w).alloc (Nat.le_refl _) (.cells #[.string f.name, .int .i64 f.body, .slice a f.sorts.length c] 59)).alloc (by simp) (.cells #[.map none, .map none] 167)).trans (hb.mono (B' := w.heap.size) (by simp <;> omega))
    go_wp2_with fail
    refine (errorOfFrame_any _ _ _ _ _ _ hO1 hO2).mono ?_
    rintro e w2 ⟨rfl, hb3⟩
    rw [h1]
    obtain ⟨hc3, hf3⟩ := bcell hb3
    have hz3 : w1.heap.size + 1 ≤ w2.heap.size := by have := hb3.size; simpa using this
    go_wp2_with fail
    have start : LearnRel w w1 b1 b2 f 0 w2 := by
      refine ⟨(hB1.alloc (by omega) _).trans (hb3.mono (B' := w.heap.size) (by simp <;> omega)), ?_, rfl, by omega, ?_, ?_, ?_, ?_, ?_, ?_⟩
      · exact (hK.alloc _).below hb3 (by simp <;> omega) (by simp <;> omega)
      · rw [hc3 _ _ (by simp)]; simp
      · rw [hc3 _ _ (by simp)]; simp
      · rw [hc3 _ _ (by simp <;> omega), World.cell?_alloc_past _ _ _ hlt2, hc _ _ (by simp)]; simp [World.cell?_alloc_at]
      · rw [hc3 _ _ (by simp <;> omega), World.cell?_alloc_past _ _ _ hlt2, hc _ _ (by simp)]; simp [World.cell?_alloc_at]
      · rw [hf3 _ _ (by simp <;> omega), World.frozen?_alloc_past _ _ _ hlt2, hf _ _ (by simp)]; simp [World.frozen?_alloc_at]
      · rw [hf3 _ _ (by simp <;> omega), World.frozen?_alloc_past _ _ _ hlt2, hf _ _ (by simp)]; simp [World.frozen?_alloc_at]
    clear hc hf hc3 hf3 hb hb3 hB1 hK h1
    go_loopw [20] (fun i wr => ∃ k : Nat, k ≤ f.sorts.length ∧ i = .int .i64 k ∧ LearnRel w w1 b1 b2 f k wr) (fun i _ => f.sorts.length - (intOf i).toNat)
    case atStart => exact ⟨0, Nat.zero_le _, rfl, start⟩
    case round =>
      obtain ⟨k, hk, rfl, R⟩ := hrel
      clear start
      by_cases hlt : k < f.sorts.length
      · obtain ⟨ad, rfl, had, s0, s1, s2, s3⟩ := (hF.below R.below).at_ hlt
        have hx := hO.at_ hlt
        obtain ⟨x, ex⟩ : ∃ x, x = f.sorts.getD k noTS := ⟨_, rfl⟩
        rw [← ex] at s0 s1 s2 s3 hx
        have EX := Lib.hid ex; clear ex
        obtain ⟨RB, RK, RE, RL, q0, q1, r0, r1, z0, z1⟩ := R
        have RE' := Lib.hid RE; clear RE
        have hhr : w.heap.size + 1 < wr.heap.size := by omega
        have hadb : (ad.add (k * 4)).block < wr.heap.size := by rw [add_block]; exact had
        have hT1 : TabOk wr := hT.below RB hT0
        have hkl := RK.lt
        go_wp2_with fail
        refine (errorOfSort_any b1 b2 (f.sorts.take k) x _ hx.1 hx.2 (by exact RK.alloc _) (by exact hT1.alloc _)).mono ?_
        rintro e w4 ⟨rfl, hb4⟩
        obtain ⟨hc4, hf4⟩ := bcell hb4
        have hz4 : wr.heap.size + 1 ≤ w4.heap.size := by have := hb4.size; simpa using this
        have hb4' := (Below.alloc (Below.refl wr.heap.size wr) (Nat.le_refl _) (.cells #[.string x.name, .string x.text, .int .i64 x.kind, .int .i64 x.width] 97)).trans (hb4.mono (B' := wr.heap.size) (by simp))
        have RB4 : Below w.heap.size w w4 := RB.trans (hb4'.mono RB.size)
        by_cases he : sortErr (f.sorts.take k) x = 0
        · rw [he]
          have hfe : firstErr f.sorts (f.sorts.length - k) k = firstErr f.sorts (f.sorts.length - (k + 1)) (k + 1) := firstErr_go hlt (by rw [← EX.out]; exact he)
          have HFE := Lib.hid hfe; clear hfe
          have RK4 := RK.below hb4' hkl.1 hkl.2
          have HE := Lib.hid he; clear he
          go_wp2_with fail
          refine (add_any b1 b2 (f.sorts.take k) x _ hx.1 hx.2 RK4 HE.out (by rw [List.length_take]; omega)).mono ?_
          rintro e w5 ⟨rfl, hK5, hB5⟩
          go_wp2
          go_roundw
          case rel =>
            have hs5 := hB5.size
            refine ⟨k + 1, by omega, by go_num, RB4.trans (hB5.below (by omega) (by omega) (by omega)), ?_, RE'.out.trans HFE.out, by omega, ?_, ?_, ?_, ?_, ?_, ?_⟩
            · rw [take_snoc hlt, ← getD_eq hlt, ← EX.out]; exact hK5
            · exact (hB5.cell (by omega) (by omega) (by omega)).trans ((hb4'.cell (p := ⟨_, _, none⟩) RL).trans q0)
            · exact (hB5.cell (by omega) (by omega) (by omega)).trans ((hb4'.cell (p := ⟨_, _, none⟩) RL).trans q1)
            · exact (hB5.cell (by omega) (by omega) (by omega)).trans ((hb4'.cell (p := ⟨_, _, none⟩) hhr).trans r0)
            · exact (hB5.cell (by omega) (by omega) (by omega)).trans ((hb4'.cell (p := ⟨_, _, none⟩) hhr).trans r1)
            · exact (hB5.frozen (by omega) (by omega) (by omega)).trans ((hb4'.frozen (p := ⟨_, _, none⟩) hhr).trans z0)
            · exact (hB5.frozen (by omega) (by omega) (by omega)).trans ((hb4'.frozen (p := ⟨_, _, none⟩) hhr).trans z1)
          case measure => simp [intOf]; omega
        · have hfe : firstErr f.sorts (f.sorts.length - k) k = ((k : Int), sortErr (f.sorts.take k) x) := by rw [EX.out]; exact firstErr_stop hlt (by rw [← EX.out]; exact he)
          have HFE := Lib.hid hfe; clear hfe
          have heb : (sortErr (f.sorts.take k) x != 0) = true := by simpa using he
          have HE := Lib.hid he; clear he
          have q0' : w4.cell? ⟨w1.heap.size, 0, none⟩ = some (.map (some b1)) := (hb4'.cell (p := ⟨_, _, none⟩) RL).trans q0
          have q1' : w4.cell? ⟨w1.heap.size, 1, none⟩ = some (.map (some b2)) := (hb4'.cell (p := ⟨_, _, none⟩) RL).trans q1
          have r0' : w4.cell? ⟨w.heap.size + 1, 0, none⟩ = some (.map none) := (hb4'.cell (p := ⟨_, _, none⟩) hhr).trans r0
          have r1' : w4.cell? ⟨w.heap.size + 1, 1, none⟩ = some (.map none) := (hb4'.cell (p := ⟨_, _, none⟩) hhr).trans r1
          have z0' : w4.frozen? ⟨w.heap.size + 1, 0, none⟩ = false := (hb4'.frozen (p := ⟨_, _, none⟩) hhr).trans z0
          have z1' : w4.frozen? ⟨w.heap.size + 1, 1, none⟩ = false := (hb4'.frozen (p := ⟨_, _, none⟩) hhr).trans z1
          clear hc4 hf4
          go_wp2
          refine bodyPost_ret (v := .tuple #[.agg #[.map (some b1), .map (some b2)], .int .i64 k, .int .i64 (sortErr (f.sorts.take k) x)]) ?_ rfl ?_
          · simp [results, Tryz.results87, go_sem, r0', r1']
          · exact ⟨b1, b2, by rw [HC.out, RE'.out, HFE.out], fun h0 => absurd (by rw [HC.out, RE'.out, HFE.out] at h0; exact h0) HE.out, (RB4.setCell (by simp) _).setCell (by simp) _⟩
      · obtain ⟨RB, RK, RE, RL, q0, q1, r0, r1, z0, z1⟩ := R
        have HFE := Lib.hid (RE.trans (firstErr_end hlt))
        clear RE
        have hhr : w.heap.size + 1 < wr.heap.size := by omega
        have hkn : k = f.sorts.length := by omega
        have HK := Lib.hid hkn; clear hkn
        go_wp2
        refine bodyPost_ret (v := .tuple #[.agg #[.map (some b1), .map (some b2)], .int .i64 0, .int .i64 0]) ?_ rfl ?_
        · simp [results, Tryz.results87, go_sem, r0, r1]
        · refine ⟨b1, b2, by rw [HC.out, HFE.out], fun _ => ?_, (RB.setCell (by simp) _).setCell (by simp) _⟩
          rw [HK.out, List.take_length] at RK
          exact (RK.setCell (by show b1 ≠ w.heap.size + 1; omega) (by show b2 ≠ w.heap.size + 1; omega) _).setCell (by show b1 ≠ w.heap.size + 1; omega) (by show b2 ≠ w.heap.size + 1; omega) _
  · have HC := Lib.hid (checkF_frame h1)
    have heb : (frameErr f.name f.body f.sorts.length != 0) = true := by simpa using h1
    have H1 := Lib.hid h1; clear h1
    go_enter Tryz.func87, Tryz.ntmps87
    go_wp2_with fail
    refine (nothingKnown_any _).mono ?_
    rintro e w1 ⟨b1, b2, rfl, hK, hb1, hb2, hb⟩
    have hz : w.heap.size + 2 ≤ w1.heap.size := by have := hb.size; simpa using this
    have hb1' : w.heap.size + 2 ≤ b1 := by simpa using hb1
    have hb2' : w.heap.size + 2 ≤ b2 := by simpa using hb2
    clear hb1 hb2
    obtain ⟨hc, hf⟩ := bcell hb
    have hlt1 : w.heap.size < w1.heap.size := by omega
    have hlt2 : w.heap.size + 1 < w1.heap.size := by omega
    have hklt := hK.lt
    have hB1 := (((Below.refl w.heap.size w).alloc (Nat.le_refl _) (.cells #[.string f.name, .int .i64 f.body, .slice a f.sorts.length c] 59)).alloc (by simp) (.cells #[.map none, .map none] 167)).trans (hb.mono (B' := w.heap.size) (by simp <;> omega))
    go_wp2_with fail
    refine (errorOfFrame_any _ _ _ _ _ _ hO1 hO2).mono ?_
    rintro e w2 ⟨rfl, hb3⟩
    have hz3 : w1.heap.size + 1 ≤ w2.heap.size := by have := hb3.size; simpa using this
    have hB2 := (hB1.alloc (by omega) (.cells #[.map (some b1), .map (some b2)] 167)).trans (hb3.mono (B' := w.heap.size) (by simp <;> omega))
    obtain ⟨hc3, hf3⟩ := bcell hb3
    have q0 : w2.cell? ⟨w1.heap.size, 0, none⟩ = some (.map (some b1)) := by rw [hc3 _ _ (by simp)]; simp
    have q1 : w2.cell? ⟨w1.heap.size, 1, none⟩ = some (.map (some b2)) := by rw [hc3 _ _ (by simp)]; simp
    have r0 : w2.cell? ⟨w.heap.size + 1, 0, none⟩ = some (.map none) := by rw [hc3 _ _ (by simp <;> omega), World.cell?_alloc_past _ _ _ hlt2, hc _ _ (by simp)]; simp [World.cell?_alloc_at]
    have r1 : w2.cell? ⟨w.heap.size + 1, 1, none⟩ = some (.map none) := by rw [hc3 _ _ (by simp <;> omega), World.cell?_alloc_past _ _ _ hlt2, hc _ _ (by simp)]; simp [World.cell?_alloc_at]
    have z0 : w2.frozen? ⟨w.heap.size + 1, 0, none⟩ = false := by rw [hf3 _ _ (by simp <;> omega), World.frozen?_alloc_past _ _ _ hlt2, hf _ _ (by simp)]; simp [World.frozen?_alloc_at]
    have z1 : w2.frozen? ⟨w.heap.size + 1, 1, none⟩ = false := by rw [hf3 _ _ (by simp <;> omega), World.frozen?_alloc_past _ _ _ hlt2, hf _ _ (by simp)]; simp [World.frozen?_alloc_at]
    clear hc hf hc3 hf3 hK
    go_wp2
    refine bodyPost_ret (v := .tuple #[.agg #[.map (some b1), .map (some b2)], .int .i64 0, .int .i64 (frameErr f.name f.body f.sorts.length)]) ?_ rfl ?_
    · simp [results, Tryz.results87, go_sem, r0, r1]
    · exact ⟨b1, b2, by rw [HC.out], fun h0 => absurd (by rw [HC.out] at h0; exact h0) H1.out, (hB2.setCell (by simp) _).setCell (by simp) _⟩

/-- The check of a fount. -/
def Checked2 (w : World) (f : FT) (e : Ending) (w' : World) : Prop := e = .returned (.tuple #[.int .i64 (checkF f).1, .int .i64 (checkF f).2]) ∧ Below w.heap.size w w'
set_option maxRecDepth 100000 in
set_option maxHeartbeats 1000000 in
theorem checkFount_any (f : FT) (a : Option Addr) (c : Nat) (w : World) (hO : OkF f) (hF : SortsAt w a f.sorts) (hT : TabOk w) :
    Calls Tryz.prog 82 #[.agg #[.string f.name, .int .i64 f.body, .slice a f.sorts.length c]] w (Checked2 w f) := by
  go_enter Tryz.func82, Tryz.ntmps82
  go_wp2_with fail
  refine (learn_any f a c _ hO (by exact hF.alloc _) (by exact hT.alloc _)).mono ?_
  rintro e w1 ⟨b1, b2, rfl, _, hb⟩
  have hB := ((Below.refl w.heap.size w).alloc (Nat.le_refl _) (.cells #[.string f.name, .int .i64 f.body, .slice a f.sorts.length c] 59)).trans (hb.mono (B' := w.heap.size) (by simp))
  have hz := hB.size
  clear hb
  go_wp2
  go_ret2
  exact ⟨rfl, hB.alloc hz _⟩
end Go.Proofs.YtomblajlpanmjaaGreatDoor
