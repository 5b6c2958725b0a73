/-
  The plain mathematics of founts: sorts, the first error of a fount, what the two maps of a reader hold. No program is named here.
-/
import Derived.WalkKit
import Derived.Maps.OwnSet
namespace Go.Proofs.YtjkcomafgkabeaaDoor
open Go.RowKit

structure TS where
  name : ByteArray
  text : ByteArray
  kind : Int
  width : Int

def noTS : TS := ⟨ByteArray.empty, ByteArray.empty, 0, 0⟩

def letB (c : Int) : Bool := decide ((97 ≤ c ∧ c ≤ 122) ∨ (65 ≤ c ∧ c ≤ 90))
def digB (c : Int) : Bool := decide (48 ≤ c ∧ c ≤ 57)
def dashB (c : Int) : Bool := decide (c = 45)
def nmB (c : Int) : Bool := letB c || digB c || dashB c
def inB (n lo hi : Int) : Bool := decide (lo ≤ n ∧ n ≤ hi)
def nmsB (l : List UInt8) : Bool := l.all fun c => nmB (c.toNat : Int)
/-- A name: 1 to 12 letters, digits and dashes, a letter first. -/
def isNameB (s : ByteArray) : Bool := decide (1 ≤ s.size) && decide (s.size ≤ 12) && letB ((s.data.toList.headD 0).toNat : Int) && nmsB s.data.toList

/-- How many bytes a kind prints at least, at most. -/
def leastOf (kind : Int) : Int := if kind = 1 then 1 else if kind = 2 then 2 else 0
def mostOf (kind : Int) : Int := if kind = 1 then 1 else if kind = 2 then 4 else 0
def badB (c : Int) : Bool := decide (c < 33 ∨ 126 < c)
def badsB (l : List UInt8) : Bool := l.any fun c => badB (c.toNat : Int)
def sameName (s : ByteArray) (x : TS) : Bool := x.name.toList == s.toList
def sameText (s : ByteArray) (x : TS) : Bool := x.kind != 3 && x.text.toList == s.toList
/-- The error of what a sort of a kind prints, behind other sorts. -/
def textErr (before : List TS) (kind : Int) (s : ByteArray) : Int :=
  if inB s.size (leastOf kind) (mostOf kind) = false then 3 else if badsB s.data.toList = true then 3 else if kind ≠ 3 ∧ before.any (sameText s) = true then 13 else 0
def nameErr (before : List TS) (s : ByteArray) : Int := if isNameB s = false then 4 else if before.any (sameName s) = true then 5 else 0
def widthErr (n : Int) : Int := if inB n 1 100000 = false then 2 else 0
def sortErr (before : List TS) (x : TS) : Int :=
  if nameErr before x.name ≠ 0 then nameErr before x.name else if inB x.kind 1 3 = false then 15 else if widthErr x.width ≠ 0 then widthErr x.width else textErr before x.kind x.text
def frameErr (name : ByteArray) (body : Int) (n : Nat) : Int :=
  if isNameB name = false then 4 else if inB body 1 144 = false then 2 else if n = 0 then 10 else if 120 < n then 8 else 0
/-- The first sort with an error, from the i-th on: its number, the error. -/
def firstErr (l : List TS) : Nat → Nat → Int × Int
  | 0, _ => (0, 0)
  | n + 1, i => if sortErr (l.take i) (l.getD i noTS) ≠ 0 then ((i : Int), sortErr (l.take i) (l.getD i noTS)) else firstErr l n (i + 1)
structure FT where
  name : ByteArray
  body : Int
  sorts : List TS
def checkF (f : FT) : Int × Int := if frameErr f.name f.body f.sorts.length ≠ 0 then (0, frameErr f.name f.body f.sorts.length) else firstErr f.sorts f.sorts.length 0

theorem firstErr_go {l : List TS} {k : Nat} (h : k < l.length) (e : sortErr (l.take k) (l.getD k noTS) = 0) : firstErr l (l.length - k) k = firstErr l (l.length - (k + 1)) (k + 1) := by
  obtain ⟨m, hm⟩ : ∃ m, l.length - k = m + 1 := ⟨l.length - k - 1, by omega⟩
  rw [hm, show l.length - (k + 1) = m by omega]
  show (if _ then _ else _) = _
  rw [if_neg (fun h => h e)]
theorem firstErr_stop {l : List TS} {k : Nat} (h : k < l.length) (e : sortErr (l.take k) (l.getD k noTS) ≠ 0) : firstErr l (l.length - k) k = ((k : Int), sortErr (l.take k) (l.getD k noTS)) := by
  obtain ⟨m, hm⟩ : ∃ m, l.length - k = m + 1 := ⟨l.length - k - 1, by omega⟩
  rw [hm]
  unfold firstErr
  rw [if_pos e]
theorem firstErr_end {l : List TS} {k : Nat} (h : ¬ k < l.length) : firstErr l (l.length - k) k = (0, 0) := by
  rw [show l.length - k = 0 by omega]; rfl

theorem getD_eq {l : List TS} {k : Nat} (h : k < l.length) : l.getD k noTS = l[k] := by
  rw [List.getD_eq_getElem?_getD, List.getElem?_eq_getElem h]; rfl
theorem take_snoc {l : List TS} {k : Nat} (h : k < l.length) : l.take (k + 1) = l.take k ++ [l[k]] := by
  rw [List.take_succ_eq_append_getElem h]

theorem isKey_str (b : List UInt8) : WideAt.IsKeyLit (.string b) := by unfold WideAt.IsKeyLit; trivial

/-- What a map from texts to numbers holds: of each text the number of the first sort that has it. -/
def IdxOk (D : DataW Unit) (l : List TS) (p : ByteArray → TS → Bool) : Prop :=
  Maps.Tidy D ∧ ∀ s : ByteArray, (l.findIdx? (p s) = none → Maps.has D (.string s.data.toList) = false) ∧
    ∀ i : Nat, l.findIdx? (p s) = some i → Maps.has D (.string s.data.toList) = true ∧ ∀ z, D.atKey (.string s.data.toList) z = .lit (.int .i64 i)

theorem any_none {l : List TS} {p : TS → Bool} (h : l.findIdx? p = none) : l.any p = false := by
  rw [List.findIdx?_eq_none_iff] at h
  simpa using h
theorem any_some {l : List TS} {p : TS → Bool} {i : Nat} (h : l.findIdx? p = some i) : l.any p = true := by
  rw [List.findIdx?_eq_some_iff_getElem] at h
  obtain ⟨hi, hp, _⟩ := h
  exact List.any_eq_true.2 ⟨l[i], List.getElem_mem hi, hp⟩
theorem none_of_any {l : List TS} {p : TS → Bool} (h : l.any p = false) : l.findIdx? p = none := by
  rw [List.findIdx?_eq_none_iff]; simpa using h

theorem IdxOk.has {D : DataW Unit} {l : List TS} {p : ByteArray → TS → Bool} (h : IdxOk D l p) (s : ByteArray) : Maps.has D (.string s.data.toList) = l.any (p s) := by
  cases e : l.findIdx? (p s) with
  | none => rw [(h.2 s).1 e, any_none e]
  | some i => rw [((h.2 s).2 i e).1, any_some e]
theorem IdxOk.start (p : ByteArray → TS → Bool) : IdxOk (.map []) [] p := ⟨Maps.tidy_empty, fun s => ⟨fun _ => rfl, fun i h => by simp at h⟩⟩
theorem IdxOk.skip {D : DataW Unit} {l : List TS} {p : ByteArray → TS → Bool} (h : IdxOk D l p) {x : TS} (hx : ∀ s, p s x = false) : IdxOk D (l ++ [x]) p := by
  refine ⟨h.1, fun s => ?_⟩
  have e : (l ++ [x]).findIdx? (p s) = l.findIdx? (p s) := by
    rw [List.findIdx?_append]
    cases l.findIdx? (p s) <;> simp [List.findIdx?_cons, hx s]
  rw [e]; exact h.2 s
theorem IdxOk.add {D : DataW Unit} {l : List TS} {p : ByteArray → TS → Bool} (h : IdxOk D l p) {x : TS} {nm : ByteArray} (hx : ∀ s, p s x = (nm.toList == s.toList)) (hn : l.any (p nm) = false) :
    IdxOk (D.put (.string nm.data.toList) (.lit (.int .i64 l.length))) (l ++ [x]) p := by
  have hk := isKey_str nm.data.toList
  refine ⟨h.1.put hk _, fun s => ?_⟩
  by_cases hs : s.data.toList = nm.data.toList
  · obtain rfl : s = nm := WideShapes.bytes_inj hs
    have e : (l ++ [x]).findIdx? (p s) = some l.length := by
      rw [List.findIdx?_append, none_of_any hn]
      simp [List.findIdx?_cons, hx s]
    rw [e]
    exact ⟨fun h => (by cases h), fun i hi => by cases hi; exact ⟨Maps.has_put_same h.1.isMap hk _, fun z => Maps.atKey_put_same h.1.isMap hk _ z⟩⟩
  · have hne : (Lit.string s.data.toList) ≠ .string nm.data.toList := fun e => hs (by injection e)
    have e : (l ++ [x]).findIdx? (p s) = l.findIdx? (p s) := by
      have : p s x = false := by
        rw [hx s, ByteArray.toList_eq, ByteArray.toList_eq]
        exact beq_false_of_ne (fun e => hs e.symm)
      rw [List.findIdx?_append]
      cases l.findIdx? (p s) <;> simp [List.findIdx?_cons, this]
    rw [e]
    refine ⟨fun hh => by rw [Maps.has_put_other hne]; exact (h.2 s).1 hh, fun i hi => ?_⟩
    rw [Maps.has_put_other hne]
    exact ⟨((h.2 s).2 i hi).1, fun z => by rw [Maps.atKey_put_other hne]; exact ((h.2 s).2 i hi).2 z⟩
theorem IdxOk.size_add {D : DataW Unit} {l : List TS} {p : ByteArray → TS → Bool} (h : IdxOk D l p) {nm : ByteArray} (hn : l.any (p nm) = false) (d : DataW Unit) :
    Maps.size (D.put (.string nm.data.toList) d) = Maps.size D + 1 := by
  rw [Maps.size_put h.1, h.has, hn]; rfl

theorem sortErr_zero {l : List TS} {x : TS} (h : sortErr l x = 0) : isNameB x.name = true ∧ l.any (sameName x.name) = false ∧ inB x.kind 1 3 = true ∧ inB x.width 1 100000 = true ∧ textErr l x.kind x.text = 0 := by
  unfold sortErr at h
  split at h
  · rename_i h1; exact absurd h h1
  rename_i h1
  split at h
  · cases h
  rename_i h2
  split at h
  · rename_i h3; exact absurd h h3
  rename_i h3
  simp only [nameErr, widthErr, Decidable.not_not] at h1 h3
  refine ⟨?_, ?_, by simpa using h2, ?_, h⟩
  · cases e : isNameB x.name
    · rw [e] at h1; simp at h1
    · rfl
  · cases e : l.any (sameName x.name)
    · rfl
    · cases e' : isNameB x.name <;> simp [e, e'] at h1
  · cases e : inB x.width 1 100000
    · rw [e] at h3; simp at h3
    · rfl
theorem textErr_zero {l : List TS} {k : Int} {s : ByteArray} (h : textErr l k s = 0) : inB s.size (leastOf k) (mostOf k) = true ∧ badsB s.data.toList = false ∧ (k ≠ 3 → l.any (sameText s) = false) := by
  unfold textErr at h
  split at h
  · cases h
  split at h
  · cases h
  split at h
  · cases h
  rename_i h1 h2 h3
  refine ⟨by simpa using h1, by simpa using h2, fun hk => ?_⟩
  cases e : l.any (sameText s)
  · rfl
  · exact absurd ⟨hk, e⟩ h3
end Go.Proofs.YtjkcomafgkabeaaDoor
