/-
  What the reader's tests of one sort answer: of its name, its width, what it prints.
-/
import Derived.Test.YtjkcomafgkabeaaDoorA2
import Derived.Maps.OwnSet
import Derived.Maps.OwnOps
namespace Go.Proofs.YtjkcomafgkabeaaDoor
open Go.RowKit Go.Maps

theorem lawS : Keyed Tryd.prog 9 := string_keyed Tryd.underlying9
theorem zeroInt (w : World) : (zeroValue 3).run Tryd.prog w = .ok (.int .i64 0) w := by kernel_rfl

/-- The two maps of what is known of the sorts l. -/
def KnownAt (w : World) (b1 b2 : Nat) (l : List TS) : Prop :=
  b1 ≠ b2 ∧ ∃ D1 D2 : DataW Unit, w.ownsMap Tryd.prog 9 (plainElem Tryd.prog 3) b1 l.length D1 ∧ w.ownsMap Tryd.prog 9 (plainElem Tryd.prog 3) b2 l.length D2 ∧
    IdxOk D1 l sameName ∧ Maps.size D1 = l.length ∧ IdxOk D2 l sameText ∧ ∀ x ∈ l, x.kind ≠ 3 → 0 < x.text.size

theorem ownsMap_below {w w' : World} {B b n : Nat} {k e : TypeId} {D : DataW Unit} (h : w.ownsMap Tryd.prog k (plainElem Tryd.prog e) b n D) (hb : Below B w w') (hB : b < B) : w'.ownsMap Tryd.prog k (plainElem Tryd.prog e) b n D := by
  obtain ⟨es, c, h1, h2⟩ := h
  exact ⟨es, c, (hb.block b hB).trans h1, h2⟩
theorem KnownAt.below {w w' : World} {b1 b2 B : Nat} {l : List TS} (h : KnownAt w b1 b2 l) (hb : Below B w w') (h1 : b1 < B) (h2 : b2 < B) : KnownAt w' b1 b2 l := by
  obtain ⟨hn, D1, D2, a, b, r⟩ := h
  exact ⟨hn, D1, D2, ownsMap_below a hb h1, ownsMap_below b hb h2, r⟩
theorem KnownAt.lt {w : World} {b1 b2 : Nat} {l : List TS} (h : KnownAt w b1 b2 l) : b1 < w.heap.size ∧ b2 < w.heap.size := by
  obtain ⟨_, D1, D2, a, b, _⟩ := h
  exact ⟨a.lt, b.lt⟩

theorem nameErr_bad {l : List TS} {s : ByteArray} (h : isNameB s = false) : nameErr l s = 4 := by unfold nameErr; rw [if_pos h]
theorem nameErr_dup {l : List TS} {s : ByteArray} (h : isNameB s = true) (h2 : l.any (sameName s) = true) : nameErr l s = 5 := by unfold nameErr; rw [if_neg (by simp [h]), if_pos h2]
theorem nameErr_ok {l : List TS} {s : ByteArray} (h : isNameB s = true) (h2 : l.any (sameName s) = false) : nameErr l s = 0 := by unfold nameErr; rw [if_neg (by simp [h]), if_neg (by simp [h2])]

set_option maxHeartbeats 400000 in
theorem errorOfName_any (b1 b2 : Nat) (l : List TS) (s : ByteArray) (w : World) (hs : s.size ≤ maxLen) (hK : KnownAt w b1 b2 l) :
    Calls Tryd.prog 108 #[.agg #[.map (some b1), .map (some b2)], .string s] w fun e w' => e = .returned (.int .i64 (nameErr l s)) ∧ Below w.heap.size w w' := by
  obtain ⟨hne, D1, D2, ho1, ho2, hi1, hz1, hi2, hx0⟩ := hK
  have hkey := WideMaps.keyOf_string_mk (P := Tryd.prog) Tryd.underlying9 hs
  have hh := hi1.has s
  clear hz1 hi2 hi1 hx0
  cases hn : isNameB s
  · have HE := Lib.hid (nameErr_bad (l := l) hn)
    have HH := Lib.hid hh; clear hh
    go_enter Tryd.func108, Tryd.ntmps108
    go_wp2_with (go_at_call 107; refine (isName_any _ _ hs).mono ?_; rintro e w' ⟨rfl, rfl⟩)
    go_ret
    exact ⟨ret_int HE.out.symm, (Below.refl _ _).alloc (Nat.le_refl _) _⟩
  · cases ha : l.any (sameName s)
    · have HE := Lib.hid (nameErr_ok hn ha)
      rw [ha] at hh
      clear ha
      go_enter Tryd.func108, Tryd.ntmps108
      go_wp2_with (first | (go_at_call 107; refine (isName_any _ _ hs).mono ?_; rintro e w' ⟨rfl, rfl⟩) | (at_lookup; refine wpList_lookup_own_ok_int _ rfl _ _ 95 rfl 9 3 .i64 lawS Tryd.underlying95 Tryd.underlying3 (zeroInt _) b1 _ _ rfl (ho1.alloc _) _ _ rfl hkey ?_; intro c hat hwc))
      go_ret
      exact ⟨ret_int HE.out.symm, (Below.refl _ _).alloc (Nat.le_refl _) _⟩
    · have HE := Lib.hid (nameErr_dup hn ha)
      rw [ha] at hh
      clear ha
      go_enter Tryd.func108, Tryd.ntmps108
      go_wp2_with (first | (go_at_call 107; refine (isName_any _ _ hs).mono ?_; rintro e w' ⟨rfl, rfl⟩) | (at_lookup; refine wpList_lookup_own_ok_int _ rfl _ _ 95 rfl 9 3 .i64 lawS Tryd.underlying95 Tryd.underlying3 (zeroInt _) b1 _ _ rfl (ho1.alloc _) _ _ rfl hkey ?_; intro c hat hwc))
      go_ret
      exact ⟨ret_int HE.out.symm, (Below.refl _ _).alloc (Nat.le_refl _) _⟩

theorem widthErr_bad {n : Int} (h : n < 1 ∨ 100000 < n) : widthErr n = 2 := by
  unfold widthErr inB; rw [if_pos (decide_eq_false (by omega))]
theorem widthErr_ok {n : Int} (h : 1 ≤ n) (h2 : n ≤ 100000) : widthErr n = 0 := by
  unfold widthErr inB; rw [if_neg (by rw [decide_eq_true ⟨h, h2⟩]; simp)]
set_option maxHeartbeats 400000 in
theorem errorOfWidth_any (n : Int) (w : World) :
    Calls Tryd.prog 109 #[.int .i64 n] w fun e w' => e = .returned (.int .i64 (widthErr n)) ∧ w = w' := by
  by_cases h : 1 ≤ n ∧ n ≤ 100000
  · have HE := Lib.hid (widthErr_ok h.1 h.2)
    obtain ⟨h1, h2⟩ := h
    go_enter Tryd.func109, Tryd.ntmps109
    go_wp2
    go_ret
    exact ⟨ret_int HE.out.symm, rfl⟩
  · have HE := Lib.hid (widthErr_bad (n := n) (by omega))
    go_enter Tryd.func109, Tryd.ntmps109
    go_wp2
    all_goals first | (exfalso; omega) | (exfalso; (simp at *) <;> omega) | skip
    all_goals go_ret
    all_goals exact ⟨ret_int HE.out.symm, rfl⟩
end Go.Proofs.YtjkcomafgkabeaaDoor
