/-
  The test of a whole sort; taking a sort; nothing known; the test of a fount's frame.
-/
import Derived.Test.YtjkcomafgkabeaaDoorA4
namespace Go.Proofs.YtjkcomafgkabeaaDoor
open Go.RowKit Go.Maps

theorem bcell {W w1 : World} {B : Nat} (hb : Below B W w1) : (∀ b o, b < B → w1.cell? ⟨b, o, none⟩ = W.cell? ⟨b, o, none⟩) ∧ (∀ b o, b < B → w1.frozen? ⟨b, o, none⟩ = W.frozen? ⟨b, o, none⟩) :=
  ⟨fun b o h => hb.cell (p := ⟨b, o, none⟩) h, fun b o h => hb.frozen (p := ⟨b, o, none⟩) h⟩
theorem KnownAt.alloc {w : World} {b1 b2 : Nat} {l : List TS} (h : KnownAt w b1 b2 l) (o : Obj) : KnownAt (w.alloc o) b1 b2 l :=
  h.below ((Below.refl _ _).alloc (Nat.le_refl _) o) h.lt.1 h.lt.2
theorem TabOk.alloc {w : World} (h : TabOk w) (o : Obj) : TabOk (w.alloc o) := h.below ((Below.refl _ _).alloc (Nat.le_refl _) o) h.1

theorem sortErr_name {l : List TS} {x : TS} (h : nameErr l x.name ≠ 0) : sortErr l x = nameErr l x.name := by unfold sortErr; rw [if_pos h]
theorem sortErr_kind {l : List TS} {x : TS} (h : nameErr l x.name = 0) (h2 : inB x.kind 1 3 = false) : sortErr l x = 15 := by unfold sortErr; rw [if_neg (by simp [h]), if_pos h2]
theorem sortErr_width {l : List TS} {x : TS} (h : nameErr l x.name = 0) (h2 : inB x.kind 1 3 = true) (h3 : widthErr x.width ≠ 0) : sortErr l x = widthErr x.width := by
  unfold sortErr; rw [if_neg (by simp [h]), if_neg (by simp [h2]), if_pos h3]
theorem sortErr_text {l : List TS} {x : TS} (h : nameErr l x.name = 0) (h2 : inB x.kind 1 3 = true) (h3 : widthErr x.width = 0) : sortErr l x = textErr l x.kind x.text := by
  unfold sortErr; rw [if_neg (by simp [h]), if_neg (by simp [h2]), if_neg (by simp [h3])]
theorem inB_iff {n lo hi : Int} : inB n lo hi = true ↔ lo ≤ n ∧ n ≤ hi := by unfold inB; simp

def tsVal (x : TS) : Value := .agg #[.string x.name, .string x.text, .int .i64 x.kind, .int .i64 x.width]

set_option maxRecDepth 100000 in
set_option maxHeartbeats 1000000 in
theorem errorOfSort_any (b1 b2 : Nat) (l : List TS) (x : TS) (w : World) (hs1 : x.name.size ≤ maxLen) (hs2 : x.text.size ≤ maxLen) (hK : KnownAt w b1 b2 l) (hT : TabOk w) :
    Calls Tryd.prog 97 #[.agg #[.map (some b1), .map (some b2)], .agg #[.string x.name, .string x.text, .int .i64 x.kind, .int .i64 x.width]] w fun e w' => e = .returned (.int .i64 (sortErr l x)) ∧ Below w.heap.size w w' := by
  have hlt := hK.lt
  have hT0 := hT.1
  by_cases h1 : nameErr l x.name = 0
  · by_cases h2 : 1 ≤ x.kind ∧ x.kind ≤ 3
    · have h2' := inB_iff.2 h2
      by_cases h3 : widthErr x.width = 0
      · have HE := Lib.hid (sortErr_text h1 h2' h3)
        obtain ⟨h2a, h2b⟩ := h2
        clear h2'
        go_enter Tryd.func97, Tryd.ntmps97
        go_wp2_with fail
        refine (errorOfName_any b1 b2 l _ _ hs1 (by exact (hK.alloc _).alloc _)).mono ?_
        rintro e w1 ⟨rfl, hb⟩
        rw [h1]
        obtain ⟨hc, hf⟩ := bcell hb
        have hz : w.heap.size + 2 ≤ w1.heap.size := by have := hb.size; simpa using this
        have hB := ((((Below.refl w.heap.size w).alloc (Nat.le_refl _) (.cells #[.map (some b1), .map (some b2)] 97)).alloc (by simp) (.cells #[.string x.name, .string x.text, .int .i64 x.kind, .int .i64 x.width] 47)).trans (hb.mono (by simp <;> omega)))
        have hK1 := (hK.below hB hlt.1 hlt.2)
        have hT1 := (hT.below hB hT0)
        go_wp2_with fail
        refine (errorOfWidth_any _ _).mono ?_
        rintro e w' ⟨rfl, rfl⟩
        rw [h3]
        go_wp2_with fail
        refine (errorOfText_any b1 b2 l _ _ _ hs2 ⟨h2a, h2b⟩ hK1 hT1).mono ?_
        rintro e w2 ⟨rfl, hb2⟩
        go_wp2
        go_ret
        exact ⟨ret_int HE.out.symm, hB.trans (hb2.mono (by omega))⟩
      · have HE := Lib.hid (sortErr_width h1 h2' h3)
        have h3b : (widthErr x.width != 0) = true := by simpa using h3
        obtain ⟨h2a, h2b⟩ := h2
        clear h2' h3
        go_enter Tryd.func97, Tryd.ntmps97
        go_wp2_with fail
        refine (errorOfName_any b1 b2 l _ _ hs1 (by exact (hK.alloc _).alloc _)).mono ?_
        rintro e w1 ⟨rfl, hb⟩
        rw [h1]
        obtain ⟨hc, hf⟩ := bcell hb
        have hz : w.heap.size + 2 ≤ w1.heap.size := by have := hb.size; simpa using this
        have hB := ((((Below.refl w.heap.size w).alloc (Nat.le_refl _) (.cells #[.map (some b1), .map (some b2)] 97)).alloc (by simp) (.cells #[.string x.name, .string x.text, .int .i64 x.kind, .int .i64 x.width] 47)).trans (hb.mono (by simp <;> omega)))
        go_wp2_with fail
        refine (errorOfWidth_any _ _).mono ?_
        rintro e w' ⟨rfl, rfl⟩
        go_wp2
        go_ret
        exact ⟨ret_int HE.out.symm, hB⟩
    · have h2' : inB x.kind 1 3 = false := by rw [Bool.eq_false_iff]; exact fun h => h2 (inB_iff.1 h)
      have HE := Lib.hid (sortErr_kind h1 h2')
      clear h2'
      first
      | (
        go_enter Tryd.func97, Tryd.ntmps97
        go_wp2_with fail
        refine (errorOfName_any b1 b2 l _ _ hs1 (by exact (hK.alloc _).alloc _)).mono ?_
        rintro e w1 ⟨rfl, hb⟩
        rw [h1]
        obtain ⟨hc, hf⟩ := bcell hb
        have hz : w.heap.size + 2 ≤ w1.heap.size := by have := hb.size; simpa using this
        have hB := ((((Below.refl w.heap.size w).alloc (Nat.le_refl _) (.cells #[.map (some b1), .map (some b2)] 97)).alloc (by simp) (.cells #[.string x.name, .string x.text, .int .i64 x.kind, .int .i64 x.width] 47)).trans (hb.mono (by simp <;> omega)))
        go_wp2
        all_goals first | (exfalso; omega) | (exfalso; (simp at *) <;> omega) | skip
        all_goals go_ret
        all_goals exact ⟨ret_int HE.out.symm, hB⟩)
  · have HE := Lib.hid (sortErr_name h1)
    have h1b : (nameErr l x.name != 0) = true := by simpa using h1
    clear h1
    first
    | (
        go_enter Tryd.func97, Tryd.ntmps97
        go_wp2_with fail
        refine (errorOfName_any b1 b2 l _ _ hs1 (by exact (hK.alloc _).alloc _)).mono ?_
        rintro e w1 ⟨rfl, hb⟩
        obtain ⟨hc, hf⟩ := bcell hb
        have hz : w.heap.size + 2 ≤ w1.heap.size := by have := hb.size; simpa using this
        have hB := ((((Below.refl w.heap.size w).alloc (Nat.le_refl _) (.cells #[.map (some b1), .map (some b2)] 97)).alloc (by simp) (.cells #[.string x.name, .string x.text, .int .i64 x.kind, .int .i64 x.width] 47)).trans (hb.mono (by simp <;> omega)))
        go_wp2
        go_ret
        exact ⟨ret_int HE.out.symm, hB⟩)

end Go.Proofs.YtjkcomafgkabeaaDoor
