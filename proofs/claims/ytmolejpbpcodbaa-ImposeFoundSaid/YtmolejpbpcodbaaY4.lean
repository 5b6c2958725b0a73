/-
  Package impose: copies of schemes and views, in the reference and in the laws; what is light, what is none.
-/
import Derived.Test.YtmolejpbpcodbaaY1
namespace Go.Proofs.Ytmolejpbpcodbaa
open Go.RowKit

def CopySchemePost (C R : Int) (L : List Cell) (w : World) (e : Ending) (w' : World) : Prop :=
  ∃ (a : Option Addr) (n c : Nat), e = .returned (.agg #[.int .i64 C, .int .i64 R, .slice a n c]) ∧ n = L.length ∧ RowsAt 4 Cell.l w' a L ∧ (a = none → c = 0) ∧ Below w.heap.size w w'
set_option maxRecDepth 100000 in
set_option maxHeartbeats 2000000 in
theorem copyScheme_any (C R : Int) (a : Option Addr) (L : List Cell) (c : Nat) (w : World) (hL : RowsAt 4 Cell.l w a L) (hl : L.length ≤ 1000000) (hn : a = none → c = 0) :
    Calls Try.prog 9 #[.agg #[.int .i64 C, .int .i64 R, .slice a L.length c]] w (CopySchemePost C R L w) := by
  obtain ⟨w2, hw2⟩ : ∃ w2, w2 = (w.alloc (.cells #[.int .i64 C, .int .i64 R, .slice a L.length c] 24)).alloc (.cells #[.int .i64 0, .int .i64 0, .slice none 0 0] 24) := ⟨_, rfl⟩
  have hsz : w2.heap.size = w.heap.size + 1 + 1 := by rw [hw2]; simp
  have bx0 : BoxAt w2 w.heap.size #[.int .i64 C, .int .i64 R, .slice a L.length c] 24 := by rw [hw2]; exact (BoxAt.new w _ _).alloc _
  have br0 : BoxAt w2 (w.heap.size + 1) #[.int .i64 0, .int .i64 0, .slice none 0 0] 24 := by
    rw [hw2]
    have := BoxAt.new (w.alloc (.cells #[.int .i64 C, .int .i64 R, .slice a L.length c] 24)) #[.int .i64 0, .int .i64 0, .slice none 0 0] 24
    simpa using this
  have hB2 : Below w.heap.size w w2 := by rw [hw2]; exact ((Below.refl w.heap.size w).alloc (Nat.le_refl _) _).alloc (by simp) _
  have hL2 := hL.below hB2
  have hm := World.ownsRow_made (e := 61) (size := 4) (base := w2.heap.size) w2 #[] 0 (Nat.le_refl _) (Nat.zero_le _) rfl
  have hown : OwnR 4 61 Cell.l (w2.alloc (.cells #[] 61)) w2.heap.size (.slice (some ⟨w2.heap.size, 0, none⟩) 0 0) [] := hm
  rw [hsz] at hown
  have bx1 := bx0.alloc (.cells #[] 61)
  have br1 := br0.alloc (.cells #[] 61)
  have hB3 := hB2.alloc hB2.size (.cells #[] 61)
  have HL := Lib.hid (hL2.alloc (.cells #[] 61))
  rw [hw2] at bx1 br1 hown hB3 HL
  clear hm hL hL2 bx0 br0 hB2 hw2 hsz
  have c2 := bx1.cell 2
  simp at c2
  go_enter Try.func9, Try.ntmps9
  go_wp2_with (at_builtin; refine wpList_appL tCell cell_l _ (by rfl) _ _ (by rfl) (w.heap.size + 1 + 1) _ [] (by rfl) hown a L c (by rfl) HL.out hn (by simp) hl (by simp) ?_; intro v' w' hown' hg' hB' hor'; have bx3 := bx1.grown hg' (by simp [Value.ownBlock]; try omega); have br3 := br1.grown hg' (by simp [Value.ownBlock]; try omega); have fz := bx3.free 2; have d0 := bx3.cell 0; have d1 := bx3.cell 1; have d2 := bx3.cell 2; have hbl := bx3.lt; have hrl := br3.lt; simp at d0 d1 d2; have r0 := br3.cell 0; have r1 := br3.cell 1; have r2 := br3.cell 2; simp at r0 r1 r2; have z := fun j => br3.free j; obtain ⟨a6, d6, e6, hr6, -, -, hnil, hge⟩ := hown'.rows cell_l; obtain ⟨n6, hn6⟩ : ∃ n, n = ([] ++ L).length := ⟨_, rfl⟩; rw [← hn6] at e6; subst e6; have HN6 := Lib.hid hn6; clear hn6)
  refine bodyPost_ret (v := .agg #[.int .i64 C, .int .i64 R, .slice a6 n6 d6]) ?_ rfl ?_
  · simp [results, Try.results9, go_sem, r0, r1, r2]
  · refine ⟨a6, n6, d6, rfl, by simpa using HN6.out, ?_, hnil, ?_⟩
    · have hr6 : RowsAt 4 Cell.l w' a6 L := hr6
      have hap0 : ∀ ad, a6 = some ad → ad.block ≠ w.heap.size := fun ad e => by have := hge ad e; omega
      have hap : ∀ ad, a6 = some ad → ad.block ≠ w.heap.size + 1 := fun ad e => by have := hge ad e; omega
      exact (((hr6.set (p := ⟨w.heap.size, 2, none⟩) hap0 _).set (p := ⟨w.heap.size + 1, 0, none⟩) hap _).set (p := ⟨w.heap.size + 1, 1, none⟩) hap _).set (p := ⟨w.heap.size + 1, 2, none⟩) hap _
    · exact ((((hB3.trans (hB'.mono (B' := w.heap.size) (by omega))).setCell (p := ⟨w.heap.size, 2, none⟩) (Nat.le_refl _) _).setCell (p := ⟨w.heap.size + 1, 0, none⟩) (by show w.heap.size ≤ w.heap.size + 1; omega) _).setCell (p := ⟨w.heap.size + 1, 1, none⟩) (by show w.heap.size ≤ w.heap.size + 1; omega) _).setCell (p := ⟨w.heap.size + 1, 2, none⟩) (by show w.heap.size ≤ w.heap.size + 1; omega) _
def CopyViewPost (C R : Int) (L : List Page) (w : World) (e : Ending) (w' : World) : Prop :=
  ∃ (a : Option Addr) (n c : Nat), e = .returned (.agg #[.int .i64 C, .int .i64 R, .slice a n c]) ∧ n = L.length ∧ RowsAt 2 Page.l w' a L ∧ (a = none → c = 0) ∧ Below w.heap.size w w'
set_option maxHeartbeats 400000 in
theorem light_any (C R : Int) (a : Option Addr) (n c : Nat) (w : World) :
    Calls Try.prog 7 #[.agg #[.int .i64 C, .int .i64 R, .slice a n c]] w fun e w' => e = .returned (.bool (decide (n ≤ 40))) ∧ Below w.heap.size w w' := by
  have hB := (Below.refl w.heap.size w).alloc (Nat.le_refl _) (.cells #[.int .i64 C, .int .i64 R, .slice a n c] 24)
  go_enter Try.func7, Try.ntmps7
  go_wp2
  go_ret
  exact ⟨ret_bool (by rw [Bool.eq_iff_iff]; simp; try omega), hB⟩
set_option maxHeartbeats 400000 in
/-- What a refusal gives is none. -/
theorem none_any (a : Option Addr) (c : Nat) (w : World) :
    Calls Try.prog 16 #[.agg #[.int .i64 0, .int .i64 0, .slice a 0 c]] w fun e w' => e = .returned (.bool true) ∧ Below w.heap.size w w' := by
  have hB := (Below.refl w.heap.size w).alloc (Nat.le_refl _) (.cells #[.int .i64 0, .int .i64 0, .slice a 0 c] 24)
  go_enter Try.func16, Try.ntmps16
  go_wp2
  go_ret
  exact ⟨rfl, hB⟩
end Go.Proofs.Ytmolejpbpcodbaa
