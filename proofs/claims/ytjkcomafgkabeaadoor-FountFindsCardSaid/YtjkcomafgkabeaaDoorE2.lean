/-
  The document's fount; its metal; what the statements over the chapter begin with.
-/
import Derived.Test.YtjkcomafgkabeaaDoorE1
namespace Go.Proofs.YtjkcomafgkabeaaDoor
open Go.RowKit Go.Maps

def romT : List TS := [⟨⟨#[97]⟩, ⟨#[97]⟩, 1, 300⟩, ⟨⟨#[98]⟩, ⟨#[98]⟩, 1, 330⟩, ⟨⟨#[102, 105]⟩, ⟨#[102, 105]⟩, 2, 360⟩, ⟨⟨#[116, 104, 105, 99, 107]⟩, ⟨#[]⟩, 3, 200⟩, ⟨⟨#[116, 104, 105, 110]⟩, ⟨#[]⟩, 3, 120⟩]
def romF : FT := ⟨⟨#[114, 111, 109]⟩, 10, romT⟩
theorem romCheck : checkF romF = (0, 0) := by decide +kernel
theorem romMetal : metalR romF [1, 1, 0, 0, 0] = (6300, 0) := by decide +kernel
theorem romCast : castR romF 20000 [1, 1, 0, 0, 0] = (3, 1100, 0) := by decide +kernel
theorem romOk : OkF romF := by
  refine ⟨by unfold maxLen; decide, by unfold maxLen; decide, fun x hx => ?_⟩
  simp only [romF, romT, List.mem_cons, List.not_mem_nil, or_false] at hx
  rcases hx with rfl | rfl | rfl | rfl | rfl
  all_goals unfold maxLen; decide

def RomanPost (w : World) (e : Ending) (w' : World) : Prop :=
  ∃ g, e = .returned (.agg #[.string romF.name, .int .i64 romF.body, .slice (some ⟨g, 0, none⟩) romF.sorts.length romF.sorts.length]) ∧ SortsAt w' (some ⟨g, 0, none⟩) romF.sorts ∧ Below w.heap.size w w'

set_option maxRecDepth 100000 in
set_option maxHeartbeats 1000000 in
theorem roman_any (w : World) : Calls Tryd.prog 67 #[] w (RomanPost w) := by
  go_enter Tryd.func67, Tryd.ntmps67
  go_wp2
  refine bodyPost_ret (v := .agg #[.string ⟨#[114, 111, 109]⟩, .int .i64 10, .slice (some ⟨w.heap.size + 1, 0, none⟩) 5 5]) (by simp [results, Tryd.results67, go_sem]) rfl ?_
  refine ⟨w.heap.size + 1, rfl, ?_, ((Below.refl _ _).alloc (Nat.le_refl _) _).alloc (by simp) _⟩
  intro k hk
  have hk0 : k = 0 ∨ k = 1 ∨ k = 2 ∨ k = 3 ∨ k = 4 := by
    have : romF.sorts.length = 5 := rfl
    omega
  rcases hk0 with rfl | rfl | rfl | rfl | rfl
  all_goals exact ⟨_, rfl, by simp, by simp [Addr.add, romF, romT], by simp [Addr.add, romF, romT], by simp [Addr.add, romF, romT], by simp [Addr.add, romF, romT]⟩

theorem ints_lit {w : World} {l : List Int} : IntsAt (w.alloc (.cells (vals l).toArray 3)) (some ⟨w.heap.size, 0, none⟩) l := by
  intro k hk
  refine ⟨_, rfl, by simp, ?_⟩
  have : (⟨w.heap.size, 0, none⟩ : Addr).add k = ⟨w.heap.size, k, none⟩ := by
    unfold Addr.add; split
    · rename_i h0; rw [h0]
    · simp
  rw [this, World.cell?_alloc_new]
  rw [List.getElem?_toArray]
  exact vals_at hk

set_option maxRecDepth 100000 in
set_option maxHeartbeats 1000000 in
theorem cast_any (w : World) (hT : TabOk w) : Calls Tryd.prog 66 #[] w fun e w' => e = .returned (.bool true) ∧ Below w.heap.size w w' := by
  go_enter Tryd.func66, Tryd.ntmps66
  go_wp2_with fail
  refine (roman_any _).mono ?_
  rintro e w1 ⟨g, rfl, hS, hb⟩
  have hF1 : FAt w1 (some ⟨g, 0, none⟩) romF := ⟨romOk, hS, hT.below hb hT.1⟩
  have hl1 : IntsAt (w1.alloc (.cells (vals [1, 1, 0, 0, 0]).toArray 3)) (some ⟨w1.heap.size, 0, none⟩) [1, 1, 0, 0, 0] := ints_lit
  have hm1 := MetalOf_any romF (some ⟨g, 0, none⟩) romF.sorts.length (some ⟨w1.heap.size, 0, none⟩) [1, 1, 0, 0, 0] 5 _ (hF1.alloc _) hl1 (by unfold maxLen; simp)
  rw [romMetal] at hm1
  go_wp2_with fail
  refine (show Calls _ _ _ _ _ from hm1).mono ?_
  rintro e w2 ⟨rfl, hb2⟩
  have hB2 : Below w.heap.size w w2 := (hb.alloc hb.size _).trans (hb2.mono (B' := w.heap.size) (by have := hb.size; simp <;> omega))
  clear hm1 hl1 hF1
  go_wp2_with fail
  refine (roman_any _).mono ?_
  rintro e w3 ⟨g3, rfl, hS3, hb3⟩
  have hB3 : Below w.heap.size w w3 := hB2.trans (hb3.mono (B' := w.heap.size) hB2.size)
  have hF3 : FAt w3 (some ⟨g3, 0, none⟩) romF := ⟨romOk, hS3, hT.below hB3 hT.1⟩
  have hl3 : IntsAt (w3.alloc (.cells (vals [1, 1, 0, 0, 0]).toArray 3)) (some ⟨w3.heap.size, 0, none⟩) [1, 1, 0, 0, 0] := ints_lit
  have hm3 := Cast_any romF (some ⟨g3, 0, none⟩) romF.sorts.length 20000 (some ⟨w3.heap.size, 0, none⟩) [1, 1, 0, 0, 0] 5 _ (hF3.alloc _) hl3 (by unfold maxLen; simp)
  rw [romCast] at hm3
  go_wp2_with fail
  refine (show Calls _ _ _ _ _ from hm3).mono ?_
  rintro e w4 ⟨rfl, hb4⟩
  have hB4 : Below w.heap.size w w4 := (hB3.alloc hB3.size _).trans (hb4.mono (B' := w.heap.size) (by have := hB3.size; simp <;> omega))
  clear hm3 hl3 hF3
  go_wp2
  go_ret
  exact ⟨rfl, hB4⟩
end Go.Proofs.YtjkcomafgkabeaaDoor
