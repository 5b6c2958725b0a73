/-
  Package impose: the document's examples, that each law looks at first.
-/
import Derived.Test.YtnpehnfcccdcbaaGreatDoorIY
namespace Go.Proofs.YtnpehnfcccdcbaaGreatDoor
open Go.RowKit

/-- A block that is made with structs in it. -/
theorem rows_lit {α : Type} {n : Nat} {g : α → List Int} (hg : ∀ x, (g x).length = n) (w : World) (T : TypeId) (L : List α) (cs : Array Value) (hcs : cs = (vals (L.flatMap g)).toArray) : RowsAt n g (w.alloc (.cells cs T)) (some ⟨w.heap.size, 0, none⟩) L := by
  subst hcs
  intro k hk
  refine ⟨_, rfl, by simp, fun j hj => ?_⟩
  rw [add0, fld_own, cell_of_row _ w.heap.size _ _ _ (0, 0) (heap_alloc_new w _)]
  unfold vals
  rw [List.getElem?_toArray, List.getElem?_map, flat_at hg L k j hk hj]; rfl
def quartoL : List Fold := [⟨1, 1⟩, ⟨3, 1⟩]
def quartoS : Scheme := ⟨2, 2, [⟨7, 0, 8, 0⟩, ⟨6, 0, 5, 0⟩, ⟨2, 1, 1, 1⟩, ⟨3, 1, 4, 1⟩]⟩
theorem ex1 : (checkFo 2 2 quartoL).2 = 0 := by decide +kernel
theorem ex2 : schemeD 2 2 quartoL = (2, 2) := by decide +kernel
theorem ex3 : schemeC 2 2 quartoL = quartoS.l := by decide +kernel
theorem ex4 : creepE 4 10 5 = (10, 0) := by decide +kernel
theorem ex5 : (bookE 20 8 [] []).2 = 0 := by decide +kernel
theorem ex6 : sigN 20 8 = 3 := by decide +kernel
theorem ex7 : sigTo 20 8 3 = [⟨1, 8⟩, ⟨9, 16⟩, ⟨17, 20⟩] := by decide +kernel
theorem okI_quarto : ∀ x ∈ quartoL, OkI x.c := by
  intro x hx
  rcases List.mem_cons.1 hx with rfl | hx
  · exact (by decide : (Lit.int .i64 1).wf = true)
  · rw [List.mem_singleton.1 hx]; exact (by decide : (Lit.int .i64 1).wf = true)
theorem quartoSame (a : Option Addr) (c : Nat) (b : Addr) (W : World) (h1 : RowsAt 4 Cell.l W a quartoS.l) (h2 : RowsAt 4 Cell.l W (some b) quartoS.l) :
    Calls Tryz.prog 8 #[.agg #[.int .i64 2, .int .i64 2, .slice a 4 c], .agg #[.int .i64 2, .int .i64 2, .slice (some b) 4 4]] W fun e w' => e = .returned (.bool true) ∧ Below W.heap.size W w' :=
  (same_any quartoS a c quartoS (some b) 4 W h1 h2 (by decide) (by decide)).mono fun e w' ⟨he, hb⟩ => ⟨by rw [he]; exact ret_bool (by decide +kernel), hb⟩
def twenty : List Rng := [⟨1, 8⟩, ⟨9, 16⟩, ⟨17, 20⟩]
theorem twentySame (a : Option Addr) (c : Nat) (b : Addr) (W : World) (h1 : RowsAt 2 Rng.l W a twenty) (h2 : RowsAt 2 Rng.l W (some b) twenty) :
    Calls Tryz.prog 17 #[.slice a 3 c, .slice (some b) 3 3] W fun e w' => e = .returned (.bool true) ∧ Drew W w' :=
  (ranges_any a twenty c (some b) twenty 3 W h1 h2 (by decide) (by decide)).mono fun e w' ⟨he, hb⟩ => ⟨by rw [he]; exact ret_bool (by decide +kernel), hb⟩
def QuartoPost (w : World) (e : Ending) (w' : World) : Prop := e = .returned (.slice (some ⟨w.heap.size, 0, none⟩) 2 2) ∧ w' = w.alloc (.cells #[.int .i64 1, .int .i64 1, .int .i64 3, .int .i64 1] 98)
set_option maxHeartbeats 1000000 in
theorem quarto_any (w : World) : Calls Tryz.prog 14 #[] w (QuartoPost w) := by
  go_enter Tryz.func14, Tryz.ntmps14
  go_wp2
  go_ret
  exact ⟨rfl, rfl⟩
set_option maxRecDepth 100000 in
set_option maxHeartbeats 4000000 in
theorem awake_any (w : World) : Calls Tryz.prog 4 #[] w fun e w' => e = .returned (.bool true) ∧ Below w.heap.size w w' := by
  go_enter Tryz.func4, Tryz.ntmps4
  go_wp2_with fail
  refine (quarto_any _).mono ?_
  rintro e w1 ⟨rfl, hw1⟩
  have hr1 : RowsAt 2 Fold.l w1 (some ⟨w.heap.size, 0, none⟩) quartoL := by rw [hw1]; exact rows_lit fold_l w _ quartoL _ rfl
  have hb1 : Below w.heap.size w w1 := by rw [hw1]; exact (Below.refl _ _).alloc (Nat.le_refl _) _
  clear hw1
  go_wp2_with fail
  refine (schemeOf_any 2 2 _ quartoL 2 _ hr1 (by decide) okI_quarto).mono ?_
  rintro e w2 ⟨a2, n2, c2, he2, hn2, hr2, -, hb2⟩
  rw [ex1, ex2] at he2
  rw [ex3] at hr2
  have hn2' : n2 = 4 := by rw [hn2, ex3]; rfl
  clear hn2
  subst hn2'
  subst he2
  have hB2 := hb1.trans (hb2.mono (B' := w.heap.size) hb1.size)
  clear hb1 hb2 hr1
  go_wp2_with fail
  refine (creep_any 4 10 5 _).mono ?_
  rintro e w3 ⟨he3, rfl⟩
  rw [ex4] at he3
  subst he3
  go_wp2_with fail
  refine (signatures_any 20 8 none [] 0 none [] 0 _ (RowsAt.nil _ _) (by decide) (RowsAt.nil _ _) (by decide)).mono ?_
  rintro e w4 ⟨hb4, h4⟩
  obtain ⟨_, a4, n4, c4, he4, hn4, hr4⟩ := h4.resolve_left (fun h => h.1 ex5)
  rw [ex6] at he4 hn4 hr4
  rw [ex7] at hn4 hr4
  have hn4' : n4 = 3 := hn4
  clear hn4
  subst hn4'
  have he4 : e = .returned (.tuple #[.slice a4 3 c4, .int .i64 4, .int .i64 0]) := he4
  subst he4
  have hr4 : RowsAt 2 Rng.l w4 a4 twenty := hr4
  have bs4 := (BoxAt.new w2 #[.int .i64 2, .int .i64 2, .slice a2 4 c2] 24).below hb4
  have hr24 := (hr2.alloc (.cells #[.int .i64 2, .int .i64 2, .slice a2 4 c2] 24)).below hb4
  have hB4 := (hB2.alloc hB2.size (.cells #[.int .i64 2, .int .i64 2, .slice a2 4 c2] 24)).trans (hb4.mono (B' := w.heap.size) (by have := hB2.size; simp; omega))
  have s0 := bs4.cell 0; have s1 := bs4.cell 1; have s2 := bs4.cell 2
  have hbl := bs4.lt
  simp at s0 s1 s2
  clear hb4 h4 hr2 hB2
  go_wp2_with fail
  refine (quartoSame a2 c2 _ _ (hr24.alloc _) (rows_lit cell_l w4 _ quartoS.l _ rfl)).mono ?_
  rintro e w5 ⟨rfl, hb5⟩
  have hr5 := (hr4.alloc _).below hb5
  have hB5 := (hB4.alloc hB4.size _).trans (hb5.mono (B' := w.heap.size) (by have := hB4.size; simp; omega))
  clear hb5
  go_wp2_with fail
  refine (twentySame a4 c4 _ _ (hr5.alloc _) (rows_lit rng_l w5 _ twenty _ rfl)).mono ?_
  rintro e w6 ⟨rfl, hd6⟩
  have hB6 := hd6.below (hB5.alloc hB5.size _)
  go_wp2_with fail
  go_ret
  exact ⟨rfl, hB6⟩
end Go.Proofs.YtnpehnfcccdcbaaGreatDoor
