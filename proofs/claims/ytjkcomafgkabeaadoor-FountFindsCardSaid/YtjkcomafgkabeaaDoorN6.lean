/-
  The document's examples, once more: width, text, times, bill, printed text.
-/
import Derived.Test.YtjkcomafgkabeaaDoorN5
namespace Go.Proofs.YtjkcomafgkabeaaDoor
open Go.RowKit Go.Maps

structure LawOk (w : World) : Prop where
  tab : TabOk w
  pow : PowOk w
  words : WordsOk w
theorem LawOk.below {w w' : World} (h : LawOk w) (hb : Below w.heap.size w w') : LawOk w' := ⟨h.tab.below hb h.tab.1, h.pow.below hb, h.words.below hb⟩

theorem romWidth : widthR romF [0, 3, 4, 1, 2] = (1310, 0) := by decide +kernel
theorem romText : textR romF [0, 3, 4, 1, 2] = (⟨#[97, 32, 98, 102, 105]⟩, 0) := by decide +kernel
theorem romTimes : timesE romF [3, 2, 0, 5, 5] [1, 1, 0, 2, 0] = (2, 1, 0) := by decide +kernel
theorem romBillE : billE romF [3, 2, 1, 0, 0] 10 = 0 := by decide +kernel
theorem romBill : billOf [3, 2, 1, 0, 0] (sumOf [3, 2, 1, 0, 0]) 10 = [5, 3, 2, 0, 0] := by decide +kernel
theorem romPrint : printR romF = (⟨([102, 111, 117, 110, 116, 32, 114, 111, 109, 32, 49, 48, 10, 108, 101, 116, 116, 101, 114, 32, 97, 32, 97, 32, 51, 48, 48, 10, 108, 101, 116, 116, 101, 114, 32, 98, 32, 98, 32, 51, 51, 48, 10, 108, 105, 103].append [97, 116, 117, 114, 101, 32, 102, 105, 32, 102, 105, 32, 51, 54, 48, 10, 115, 112, 97, 99, 101, 32, 116, 104, 105, 99, 107, 32, 50, 48, 48, 10, 115, 112, 97, 99, 101, 32, 116, 104, 105, 110, 32, 49, 50, 48, 10]).toArray⟩, 0) := by decide +kernel

theorem LawOk.alloc {w : World} (h : LawOk w) (o : Obj) : LawOk (w.alloc o) := h.below ((Below.refl _ _).alloc (Nat.le_refl _) o)
theorem roman_law (w : World) (hL : LawOk w) : Calls Tryd.prog 67 #[] w fun e w' => ∃ g, e = .returned (.agg #[.string romF.name, .int .i64 romF.body, .slice (some ⟨g, 0, none⟩) romF.sorts.length romF.sorts.length]) ∧ FAt w' (some ⟨g, 0, none⟩) romF ∧ LawOk w' ∧ Below w.heap.size w w' := by
  refine (roman_any w).mono ?_
  rintro e w' ⟨g, rfl, hS, hb⟩
  exact ⟨g, rfl, ⟨romOk, hS, hL.tab.below hb hL.tab.1⟩, hL.below hb, hb⟩
theorem lit5 (x0 x1 x2 x3 x4 : Int) {w : World} : IntsAt (w.alloc (.cells #[.int .i64 x0, .int .i64 x1, .int .i64 x2, .int .i64 x3, .int .i64 x4] 3)) (some ⟨w.heap.size, 0, none⟩) [x0, x1, x2, x3, x4] := ints_lit
theorem lit5' (x0 x1 x2 x3 x4 : Int) {w : World} {o : Obj} : IntsAt ((w.alloc (.cells #[.int .i64 x0, .int .i64 x1, .int .i64 x2, .int .i64 x3, .int .i64 x4] 3)).alloc o) (some ⟨w.heap.size, 0, none⟩) [x0, x1, x2, x3, x4] := (lit5 x0 x1 x2 x3 x4).alloc o
theorem maxLen5 : (5 : Nat) ≤ maxLen := by unfold maxLen; omega

set_option maxRecDepth 100000 in
set_option maxHeartbeats 2000000 in
theorem awake_any (w : World) (hL : LawOk w) : Calls Tryd.prog 16 #[] w fun e w' => e = .returned (.bool true) ∧ Below w.heap.size w w' := by
  go_enter Tryd.func16, Tryd.ntmps16
  go_wp2_with fail
  refine (roman_law _ hL).mono ?_
  rintro e w1 ⟨g1, rfl, hF1, hL1, hb1⟩
  have hm1 := WidthOf_any romF (some ⟨g1, 0, none⟩) romF.sorts.length (some ⟨w1.heap.size, 0, none⟩) [0, 3, 4, 1, 2] 5 _ (hF1.alloc _) (lit5 0 3 4 1 2) maxLen5
  rw [romWidth] at hm1
  go_wp2_with fail
  refine (show Calls _ _ _ _ _ from hm1).mono ?_
  rintro e w2 ⟨rfl, hb2⟩
  have hB2 : Below w.heap.size w w2 := (hb1.alloc hb1.size _).trans (hb2.mono (B' := w.heap.size) (by have := hb1.size; simp <;> omega))
  clear hm1 hF1 hL1 hb1 hb2
  go_wp2_with fail
  refine (roman_law _ (hL.below hB2)).mono ?_
  rintro e w3 ⟨g3, rfl, hF3, hL3, hb3⟩
  have hB3 := hB2.trans (hb3.mono (B' := w.heap.size) hB2.size)
  have hm3 := TextOf_any romF (some ⟨g3, 0, none⟩) romF.sorts.length (some ⟨w3.heap.size, 0, none⟩) [0, 3, 4, 1, 2] 5 _ (hF3.alloc _) (lit5 0 3 4 1 2) maxLen5
  rw [romText] at hm3
  go_wp2_with fail
  refine (show Calls _ _ _ _ _ from hm3).mono ?_
  rintro e w4 ⟨rfl, hb4⟩
  have hB4 : Below w.heap.size w w4 := (hB3.alloc hB3.size _).trans (hb4.mono (B' := w.heap.size) (by have := hB3.size; simp <;> omega))
  clear hm3 hF3 hL3 hb3 hB2 hB3 hb4
  go_wp2_with fail
  refine (roman_law _ (hL.below hB4)).mono ?_
  rintro e w5 ⟨g5, rfl, hF5, hL5, hb5⟩
  have hB5 := hB4.trans (hb5.mono (B' := w.heap.size) hB4.size)
  have hm5 := Times_any romF (some ⟨g5, 0, none⟩) romF.sorts.length (some ⟨w5.heap.size, 0, none⟩) [3, 2, 0, 5, 5] 5 (some ⟨w5.heap.size + 1, 0, none⟩) [1, 1, 0, 2, 0] 5 ((w5.alloc (.cells #[.int .i64 3, .int .i64 2, .int .i64 0, .int .i64 5, .int .i64 5] 3)).alloc (.cells #[.int .i64 1, .int .i64 1, .int .i64 0, .int .i64 2, .int .i64 0] 3)) ((hF5.alloc _).alloc _) (lit5' 3 2 0 5 5) maxLen5 (by simpa using lit5 1 1 0 2 0 (w := w5.alloc (.cells #[.int .i64 3, .int .i64 2, .int .i64 0, .int .i64 5, .int .i64 5] 3))) maxLen5
  unfold TimesPost at hm5
  rw [romTimes] at hm5
  go_wp2_with fail
  refine (show Calls _ _ _ _ _ from hm5).mono ?_
  rintro e w6 ⟨rfl, hb6⟩
  have hB6 : Below w.heap.size w w6 := ((hB5.alloc hB5.size _).alloc (by have := hB5.size; simp; omega) _).trans (hb6.mono (B' := w.heap.size) (by have := hB5.size; simp <;> omega))
  clear hm5 hF5 hL5 hb5 hB4 hB5 hb6
  go_wp2_with fail
  refine (roman_law _ (hL.below hB6)).mono ?_
  rintro e w7 ⟨g7, rfl, hF7, hL7, hb7⟩
  have hB7 := hB6.trans (hb7.mono (B' := w.heap.size) hB6.size)
  have hm7 := BillFor_any romF (some ⟨g7, 0, none⟩) romF.sorts.length (some ⟨w7.heap.size, 0, none⟩) [3, 2, 1, 0, 0] 5 10 _ (hF7.alloc _) (lit5 3 2 1 0 0) maxLen5 (by decide)
  go_wp2_with fail
  refine (show Calls _ _ _ _ _ from hm7).mono ?_
  rintro e w8 ⟨hb8, hr8⟩
  obtain ⟨_, g8, rfl, hrow⟩ := hr8.resolve_left (fun h => h.1 romBillE)
  rw [romBill] at hrow
  have hi8 := hrow.ints
  have hB8 : Below w.heap.size w w8 := (hB7.alloc hB7.size _).trans (hb8.mono (B' := w.heap.size) (by have := hB7.size; simp <;> omega))
  clear hm7 hF7 hL7 hb7 hB6 hB7 hb8 hr8 hrow
  go_wp2_with fail
  refine (roman_law _ (hL.below hB8)).mono ?_
  rintro e w9 ⟨g9, rfl, hF9, hL9, hb9⟩
  have hB9 := hB8.trans (hb9.mono (B' := w.heap.size) hB8.size)
  have hi9 := hi8.below hb9
  have hm9 := Print_any romF (some ⟨g9, 0, none⟩) romF.sorts.length _ hF9 hL9.pow hL9.words
  rw [romPrint] at hm9
  go_wp2_with fail
  refine (show Calls _ _ _ _ _ from hm9).mono ?_
  rintro e w10 ⟨rfl, hb10⟩
  have hi10 := hi9.below hb10
  have hB10 := hB9.trans (hb10.mono (B' := w.heap.size) hB9.size)
  have hix := Lib.hid (ints_good (N1 := 5) (N2 := 5) (d1 := 5) (d2 := 5) rfl rfl (hi10.alloc (.cells #[.int .i64 5, .int .i64 3, .int .i64 2, .int .i64 0, .int .i64 0] 3)) (lit5 5 3 2 0 0) maxLen5 maxLen5 rfl)
  clear hm9 hF9 hL9 hb9 hB8 hB9 hb10 hi8 hi9 hi10
  go_wp2_with fail
  refine (show Calls _ _ _ _ _ from hix.out).mono ?_
  rintro e w11 ⟨rfl, hD⟩
  have hB11 := hD.below (hB10.alloc hB10.size (.cells #[.int .i64 5, .int .i64 3, .int .i64 2, .int .i64 0, .int .i64 0] 3))
  clear hix
  go_wp2
  go_ret
  exact ⟨rfl, hB11⟩
end Go.Proofs.YtjkcomafgkabeaaDoor
