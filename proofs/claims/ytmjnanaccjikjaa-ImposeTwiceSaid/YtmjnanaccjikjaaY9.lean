/-
  The law on sheets printed twice: its walk.
-/
import Derived.Test.YtmjnanaccjikjaaY8
namespace Go.Proofs.Ytmjnanaccjikjaa
open Go.RowKit

theorem back_n (C R : Nat) (a : Option Addr) (n : Nat) (L : List Cell) (c : Nat) (w : World) (hn : n = L.length) (hC : 1 ≤ C ∧ C ≤ 8) (hR : 1 ≤ R ∧ R ≤ 8) (hlen : L.length = C * R) (hL : RowsAt 4 Cell.l w a L) :
    Calls Try.prog 39 #[.agg #[.int .i64 C, .int .i64 R, .slice a n c]] w (BackPost C R (backTo C L R 0) w) := by
  subst hn; exact refBack_any C R a L c w hC hR hlen hL
theorem same_n (C R : Int) (L : List Cell) (a1 a2 : Option Addr) (n1 n2 c1 c2 : Nat) (w : World) (e1 : n1 = L.length) (e2 : n2 = L.length) (h1 : RowsAt 4 Cell.l w a1 L) (h2 : RowsAt 4 Cell.l w a2 L) (hl : L.length ≤ maxLen) :
    Calls Try.prog 26 #[.agg #[.int .i64 C, .int .i64 R, .slice a1 n1 c1], .agg #[.int .i64 C, .int .i64 R, .slice a2 n2 c2]] w fun e w' => e = .returned (.bool true) ∧ Below w.heap.size w w' := by
  subst e1; subst e2
  refine (same_any ⟨C, R, L⟩ a1 c1 ⟨C, R, L⟩ a2 c2 w h1 h2 hl hl).mono fun e w' ⟨he, hb⟩ => ⟨?_, hb⟩
  rw [he]; exact ret_bool (by unfold sameS; simp)
theorem sameV_n (C R : Int) (L : List Page) (a1 a2 : Option Addr) (n1 n2 c1 c2 : Nat) (w : World) (e1 : n1 = L.length) (e2 : n2 = L.length) (h1 : RowsAt 2 Page.l w a1 L) (h2 : RowsAt 2 Page.l w a2 L) (hl : L.length ≤ maxLen) :
    Calls Try.prog 37 #[.agg #[.int .i64 C, .int .i64 R, .slice a1 n1 c1], .agg #[.int .i64 C, .int .i64 R, .slice a2 n2 c2]] w fun e w' => e = .returned (.bool true) ∧ Below w.heap.size w w' := by
  subst e1; subst e2
  refine (sameViews_any ⟨C, R, L⟩ a1 c1 ⟨C, R, L⟩ a2 c2 w h1 h2 hl hl).mono fun e w' ⟨he, hb⟩ => ⟨?_, hb⟩
  rw [he]; exact ret_bool (by unfold sameV; simp)
theorem tw_n (C R : Int) (a : Option Addr) (n : Nat) (L : List Page) (c : Nat) (b : Bool) (w : World) (hn : n = L.length) (hL : RowsAt 2 Page.l w a L) (hl : L.length ≤ 1000000) :
    Calls Try.prog 50 #[.agg #[.int .i64 C, .int .i64 R, .slice a n c], .bool b] w (TwPost w C R L b) := by
  subst hn; exact printedTwice_any C R a L c b w hL hl
theorem twL_len (C R : Int) (L : List Page) (b : Bool) : (twL C R L b).length ≤ L.length := by
  unfold twL
  split
  · rw [twTo_len (Nat.le_refl _)]; exact Nat.le_refl _
  · exact Nat.zero_le _
set_option maxRecDepth 100000 in
set_option maxHeartbeats 8000000 in
theorem twice_walk (C R : Int) (a : Option Addr) (L : List Page) (c : Nat) (b : Bool) (w : World) (hL : RowsAt 2 Page.l w a L) (hl : L.length ≤ maxLen) (hn : a = none → c = 0) :
    Calls Try.prog 11 #[.agg #[.int .i64 C, .int .i64 R, .slice a L.length c], .bool b] w fun e w' => e = .returned (.bool true) ∧ Below w.heap.size w w' := by
  unfold maxLen at hl
  go_enter Try.func11, Try.ntmps11
  go_wp2_with fail
  refine (awake_any _).mono ?_
  rintro e w1 ⟨rfl, hb1⟩
  have hB1 := ((Below.refl w.heap.size w).alloc (Nat.le_refl _) (.cells #[.int .i64 C, .int .i64 R, .slice a L.length c] 56)).trans (hb1.mono (B' := w.heap.size) (by simp))
  have bx1 := (BoxAt.new w #[.int .i64 C, .int .i64 R, .slice a L.length c] 56).below hb1
  clear hb1
  have c0 := bx1.cell 0; have c1 := bx1.cell 1; have c2 := bx1.cell 2
  have hbl := bx1.lt
  simp at c0 c1 c2
  by_cases h40 : 40 < L.length
  · go_wp2_with fail
    go_ret
    exact ⟨rfl, hB1⟩
  have h40' : L.length ≤ 40 := by omega
  have HLB : Hid ((twL C R L b).length ≤ maxLen ∧ L.length ≤ maxLen) := Lib.hid ⟨Nat.le_trans (twL_len C R L b) (by unfold maxLen; omega), by unfold maxLen; omega⟩
  go_wp2_with fail
  refine (copyView_any C R a L c _ (hL.below hB1) (by omega) hn).mono ?_
  rintro e w2 ⟨a2, n2, d2, rfl, hn2, hr2, -, hb2⟩
  have HN2 := Lib.hid hn2
  have bx2 := bx1.below hb2
  have hB2 := hB1.trans (hb2.mono (B' := w.heap.size) hB1.size)
  clear hn2 hb2 bx1 c0 c1 c2 hbl hB1
  go_wp2_with fail
  refine (tw_n C R a2 n2 L d2 b _ HN2.out hr2 (by omega)).mono ?_
  rintro e w3 ⟨a3, n3, d3, rfl, hn3, hr3, -, hb3⟩
  have HN3 := Lib.hid hn3
  have bx3 := bx2.below hb3
  have hB3 := hB2.trans (hb3.mono (B' := w.heap.size) hB2.size)
  clear hn3 hb3 bx2 hB2 hr2
  obtain ⟨D1, hD1⟩ : ∃ x, (twD C R L).1 = x := ⟨_, rfl⟩
  obtain ⟨D2, hD2⟩ : ∃ x, (twD C R L).2 = x := ⟨_, rfl⟩
  obtain ⟨er, hER⟩ : ∃ x, twErr C R L = x := ⟨_, rfl⟩
  rw [hD1, hD2, hER]
  have HD1 := Lib.hid hD1; have HD2 := Lib.hid hD2; have HER := Lib.hid hER
  clear hD1 hD2 hER
  have bq3 := BoxAt.new w3 #[.int .i64 D1, .int .i64 D2, .slice a3 n3 d3] 43
  have bx3' := bx3.alloc (.cells #[.int .i64 D1, .int .i64 D2, .slice a3 n3 d3] 43)
  have hr3' := hr3.alloc (.cells #[.int .i64 D1, .int .i64 D2, .slice a3 n3 d3] 43)
  have hB3' := hB3.alloc hB3.size (.cells #[.int .i64 D1, .int .i64 D2, .slice a3 n3 d3] 43)
  have c0 := bx3.cell 0; have c1 := bx3.cell 1; have c2 := bx3.cell 2
  have hbl := bx3.lt
  simp at c0 c1 c2
  go_wp2_with fail
  refine (refTwice_any C R a L c b _ (hL.below hB3') (by omega)).mono ?_
  rintro e w4 ⟨a4, n4, d4, rfl, hn4, hr4, -, hb4⟩
  have HN4 := Lib.hid hn4
  rw [HD1.out, HD2.out, HER.out]
  obtain ⟨g5, hg5⟩ : ∃ g, w3.heap.size = g := ⟨_, rfl⟩
  rw [hg5]
  have bq4 := bq3.below hb4; have bx4 := bx3'.below hb4; have hr34 := hr3'.below hb4
  have hB4 := hB3'.trans (hb4.mono (B' := w.heap.size) hB3'.size)
  rw [hg5] at bq4
  clear hn4 hb4 bq3 bx3' hr3' hB3' c0 c1 c2 hbl hB3 bx3 hr3 hg5
  have e0 := bq4.cell 0; have e1 := bq4.cell 1; have e2 := bq4.cell 2
  have hql := bq4.lt
  simp at e0 e1 e2
  go_wp2_with fail
  refine (same_n D1 D2 (twL C R L b) a3 a4 n3 n4 d3 d4 _ HN3.out HN4.out (hr34.alloc _) (hr4.alloc _) HLB.out.1).mono ?_
  rintro e w5 ⟨rfl, hb5⟩
  have bq5 := (bq4.alloc (.cells #[.int .i64 D1, .int .i64 D2, .slice a4 n4 d4] 43)).below hb5
  have bx5 := (bx4.alloc (.cells #[.int .i64 D1, .int .i64 D2, .slice a4 n4 d4] 43)).below hb5
  have hr35 := (hr34.alloc (.cells #[.int .i64 D1, .int .i64 D2, .slice a4 n4 d4] 43)).below hb5
  have hB5 := (hB4.alloc hB4.size (.cells #[.int .i64 D1, .int .i64 D2, .slice a4 n4 d4] 43)).trans (hb5.mono (B' := w.heap.size) (by have := hB4.size; simp; omega))
  clear hb5 bq4 bx4 hr34 hr4 hB4 e0 e1 e2 hql
  by_cases he : er = 0
  · subst he
    cases b
    · have he0 := HER.out
      have hC0 : cellsErr C R L.length = 0 := by
        by_cases h : cellsErr C R L.length = 0
        · exact h
        · unfold twErr at he0; rw [if_pos h] at he0; exact absurd he0 h
      have hall : L.all (pageB 4000) = true := by
        by_cases h : L.all (pageB 4000) = true
        · exact h
        · unfold twErr at he0; rw [if_neg (by simp [hC0]), if_neg h] at he0; exact absurd he0 (by decide)
      obtain ⟨hs, hnn⟩ := cells_ok hC0
      obtain ⟨sC, sR, sm⟩ := side_ok hs
      obtain ⟨cn, rfl⟩ : ∃ n : Nat, C = n := ⟨C.toNat, by omega⟩
      obtain ⟨rn, rfl⟩ : ∃ n : Nat, R = n := ⟨R.toNat, by omega⟩
      have hlen : L.length = cn * rn := by
        have : (L.length : Int) = ((cn * rn : Nat) : Int) := by rw [hnn, Int.natCast_mul]
        omega
      have e1 : D1 = cn := by rw [← HD1.out]; unfold twD; rw [if_pos he0]
      have e2 : D2 = rn := by rw [← HD2.out]; unfold twD; rw [if_pos he0]
      subst e1; subst e2
      have hT : twL cn rn L false = twTo cn rn L false L.length := by unfold twL; rw [if_pos he0]; rfl
      have hBK : Hid (backTo cn (twL cn rn L false) rn 0 = L) := Lib.hid (by rw [hT]; exact tw_back (by omega) hlen (page_ok hall))
      have hTL : Hid ((twL cn rn L false).length = cn * rn) := Lib.hid (by rw [hT, twTo_len (Nat.le_refl _), hlen])
      have HCR : Hid ((1 ≤ cn ∧ cn ≤ 8) ∧ (1 ≤ rn ∧ rn ≤ 8)) := Lib.hid (by omega)
      have hL5 := hL.below hB5
      clear he0 hC0 hall hs hnn sC sR sm hlen hT
      have c0 := bx5.cell 0; have c1 := bx5.cell 1; have c2 := bx5.cell 2
      have f0 := bq5.cell 0; have f1 := bq5.cell 1; have f2 := bq5.cell 2
      have hbl := bx5.lt; have hql := bq5.lt
      simp at c0 c1 c2 f0 f1 f2
      go_wp2_with fail
      go_region_held3 (fun w' => w'.cell? ⟨w.heap.size, 0, none⟩ = some (.int .i64 cn) ∧ w'.cell? ⟨w.heap.size, 1, none⟩ = some (.int .i64 rn) ∧ w'.cell? ⟨w.heap.size, 2, none⟩ = some (.slice a L.length c) ∧ w'.cell? ⟨g5, 0, none⟩ = some (.int .i64 cn) ∧ w'.cell? ⟨g5, 1, none⟩ = some (.int .i64 rn) ∧ w'.cell? ⟨g5, 2, none⟩ = some (.slice a3 n3 d3)) (first | exact ⟨k0, k1, k2, k3, k4, k5⟩ | exact ⟨j0, j1, j2, j3, j4, j5⟩ | go_keep)
        (first
          | (go_at_call 39; refine (back_n cn rn a3 n3 (twL cn rn L false) d3 _ HN3.out HCR.out.1 HCR.out.2 hTL.out hr35.drew).mono ?_; rintro e w6 ⟨a6, n6, d6, rfl, hn6, hr6, -, hb6⟩; rw [hBK.out] at hn6 hr6; have HN6 := Lib.hid hn6; clear hn6; have hb56 : Below w5.heap.size w5 w6 := (Below.refl _ w5).drew.trans hb6; have j0 := (hb56.cell (p := ⟨w.heap.size, 0, none⟩) hbl).trans c0; have j1 := (hb56.cell (p := ⟨w.heap.size, 1, none⟩) hbl).trans c1; have j2 := (hb56.cell (p := ⟨w.heap.size, 2, none⟩) hbl).trans c2; have j3 := (hb56.cell (p := ⟨g5, 0, none⟩) hql).trans f0; have j4 := (hb56.cell (p := ⟨g5, 1, none⟩) hql).trans f1; have j5 := (hb56.cell (p := ⟨g5, 2, none⟩) hql).trans f2)
          | (go_at_call 37; refine (sameV_n cn rn L a6 a n6 L.length d6 c _ HN6.out rfl hr6 (hL5.below hb56) HLB.out.2).mono ?_; rintro e w7 ⟨rfl, hb7⟩; have hb57 : Below w5.heap.size w5 w7 := hb56.trans (hb7.mono (B' := w5.heap.size) hb56.size); have k0 := (hb57.cell (p := ⟨w.heap.size, 0, none⟩) hbl).trans c0; have k1 := (hb57.cell (p := ⟨w.heap.size, 1, none⟩) hbl).trans c1; have k2 := (hb57.cell (p := ⟨w.heap.size, 2, none⟩) hbl).trans c2; have k3 := (hb57.cell (p := ⟨g5, 0, none⟩) hql).trans f0; have k4 := (hb57.cell (p := ⟨g5, 1, none⟩) hql).trans f1; have k5 := (hb57.cell (p := ⟨g5, 2, none⟩) hql).trans f2))
      have hB7 := hB5.trans (hb57.mono (B' := w.heap.size) hB5.size)
      go_wp2_with fail
      go_ret
      exact ⟨rfl, hB7⟩
    · go_wp2_with fail
      go_ret
      exact ⟨rfl, hB5⟩
  · have heb : (er != 0) = true := by simpa using he
    clear he
    go_wp2_with fail
    go_ret
    exact ⟨rfl, hB5⟩
end Go.Proofs.Ytmjnanaccjikjaa
