/-
  The law on halves: what its walk is made of.
-/
import Derived.Test.YtjkjfmahcjcniaaTC
import Derived.Test.YtjkjfmahcjcniaaY4
namespace Go.Proofs.Ytjkjfmahcjcniaa
open Go.RowKit

set_option maxRecDepth 100000 in
set_option maxHeartbeats 2000000 in
theorem copyOwn_any (C R : Int) (a : Option Addr) (L : List Cell) (c : Nat) (w : World) (hL : RowsAt 4 Cell.l w a L) (hl : L.length ≤ 1000000) (hn : a = none → c = 0) :
    Calls Try.prog 29 #[.agg #[.int .i64 C, .int .i64 R, .slice a L.length c]] w fun e w' => ∃ v, e = .returned (.agg #[.int .i64 C, .int .i64 R, v]) ∧ OwnR 4 91 Cell.l w' w.heap.size v L ∧ Below w.heap.size w w' := by
  obtain ⟨w2, hw2⟩ : ∃ w2, w2 = (w.alloc (.cells #[.int .i64 C, .int .i64 R, .slice a L.length c] 43)).alloc (.cells #[.int .i64 0, .int .i64 0, .slice none 0 0] 43) := ⟨_, rfl⟩
  have hsz : w2.heap.size = w.heap.size + 1 + 1 := by rw [hw2]; simp
  have bx0 : BoxAt w2 w.heap.size #[.int .i64 C, .int .i64 R, .slice a L.length c] 43 := by rw [hw2]; exact (BoxAt.new w _ _).alloc _
  have br0 : BoxAt w2 (w.heap.size + 1) #[.int .i64 0, .int .i64 0, .slice none 0 0] 43 := by
    rw [hw2]
    have := BoxAt.new (w.alloc (.cells #[.int .i64 C, .int .i64 R, .slice a L.length c] 43)) #[.int .i64 0, .int .i64 0, .slice none 0 0] 43
    simpa using this
  have hB2 : Below w.heap.size w w2 := by rw [hw2]; exact ((Below.refl w.heap.size w).alloc (Nat.le_refl _) _).alloc (by simp) _
  have hL2 := hL.below hB2
  have hm := World.ownsRow_made (e := 91) (size := 4) (base := w2.heap.size) w2 #[] 0 (Nat.le_refl _) (Nat.zero_le _) rfl
  have hown : OwnR 4 91 Cell.l (w2.alloc (.cells #[] 91)) w2.heap.size (.slice (some ⟨w2.heap.size, 0, none⟩) 0 0) [] := hm
  rw [hsz] at hown
  have bx1 := bx0.alloc (.cells #[] 91)
  have br1 := br0.alloc (.cells #[] 91)
  have hB3 := hB2.alloc hB2.size (.cells #[] 91)
  have HL := Lib.hid (hL2.alloc (.cells #[] 91))
  rw [hw2] at bx1 br1 hown hB3 HL
  clear hm hL hL2 bx0 br0 hB2 hw2 hsz
  have c2 := bx1.cell 2
  simp at c2
  go_enter Try.func29, Try.ntmps29
  go_wp2_with (at_builtin; refine wpList_appL tCell cell_l _ (by rfl) _ _ (by rfl) (w.heap.size + 1 + 1) _ [] (by rfl) hown a L c (by rfl) HL.out hn (by simp) hl (by simp) ?_; intro v' w' hown' hg' hB' hor'; have bx3 := bx1.grown hg' (by simp [Value.ownBlock]; try omega); have br3 := br1.grown hg' (by simp [Value.ownBlock]; try omega); have fz := bx3.free 2; have d0 := bx3.cell 0; have d1 := bx3.cell 1; have d2 := bx3.cell 2; have hbl := bx3.lt; have hrl := br3.lt; simp at d0 d1 d2; have r0 := br3.cell 0; have r1 := br3.cell 1; have r2 := br3.cell 2; simp at r0 r1 r2; have z := fun j => br3.free j; obtain ⟨a6, d6, e6, -, -, -, -, -⟩ := hown'.rows cell_l; obtain ⟨n6, hn6⟩ : ∃ n, n = ([] ++ L).length := ⟨_, rfl⟩; rw [← hn6] at e6; subst e6; clear hn6)
  refine bodyPost_ret (v := .agg #[.int .i64 C, .int .i64 R, .slice a6 n6 d6]) ?_ rfl ?_
  · simp [results, Try.results29, go_sem, r0, r1, r2]
  · refine ⟨.slice a6 n6 d6, rfl, ?_, ?_⟩
    · have hown6 : OwnR 4 91 Cell.l w' (w.heap.size + 1 + 1) (.slice a6 n6 d6) L := hown'
      have hap0 : (Value.slice a6 n6 d6).ownBlock ≠ some w.heap.size := fun e => by have := (hown6.lt _ e).1; omega
      have hap : (Value.slice a6 n6 d6).ownBlock ≠ some (w.heap.size + 1) := fun e => by have := (hown6.lt _ e).1; omega
      exact ((((hown6.set (p := ⟨w.heap.size, 2, none⟩) hap0 _).set (p := ⟨w.heap.size + 1, 0, none⟩) hap _).set (p := ⟨w.heap.size + 1, 1, none⟩) hap _).set (p := ⟨w.heap.size + 1, 2, none⟩) hap _).mono (by omega)
    · exact ((((hB3.trans (hB'.mono (B' := w.heap.size) (by omega))).setCell (p := ⟨w.heap.size, 2, none⟩) (Nat.le_refl _) _).setCell (p := ⟨w.heap.size + 1, 0, none⟩) (by show w.heap.size ≤ w.heap.size + 1; omega) _).setCell (p := ⟨w.heap.size + 1, 1, none⟩) (by show w.heap.size ≤ w.heap.size + 1; omega) _).setCell (p := ⟨w.heap.size + 1, 2, none⟩) (by show w.heap.size ≤ w.heap.size + 1; omega) _
theorem copySc2 (C R : Int) (a : Option Addr) (n : Nat) (L : List Cell) (c : Nat) (w : World) (hn : n = L.length) (hL : RowsAt 4 Cell.l w a L) (hl : L.length ≤ 1000000) (hc : a = none → c = 0) :
    Calls Try.prog 29 #[.agg #[.int .i64 C, .int .i64 R, .slice a n c]] w (CopySchemePost C R L w) := by
  subst hn; exact copyScheme_any C R a L c w hL hl hc
theorem sameSc2 (C R : Int) (L : List Cell) (a1 a2 : Option Addr) (n1 n2 c1 c2 : Nat) (w : World) (e1 : n1 = L.length) (e2 : n2 = L.length) (h1 : RowsAt 4 Cell.l w a1 L) (h2 : RowsAt 4 Cell.l w a2 L) (hl : L.length ≤ maxLen) :
    Calls Try.prog 26 #[.agg #[.int .i64 C, .int .i64 R, .slice a1 n1 c1], .agg #[.int .i64 C, .int .i64 R, .slice a2 n2 c2]] w fun e w' => e = .returned (.bool true) ∧ Below w.heap.size w w' := by
  subst e1; subst e2
  refine (same_any ⟨C, R, L⟩ a1 c1 ⟨C, R, L⟩ a2 c2 w h1 h2 hl hl).mono fun e w' ⟨he, hb⟩ => ⟨?_, hb⟩
  rw [he]; exact ret_bool (by unfold sameS; simp)
theorem hv_ok {C R : Int} {L : List Cell} {b : Bool} (h : hvErr C R L b = 0) : cellsErr C R L.length = 0 ∧ L.all cellPB = true ∧ evenB C.toNat R.toNat b = true := by
  unfold hvErr at h
  by_cases h1 : cellsErr C R L.length = 0
  · rw [if_neg (by simp [h1])] at h
    by_cases h2 : L.all cellPB = true
    · rw [if_pos h2] at h
      by_cases h3 : evenB C.toNat R.toNat b = true
      · exact ⟨h1, h2, h3⟩
      · rw [if_neg h3] at h; simp at h
    · rw [if_neg h2] at h; simp at h
  · rw [if_pos h1] at h; exact absurd h h1
theorem hv_len (C R : Int) (L : List Cell) (b : Bool) : (hv1 C R L b).length ≤ 64 ∧ (hv2 C R L b).length ≤ 64 := by
  unfold hv1 hv2
  by_cases h : hvErr C R L b = 0
  · rw [if_pos h, if_pos h, hOne_len, hTwo_len]
    obtain ⟨h1, -, -⟩ := hv_ok h
    obtain ⟨hs, -⟩ := cells_ok h1
    obtain ⟨sC, sR, -⟩ := side_ok hs
    have e1 : halfC C.toNat b ≤ 8 := by unfold halfC; split <;> omega
    have e2 : halfR R.toNat b ≤ 8 := by unfold halfR; split <;> omega
    have := Nat.mul_le_mul e2 e1
    omega
  · rw [if_neg h, if_neg h]; exact ⟨Nat.zero_le _, Nat.zero_le _⟩
/-- The halves of the sheet turned over. -/
theorem hv_over {cn rn : Nat} {L : List Cell} (h : hvErr cn rn L false = 0) : hvErr cn rn (ovTo cn rn L L.length) false = 0 ∧ hvD cn rn (ovTo cn rn L L.length) false = hvD cn rn L false ∧ hv1 cn rn (ovTo cn rn L L.length) false = hv2 cn rn L false ∧ hv2 cn rn (ovTo cn rn L L.length) false = hv1 cn rn L false := by
  obtain ⟨h1, h2, h3⟩ := hv_ok h
  obtain ⟨hs, hn⟩ := cells_ok h1
  obtain ⟨sC, sR, -⟩ := side_ok hs
  have hlen : L.length = cn * rn := by
    have : (L.length : Int) = ((cn * rn : Nat) : Int) := by rw [hn, Int.natCast_mul]
    omega
  have hO : hvErr cn rn (ovTo cn rn L L.length) false = 0 := by
    unfold hvErr
    rw [ovTo_len, if_neg (by simp [h1]), if_pos (ov_right (by omega) hlen h2), if_pos h3]
  have hh := half_over (C := cn) (R := rn) (w := halfC cn false) (y := halfR rn false) (L := L) (by omega) (by unfold halfC; rw [if_neg (by simp)]; omega) (by unfold halfR; rw [if_neg (by simp)]; exact Nat.le_refl _) hlen h2
  refine ⟨hO, ?_, ?_, ?_⟩
  · unfold hvD; rw [if_pos hO, if_pos h]
  · unfold hv1 hv2; rw [if_pos hO, if_pos h, Int.toNat_natCast, Int.toNat_natCast]; exact hh.1
  · unfold hv1 hv2; rw [if_pos hO, if_pos h, Int.toNat_natCast, Int.toNat_natCast]; exact hh.2
end Go.Proofs.Ytjkjfmahcjcniaa
