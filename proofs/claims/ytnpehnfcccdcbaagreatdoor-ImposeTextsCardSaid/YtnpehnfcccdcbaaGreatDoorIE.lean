/-
  Package impose: CheckFolds.
-/
import Derived.Test.YtnpehnfcccdcbaaGreatDoorID
namespace Go.Proofs.YtnpehnfcccdcbaaGreatDoor
open Go.RowKit

/-- Block b holds the cells cs. -/
def BoxAt (w : World) (b : Nat) (cs : Array Value) (T : TypeId) : Prop := w.heap[b]? = some (.cells cs T (0, 0))
section
variable {w w' : World} {b : Nat} {cs : Array Value} {T : TypeId}
theorem BoxAt.lt (h : BoxAt w b cs T) : b < w.heap.size := by
  rcases Nat.lt_or_ge b w.heap.size with hlt | hge
  · exact hlt
  · unfold BoxAt at h; rw [Array.getElem?_eq_none hge] at h; cases h
theorem BoxAt.cell (h : BoxAt w b cs T) (j : Nat) : w.cell? ⟨b, j, none⟩ = cs[j]? := cell_of_row w b j cs T (0, 0) h
theorem BoxAt.free (h : BoxAt w b cs T) (j : Nat) : w.frozen? ⟨b, j, none⟩ = false := by
  unfold BoxAt at h; simp [World.frozen?, h]
theorem BoxAt.below (h : BoxAt w b cs T) (hb : Below w.heap.size w w') : BoxAt w' b cs T := (hb.block b h.lt).trans h
theorem BoxAt.alloc (h : BoxAt w b cs T) (o : Obj) : BoxAt (w.alloc o) b cs T := h.below ((Below.refl _ _).alloc (Nat.le_refl _) o)
theorem BoxAt.drew (h : BoxAt w b cs T) : BoxAt w.drew b cs T := h
theorem BoxAt.drewN (h : BoxAt w b cs T) (n : Nat) : BoxAt (w.drewN n) b cs T := h
theorem BoxAt.new (w : World) (cs : Array Value) (T : TypeId) : BoxAt (w.alloc (.cells cs T)) w.heap.size cs T := heap_alloc_new w _
theorem BoxAt.set (h : BoxAt w b cs T) (j : Nat) (u : Value) : BoxAt (w.setCell ⟨b, j, none⟩ u) b (cs.setIfInBounds j u) T := heap_setCell_same w b j cs T u h
theorem BoxAt.set_other (h : BoxAt w b cs T) {p : Addr} (hp : b ≠ p.block) (u : Value) : BoxAt (w.setCell p u) b cs T := (Below.heap_setCell _ _ _ _ hp).trans h
theorem BoxAt.grown (h : BoxAt w b cs T) {row : Option Nat} (hg : w.grownBy w' row) (hne : some b ≠ row) : BoxAt w' b cs T := (hg.block b h.lt hne).trans h
end

/-- The first fold that cannot be done. -/
def foldsErr : Int → Int → List Fold → Int → Int × Int
  | C, R, [], i => if 1 < C * R then (i, 25) else (0, 0)
  | C, R, f :: L, i => if foldErr C R f ≠ 0 then (i, foldErr C R f) else foldsErr (afterC C f) (afterR R f) L (i + 1)
def checkFo (C R : Int) (L : List Fold) : Int × Int := if sideErr C R ≠ 0 then (0, sideErr C R) else if 12 < L.length then (0, 8) else foldsErr C R L 0
theorem side_ok {C R : Int} (h : sideErr C R = 0) : (1 ≤ C ∧ C ≤ 8) ∧ (1 ≤ R ∧ R ≤ 8) ∧ C * R ≤ 32 := by
  unfold sideErr at h
  by_cases h1 : inB C 1 8 = true ∧ inB R 1 8 = true
  · rw [if_pos h1] at h
    refine ⟨inB_iff.1 h1.1, inB_iff.1 h1.2, ?_⟩
    by_cases h2 : 32 < C * R
    · rw [if_pos h2] at h; omega
    · omega
  · rw [if_neg h1] at h; omega
/-- What a fold that can be done is. -/
theorem fold_ok {C R : Int} {f : Fold} (hC : 1 ≤ C ∧ C ≤ 8) (hR : 1 ≤ R ∧ R ≤ 8) (h : foldErr C R f = 0) :
    (1 ≤ f.k ∧ f.k ≤ 6) ∧ (0 ≤ f.c ∧ f.c ≤ 4) ∧ (f.k ≤ 4 → 1 ≤ f.c) ∧ (5 ≤ f.k → f.c = 0) ∧ (f.k ≤ 2 → 2 * f.c ≤ C) ∧ (3 ≤ f.k → f.k ≤ 4 → 2 * f.c ≤ R) := by
  unfold foldErr at h
  split at h
  · omega
  rename_i h1
  have hk := inB_iff.1 (by simpa using h1)
  split at h
  · rename_i h2
    split at h
    · omega
    · refine ⟨hk, ?_, ?_, ?_, ?_, ?_⟩ <;> intros <;> omega
  · rename_i h2
    split at h
    · omega
    · rename_i h3
      split at h
      · omega
      · rename_i h4
        unfold alongI at h4
        refine ⟨hk, ?_, ?_, ?_, ?_, ?_⟩ <;> intros <;> split at h4 <;> omega
theorem after_ok {C R : Int} {f : Fold} (hC : 1 ≤ C ∧ C ≤ 8) (hR : 1 ≤ R ∧ R ≤ 8) (h : foldErr C R f = 0) : (1 ≤ afterC C f ∧ afterC C f ≤ C) ∧ (1 ≤ afterR R f ∧ afterR R f ≤ R) := by
  obtain ⟨a, b, c, d, e, g⟩ := fold_ok hC hR h
  unfold afterC afterR
  constructor <;> split <;> omega
theorem foldsErr_stop {C R : Int} {L : List Fold} {k : Nat} (hk : k < L.length) (h : foldErr C R L[k] ≠ 0) : foldsErr C R (L.drop k) k = ((k : Int), foldErr C R L[k]) := by
  rw [List.drop_eq_getElem_cons hk]; unfold foldsErr; rw [if_pos h]
theorem foldsErr_go {C R : Int} {L : List Fold} {k : Nat} (hk : k < L.length) (h : foldErr C R L[k] = 0) : foldsErr C R (L.drop k) k = foldsErr (afterC C L[k]) (afterR R L[k]) (L.drop (k + 1)) ((k + 1 : Nat) : Int) := by
  rw [List.drop_eq_getElem_cons hk]
  show (if _ then _ else _) = _
  rw [if_neg (by simp [h])]; rfl
theorem foldsErr_end {C R : Int} {L : List Fold} {k : Nat} (hk : ¬ k < L.length) : foldsErr C R (L.drop k) k = if 1 < C * R then ((k : Int), 25) else (0, 0) := by
  rw [List.drop_of_length_le (by omega)]; rfl
theorem two_int {a b : Int × Int} (h : a = b) : Ending.returned (.tuple #[.int .i64 a.1, .int .i64 a.2]) = .returned (.tuple #[.int .i64 b.1, .int .i64 b.2]) := by rw [h]
theorem two_to {a : Int × Int} {x y : Int} (h : a = (x, y)) : Ending.returned (.tuple #[.int .i64 x, .int .i64 y]) = .returned (.tuple #[.int .i64 a.1, .int .i64 a.2]) := by rw [h]

set_option maxRecDepth 100000 in
set_option maxHeartbeats 2000000 in
theorem checkFolds_any (C R : Int) (a : Option Addr) (L : List Fold) (c : Nat) (w : World) (hL : RowsAt 2 Fold.l w a L) (hl : L.length ≤ maxLen) (hI : ∀ x ∈ L, OkI x.c) :
    Calls Tryz.prog 54 #[.agg #[.int .i64 C, .int .i64 R], .slice a L.length c] w fun e w' => e = .returned (.tuple #[.int .i64 (checkFo C R L).1, .int .i64 (checkFo C R L).2]) ∧ Below w.heap.size w w' := by
  unfold maxLen at hl
  have HI := Lib.hid hI; clear hI
  by_cases h1 : sideErr C R = 0
  · obtain ⟨sC, sR, hm⟩ := side_ok h1
    have H1 := Lib.hid h1
    by_cases h2 : 12 < L.length
    · have HE := Lib.hid (show checkFo C R L = (0, 8) by unfold checkFo; rw [if_neg (by simp [h1]), if_pos h2])
      clear h1 sC sR hm
      go_enter Tryz.func54, Tryz.ntmps54
      go_wp2_with fail
      refine (sizeOf_any C R _).mono ?_
      rintro e w1 ⟨rfl, hb1⟩
      have hB1 := ((Below.refl w.heap.size w).alloc (Nat.le_refl _) _).trans (hb1.mono (B' := w.heap.size) (by simp))
      go_wp2_with fail
      refine (errorOfSides_any C R _).mono ?_
      rintro e w2 ⟨rfl, hb2⟩
      have hB2 := (hB1.alloc hB1.size _).trans (hb2.mono (B' := w.heap.size) (by have := hB1.size; simp; omega))
      rw [H1.out]
      go_wp2_with fail
      go_ret2
      exact ⟨two_int HE.out.symm, hB2⟩
    · have HE := Lib.hid (show checkFo C R L = foldsErr C R (L.drop 0) ((0 : Nat) : Int) by unfold checkFo; rw [if_neg (by simp [h1]), if_neg h2]; rfl)
      have sC2 := sC; have sR2 := sR
      clear h1 sC sR hm
      have HS := Lib.hid (And.intro sC2 sR2)
      clear sC2 sR2
      go_enter Tryz.func54, Tryz.ntmps54
      go_wp2_with fail
      refine (sizeOf_any C R _).mono ?_
      rintro e w1 ⟨rfl, hb1⟩
      have hB1 := ((Below.refl w.heap.size w).alloc (Nat.le_refl _) (.cells #[.int .i64 C, .int .i64 R] 42)).trans (hb1.mono (B' := w.heap.size) (by simp))
      go_wp2_with fail
      refine (errorOfSides_any C R _).mono ?_
      rintro e w2 ⟨rfl, hb2⟩
      have hB2 := (hB1.alloc hB1.size (.cells #[.int .i64 C, .int .i64 R] 89)).trans (hb2.mono (B' := w.heap.size) (by have := hB1.size; simp; omega))
      have hx2 := (BoxAt.new w1 #[.int .i64 C, .int .i64 R] 89).below hb2
      have hlw1 := hB1.size
      rw [H1.out]
      clear hb1 hb2 hB1
      obtain ⟨b, hbw⟩ : ∃ b, w1.heap.size = b := ⟨_, rfl⟩
      rw [hbw] at hx2 hlw1
      have c0 := hx2.cell 0; have c1 := hx2.cell 1
      simp at c0 c1
      go_wp2_with fail
      have HBW := Lib.hid hbw; clear hbw
      go_loopw [23] (fun i wr => ∃ (k : Nat) (C' R' : Int), k ≤ L.length ∧ i = .int .i64 k ∧ BoxAt wr b #[.int .i64 C', .int .i64 R'] 89 ∧ Hid ((1 ≤ C' ∧ C' ≤ 8) ∧ (1 ≤ R' ∧ R' ≤ 8)) ∧ Hid (foldsErr C R (L.drop 0) ((0 : Nat) : Int) = foldsErr C' R' (L.drop k) k) ∧ Below w.heap.size w wr) (fun i _ => L.length - (intOf i).toNat)
      case atStart => exact ⟨0, C, R, Nat.zero_le _, rfl, hx2, HS, Lib.hid rfl, hB2⟩
      case round =>
        obtain ⟨k, C', R', hk, rfl, hx, HS', HR, hB⟩ := hrel
        clear c0 c1 hx2 hB2
        have c0 := hx.cell 0; have c1 := hx.cell 1
        have f0 := hx.free 0; have f1 := hx.free 1
        have hbl := hx.lt
        simp at c0 c1
        by_cases hlt : k < L.length
        · obtain ⟨ad, rfl, had, s0, s1⟩ := (hL.below hB).fold hlt
          obtain ⟨x, ex⟩ : ∃ x, x = L[k] := ⟨_, rfl⟩
          have HX := Lib.hid (HI.out L[k] (List.getElem_mem hlt))
          rw [← ex] at s0 s1 HX
          by_cases he : foldErr C' R' x = 0
          · have HG := Lib.hid (foldsErr_go (C := C') (R := R') hlt (by rw [← ex]; exact he))
            rw [← ex] at HG
            have HA := Lib.hid (after_ok HS'.out.1 HS'.out.2 he)
            have HF := Lib.hid (fold_ok HS'.out.1 HS'.out.2 he)
            have HE0 := Lib.hid he
            clear ex he
            have hlw : w.heap.size ≤ wr.heap.size := hB.size
            go_wp2_with fail
            refine (errorOfFold_any C' R' x _ HS'.out.1 HS'.out.2 HX.out).mono ?_
            rintro e w3 ⟨rfl, hb3⟩
            rw [HE0.out]
            have hx3 := (hx.alloc _).below hb3
            have hy3 := (BoxAt.new wr #[.int .i64 x.k, .int .i64 x.c] 98).below hb3
            have hB3 := (hB.alloc hlw _).trans (hb3.mono (B' := w.heap.size) (by simp; omega))
            clear c0 c1 f0 f1 hb3 s0 s1 hbl
            have c0 := hx3.cell 0; have c1 := hx3.cell 1; have d0 := hy3.cell 0; have d1 := hy3.cell 1
            have hbl := hx3.lt
            have hyl := hy3.lt
            simp at c0 c1 d0 d1
            go_wp2_with fail
            refine (after_any C' R' x _ HS'.out.1 HS'.out.2 (by have := HF.out; omega)).mono ?_
            rintro e w4 ⟨rfl, hb4⟩
            have hx4 := hx3.below hb4
            have hB4 := hB3.trans (hb4.mono (B' := w.heap.size) hB3.size)
            clear c0 c1 d0 d1 hbl hyl hb4
            have c0 := hx4.cell 0; have c1 := hx4.cell 1
            have f0 := hx4.free 0; have f1 := hx4.free 1
            have hbl := hx4.lt
            simp at c0 c1
            go_wp2_with fail
            go_roundw
            case rel => exact ⟨k + 1, _, _, by omega, by go_num, (hx4.set 0 _).set 1 _, Lib.hid (by have := HA.out; have := HS'.out; omega), Lib.hid (HR.out.trans HG.out), (hB4.setCell (p := ⟨b, 0, none⟩) hlw1 _).setCell (p := ⟨b, 1, none⟩) hlw1 _⟩
            case measure => simp [intOf]; omega
          · have HG := Lib.hid (foldsErr_stop (C := C') (R := R') hlt (by rw [← ex]; exact he))
            rw [← ex] at HG
            have hlw : w.heap.size ≤ wr.heap.size := hB.size
            have heb : (foldErr C' R' x != 0) = true := by simpa using he
            clear ex he
            go_wp2_with fail
            refine (errorOfFold_any C' R' x _ HS'.out.1 HS'.out.2 HX.out).mono ?_
            rintro e w3 ⟨rfl, hb3⟩
            have hB3 := (hB.alloc hlw _).trans (hb3.mono (B' := w.heap.size) (by simp; omega))
            go_wp2_with fail
            go_ret2
            exact ⟨two_to (by rw [HE.out, HR.out, HG.out]), hB3⟩
        · have HG := Lib.hid (foldsErr_end (C := C') (R := R') hlt)
          obtain ⟨n, hn⟩ : ∃ n, C' * R' = n := ⟨_, rfl⟩
          rw [hn] at HG
          have hnb : 1 ≤ n ∧ n ≤ 64 := by
            have g := HS'.out
            rw [← hn]
            exact ⟨by have := Int.mul_le_mul g.1.1 g.2.1 (by omega) (by omega); omega, by have := Int.mul_le_mul g.1.2 g.2.2 (by omega) (by omega); omega⟩
          have HN := Lib.hid hn; clear hn
          have hlw : w.heap.size ≤ wr.heap.size := hB.size
          have hke : Hid ((k : Int) = L.length) := Lib.hid (by omega)
          by_cases h4 : 1 < n
          · have HZ := Lib.hid (show (if 1 < n then ((k : Int), (25 : Int)) else (0, 0)) = ((L.length : Int), 25) by rw [if_pos h4, hke.out])
            go_wp2_with fail
            refine (cells_any _ _ _ _ HN.out (by rw [HN.out]; omega) (by rw [HN.out]; omega)).mono ?_
            rintro e w3 ⟨rfl, hb3⟩
            have hB3 := hB.trans (hb3.mono (B' := w.heap.size) hlw)
            go_wp2_with fail
            go_ret2
            exact ⟨two_to (by rw [HE.out, HR.out, HG.out, HZ.out]), hB3⟩
          · have HZ := Lib.hid (show (if 1 < n then ((k : Int), (25 : Int)) else (0, 0)) = (0, 0) by rw [if_neg h4])
            go_wp2_with fail
            refine (cells_any _ _ _ _ HN.out (by rw [HN.out]; omega) (by rw [HN.out]; omega)).mono ?_
            rintro e w3 ⟨rfl, hb3⟩
            have hB3 := hB.trans (hb3.mono (B' := w.heap.size) hlw)
            go_wp2_with fail
            go_ret2
            exact ⟨two_to (by rw [HE.out, HR.out, HG.out, HZ.out]), hB3⟩
  · have HE := Lib.hid (show checkFo C R L = (0, sideErr C R) by unfold checkFo; rw [if_pos h1])
    have hne : (sideErr C R != 0) = true := by simpa using h1
    clear h1
    go_enter Tryz.func54, Tryz.ntmps54
    go_wp2_with fail
    refine (sizeOf_any C R _).mono ?_
    rintro e w1 ⟨rfl, hb1⟩
    have hB1 := ((Below.refl w.heap.size w).alloc (Nat.le_refl _) _).trans (hb1.mono (B' := w.heap.size) (by simp))
    go_wp2_with fail
    refine (errorOfSides_any C R _).mono ?_
    rintro e w2 ⟨rfl, hb2⟩
    have hB2 := (hB1.alloc hB1.size _).trans (hb2.mono (B' := w.heap.size) (by have := hB1.size; simp; omega))
    go_wp2_with fail
    go_ret2
    exact ⟨two_int HE.out.symm, hB2⟩
end Go.Proofs.YtnpehnfcccdcbaaGreatDoor
