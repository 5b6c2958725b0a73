/-
  Package impose: the size behind a fold; where a fold brings what lies at a place.
-/
import Derived.Test.YtgoandhlcekmiaaGreatDoorKA
namespace Go.Proofs.YtgoandhlcekmiaaGreatDoor
open Go.RowKit

def AggPost (v : Value) (w : World) (e : Ending) (w' : World) : Prop := e = .returned v ∧ Below w.heap.size w w'
set_option maxHeartbeats 1000000 in
theorem after_any (C R : Int) (f : Fold) (w : World) (hC : 1 ≤ C ∧ C ≤ 8) (hR : 1 ≤ R ∧ R ≤ 8) (hc : 0 ≤ f.c ∧ f.c ≤ 8) :
    Calls Tryz.prog 53 #[.agg #[.int .i64 C, .int .i64 R], .agg #[.int .i64 f.k, .int .i64 f.c]] w (AggPost (.agg #[.int .i64 (afterC C f), .int .i64 (afterR R f)]) w) := by
  obtain ⟨k, c⟩ := f
  have hc : 0 ≤ c ∧ c ≤ 8 := hc
  obtain ⟨hC1, hC2⟩ := hC
  obtain ⟨hR1, hR2⟩ := hR
  obtain ⟨hc1, hc2⟩ := hc
  by_cases h1 : k = 1 ∨ k = 2
  · have HE := Lib.hid (show afterC C ⟨k, c⟩ = C - c ∧ afterR R ⟨k, c⟩ = R by unfold afterC afterR; exact ⟨if_pos h1, if_neg (by show ¬ (k = 3 ∨ k = 4); omega)⟩)
    rw [HE.out.1, HE.out.2]
    rcases h1 with rfl | rfl
    all_goals
      go_enter Tryz.func53, Tryz.ntmps53
      go_wp2
      refine bodyPost_ret (v := .agg #[.int .i64 (C - c), .int .i64 R]) (by simp [results, Tryz.results53, go_sem]) rfl ⟨rfl, ?_⟩
      (repeat (first | exact Below.refl _ _ | refine Below.alloc ?_ (by simp <;> omega) _ | refine Below.setCell ?_ (by simp <;> omega) _ | refine below_drewN ?_ _ | refine Below.drew ?_))
  by_cases h2 : k = 3 ∨ k = 4
  · have HE := Lib.hid (show afterC C ⟨k, c⟩ = C ∧ afterR R ⟨k, c⟩ = R - c by unfold afterC afterR; exact ⟨if_neg h1, if_pos h2⟩)
    rw [HE.out.1, HE.out.2]
    clear h1
    rcases h2 with rfl | rfl
    all_goals
      go_enter Tryz.func53, Tryz.ntmps53
      go_wp2
      refine bodyPost_ret (v := .agg #[.int .i64 C, .int .i64 (R - c)]) (by simp [results, Tryz.results53, go_sem]) rfl ⟨rfl, ?_⟩
      (repeat (first | exact Below.refl _ _ | refine Below.alloc ?_ (by simp <;> omega) _ | refine Below.setCell ?_ (by simp <;> omega) _ | refine below_drewN ?_ _ | refine Below.drew ?_))
  have HE := Lib.hid (show afterC C ⟨k, c⟩ = C ∧ afterR R ⟨k, c⟩ = R by unfold afterC afterR; exact ⟨if_neg h1, if_neg h2⟩)
  rw [HE.out.1, HE.out.2]
  have g1 : (k == 1) = false := by simp; omega
  have g2 : (k == 2) = false := by simp; omega
  have g3 : (k == 3) = false := by simp; omega
  have g4 : (k == 4) = false := by simp; omega
  clear h1 h2
  go_enter Tryz.func53, Tryz.ntmps53
  go_wp2
  refine bodyPost_ret (v := .agg #[.int .i64 C, .int .i64 R]) (by simp [results, Tryz.results53, go_sem]) rfl ⟨rfl, ?_⟩
  (repeat (first | exact Below.refl _ _ | refine Below.alloc ?_ (by simp <;> omega) _ | refine Below.setCell ?_ (by simp <;> omega) _ | refine below_drewN ?_ _ | refine Below.drew ?_))
def Way.v (x : Way) : Value := .agg #[.int .i64 x.c, .int .i64 x.r, .int .i64 x.o, .int .i64 x.t]
end Go.Proofs.YtgoandhlcekmiaaGreatDoor

namespace Go.Proofs.YtgoandhlcekmiaaGreatDoor
open Go.RowKit

/-- Block b holds the cells cs. -/
def BoxAt (w : World) (b : Nat) (cs : Array Value) (T : TypeId) : Prop := w.heap[b]? = some (.cells cs T (0, 0))
section
variable {w w' : World} {b : Nat} {cs : Array Value} {T : TypeId}
theorem BoxAt.lt (h : BoxAt w b cs T) : b < w.heap.size := by
  rcases Nat.lt_or_ge b w.heap.size with hlt | hge
  · exact hlt
  · unfold BoxAt at h; rw [Array.getElem?_eq_none hge] at h; cases h
theorem BoxAt.cell (h : BoxAt w b cs T) (j : Nat) : w.cell? ⟨b, j, none⟩ = cs[j]? := cell_of_row w b j cs T (0, 0) h
theorem BoxAt.free (h : BoxAt w b cs T) (j : Nat) : w.frozen? ⟨b, j, none⟩ = false := by
  unfold BoxAt at h; simp [World.frozen?, h]
theorem BoxAt.below (h : BoxAt w b cs T) (hb : Below w.heap.size w w') : BoxAt w' b cs T := (hb.block b h.lt).trans h
theorem BoxAt.alloc (h : BoxAt w b cs T) (o : Obj) : BoxAt (w.alloc o) b cs T := h.below ((Below.refl _ _).alloc (Nat.le_refl _) o)
theorem BoxAt.drew (h : BoxAt w b cs T) : BoxAt w.drew b cs T := h
theorem BoxAt.drewN (h : BoxAt w b cs T) (n : Nat) : BoxAt (w.drewN n) b cs T := h
theorem BoxAt.new (w : World) (cs : Array Value) (T : TypeId) : BoxAt (w.alloc (.cells cs T)) w.heap.size cs T := heap_alloc_new w _
theorem BoxAt.set (h : BoxAt w b cs T) (j : Nat) (u : Value) : BoxAt (w.setCell ⟨b, j, none⟩ u) b (cs.setIfInBounds j u) T := heap_setCell_same w b j cs T u h
theorem BoxAt.set_other (h : BoxAt w b cs T) {p : Addr} (hp : b ≠ p.block) (u : Value) : BoxAt (w.setCell p u) b cs T := (Below.heap_setCell _ _ _ _ hp).trans h
theorem BoxAt.grown (h : BoxAt w b cs T) {row : Option Nat} (hg : w.grownBy w' row) (hne : some b ≠ row) : BoxAt w' b cs T := (hg.block b h.lt hne).trans h
end

/-- The first fold that cannot be done. -/
def foldsErr : Int → Int → List Fold → Int → Int × Int
  | C, R, [], i => if 1 < C * R then (i, 25) else (0, 0)
  | C, R, f :: L, i => if foldErr C R f ≠ 0 then (i, foldErr C R f) else foldsErr (afterC C f) (afterR R f) L (i + 1)
def checkFo (C R : Int) (L : List Fold) : Int × Int := if sideErr C R ≠ 0 then (0, sideErr C R) else if 12 < L.length then (0, 8) else foldsErr C R L 0
theorem side_ok {C R : Int} (h : sideErr C R = 0) : (1 ≤ C ∧ C ≤ 8) ∧ (1 ≤ R ∧ R ≤ 8) ∧ C * R ≤ 32 := by
  unfold sideErr at h
  by_cases h1 : inB C 1 8 = true ∧ inB R 1 8 = true
  · rw [if_pos h1] at h
    refine ⟨inB_iff.1 h1.1, inB_iff.1 h1.2, ?_⟩
    by_cases h2 : 32 < C * R
    · rw [if_pos h2] at h; omega
    · omega
  · rw [if_neg h1] at h; omega
/-- What a fold that can be done is. -/
theorem fold_ok {C R : Int} {f : Fold} (hC : 1 ≤ C ∧ C ≤ 8) (hR : 1 ≤ R ∧ R ≤ 8) (h : foldErr C R f = 0) :
    (1 ≤ f.k ∧ f.k ≤ 6) ∧ (0 ≤ f.c ∧ f.c ≤ 4) ∧ (f.k ≤ 4 → 1 ≤ f.c) ∧ (5 ≤ f.k → f.c = 0) ∧ (f.k ≤ 2 → 2 * f.c ≤ C) ∧ (3 ≤ f.k → f.k ≤ 4 → 2 * f.c ≤ R) := by
  unfold foldErr at h
  split at h
  · omega
  rename_i h1
  have hk := inB_iff.1 (by simpa using h1)
  split at h
  · rename_i h2
    split at h
    · omega
    · refine ⟨hk, ?_, ?_, ?_, ?_, ?_⟩ <;> intros <;> omega
  · rename_i h2
    split at h
    · omega
    · rename_i h3
      split at h
      · omega
      · rename_i h4
        unfold alongI at h4
        refine ⟨hk, ?_, ?_, ?_, ?_, ?_⟩ <;> intros <;> split at h4 <;> omega
theorem after_ok {C R : Int} {f : Fold} (hC : 1 ≤ C ∧ C ≤ 8) (hR : 1 ≤ R ∧ R ≤ 8) (h : foldErr C R f = 0) : (1 ≤ afterC C f ∧ afterC C f ≤ C) ∧ (1 ≤ afterR R f ∧ afterR R f ≤ R) := by
  obtain ⟨a, b, c, d, e, g⟩ := fold_ok hC hR h
  unfold afterC afterR
  constructor <;> split <;> omega
theorem foldsErr_stop {C R : Int} {L : List Fold} {k : Nat} (hk : k < L.length) (h : foldErr C R L[k] ≠ 0) : foldsErr C R (L.drop k) k = ((k : Int), foldErr C R L[k]) := by
  rw [List.drop_eq_getElem_cons hk]; unfold foldsErr; rw [if_pos h]
theorem foldsErr_go {C R : Int} {L : List Fold} {k : Nat} (hk : k < L.length) (h : foldErr C R L[k] = 0) : foldsErr C R (L.drop k) k = foldsErr (afterC C L[k]) (afterR R L[k]) (L.drop (k + 1)) ((k + 1 : Nat) : Int) := by
  rw [List.drop_eq_getElem_cons hk]
  show (if _ then _ else _) = _
  rw [if_neg (by simp [h])]; rfl
theorem foldsErr_end {C R : Int} {L : List Fold} {k : Nat} (hk : ¬ k < L.length) : foldsErr C R (L.drop k) k = if 1 < C * R then ((k : Int), 25) else (0, 0) := by
  rw [List.drop_of_length_le (by omega)]; try rfl
theorem two_int {a b : Int × Int} (h : a = b) : Ending.returned (.tuple #[.int .i64 a.1, .int .i64 a.2]) = .returned (.tuple #[.int .i64 b.1, .int .i64 b.2]) := by rw [h]
theorem two_to {a : Int × Int} {x y : Int} (h : a = (x, y)) : Ending.returned (.tuple #[.int .i64 x, .int .i64 y]) = .returned (.tuple #[.int .i64 a.1, .int .i64 a.2]) := by rw [h]

set_option maxRecDepth 100000 in
set_option maxHeartbeats 2000000 in
theorem checkFolds_any (C R : Int) (a : Option Addr) (L : List Fold) (c : Nat) (w : World) (hL : RowsAt 2 Fold.l w a L) (hl : L.length ≤ maxLen) (hI : ∀ x ∈ L, OkI x.c) :
    Calls Tryz.prog 19 #[.agg #[.int .i64 C, .int .i64 R], .slice a L.length c] w fun e w' => e = .returned (.tuple #[.int .i64 (checkFo C R L).1, .int .i64 (checkFo C R L).2]) ∧ Below w.heap.size w w' := by
  unfold maxLen at hl
  have HI := Lib.hid hI; clear hI
  by_cases h1 : sideErr C R = 0
  · obtain ⟨sC, sR, hm⟩ := side_ok h1
    have H1 := Lib.hid h1
    by_cases h2 : 12 < L.length
    · have HE := Lib.hid (show checkFo C R L = (0, 8) by unfold checkFo; rw [if_neg (by simp [h1]), if_pos h2])
      clear h1 sC sR hm
      go_enter Tryz.func19, Tryz.ntmps19
      go_wp2_with fail
      refine (sizeOf_any C R _).mono ?_
      rintro e w1 ⟨rfl, hb1⟩
      have hB1 := ((Below.refl w.heap.size w).alloc (Nat.le_refl _) _).trans (hb1.mono (B' := w.heap.size) (by simp))
      go_wp2_with fail
      refine (errorOfSides_any C R _).mono ?_
      rintro e w2 ⟨rfl, hb2⟩
      have hB2 := (hB1.alloc hB1.size _).trans (hb2.mono (B' := w.heap.size) (by have := hB1.size; simp; omega))
      rw [H1.out]
      go_wp2_with fail
      go_ret2
      exact ⟨two_int HE.out.symm, hB2⟩
    · have HE := Lib.hid (show checkFo C R L = foldsErr C R (L.drop 0) ((0 : Nat) : Int) by unfold checkFo; rw [if_neg (by simp [h1]), if_neg h2]; rfl)
      have sC2 := sC; have sR2 := sR
      clear h1 sC sR hm
      have HS := Lib.hid (And.intro sC2 sR2)
      clear sC2 sR2
      go_enter Tryz.func19, Tryz.ntmps19
      go_wp2_with fail
      refine (sizeOf_any C R _).mono ?_
      rintro e w1 ⟨rfl, hb1⟩
      have hB1 := ((Below.refl w.heap.size w).alloc (Nat.le_refl _) (.cells #[.int .i64 C, .int .i64 R] 22)).trans (hb1.mono (B' := w.heap.size) (by simp))
      go_wp2_with fail
      refine (errorOfSides_any C R _).mono ?_
      rintro e w2 ⟨rfl, hb2⟩
      have hB2 := (hB1.alloc hB1.size (.cells #[.int .i64 C, .int .i64 R] 73)).trans (hb2.mono (B' := w.heap.size) (by have := hB1.size; simp; omega))
      have hx2 := (BoxAt.new w1 #[.int .i64 C, .int .i64 R] 73).below hb2
      have hlw1 := hB1.size
      rw [H1.out]
      clear hb1 hb2 hB1
      obtain ⟨b, hbw⟩ : ∃ b, w1.heap.size = b := ⟨_, rfl⟩
      rw [hbw] at hx2 hlw1
      have c0 := hx2.cell 0; have c1 := hx2.cell 1
      simp at c0 c1
      go_wp2_with fail
      have HBW := Lib.hid hbw; clear hbw
      go_loopw [23] (fun i wr => ∃ (k : Nat) (C' R' : Int), k ≤ L.length ∧ i = .int .i64 k ∧ BoxAt wr b #[.int .i64 C', .int .i64 R'] 73 ∧ Hid ((1 ≤ C' ∧ C' ≤ 8) ∧ (1 ≤ R' ∧ R' ≤ 8)) ∧ Hid (foldsErr C R (L.drop 0) ((0 : Nat) : Int) = foldsErr C' R' (L.drop k) k) ∧ Below w.heap.size w wr) (fun i _ => L.length - (intOf i).toNat)
      case atStart => exact ⟨0, C, R, Nat.zero_le _, rfl, hx2, HS, Lib.hid rfl, hB2⟩
      case round =>
        obtain ⟨k, C', R', hk, rfl, hx, HS', HR, hB⟩ := hrel
        clear c0 c1 hx2 hB2
        have c0 := hx.cell 0; have c1 := hx.cell 1
        have f0 := hx.free 0; have f1 := hx.free 1
        have hbl := hx.lt
        simp at c0 c1
        by_cases hlt : k < L.length
        · obtain ⟨ad, rfl, had, s0, s1⟩ := (hL.below hB).fold hlt
          obtain ⟨x, ex⟩ : ∃ x, x = L[k] := ⟨_, rfl⟩
          have HX := Lib.hid (HI.out L[k] (List.getElem_mem hlt))
          rw [← ex] at s0 s1 HX
          by_cases he : foldErr C' R' x = 0
          · have HG := Lib.hid (foldsErr_go (C := C') (R := R') hlt (by rw [← ex]; exact he))
            rw [← ex] at HG
            have HA := Lib.hid (after_ok HS'.out.1 HS'.out.2 he)
            have HF := Lib.hid (fold_ok HS'.out.1 HS'.out.2 he)
            have HE0 := Lib.hid he
            clear ex he
            have hlw : w.heap.size ≤ wr.heap.size := hB.size
            go_wp2_with fail
            refine (errorOfFold_any C' R' x _ HS'.out.1 HS'.out.2 HX.out).mono ?_
            rintro e w3 ⟨rfl, hb3⟩
            rw [HE0.out]
            have hx3 := (hx.alloc _).below hb3
            have hy3 := (BoxAt.new wr #[.int .i64 x.k, .int .i64 x.c] 59).below hb3
            have hB3 := (hB.alloc hlw _).trans (hb3.mono (B' := w.heap.size) (by simp; omega))
            clear c0 c1 f0 f1 hb3 s0 s1 hbl
            have c0 := hx3.cell 0; have c1 := hx3.cell 1; have d0 := hy3.cell 0; have d1 := hy3.cell 1
            have hbl := hx3.lt
            have hyl := hy3.lt
            simp at c0 c1 d0 d1
            go_wp2_with fail
            refine (after_any C' R' x _ HS'.out.1 HS'.out.2 (by have := HF.out; omega)).mono ?_
            rintro e w4 ⟨rfl, hb4⟩
            have hx4 := hx3.below hb4
            have hB4 := hB3.trans (hb4.mono (B' := w.heap.size) hB3.size)
            clear c0 c1 d0 d1 hbl hyl hb4
            have c0 := hx4.cell 0; have c1 := hx4.cell 1
            have f0 := hx4.free 0; have f1 := hx4.free 1
            have hbl := hx4.lt
            simp at c0 c1
            go_wp2_with fail
            go_roundw
            case rel => exact ⟨k + 1, _, _, by omega, by go_num, (hx4.set 0 _).set 1 _, Lib.hid (by have := HA.out; have := HS'.out; omega), Lib.hid (HR.out.trans HG.out), (hB4.setCell (p := ⟨b, 0, none⟩) hlw1 _).setCell (p := ⟨b, 1, none⟩) hlw1 _⟩
            case measure => simp [intOf]; omega
          · have HG := Lib.hid (foldsErr_stop (C := C') (R := R') hlt (by rw [← ex]; exact he))
            rw [← ex] at HG
            have hlw : w.heap.size ≤ wr.heap.size := hB.size
            have heb : (foldErr C' R' x != 0) = true := by simpa using he
            clear ex he
            go_wp2_with fail
            refine (errorOfFold_any C' R' x _ HS'.out.1 HS'.out.2 HX.out).mono ?_
            rintro e w3 ⟨rfl, hb3⟩
            have hB3 := (hB.alloc hlw _).trans (hb3.mono (B' := w.heap.size) (by simp; omega))
            go_wp2_with fail
            go_ret2
            exact ⟨two_to (by rw [HE.out, HR.out, HG.out]), hB3⟩
        · have HG := Lib.hid (foldsErr_end (C := C') (R := R') hlt)
          obtain ⟨n, hn⟩ : ∃ n, C' * R' = n := ⟨_, rfl⟩
          rw [hn] at HG
          have hnb : 1 ≤ n ∧ n ≤ 64 := by
            have g := HS'.out
            rw [← hn]
            exact ⟨by have := Int.mul_le_mul g.1.1 g.2.1 (by omega) (by omega); omega, by have := Int.mul_le_mul g.1.2 g.2.2 (by omega) (by omega); omega⟩
          have HN := Lib.hid hn; clear hn
          have hlw : w.heap.size ≤ wr.heap.size := hB.size
          have hke : Hid ((k : Int) = L.length) := Lib.hid (by omega)
          by_cases h4 : 1 < n
          · have HZ := Lib.hid (show (if 1 < n then ((k : Int), (25 : Int)) else (0, 0)) = ((L.length : Int), 25) by rw [if_pos h4, hke.out])
            go_wp2_with fail
            refine (cells_any _ _ _ _ HN.out (by rw [HN.out]; omega) (by rw [HN.out]; omega)).mono ?_
            rintro e w3 ⟨rfl, hb3⟩
            have hB3 := hB.trans (hb3.mono (B' := w.heap.size) hlw)
            go_wp2_with fail
            go_ret2
            exact ⟨two_to (by rw [HE.out, HR.out, HG.out, HZ.out]), hB3⟩
          · have HZ := Lib.hid (show (if 1 < n then ((k : Int), (25 : Int)) else (0, 0)) = (0, 0) by rw [if_neg h4])
            go_wp2_with fail
            refine (cells_any _ _ _ _ HN.out (by rw [HN.out]; omega) (by rw [HN.out]; omega)).mono ?_
            rintro e w3 ⟨rfl, hb3⟩
            have hB3 := hB.trans (hb3.mono (B' := w.heap.size) hlw)
            go_wp2_with fail
            go_ret2
            exact ⟨two_to (by rw [HE.out, HR.out, HG.out, HZ.out]), hB3⟩
  · have HE := Lib.hid (show checkFo C R L = (0, sideErr C R) by unfold checkFo; rw [if_pos h1])
    have hne : (sideErr C R != 0) = true := by simpa using h1
    clear h1
    go_enter Tryz.func19, Tryz.ntmps19
    go_wp2_with fail
    refine (sizeOf_any C R _).mono ?_
    rintro e w1 ⟨rfl, hb1⟩
    have hB1 := ((Below.refl w.heap.size w).alloc (Nat.le_refl _) _).trans (hb1.mono (B' := w.heap.size) (by simp))
    go_wp2_with fail
    refine (errorOfSides_any C R _).mono ?_
    rintro e w2 ⟨rfl, hb2⟩
    have hB2 := (hB1.alloc hB1.size _).trans (hb2.mono (B' := w.heap.size) (by have := hB1.size; simp; omega))
    go_wp2_with fail
    go_ret2
    exact ⟨two_int HE.out.symm, hB2⟩
end Go.Proofs.YtgoandhlcekmiaaGreatDoor

namespace Go.Proofs.YtgoandhlcekmiaaGreatDoor
open Go.RowKit

def xr (a b : Int) : Int := if a = b then 0 else 1
def Bit (a : Int) : Prop := a = 0 ∨ a = 1
theorem xr_bit (a b : Int) : Bit (xr a b) := by unfold xr Bit; split <;> omega
theorem bits_xor {a b : Int} (ha : Bit a) (hb : Bit b) : bits BinOp.xor IntKind.i64 a b = xr a b := by
  rcases ha with rfl | rfl <;> rcases hb with rfl | rfl <;> decide +kernel
set_option maxHeartbeats 1000000 in
theorem turned_any (x : Page) (t : Int) (w : World) (hx : Bit x.t) (ht : Bit t) :
    Calls Tryz.prog 43 #[.agg #[.int .i64 x.p, .int .i64 x.t], .int .i64 t] w (AggPost (.agg #[.int .i64 x.p, .int .i64 (xr x.t t)]) w) := by
  have hxor := bits_xor hx ht
  clear hx ht
  go_enter Tryz.func43, Tryz.ntmps43
  go_wp2
  refine bodyPost_ret (v := .agg #[.int .i64 x.p, .int .i64 (xr x.t t)]) (by simp [results, Tryz.results43, go_sem]) rfl ⟨rfl, ?_⟩
  (repeat (first | exact Below.refl _ _ | refine Below.alloc ?_ (by simp <;> omega) _ | refine Below.setCell ?_ (by simp <;> omega) _ | refine below_drewN ?_ _ | refine Below.drew ?_))
/-- A copy of a slice. -/
def ClonePost {α : Type} (n : Nat) (E : TypeId) (g : α → List Int) (w : World) (L : List α) (e : Ending) (w' : World) : Prop := ∃ v, e = .returned v ∧ OwnR n E g w' w.heap.size v L ∧ Below w.heap.size w w'
set_option maxRecDepth 100000 in
set_option maxHeartbeats 1000000 in
theorem cloneLeaf_any (a : Option Addr) (L : List Leaf) (c : Nat) (w : World) (hL : RowsAt 4 Leaf.l w a L) (hl : L.length ≤ 1000000) (hn : a = none → c = 0) :
    Calls Tryz.prog 94 #[.slice a L.length c] w (ClonePost 4 77 Leaf.l w L) := by
  cases a with
  | none =>
    have hL0 := hL.drop_none
    subst hL0
    have hc := hn rfl
    subst hc
    have q : ∀ (w : World) (a : Option Addr) (n c n' c' : Nat), (binOp .eql 69 (.slice a n c) (.slice none n' c')).run Tryz.prog w = .ok (.bool a.isNone) w := fun w a n c n' c' => Lib.run_eql_slice_nil w 69 77 a n c n' c' Tryz.underlying69
    go_enter Tryz.func94, Tryz.ntmps94
    go_wp2
    go_ret
    exact ⟨_, rfl, OwnR.nil _ _, Below.refl _ _⟩
  | some ad =>
    have hm := World.ownsRow_made (e := 77) (size := 4) (base := w.heap.size) w #[] 0 (Nat.le_refl _) (Nat.zero_le _) rfl
    have hown : OwnR 4 77 Leaf.l (w.alloc (.cells #[] 77)) w.heap.size (.slice (some ⟨w.heap.size, 0, none⟩) 0 0) [] := hm
    have hB := (Below.refl w.heap.size w).alloc (Nat.le_refl _) (.cells #[] 77)
    have HL := Lib.hid (hL.alloc (.cells #[] 77))
    clear hm hL
    have q : ∀ (w : World) (a : Option Addr) (n c n' c' : Nat), (binOp .eql 69 (.slice a n c) (.slice none n' c')).run Tryz.prog w = .ok (.bool a.isNone) w := fun w a n c n' c' => Lib.run_eql_slice_nil w 69 77 a n c n' c' Tryz.underlying69
    go_enter Tryz.func94, Tryz.ntmps94
    go_wp2_with (at_builtin; refine wpList_appL tLeaf leaf_l _ rfl _ _ rfl w.heap.size _ [] rfl hown (some ad) L c rfl HL.out (fun e => by cases e) (by simp) hl (by simp) ?_; intro v' w' hown' hg' hB' hor')
    go_ret
    exact ⟨_, rfl, hown', hB.trans hB'⟩

theorem flat_set {α : Type} {n : Nat} {g : α → List Int} (hg : ∀ x, (g x).length = n) (x' : α) (y : Int) : ∀ (L : List α) (k j : Nat) (hk : k < L.length), j < n → g x' = (g L[k]).set j y → (L.flatMap g).set (k * n + j) y = (L.set k x').flatMap g
  | [], _, _, hk, _, _ => absurd hk (Nat.not_lt_zero _)
  | x :: L, 0, j, _, hj, h => by
    rw [List.set_cons_zero, List.flatMap_cons, List.flatMap_cons, Nat.zero_mul, Nat.zero_add, List.set_append_left _ _ (by rw [hg x]; exact hj), h]; rfl
  | x :: L, k + 1, j, hk, hj, h => by
    rw [List.set_cons_succ, List.flatMap_cons, List.flatMap_cons, List.set_append_right _ _ (by rw [hg x, Nat.succ_mul]; omega), hg x, show (k + 1) * n + j - n = k * n + j by rw [Nat.succ_mul]; omega,
      flat_set hg x' y L k j (by simpa using hk) hj h]
theorem own_cell {w : World} {base e n size g c : Nat} {xs : List Value} (h : w.ownsRow base e size (.slice (some ⟨g, 0, none⟩) n c) n xs) (j : Nat) (u : Value) : (w.setCell ⟨g, j, none⟩ u).ownsRow base e size (.slice (some ⟨g, 0, none⟩) n c) n (xs.set j u) := by
  rcases h.2 with ⟨e1, _⟩ | ⟨g', cap, cur, e1, h1, h2, h3, h4, h5, h6⟩
  · cases e1
  · cases e1
    refine ⟨by rw [List.length_set]; exact h.1, Or.inr ⟨g, c, cur.setIfInBounds j u, rfl, h1, heap_setCell_same w g j cur e u h2, h3, h4, by rw [Array.size_setIfInBounds]; exact h5, ?_⟩⟩
    rw [Array.toList_setIfInBounds, List.take_set, h6]
/-- A store of one number into a row of the call's own. -/
theorem OwnR.put {α : Type} {n : Nat} {E : TypeId} {g : α → List Int} {w : World} {B b m c : Nat} {L : List α} (h : OwnR n E g w B (.slice (some ⟨b, 0, none⟩) m c) L) (hg : ∀ x, (g x).length = n) (hm : m = L.length) {k j : Nat} (hk : k < L.length) (hj : j < n) (x' : α) (y : Int) (hx : g x' = (g L[k]).set j y) :
    OwnR n E g (w.setCell ⟨b, k * n + j, none⟩ (.int .i64 y)) B (.slice (some ⟨b, 0, none⟩) m c) (L.set k x') := by
  subst hm
  have h1 := own_cell (n := L.length) h (k * n + j) (.int .i64 y)
  unfold OwnR
  rw [List.length_set, ← flat_set hg x' y L k j hk hj hx]
  unfold vals
  rw [List.map_set]
  exact h1
theorem OwnR.block {α : Type} {n : Nat} {E : TypeId} {g : α → List Int} {w : World} {B b m c : Nat} {L : List α} (h : OwnR n E g w B (.slice (some ⟨b, 0, none⟩) m c) L) : ∃ cur, w.heap[b]? = some (.cells cur E (0, 0)) := by
  rcases h.2 with ⟨e1, _⟩ | ⟨g', cap, cur, e1, h1, h2, _⟩
  · cases e1
  · cases e1; exact ⟨cur, h2⟩
theorem OwnR.free {α : Type} {n : Nat} {E : TypeId} {g : α → List Int} {w : World} {B b m c : Nat} {L : List α} (h : OwnR n E g w B (.slice (some ⟨b, 0, none⟩) m c) L) (j : Nat) : w.frozen? ⟨b, j, none⟩ = false := by
  obtain ⟨cur, hc⟩ := h.block
  simp [World.frozen?, hc]
theorem OwnR.put4 {E : TypeId} {w : World} {B b m c : Nat} {M : List Leaf} (h : OwnR 4 E Leaf.l w B (.slice (some ⟨b, 0, none⟩) m c) M) (hm : m = M.length) {k : Nat} (hk : k < M.length) (x : Leaf) :
    OwnR 4 E Leaf.l ((((w.setCell ⟨b, k * 4, none⟩ (.int .i64 x.c)).setCell ⟨b, k * 4 + 1, none⟩ (.int .i64 x.r)).setCell ⟨b, k * 4 + 2, none⟩ (.int .i64 x.o)).setCell ⟨b, k * 4 + 3, none⟩ (.int .i64 x.t)) B (.slice (some ⟨b, 0, none⟩) m c) (M.set k x) := by
  have h1 := h.put leaf_l hm hk (j := 0) (by decide) ⟨x.c, M[k].r, M[k].o, M[k].t⟩ x.c rfl
  have h2 := h1.put leaf_l (by rw [List.length_set]; exact hm) (by rw [List.length_set]; exact hk) (j := 1) (by decide) ⟨x.c, x.r, M[k].o, M[k].t⟩ x.r (by rw [List.getElem_set_self]; try rfl)
  rw [List.set_set] at h2
  have h3 := h2.put leaf_l (by rw [List.length_set]; exact hm) (by rw [List.length_set]; exact hk) (j := 2) (by decide) ⟨x.c, x.r, x.o, M[k].t⟩ x.o (by rw [List.getElem_set_self]; try rfl)
  rw [List.set_set] at h3
  have h4 := h3.put leaf_l (by rw [List.length_set]; exact hm) (by rw [List.length_set]; exact hk) (j := 3) (by decide) x x.t (by rw [List.getElem_set_self]; try rfl)
  rw [List.set_set] at h4
  exact h4
/-- The form of a slice of the call's own that is not empty. -/
theorem OwnR.form {α : Type} {n : Nat} {E : TypeId} {g : α → List Int} {w : World} {B : Nat} {v : Value} {L : List α} (h : OwnR n E g w B v L) (hp : 0 < L.length) : ∃ b c, v = .slice (some ⟨b, 0, none⟩) L.length c ∧ B ≤ b ∧ b < w.heap.size := World.ownsRow.form h hp
end Go.Proofs.YtgoandhlcekmiaaGreatDoor

namespace Go.Proofs.YtgoandhlcekmiaaGreatDoor
open Go.RowKit

/-- The first i leaves have been exchanged with the last i. -/
def revAt (L : List Leaf) (i : Nat) : List Leaf := (List.range L.length).map fun m => if m < i ∨ L.length ≤ m + i then L.getD (L.length - 1 - m) default else L.getD m default
theorem revAt_len (L : List Leaf) (i : Nat) : (revAt L i).length = L.length := by simp [revAt]
theorem revAt_at {L : List Leaf} {i m : Nat} (h : m < (revAt L i).length) : (revAt L i)[m] = if m < i ∨ L.length ≤ m + i then L.getD (L.length - 1 - m) default else L.getD m default := by simp [revAt]
theorem getD_at {L : List Leaf} {m : Nat} (h : m < L.length) : L.getD m default = L[m] := by rw [List.getD_eq_getElem?_getD, List.getElem?_eq_getElem h]; try rfl
theorem revAt_zero (L : List Leaf) : revAt L 0 = L := by
  apply List.ext_getElem (revAt_len L 0)
  intro m h1 h2
  rw [revAt_at, if_neg (by omega), getD_at h2]
theorem revAt_end {L : List Leaf} {i : Nat} (h : L.length ≤ 2 * i + 1) : revAt L i = L.reverse := by
  apply List.ext_getElem (by rw [revAt_len]; simp)
  intro m h1 h2
  have hm : m < L.length := by simpa using h2
  rw [revAt_at, List.getElem_reverse]
  by_cases hh : m < i ∨ L.length ≤ m + i
  · rw [if_pos hh, getD_at (by omega)]
  · rw [if_neg hh, getD_at hm]
    have : m = L.length - 1 - m := by omega
    congr 1
theorem revAt_step {L : List Leaf} {i : Nat} (h : i + i + 1 < L.length) (h1 : i < (revAt L i).length) (h2 : L.length - 1 - i < (revAt L i).length) :
    ((revAt L i).set i (revAt L i)[L.length - 1 - i]).set (L.length - 1 - i) (revAt L i)[i] = revAt L (i + 1) := by
  apply List.ext_getElem (by simp [revAt_len])
  intro m g1 g2
  have hm : m < L.length := by rw [revAt_len] at g2; exact g2
  simp only [List.getElem_set, revAt_at]
  by_cases c1 : L.length - 1 - i = m
  · rw [if_pos c1, if_neg (by omega), if_pos (by omega)]
    congr 1; omega
  · rw [if_neg c1]
    by_cases c2 : i = m
    · rw [if_pos c2, if_neg (by omega), if_pos (by omega), c2]
    · rw [if_neg c2]
      by_cases c3 : m < i ∨ L.length ≤ m + i
      · rw [if_pos c3, if_pos (by omega)]
      · rw [if_neg c3, if_neg (by omega)]
theorem revAt_step' {L : List Leaf} {i m : Nat} (hm : L.length - 1 - i = m) (h : i + i + 1 < L.length) (h1 : i < (revAt L i).length) (h2 : m < (revAt L i).length) {x y : Leaf} (hx : x = (revAt L i)[i]) (hy : y = (revAt L i)[m]) :
    ((revAt L i).set i y).set m x = revAt L (i + 1) := by
  subst hm hx hy
  exact revAt_step h h1 h2
def RevPost (B b c : Nat) (L : List Leaf) (w : World) (e : Ending) (w' : World) : Prop := e = .returned (.tuple #[]) ∧ OwnR 4 77 Leaf.l w' B (.slice (some ⟨b, 0, none⟩) L.length c) L.reverse ∧ w.grownBy w' (some b)
theorem grownBy_refl (w : World) (row : Option Nat) : w.grownBy w row := ⟨rfl, rfl, rfl, Nat.le_refl _, fun _ _ _ => rfl⟩
theorem grownBy_set {w w' : World} {b : Nat} (h : w.grownBy w' (some b)) (j : Nat) (u : Value) : w.grownBy (w'.setCell ⟨b, j, none⟩ u) (some b) :=
  ⟨h.os, h.tape, h.output, by rw [World.size_setCell]; exact h.size, fun k hk hne => (Below.heap_setCell _ _ _ _ (fun e => hne (by rw [e]))).trans (h.block k hk hne)⟩
theorem grownBy_drew {w w' : World} {row : Option Nat} (h : w.grownBy w' row) : w.grownBy w'.drew row := ⟨h.os, h.tape, h.output, h.size, h.block⟩
set_option maxRecDepth 100000 in
set_option maxHeartbeats 2000000 in
theorem revLeaf_any (B b c : Nat) (L : List Leaf) (w : World) (hO : OwnR 4 77 Leaf.l w B (.slice (some ⟨b, 0, none⟩) L.length c) L) (hl : L.length ≤ 1000000) (hp : 0 < L.length) :
    Calls Tryz.prog 95 #[.slice (some ⟨b, 0, none⟩) L.length c] w (RevPost B b c L w) := by
  have HW := Lib.hid (grownBy_refl w (some b))
  go_enter Tryz.func95, Tryz.ntmps95
  go_wp2
  go_loopw [2, 3] (fun i j wr => ∃ k : Nat, 2 * k ≤ L.length ∧ i = .int .i64 k ∧ j = .int .i64 ((L.length : Int) - 1 - k) ∧ OwnR 4 77 Leaf.l wr B (.slice (some ⟨b, 0, none⟩) L.length c) (revAt L k) ∧ Hid (w.grownBy wr (some b))) (fun i _ _ => L.length - (intOf i).toNat)
  case atStart => exact ⟨0, by omega, rfl, by go_num, by rw [revAt_zero]; exact hO, HW⟩
  case round =>
    obtain ⟨k, hk, rfl, rfl, hr, hg⟩ := hrel
    clear hO HW
    by_cases hlt : 2 * k + 1 < L.length
    · obtain ⟨m, hm⟩ : ∃ m : Nat, L.length - 1 - k = m := ⟨_, rfl⟩
      have hmI : (L.length : Int) - 1 - k = (m : Int) := by omega
      rw [hmI]
      have hml : m < L.length := by omega
      have hk1 : k < (revAt L k).length := by rw [revAt_len]; omega
      have hm1 : m < (revAt L k).length := by rw [revAt_len]; omega
      have hkm : k < m := by omega
      have HM := Lib.hid hm; clear hm hmI
      obtain ⟨a', c', e1, hrow, -, -, -, -⟩ := hr.rows leaf_l
      injection e1 with e1 e2 e3
      subst e1 e3
      have E2 := Lib.hid e2; clear e2
      obtain ⟨_, e1, hb1, x0, x1, x2, x3⟩ := hrow.leaf (k := k) hk1
      cases e1
      obtain ⟨_, e1, -, y0, y1, y2, y3⟩ := hrow.leaf (k := m) hm1
      cases e1
      rw [add0] at x0 x1 x2 x3 y0 y1 y2 y3
      obtain ⟨x, ex⟩ : ∃ x, x = (revAt L k)[k] := ⟨_, rfl⟩
      obtain ⟨y, ey⟩ : ∃ x, x = (revAt L k)[m] := ⟨_, rfl⟩
      rw [← ex] at x0 x1 x2 x3
      rw [← ey] at y0 y1 y2 y3
      have f0 := fun j => hr.free j
      have EX := Lib.hid ex; have EY := Lib.hid ey; clear ex ey
      have hkI : (k : Int) < (L.length : Int) := by omega
      have hmI2 : (m : Int) < (L.length : Int) := by omega
      go_wp2
      go_region
      all_goals
        go_wp2
        go_roundw
      all_goals first
        | (refine ⟨k + 1, by omega, by go_num, ?_, ?_, ?_⟩
           · have := HM.out; congr 1; omega
           · first
             | (have hz := ((hr.put4 E2.out hk1 y).put4 (by rw [List.length_set]; exact E2.out) (by rw [List.length_set]; exact hm1) x)
                rw [revAt_step' HM.out (by omega) hk1 hm1 EX.out EY.out] at hz
                exact hz.drew)
           · exact Lib.hid (grownBy_drew (by
               iterate 8 refine grownBy_set ?_ _ _
               exact hg.out)))
        | (simp [intOf]; omega)
    · have hge : ¬ ((k : Int) < (L.length : Int) - 1 - (k : Int)) := by omega
      have he := revAt_end (L := L) (i := k) (by omega)
      rw [he] at hr
      have HR := Lib.hid hr; clear hr he
      go_wp2
      go_end0
      exact ⟨rfl, HR.out, hg⟩
end Go.Proofs.YtgoandhlcekmiaaGreatDoor

namespace Go.Proofs.YtgoandhlcekmiaaGreatDoor
open Go.RowKit

def turnX (o t : Int) (x : Leaf) : Leaf := ⟨x.c, x.r, xr x.o o, xr x.t t⟩
def turnL (o t : Int) (L : List Leaf) : List Leaf := if o = 1 then (L.map (turnX o t)).reverse else L.map (turnX o t)
/-- The first k leaves are turned. -/
def mixT (o t : Int) (L : List Leaf) (k : Nat) : List Leaf := (L.take k).map (turnX o t) ++ L.drop k
theorem mixT_len (o t : Int) (L : List Leaf) (k : Nat) : (mixT o t L k).length = L.length := by
  unfold mixT; rw [List.length_append, List.length_map, List.length_take, List.length_drop]; omega
theorem mixT_at {o t : Int} {L : List Leaf} {k : Nat} (hk : k < L.length) (h : k < (mixT o t L k).length) : (mixT o t L k)[k] = L[k] := by
  have e : (mixT o t L k)[k]? = L[k]? := by
    unfold mixT
    rw [List.getElem?_append_right (by simp; omega)]
    simp [Nat.min_eq_left (Nat.le_of_lt hk)]
  rw [List.getElem?_eq_getElem h, List.getElem?_eq_getElem hk] at e
  exact Option.some.inj e
theorem mixT_step {o t : Int} {L : List Leaf} {k : Nat} (hk : k < L.length) : (mixT o t L k).set k (turnX o t L[k]) = mixT o t L (k + 1) := by
  unfold mixT
  rw [List.set_append_right _ _ (by simp; omega), List.length_map, List.length_take, Nat.min_eq_left (Nat.le_of_lt hk), Nat.sub_self, List.drop_eq_getElem_cons hk, List.set_cons_zero, List.take_succ_eq_append_getElem hk, List.map_append, List.append_assoc]
  rfl
theorem mixT_zero (o t : Int) (L : List Leaf) : mixT o t L 0 = L := by simp [mixT]
theorem mixT_end {o t : Int} {L : List Leaf} {k : Nat} (hk : ¬ k < L.length) : mixT o t L k = L.map (turnX o t) := by
  unfold mixT; rw [List.take_of_length_le (by omega), List.drop_of_length_le (by omega), List.append_nil]
theorem turnL_len (o t : Int) (L : List Leaf) : (turnL o t L).length = L.length := by unfold turnL; split <;> simp
def LeafBits (x : Leaf) : Prop := Bit x.o ∧ Bit x.t
theorem turnL_bits {o t : Int} {L : List Leaf} : ∀ x ∈ turnL o t L, LeafBits x := by
  intro x hx
  have hx : x ∈ L.map (turnX o t) := by unfold turnL at hx; split at hx <;> simpa using hx
  obtain ⟨y, _, rfl⟩ := List.mem_map.1 hx
  exact ⟨xr_bit _ _, xr_bit _ _⟩
set_option maxRecDepth 100000 in
set_option maxHeartbeats 2000000 in
theorem turn_any (q : Way) (a : Option Addr) (L : List Leaf) (c : Nat) (w : World) (hL : RowsAt 4 Leaf.l w a L) (hl : L.length ≤ 1000000) (hp : 0 < L.length) (hn : a = none → c = 0) (hb : ∀ x ∈ L, LeafBits x) (ho : Bit q.o) (ht : Bit q.t) :
    Calls Tryz.prog 79 #[.agg #[.int .i64 q.c, .int .i64 q.r, .int .i64 q.o, .int .i64 q.t], .slice a L.length c] w (ClonePost 4 77 Leaf.l w (turnL q.o q.t L)) := by
  obtain ⟨qc, qr, qo, qt⟩ := q
  have ho : Bit qo := ho
  have ht : Bit qt := ht
  have HB := Lib.hid hb; have HO := Lib.hid ho; have HT := Lib.hid ht
  clear hb ho ht
  go_enter Tryz.func79, Tryz.ntmps79
  go_wp2_with fail
  refine (cloneLeaf_any a L c _ (hL.alloc _) hl hn).mono ?_
  rintro e w1 ⟨v, rfl, hown, hb1⟩
  obtain ⟨b, cap, rfl, hbb, -⟩ := hown.form hp
  have hx1 := (BoxAt.new w #[.int .i64 qc, .int .i64 qr, .int .i64 qo, .int .i64 qt] 151).below hb1
  have hB1 := ((Below.refl w.heap.size w).alloc (Nat.le_refl _) (.cells #[.int .i64 qc, .int .i64 qr, .int .i64 qo, .int .i64 qt] 151)).trans (hb1.mono (B' := w.heap.size) (by simp))
  have hbb : w.heap.size + 1 ≤ b := by simpa using hbb
  have hown := hown.mono (B' := w.heap.size) (by simp)
  clear hb1 hL
  go_wp2_with fail
  go_loopw [10] (fun i wr => ∃ k : Nat, k ≤ L.length ∧ i = .int .i64 k ∧ OwnR 4 77 Leaf.l wr w.heap.size (.slice (some ⟨b, 0, none⟩) L.length cap) (mixT qo qt L k) ∧ BoxAt wr w.heap.size #[.int .i64 qc, .int .i64 qr, .int .i64 qo, .int .i64 qt] 151 ∧ Below w.heap.size w wr) (fun i _ => L.length - (intOf i).toNat)
  case atStart => exact ⟨0, Nat.zero_le _, rfl, by rw [mixT_zero]; exact hown, hx1, hB1⟩
  case round =>
    obtain ⟨k, hk, rfl, hr, hx, hB⟩ := hrel
    clear hown hx1 hB1
    have q0 := hx.cell 2; have q1 := hx.cell 3
    simp at q0 q1
    by_cases hlt : k < L.length
    · have hk1 : k < (mixT qo qt L k).length := by rw [mixT_len]; exact hlt
      obtain ⟨a', c', e1, hrow, -, -, -, -⟩ := hr.rows leaf_l
      injection e1 with e1 e2 e3
      subst e1 e3
      have E2 := Lib.hid e2; clear e2
      obtain ⟨_, e1, hb1, x0, x1, x2, x3⟩ := hrow.leaf (k := k) hk1
      cases e1
      rw [add0] at x0 x1 x2 x3
      rw [mixT_at hlt hk1] at x0 x1 x2 x3
      obtain ⟨x, ex⟩ : ∃ x, x = L[k] := ⟨_, rfl⟩
      rw [← ex] at x0 x1 x2 x3
      have HXB := Lib.hid (HB.out L[k] (List.getElem_mem hlt))
      rw [← ex] at HXB
      have f0 := fun j => hr.free j
      have EX := Lib.hid ex; clear ex
      have hxo := bits_xor HXB.out.1 HO.out
      have hxt := bits_xor HXB.out.2 HT.out
      have hkI : (k : Int) < (L.length : Int) := by omega
      go_wp2
      go_region
      go_wp2
      go_region
      go_wp2
      go_roundw
      case rel =>
        refine ⟨k + 1, by omega, by go_num, ?_, ?_, ?_⟩
        · have hz := (hr.put leaf_l E2.out hk1 (j := 2) (by decide) ⟨x.c, x.r, xr x.o qo, x.t⟩ (xr x.o qo) (by rw [mixT_at hlt hk1, ← EX.out]; try rfl)).drew.put leaf_l (by rw [List.length_set]; exact E2.out) (by rw [List.length_set]; exact hk1) (j := 3) (by decide) ⟨x.c, x.r, xr x.o qo, xr x.t qt⟩ (xr x.t qt) (by rw [List.getElem_set_self]; try rfl)
          rw [List.set_set] at hz
          have hs := mixT_step (o := qo) (t := qt) hlt
          rw [← EX.out] at hs
          rw [← hs]
          exact hz.drew
        · exact ((hx.set_other (p := ⟨b, k * 4 + 2, none⟩) (by show w.heap.size ≠ b; omega) _).drew.set_other (p := ⟨b, k * 4 + 3, none⟩) (by show w.heap.size ≠ b; omega) _).drew
        · exact ((hB.setCell (p := ⟨b, k * 4 + 2, none⟩) (by show w.heap.size ≤ b; omega) _).drew.setCell (p := ⟨b, k * 4 + 3, none⟩) (by show w.heap.size ≤ b; omega) _).drew
      case measure => simp [intOf]; omega
    · have he := mixT_end (o := qo) (t := qt) hlt
      rw [he] at hr
      have HR := Lib.hid hr; clear hr he
      by_cases h1 : qo = 1
      · have HE := Lib.hid (show turnL qo qt L = (L.map (turnX qo qt)).reverse by unfold turnL; rw [if_pos h1])
        subst h1
        have hml : (L.map (turnX 1 qt)).length = L.length := List.length_map _
        go_wp2_with fail
        have hrv := revLeaf_any w.heap.size b cap (L.map (turnX 1 qt)) wr (by rw [hml]; exact HR.out) (by rw [hml]; exact hl) (by rw [hml]; exact hp)
        rw [hml] at hrv
        refine hrv.mono ?_
        rintro e w2 ⟨rfl, ho2, hg2⟩
        go_wp2
        go_ret
        exact ⟨_, rfl, by rw [HE.out]; rw [hml] at ho2; exact ho2, hB.grown hg2 hB.size (fun k e => by cases e; omega)⟩
      · have HE := Lib.hid (show turnL qo qt L = L.map (turnX qo qt) by unfold turnL; rw [if_neg h1])
        have h1' : (qo == 1) = false := by simpa using h1
        clear h1
        go_wp2
        go_ret
        exact ⟨_, rfl, by rw [HE.out]; unfold OwnR; rw [List.length_map]; have := HR.out; unfold OwnR at this; rw [List.length_map] at this; exact this, hB⟩
end Go.Proofs.YtgoandhlcekmiaaGreatDoor

namespace Go.Proofs.YtgoandhlcekmiaaGreatDoor
open Go.RowKit

/-- A place: where its leaves lie, the capacity, the leaves. -/
structure PS where
  a : Option Addr
  c : Nat
  l : List Leaf
def PS.sl (x : PS) : Value := .slice x.a x.l.length x.c
def noPS : PS := ⟨none, 0, []⟩
def PlacesAt (w : World) (A : Option Addr) (Ps : List PS) : Prop :=
  ∀ k (hk : k < Ps.length), ∃ ad, A = some ad ∧ ad.block < w.heap.size ∧ w.cell? (ad.add k) = some Ps[k].sl ∧ RowsAt 4 Leaf.l w Ps[k].a Ps[k].l ∧ (Ps[k].a = none → Ps[k].c = 0)
theorem PlacesAt.below {w w' : World} {A : Option Addr} {Ps : List PS} (h : PlacesAt w A Ps) (hb : Below w.heap.size w w') : PlacesAt w' A Ps := fun k hk => by
  obtain ⟨ad, e, hlt, hc, hr, hn⟩ := h k hk
  exact ⟨ad, e, Nat.lt_of_lt_of_le hlt hb.size, (hb.cell (by rw [add_block]; exact hlt)).trans hc, hr.below hb, hn⟩
theorem PlacesAt.alloc {w : World} {A : Option Addr} {Ps : List PS} (h : PlacesAt w A Ps) (o : Obj) : PlacesAt (w.alloc o) A Ps := h.below ((Below.refl _ _).alloc (Nat.le_refl _) o)
/-- The places, and all their leaves, lie from block B on. -/
def FromB (B : Nat) (A : Option Addr) (Ps : List PS) : Prop := (∀ ad, A = some ad → B ≤ ad.block) ∧ ∀ x ∈ Ps, ∀ ad, x.a = some ad → B ≤ ad.block
theorem PlacesAt.set {w : World} {A : Option Addr} {Ps : List PS} {B b : Nat} (h : PlacesAt w A Ps) (hf : FromB B A Ps) (hb : b < B) (j : Nat) (u : Value) : PlacesAt (w.setCell ⟨b, j, none⟩ u) A Ps := fun k hk => by
  obtain ⟨ad, e, hlt, hc, hr, hn⟩ := h k hk
  refine ⟨ad, e, by rw [World.size_setCell]; exact hlt, ?_, hr.set (p := ⟨b, j, none⟩) (fun ad' e' => by have := hf.2 _ (List.getElem_mem hk) ad' e'; show ad'.block ≠ b; omega) u, hn⟩
  rw [World.cell?_setCell_other _ _ _ _ (fun e2 => by have h1 := congrArg Addr.block e2; rw [add_block] at h1; have h2 := hf.1 ad e; have h1 : b = ad.block := h1; omega)]
  exact hc
/-- Places under way: their row is block g, the rows of their leaves are all one's own. -/
structure Grid (B g : Nat) (Ps : List PS) (w : World) : Prop where
  row : w.heap[g]? = some (.cells (Ps.map PS.sl).toArray 69 (0, 0))
  own : ∀ x ∈ Ps, OwnR 4 77 Leaf.l w B x.sl x.l
  apart : ∀ i j (hi : i < Ps.length) (hj : j < Ps.length), i ≠ j → ∀ q, Ps[i].sl.ownBlock = some q → Ps[j].sl.ownBlock ≠ some q
  hg : B ≤ g
theorem heap_lt {w : World} {b : Nat} {o : Obj} (h : w.heap[b]? = some o) : b < w.heap.size := by
  rcases Nat.lt_or_ge b w.heap.size with hlt | hge
  · exact hlt
  · rw [Array.getElem?_eq_none hge] at h; cases h
theorem leaf_line : (77 : TypeId) ≠ 69 := by decide
theorem OwnR.off {α : Type} {n : Nat} {E : TypeId} {g : α → List Int} {w : World} {B : Nat} {v : Value} {L : List α} (h : OwnR n E g w B v L) {b : Nat} {T : TypeId} {cs : Array Value} {fr : Nat × Nat} (hb : w.heap[b]? = some (.cells cs T fr)) (hne : E ≠ T) : v.ownBlock ≠ some b := by
  rcases h.2 with ⟨e1, _⟩ | ⟨q, cap, cur, e1, _, e3, _⟩
  · rw [e1]; intro h; cases h
  · rw [e1]
    intro hh
    have : q = b := by simpa [Value.ownBlock] using hh
    subst this
    rw [hb] at e3
    injection e3 with e3
    injection e3 with _ e5
    exact hne e5.symm
section
variable {B g : Nat} {Ps : List PS} {w w1 w2 : World}
theorem Grid.lt (h : Grid B g Ps w) : g < w.heap.size := heap_lt h.row
theorem Grid.cell (h : Grid B g Ps w) {j : Nat} (hj : j < Ps.length) : w.cell? ⟨g, j, none⟩ = some Ps[j].sl := by
  rw [cell_of_row w g j _ _ (0, 0) h.row]; simp [hj]
theorem Grid.free (h : Grid B g Ps w) (j : Nat) : w.frozen? ⟨g, j, none⟩ = false := by simp [World.frozen?, h.row]
theorem Grid.below (h : Grid B g Ps w) (hb : Below w.heap.size w w1) : Grid B g Ps w1 := ⟨(hb.block g h.lt).trans h.row, fun x hx => (h.own x hx).below hb, h.apart, h.hg⟩
theorem Grid.places (h : Grid B g Ps w) : PlacesAt w (some ⟨g, 0, none⟩) Ps := fun k hk => by
  have hown := h.own _ (List.getElem_mem hk)
  obtain ⟨a, c, e, hr, _, _, hn, _⟩ := hown.rows leaf_l
  have e : (.slice Ps[k].a Ps[k].l.length Ps[k].c : Value) = .slice a Ps[k].l.length c := e
  injection e with e1 _ e3
  exact ⟨_, rfl, h.lt, by rw [add0]; exact h.cell hk, by rw [e1]; exact hr, by rw [e1, e3]; exact hn⟩
theorem sl_rows {x : PS} (h : OwnR 4 77 Leaf.l w B (PS.sl x) x.l) : RowsAt 4 Leaf.l w x.a x.l ∧ (x.a = none → x.c = 0) := by
  obtain ⟨a, c, e, hr, _, _, hn, _⟩ := h.rows leaf_l
  have e : (.slice x.a x.l.length x.c : Value) = .slice a x.l.length c := e
  injection e with e1 _ e3
  exact ⟨by rw [e1]; exact hr, by rw [e1, e3]; exact hn⟩
theorem Grid.start (hB : B ≤ w.heap.size) (n : Nat) : Grid B w.heap.size (List.replicate n noPS) (w.alloc (.cells (madeCells #[.slice none 0 0] n) 69)) := by
  refine ⟨?_, fun x hx => ?_, fun i j hi hj _ q e => ?_, hB⟩
  · rw [heap_alloc_new w]
    congr 2
    apply Array.ext'
    simp [madeCells, noPS, PS.sl, Nat.mod_one]
    apply List.ext_getElem
    · simp
    · intro i h1 h2; simp
  · rw [(List.mem_replicate.1 hx).2]; exact OwnR.nil _ _
  · rw [List.getElem_replicate] at e; cases e
theorem sl_from {w : World} {x : PS} (h : OwnR 4 77 Leaf.l w B (PS.sl x) x.l) : ∀ ad, x.a = some ad → B ≤ ad.block := fun ad e => by
  have := (h.lt ad.block (by unfold PS.sl; rw [e]; try rfl)).1
  exact this
theorem Grid.fromB (h : Grid B g Ps w) : FromB B (some ⟨g, 0, none⟩) Ps := ⟨fun ad e => (by cases e; exact h.hg), fun x hx => sl_from (h.own x hx)⟩
/-- A store into a block ahead. -/
theorem Grid.set (h : Grid B g Ps w) {b : Nat} (hb : b < B) (j : Nat) (u : Value) : Grid B g Ps (w.setCell ⟨b, j, none⟩ u) := by
  have := h.hg
  refine ⟨(Below.heap_setCell _ _ _ _ (by show g ≠ b; omega)).trans h.row, fun x hx => (h.own x hx).set (p := ⟨b, j, none⟩) (fun e => ?_) u, h.apart, h.hg⟩
  have := ((h.own x hx).lt b e).1
  omega
/-- One place is set anew. -/
theorem Grid.put (h : Grid B g Ps w) (hb : Below w.heap.size w w1) {row : Option Nat} (hg : w1.grownBy w2 row) {j : Nat} (hj : j < Ps.length) (hrow : row = Ps[j].sl.ownBlock ∨ ∀ q, row = some q → w.heap.size ≤ q)
    {x : PS} (hx : OwnR 4 77 Leaf.l w2 B x.sl x.l) (hxb : ∀ q, x.sl.ownBlock = some q → Ps[j].sl.ownBlock = some q ∨ w.heap.size ≤ q) : Grid B g (Ps.set j x) (w2.setCell ⟨g, j, none⟩ x.sl) := by
  have h1 := h.below hb
  have hgr : some g ≠ row := fun e => by
    rcases hrow with hr | hr
    · exact (h1.own _ (List.getElem_mem hj)).off h1.row leaf_line (by rw [← hr, e])
    · have := hr g e.symm; have := h.lt; omega
  have r2 : w2.heap[g]? = _ := (hg.block g h1.lt hgr).trans h1.row
  refine ⟨?_, fun y hy => ?_, fun i k hi hk hne q e1 e2 => ?_, h.hg⟩
  · rw [heap_setCell_same w2 g j _ _ _ r2, List.map_set]
    simp
  · have hoff : ∀ y : PS, OwnR 4 77 Leaf.l w2 B y.sl y.l → OwnR 4 77 Leaf.l (w2.setCell ⟨g, j, none⟩ x.sl) B y.sl y.l := fun y hy => hy.set (p := ⟨g, j, none⟩) (hy.off r2 leaf_line) _
    obtain ⟨i, hi, rfl⟩ := List.getElem_of_mem hy
    rw [List.getElem_set]
    split
    · exact hoff _ hx
    · rename_i hij
      have hi' : i < Ps.length := by simpa using hi
      refine hoff _ ((h1.own _ (List.getElem_mem hi')).grown hg (fun q e e2 => ?_))
      rcases hrow with hr | hr
      · exact h.apart i j hi' hj (fun e => hij e.symm) q e (by rw [← hr, ← e2])
      · have a1 := hr q e2.symm; have a2 := ((h.own _ (List.getElem_mem hi')).lt q e).2; omega
  · have hi' : i < Ps.length := by simpa using hi
    have hk' : k < Ps.length := by simpa using hk
    rw [List.getElem_set] at e1 e2
    by_cases c1 : j = i
    · rw [if_pos c1] at e1
      rw [if_neg (by omega)] at e2
      rcases hxb q e1 with hh | hh
      · exact h.apart j k hj hk' (by omega) q hh e2
      · have := ((h.own _ (List.getElem_mem hk')).lt q e2).2; omega
    · rw [if_neg c1] at e1
      by_cases c2 : j = k
      · rw [if_pos c2] at e2
        rcases hxb q e2 with hh | hh
        · exact h.apart j i hj hi' c1 q hh e1
        · have := ((h.own _ (List.getElem_mem hi')).lt q e1).2; omega
      · rw [if_neg c2] at e2
        exact h.apart i k hi' hk' hne q e1 e2
end
end Go.Proofs.YtgoandhlcekmiaaGreatDoor

namespace Go.Proofs.YtgoandhlcekmiaaGreatDoor
open Go.RowKit

/-- A place of a fold is brought to where it comes to. -/
def stepF (C R C' : Nat) (f : Fold) (P : List (List Leaf)) (acc : List (List Leaf)) (s : Nat) : List (List Leaf) :=
  let q := wayOf C R f ((s % C : Nat) : Int) ((s / C : Nat) : Int)
  let j := (q.r * C' + q.c).toNat
  acc.set j (if q.o = 1 then turnL q.o q.t (P.getD s []) ++ acc.getD j [] else acc.getD j [] ++ turnL q.o q.t (P.getD s []))
def accF (C R C' R' : Nat) (f : Fold) (P : List (List Leaf)) (s : Nat) : List (List Leaf) := (List.range s).foldl (stepF C R C' f P) (List.replicate (C' * R') [])
theorem accF_succ (C R C' R' : Nat) (f : Fold) (P : List (List Leaf)) (s : Nat) : accF C R C' R' f P (s + 1) = stepF C R C' f P (accF C R C' R' f P s) s := by
  unfold accF; rw [List.range_succ, List.foldl_append]; try rfl
theorem accF_len (C R C' R' : Nat) (f : Fold) (P : List (List Leaf)) (s : Nat) : (accF C R C' R' f P s).length = C' * R' := by
  induction s with
  | zero => simp [accF]
  | succ s ih => rw [accF_succ]; unfold stepF; rw [List.length_set]; exact ih
theorem lay_bounds {c e n : Int} (h1 : 0 ≤ c) (h2 : c < n) (h3 : n ≤ 2 * e) : 0 ≤ laidT c e ∧ laidT c e < e := by unfold laidT; split <;> omega
theorem laidO_bit (c e : Int) : Bit (laidO c e) := by unfold laidO Bit; split <;> omega
/-- Where a place comes to lies within the size behind the fold. -/
theorem way_ok {C R : Int} {f : Fold} {c r : Int} (hC : 1 ≤ C ∧ C ≤ 8) (hR : 1 ≤ R ∧ R ≤ 8) (h : foldErr C R f = 0) (hc : 0 ≤ c ∧ c < C) (hr : 0 ≤ r ∧ r < R) :
    (0 ≤ (wayOf C R f c r).c ∧ (wayOf C R f c r).c < afterC C f) ∧ (0 ≤ (wayOf C R f c r).r ∧ (wayOf C R f c r).r < afterR R f) ∧ Bit (wayOf C R f c r).o ∧ Bit (wayOf C R f c r).t := by
  obtain ⟨a, b, d, e, g, i⟩ := fold_ok hC hR h
  obtain ⟨k, q⟩ := f
  have a : 1 ≤ k ∧ k ≤ 6 := a
  have b : 0 ≤ q ∧ q ≤ 4 := b
  have d : k ≤ 4 → 1 ≤ q := d
  have e : 5 ≤ k → q = 0 := e
  have g : k ≤ 2 → 2 * q ≤ C := g
  have i : 3 ≤ k → k ≤ 4 → 2 * q ≤ R := i
  have h6 : k = 1 ∨ k = 2 ∨ k = 3 ∨ k = 4 ∨ k = 5 ∨ k = 6 := by omega
  have z0 : Bit 0 := Or.inl rfl
  have z1 : Bit 1 := Or.inr rfl
  rcases h6 with rfl | rfl | rfl | rfl | rfl | rfl
  · have := lay_bounds (c := c) (e := C - q) (n := C) hc.1 hc.2 (by omega)
    simp [wayOf, afterC, afterR, laidO_bit, z0]; omega
  · have := lay_bounds (c := C - 1 - c) (e := C - q) (n := C) (by omega) (by omega) (by omega)
    simp [wayOf, afterC, afterR, laidO_bit, z0]; omega
  · have := lay_bounds (c := r) (e := R - q) (n := R) hr.1 hr.2 (by omega)
    simp [wayOf, afterC, afterR, laidO_bit]; omega
  · have := lay_bounds (c := R - 1 - r) (e := R - q) (n := R) (by omega) (by omega) (by omega)
    simp [wayOf, afterC, afterR, laidO_bit]; omega
  · simp [wayOf, afterC, afterR, z0, z1]; omega
  · simp [wayOf, afterC, afterR, z0, z1]; omega
/-- All that stands while a pile is folded. -/
structure FEnv (w : World) (C R : Int) (A : Option Addr) (n c : Nat) (f : Fold) (ga g : Nat) (C' R' : Int) (n' : Nat) (wr : World) : Prop where
  bp : BoxAt wr w.heap.size #[.int .i64 C, .int .i64 R, .slice A n c] 126
  bf : BoxAt wr (w.heap.size + 1) #[.int .i64 f.k, .int .i64 f.c] 59
  ba : BoxAt wr ga #[.int .i64 C', .int .i64 R', .slice (some ⟨g, 0, none⟩) n' n'] 126
  br : BoxAt wr (w.heap.size + 1 + 1) #[.int .i64 0, .int .i64 0, .slice none 0 0] 126
  low : Below w.heap.size w wr
theorem FEnv.set {w : World} {C R : Int} {A : Option Addr} {n c : Nat} {f : Fold} {ga g : Nat} {C' R' : Int} {n' : Nat} {wr : World} (h : FEnv w C R A n c f ga g C' R' n' wr) {b : Nat} (h1 : w.heap.size + 1 + 1 < b) (h2 : ga ≠ b) (j : Nat) (u : Value) : FEnv w C R A n c f ga g C' R' n' (wr.setCell ⟨b, j, none⟩ u) :=
  ⟨h.bp.set_other (p := ⟨b, j, none⟩) (by show w.heap.size ≠ b; omega) u, h.bf.set_other (p := ⟨b, j, none⟩) (by show w.heap.size + 1 ≠ b; omega) u, h.ba.set_other (p := ⟨b, j, none⟩) h2 u, h.br.set_other (p := ⟨b, j, none⟩) (by show w.heap.size + 1 + 1 ≠ b; omega) u, h.low.setCell (p := ⟨b, j, none⟩) (by show w.heap.size ≤ b; omega) u⟩
theorem FEnv.grown {w : World} {C R : Int} {A : Option Addr} {n c : Nat} {f : Fold} {ga g : Nat} {C' R' : Int} {n' : Nat} {wr w1 : World} (h : FEnv w C R A n c f ga g C' R' n' wr) {row : Option Nat} (hg : wr.grownBy w1 row) (hr : ∀ q, row = some q → w.heap.size + 1 + 1 < q ∧ ga ≠ q) : FEnv w C R A n c f ga g C' R' n' w1 :=
  ⟨h.bp.grown hg (fun e => by have := hr _ e.symm; omega), h.bf.grown hg (fun e => by have := hr _ e.symm; omega), h.ba.grown hg (fun e => (hr _ e.symm).2 rfl), h.br.grown hg (fun e => by have := hr _ e.symm; omega), h.low.grown hg h.low.size (fun q e => by have := hr _ e; omega)⟩
theorem FEnv.below {w : World} {C R : Int} {A : Option Addr} {n c : Nat} {f : Fold} {ga g : Nat} {C' R' : Int} {n' : Nat} {wr w1 : World} (h : FEnv w C R A n c f ga g C' R' n' wr) (hb : Below wr.heap.size wr w1) : FEnv w C R A n c f ga g C' R' n' w1 :=
  ⟨h.bp.below hb, h.bf.below hb, h.ba.below hb, h.br.below hb, h.low.trans (hb.mono h.low.size)⟩
/-- How many leaves there are. -/
def sumL : List (List Leaf) → Nat
  | [] => 0
  | x :: L => x.length + sumL L
theorem sumL_mem {L : List (List Leaf)} {x : List Leaf} (h : x ∈ L) : x.length ≤ sumL L := by
  induction L with
  | nil => cases h
  | cons y L ih =>
    show _ ≤ y.length + sumL L
    rcases List.mem_cons.1 h with rfl | h
    · omega
    · have := ih h; omega
theorem sumL_set : ∀ {L : List (List Leaf)} {j : Nat} (hj : j < L.length) (x : List Leaf), sumL (L.set j x) + L[j].length = sumL L + x.length
  | [], _, hj, _ => absurd hj (Nat.not_lt_zero _)
  | y :: L, 0, _, x => by show x.length + sumL L + y.length = y.length + sumL L + x.length; omega
  | y :: L, j + 1, hj, x => by
    have := sumL_set (L := L) (j := j) (by simpa using hj) x
    show y.length + sumL (L.set j x) + (L[j]'(by simpa using hj)).length = y.length + sumL L + x.length
    omega
theorem sumL_rep (n : Nat) : sumL (List.replicate n []) = 0 := by
  induction n with
  | zero => rfl
  | succ n ih => rw [List.replicate_succ]; show 0 + sumL _ = 0; omega
theorem sumL_take {L : List (List Leaf)} {k : Nat} (hk : k < L.length) : sumL (L.take (k + 1)) = sumL (L.take k) + L[k].length := by
  rw [List.take_succ_eq_append_getElem hk]
  generalize L.take k = M
  induction M with
  | nil => show L[k].length + 0 = 0 + _; omega
  | cons y M ih => show y.length + sumL (M ++ [L[k]]) = y.length + sumL M + _; omega
theorem sumL_take_le (L : List (List Leaf)) (k : Nat) : sumL (L.take k) ≤ sumL L := by
  induction L generalizing k with
  | nil => simp
  | cons y L ih =>
    cases k with
    | zero => exact Nat.zero_le _
    | succ k => show y.length + sumL (L.take k) ≤ y.length + sumL L; have := ih k; omega
theorem getD_in {α : Type} {L : List α} {k : Nat} (d : α) (h : k < L.length) : L.getD k d = L[k] := by rw [List.getD_eq_getElem?_getD, List.getElem?_eq_getElem h]; try rfl
theorem stepF_eq {C R C' r k s j : Nat} {f : Fold} {P acc : List (List Leaf)} {qc qr qo qt : Int} (hs : r * C + k = s) (hk : k < C) (hq : (⟨qc, qr, qo, qt⟩ : Way) = wayOf C R f k r) (hj : qr * C' + qc = (j : Int)) :
    stepF C R C' f P acc s = acc.set j (if qo = 1 then turnL qo qt (P.getD s []) ++ acc.getD j [] else acc.getD j [] ++ turnL qo qt (P.getD s [])) := by
  have e1 : s % C = k := by rw [← hs, Nat.mul_comm, Nat.mul_add_mod, Nat.mod_eq_of_lt hk]
  have e2 : s / C = r := by rw [← hs, Nat.mul_comm, Nat.mul_add_div (by omega), Nat.div_eq_of_lt hk, Nat.add_zero]
  unfold stepF
  rw [e1, e2, ← hq]
  show acc.set (qr * C' + qc).toNat _ = _
  rw [hj, Int.toNat_natCast]
theorem map_getD (L : List PS) {k : Nat} (h : k < L.length) : (L.map (·.l)).getD k [] = L[k].l := by
  rw [List.getD_eq_getElem?_getD, List.getElem?_map, List.getElem?_eq_getElem h]; try rfl
end Go.Proofs.YtgoandhlcekmiaaGreatDoor
