/-
  Package impose: tests of all pages of a view; the opposite cell; equal views; a view copied.
-/
import Derived.Test.YtnpehnfcccdcbaaGreatDoorI9
import Derived.Deep.CutRange
namespace Go.Proofs.YtnpehnfcccdcbaaGreatDoor
open Go.RowKit

theorem all_step {α : Type} {p : α → Bool} {L : List α} {k : Nat} (hk : k < L.length) : (L.drop k).all p = (p L[k] && (L.drop (k + 1)).all p) := by
  rw [List.drop_eq_getElem_cons hk]; try rfl
theorem all_stop {α : Type} {p : α → Bool} {L : List α} {k : Nat} (hk : ¬ k < L.length) : (L.drop k).all p = true := by
  rw [List.drop_of_length_le (by omega)]; try rfl
set_option maxRecDepth 100000 in
set_option maxHeartbeats 2000000 in
theorem arePages_any (m : Int) (a : Option Addr) (L : List Page) (c : Nat) (w : World) (hL : RowsAt 2 Page.l w a L) (hl : L.length ≤ maxLen) :
    Calls Tryz.prog 46 #[.int .i64 m, .slice a L.length c] w fun e w' => e = .returned (.bool (L.all (pageB m))) ∧ Below w.heap.size w w' := by
  unfold maxLen at hl
  go_enter Tryz.func46, Tryz.ntmps46
  go_wp2
  go_loopw [9] (fun i wr => ∃ k : Nat, k ≤ L.length ∧ i = .int .i64 k ∧ Hid ((L.drop 0).all (pageB m) = (L.drop k).all (pageB m)) ∧ Below w.heap.size w wr) (fun i _ => L.length - (intOf i).toNat)
  case atStart => exact ⟨0, Nat.zero_le _, rfl, Lib.hid rfl, Below.refl _ _⟩
  case round =>
    obtain ⟨k, hk, rfl, HR, hB⟩ := hrel
    by_cases hlt : k < L.length
    · obtain ⟨ad, rfl, had, s0, s1⟩ := (hL.below hB).page hlt
      obtain ⟨x, ex⟩ : ∃ x, x = L[k] := ⟨_, rfl⟩
      have hst := all_step (p := pageB m) hlt
      rw [← ex] at s0 s1 hst
      have HST := Lib.hid hst
      clear ex hst
      have hBx := hB.alloc hB.size (.cells #[.int .i64 x.p, .int .i64 x.t] 95)
      have hkl : (k : Int) < (L.length : Int) := by omega
      cases h1 : inB x.p 1 m
      · have HO : Hid (L.all (pageB m) = false) := Lib.hid (by
          have := HR.out; rw [List.drop_zero] at this; rw [this, HST.out]; unfold pageB; rw [h1]; try rfl)
        go_wp2_with (go_at_call 37; refine (isFrom_any _ _ _ _).mono ?_; rintro e w' ⟨rfl, rfl⟩)
        go_ret
        exact ⟨ret_bool HO.out.symm, hBx⟩
      · cases h2 : inB x.t 0 1
        · have HO : Hid (L.all (pageB m) = false) := Lib.hid (by
            have := HR.out; rw [List.drop_zero] at this; rw [this, HST.out]; unfold pageB; rw [h1, h2]; try rfl)
          go_wp2_with (go_at_call 37; refine (isFrom_any _ _ _ _).mono ?_; rintro e w' ⟨rfl, rfl⟩)
          go_ret
          exact ⟨ret_bool HO.out.symm, hBx⟩
        · have HO : Hid ((L.drop 0).all (pageB m) = (L.drop (k + 1)).all (pageB m)) := Lib.hid (by
            rw [HR.out, HST.out]; unfold pageB; rw [h1, h2]; try rfl)
          go_wp2_with (go_at_call 37; refine (isFrom_any _ _ _ _).mono ?_; rintro e w' ⟨rfl, rfl⟩)
          go_roundw
          case rel => exact ⟨k + 1, by omega, by go_num, HO, hBx⟩
          case measure => simp [intOf]; omega
    · have HO : Hid (L.all (pageB m) = true) := Lib.hid (by
        have := HR.out; rw [List.drop_zero] at this; rw [this, all_stop hlt])
      have hkl : ¬ (k : Int) < (L.length : Int) := by omega
      go_wp2
      go_ret
      exact ⟨ret_bool HO.out.symm, hB⟩
def oppN (C R k : Nat) (b : Bool) : Nat := if b = true then (R - 1 - k / C) * C + k % C else k / C * C + (C - 1 - k % C)
theorem oppN_lt {C R k : Nat} (b : Bool) (hC : 1 ≤ C) (hk : k < C * R) : oppN C R k b < C * R := by
  have h1 : k % C < C := Nat.mod_lt _ hC
  have h2 : k / C < R := Nat.div_lt_of_lt_mul hk
  unfold oppN
  obtain ⟨q, hq⟩ : ∃ q, k / C = q := ⟨_, rfl⟩
  obtain ⟨r, hr⟩ : ∃ r, k % C = r := ⟨_, rfl⟩
  rw [hq] at h2 ⊢
  rw [hr] at h1 ⊢
  split
  · exact mul_lt (by omega) h1
  · exact mul_lt h2 (by omega)
structure View where
  C : Int
  R : Int
  l : List Page
def sameV (x y : View) : Bool := decide (x.C = y.C ∧ x.R = y.R ∧ x.l = y.l)
end Go.Proofs.YtnpehnfcccdcbaaGreatDoor

namespace Go.Proofs.YtnpehnfcccdcbaaGreatDoor
open Go.RowKit

def CopySchemePost (C R : Int) (L : List Cell) (w : World) (e : Ending) (w' : World) : Prop :=
  ∃ (a : Option Addr) (n c : Nat), e = .returned (.agg #[.int .i64 C, .int .i64 R, .slice a n c]) ∧ n = L.length ∧ RowsAt 4 Cell.l w' a L ∧ (a = none → c = 0) ∧ Below w.heap.size w w'
set_option maxRecDepth 100000 in
set_option maxHeartbeats 2000000 in
theorem copyScheme_any (C R : Int) (a : Option Addr) (L : List Cell) (c : Nat) (w : World) (hL : RowsAt 4 Cell.l w a L) (hl : L.length ≤ 1000000) (hn : a = none → c = 0) :
    Calls Tryz.prog 10 #[.agg #[.int .i64 C, .int .i64 R, .slice a L.length c]] w (CopySchemePost C R L w) := by
  obtain ⟨w2, hw2⟩ : ∃ w2, w2 = (w.alloc (.cells #[.int .i64 C, .int .i64 R, .slice a L.length c] 24)).alloc (.cells #[.int .i64 0, .int .i64 0, .slice none 0 0] 24) := ⟨_, rfl⟩
  have hsz : w2.heap.size = w.heap.size + 1 + 1 := by rw [hw2]; simp
  have bx0 : BoxAt w2 w.heap.size #[.int .i64 C, .int .i64 R, .slice a L.length c] 24 := by rw [hw2]; exact (BoxAt.new w _ _).alloc _
  have br0 : BoxAt w2 (w.heap.size + 1) #[.int .i64 0, .int .i64 0, .slice none 0 0] 24 := by
    rw [hw2]
    have := BoxAt.new (w.alloc (.cells #[.int .i64 C, .int .i64 R, .slice a L.length c] 24)) #[.int .i64 0, .int .i64 0, .slice none 0 0] 24
    simpa using this
  have hB2 : Below w.heap.size w w2 := by rw [hw2]; exact ((Below.refl w.heap.size w).alloc (Nat.le_refl _) _).alloc (by simp) _
  have hL2 := hL.below hB2
  have hm := World.ownsRow_made (e := 54) (size := 4) (base := w2.heap.size) w2 #[] 0 (Nat.le_refl _) (Nat.zero_le _) rfl
  have hown : OwnR 4 54 Cell.l (w2.alloc (.cells #[] 54)) w2.heap.size (.slice (some ⟨w2.heap.size, 0, none⟩) 0 0) [] := hm
  rw [hsz] at hown
  have bx1 := bx0.alloc (.cells #[] 54)
  have br1 := br0.alloc (.cells #[] 54)
  have hB3 := hB2.alloc hB2.size (.cells #[] 54)
  have HL := Lib.hid (hL2.alloc (.cells #[] 54))
  rw [hw2] at bx1 br1 hown hB3 HL
  clear hm hL hL2 bx0 br0 hB2 hw2 hsz
  have c2 := bx1.cell 2
  simp at c2
  go_enter Tryz.func10, Tryz.ntmps10
  go_wp2_with (at_builtin; refine wpList_appL tCell cell_l _ (by rfl) _ _ (by rfl) (w.heap.size + 1 + 1) _ [] (by rfl) hown a L c (by rfl) HL.out hn (by simp) hl (by simp) ?_; intro v' w' hown' hg' hB' hor'; have bx3 := bx1.grown hg' (by simp [Value.ownBlock]; try omega); have br3 := br1.grown hg' (by simp [Value.ownBlock]; try omega); have fz := bx3.free 2; have d0 := bx3.cell 0; have d1 := bx3.cell 1; have d2 := bx3.cell 2; have hbl := bx3.lt; have hrl := br3.lt; simp at d0 d1 d2; have r0 := br3.cell 0; have r1 := br3.cell 1; have r2 := br3.cell 2; simp at r0 r1 r2; have z := fun j => br3.free j; obtain ⟨a6, d6, e6, hr6, -, -, hnil, hge⟩ := hown'.rows cell_l; obtain ⟨n6, hn6⟩ : ∃ n, n = ([] ++ L).length := ⟨_, rfl⟩; rw [← hn6] at e6; subst e6; have HN6 := Lib.hid hn6; clear hn6)
  refine bodyPost_ret (v := .agg #[.int .i64 C, .int .i64 R, .slice a6 n6 d6]) ?_ rfl ?_
  · simp [results, Tryz.results10, go_sem, r0, r1, r2]
  · refine ⟨a6, n6, d6, rfl, by simpa using HN6.out, ?_, hnil, ?_⟩
    · have hr6 : RowsAt 4 Cell.l w' a6 L := hr6
      have hap0 : ∀ ad, a6 = some ad → ad.block ≠ w.heap.size := fun ad e => by have := hge ad e; omega
      have hap : ∀ ad, a6 = some ad → ad.block ≠ w.heap.size + 1 := fun ad e => by have := hge ad e; omega
      exact (((hr6.set (p := ⟨w.heap.size, 2, none⟩) hap0 _).set (p := ⟨w.heap.size + 1, 0, none⟩) hap _).set (p := ⟨w.heap.size + 1, 1, none⟩) hap _).set (p := ⟨w.heap.size + 1, 2, none⟩) hap _
    · exact ((((hB3.trans (hB'.mono (B' := w.heap.size) (by omega))).setCell (p := ⟨w.heap.size, 2, none⟩) (Nat.le_refl _) _).setCell (p := ⟨w.heap.size + 1, 0, none⟩) (by show w.heap.size ≤ w.heap.size + 1; omega) _).setCell (p := ⟨w.heap.size + 1, 1, none⟩) (by show w.heap.size ≤ w.heap.size + 1; omega) _).setCell (p := ⟨w.heap.size + 1, 2, none⟩) (by show w.heap.size ≤ w.heap.size + 1; omega) _
def CopyViewPost (C R : Int) (L : List Page) (w : World) (e : Ending) (w' : World) : Prop :=
  ∃ (a : Option Addr) (n c : Nat), e = .returned (.agg #[.int .i64 C, .int .i64 R, .slice a n c]) ∧ n = L.length ∧ RowsAt 2 Page.l w' a L ∧ (a = none → c = 0) ∧ Below w.heap.size w w'
set_option maxHeartbeats 400000 in
theorem light_any (C R : Int) (a : Option Addr) (n c : Nat) (w : World) :
    Calls Tryz.prog 5 #[.agg #[.int .i64 C, .int .i64 R, .slice a n c]] w fun e w' => e = .returned (.bool (decide (n ≤ 40))) ∧ Below w.heap.size w w' := by
  have hB := (Below.refl w.heap.size w).alloc (Nat.le_refl _) (.cells #[.int .i64 C, .int .i64 R, .slice a n c] 24)
  go_enter Tryz.func5, Tryz.ntmps5
  go_wp2
  go_ret
  exact ⟨ret_bool (by rw [Bool.eq_iff_iff]; simp; try omega), hB⟩
end Go.Proofs.YtnpehnfcccdcbaaGreatDoor

namespace Go.Proofs.YtnpehnfcccdcbaaGreatDoor
open Go.RowKit

def roundB (b : Bool) : Int := if b = true then 1 else 0
theorem roundB_bit (b : Bool) : Bit (roundB b) := by unfold roundB Bit; split <;> omega
theorem cell_set2 {w : World} {al : Nat} {A B : Value} {p : Addr} {v : Value} (h : w.cell? p = some v) (hp : p.block ≠ al) : ((w.setCell ⟨al, 0, none⟩ A).setCell ⟨al, 1, none⟩ B).cell? p = some v := by
  rw [World.cell?_setCell_other _ _ _ _ (fun e => hp (congrArg Addr.block e).symm), World.cell?_setCell_other _ _ _ _ (fun e => hp (congrArg Addr.block e).symm), h]
def twErr (C R : Int) (L : List Page) : Int := if cellsErr C R L.length ≠ 0 then cellsErr C R L.length else if L.all (pageB 4000) = true then 0 else 2
def twCell (C R : Nat) (L : List Page) (b : Bool) (k : Nat) : Cell := ⟨(L.getD k default).p, (L.getD k default).t, (L.getD (oppN C R k b) default).p, xr (L.getD (oppN C R k b) default).t (roundB b)⟩
/-- The cells, the first k of them set. -/
def twTo (C R : Nat) (L : List Page) (b : Bool) (k : Nat) : List Cell := (List.range k).map (twCell C R L b) ++ List.replicate (L.length - k) ⟨0, 0, 0, 0⟩
theorem twTo_len {C R : Nat} {L : List Page} {b : Bool} {k : Nat} (hk : k ≤ L.length) : (twTo C R L b k).length = L.length := by simp [twTo]; omega
theorem twTo_set {C R : Nat} {L : List Page} {b : Bool} {k : Nat} (hk : k < L.length) : (twTo C R L b k).set k (twCell C R L b k) = twTo C R L b (k + 1) := by
  unfold twTo
  rw [List.set_append_right _ _ (by simp), List.length_map, List.length_range, Nat.sub_self]
  obtain ⟨m, hm⟩ : ∃ m, L.length - k = m + 1 := ⟨L.length - k - 1, by omega⟩
  rw [hm, List.replicate_succ, List.set_cons_zero, show L.length - (k + 1) = m by omega, List.range_succ, List.map_append, List.append_assoc]; try rfl
theorem page_ok {m : Int} {L : List Page} (h : L.all (pageB m) = true) : ∀ x ∈ L, Bit x.t := by
  intro x hx
  have := List.all_eq_true.1 h x hx
  unfold pageB at this
  simp only [Bool.and_eq_true] at this
  have := inB_iff.1 this.2
  unfold Bit; omega
theorem cells_ok {C R n : Int} (h : cellsErr C R n = 0) : sideErr C R = 0 ∧ n = C * R := by
  unfold cellsErr at h
  by_cases h1 : sideErr C R = 0
  · rw [if_neg (by simp [h1])] at h
    refine ⟨h1, ?_⟩
    by_cases h2 : n = C * R
    · exact h2
    · rw [if_pos h2] at h; exact absurd h (by decide)
  · rw [if_pos h1] at h; exact absurd h h1
def twD (C R : Int) (L : List Page) : Int × Int := if twErr C R L = 0 then (C, R) else (0, 0)
def twL (C R : Int) (L : List Page) (b : Bool) : List Cell := if twErr C R L = 0 then twTo C.toNat R.toNat L b L.length else []
def TwPost (w : World) (C R : Int) (L : List Page) (b : Bool) (e : Ending) (w' : World) : Prop :=
  ∃ (a : Option Addr) (n c : Nat), e = .returned (.tuple #[.agg #[.int .i64 (twD C R L).1, .int .i64 (twD C R L).2, .slice a n c], .int .i64 (twErr C R L)]) ∧ n = (twL C R L b).length ∧ RowsAt 4 Cell.l w' a (twL C R L b) ∧ (a = none → c = 0) ∧ Below w.heap.size w w'
end Go.Proofs.YtnpehnfcccdcbaaGreatDoor
