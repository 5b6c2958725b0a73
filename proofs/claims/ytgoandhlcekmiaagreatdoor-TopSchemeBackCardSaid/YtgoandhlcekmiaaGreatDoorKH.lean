/-
  Package impose: tests of all pages of a view; the opposite cell; equal views; a view copied.
-/
import Derived.Test.YtgoandhlcekmiaaGreatDoorKG
import Derived.Deep.CutRange
namespace Go.Proofs.YtgoandhlcekmiaaGreatDoor
open Go.RowKit

theorem all_step {α : Type} {p : α → Bool} {L : List α} {k : Nat} (hk : k < L.length) : (L.drop k).all p = (p L[k] && (L.drop (k + 1)).all p) := by
  rw [List.drop_eq_getElem_cons hk]; try rfl
theorem all_stop {α : Type} {p : α → Bool} {L : List α} {k : Nat} (hk : ¬ k < L.length) : (L.drop k).all p = true := by
  rw [List.drop_of_length_le (by omega)]; try rfl
set_option maxRecDepth 100000 in
set_option maxHeartbeats 2000000 in
theorem arePages_any (m : Int) (a : Option Addr) (L : List Page) (c : Nat) (w : World) (hL : RowsAt 2 Page.l w a L) (hl : L.length ≤ maxLen) :
    Calls Tryz.prog 48 #[.int .i64 m, .slice a L.length c] w fun e w' => e = .returned (.bool (L.all (pageB m))) ∧ Below w.heap.size w w' := by
  unfold maxLen at hl
  go_enter Tryz.func48, Tryz.ntmps48
  go_wp2
  go_loopw [9] (fun i wr => ∃ k : Nat, k ≤ L.length ∧ i = .int .i64 k ∧ Hid ((L.drop 0).all (pageB m) = (L.drop k).all (pageB m)) ∧ Below w.heap.size w wr) (fun i _ => L.length - (intOf i).toNat)
  case atStart => exact ⟨0, Nat.zero_le _, rfl, Lib.hid rfl, Below.refl _ _⟩
  case round =>
    obtain ⟨k, hk, rfl, HR, hB⟩ := hrel
    by_cases hlt : k < L.length
    · obtain ⟨ad, rfl, had, s0, s1⟩ := (hL.below hB).page hlt
      obtain ⟨x, ex⟩ : ∃ x, x = L[k] := ⟨_, rfl⟩
      have hst := all_step (p := pageB m) hlt
      rw [← ex] at s0 s1 hst
      have HST := Lib.hid hst
      clear ex hst
      have hBx := hB.alloc hB.size (.cells #[.int .i64 x.p, .int .i64 x.t] 79)
      have hkl : (k : Int) < (L.length : Int) := by omega
      cases h1 : inB x.p 1 m
      · have HO : Hid (L.all (pageB m) = false) := Lib.hid (by
          have := HR.out; rw [List.drop_zero] at this; rw [this, HST.out]; unfold pageB; rw [h1]; try rfl)
        go_wp2_with (go_at_call 70; refine (isFrom_any _ _ _ _).mono ?_; rintro e w' ⟨rfl, rfl⟩)
        go_ret
        exact ⟨ret_bool HO.out.symm, hBx⟩
      · cases h2 : inB x.t 0 1
        · have HO : Hid (L.all (pageB m) = false) := Lib.hid (by
            have := HR.out; rw [List.drop_zero] at this; rw [this, HST.out]; unfold pageB; rw [h1, h2]; try rfl)
          go_wp2_with (go_at_call 70; refine (isFrom_any _ _ _ _).mono ?_; rintro e w' ⟨rfl, rfl⟩)
          go_ret
          exact ⟨ret_bool HO.out.symm, hBx⟩
        · have HO : Hid ((L.drop 0).all (pageB m) = (L.drop (k + 1)).all (pageB m)) := Lib.hid (by
            rw [HR.out, HST.out]; unfold pageB; rw [h1, h2]; try rfl)
          go_wp2_with (go_at_call 70; refine (isFrom_any _ _ _ _).mono ?_; rintro e w' ⟨rfl, rfl⟩)
          go_roundw
          case rel => exact ⟨k + 1, by omega, by go_num, HO, hBx⟩
          case measure => simp [intOf]; omega
    · have HO : Hid (L.all (pageB m) = true) := Lib.hid (by
        have := HR.out; rw [List.drop_zero] at this; rw [this, all_stop hlt])
      have hkl : ¬ (k : Int) < (L.length : Int) := by omega
      go_wp2
      go_ret
      exact ⟨ret_bool HO.out.symm, hB⟩
def oppN (C R k : Nat) (b : Bool) : Nat := if b = true then (R - 1 - k / C) * C + k % C else k / C * C + (C - 1 - k % C)
theorem oppN_lt {C R k : Nat} (b : Bool) (hC : 1 ≤ C) (hk : k < C * R) : oppN C R k b < C * R := by
  have h1 : k % C < C := Nat.mod_lt _ hC
  have h2 : k / C < R := Nat.div_lt_of_lt_mul hk
  unfold oppN
  obtain ⟨q, hq⟩ : ∃ q, k / C = q := ⟨_, rfl⟩
  obtain ⟨r, hr⟩ : ∃ r, k % C = r := ⟨_, rfl⟩
  rw [hq] at h2 ⊢
  rw [hr] at h1 ⊢
  split
  · exact mul_lt (by omega) h1
  · exact mul_lt h2 (by omega)
set_option maxRecDepth 100000 in
set_option maxHeartbeats 2000000 in
theorem opposite_any (C R k : Nat) (b : Bool) (w : World) (hC : 1 ≤ C ∧ C ≤ 8) (hR : 1 ≤ R ∧ R ≤ 8) (hk : k < C * R) :
    Calls Tryz.prog 46 #[.agg #[.int .i64 C, .int .i64 R], .int .i64 k, .bool b] w fun e w' => e = .returned (.int .i64 (oppN C R k b)) ∧ Below w.heap.size w w' := by
  have hrem : (k : Int).tmod (C : Int) = ((k % C : Nat) : Int) := by rw [Int.tmod_eq_emod_of_nonneg (by omega)]; exact (Int.natCast_emod k C).symm
  have hquo : (k : Int).tdiv (C : Int) = ((k / C : Nat) : Int) := by rw [Int.tdiv_eq_ediv_of_nonneg (by omega)]; exact (Int.natCast_ediv k C).symm
  have h1 : k % C < C := Nat.mod_lt _ hC.1
  have h2 : k / C < R := Nat.div_lt_of_lt_mul hk
  obtain ⟨q, hq⟩ : ∃ q, k / C = q := ⟨_, rfl⟩
  obtain ⟨r, hr⟩ : ∃ r, k % C = r := ⟨_, rfl⟩
  have HOP : Hid (oppN C R k b = if b = true then (R - 1 - q) * C + r else q * C + (C - 1 - r)) := Lib.hid (by unfold oppN; rw [hq, hr])
  rw [hq] at hquo h2
  rw [hr] at hrem h1
  have hm0 : (R - 1 - q) * C ≤ 8 * 8 := Nat.mul_le_mul (by omega) (by omega)
  have hm1 : q * C ≤ 8 * 8 := Nat.mul_le_mul (by omega) (by omega)
  have e1 : ((R : Int) - 1 - q) * C = (((R - 1 - q) * C : Nat) : Int) := by rw [Int.natCast_mul, Int.natCast_sub (by omega), Int.natCast_sub (by omega)]; try rfl
  have e2 : (q : Int) * C = ((q * C : Nat) : Int) := by rw [Int.natCast_mul]
  have HA : Hid (∀ W, Calls Tryz.prog 27 #[.agg #[.int .i64 C, .int .i64 R], .int .i64 r, .int .i64 ((R : Int) - 1 - q)] W fun e w' => e = .returned (.int .i64 (((R - 1 - q) * C + r : Nat) : Int)) ∧ Below W.heap.size W w') :=
    Lib.hid (fun W => at_any C R r ((R : Int) - 1 - q) _ W (by rw [e1]; push_cast; rfl) (by rw [e1]; omega) (by rw [e1]; omega) (by omega) (by omega))
  have HB : Hid (∀ W, Calls Tryz.prog 27 #[.agg #[.int .i64 C, .int .i64 R], .int .i64 ((C : Int) - 1 - r), .int .i64 (q : Int)] W fun e w' => e = .returned (.int .i64 ((q * C + (C - 1 - r) : Nat) : Int)) ∧ Below W.heap.size W w') :=
    Lib.hid (fun W => at_any C R ((C : Int) - 1 - r) q _ W (by rw [e2]; omega) (by rw [e2]; omega) (by rw [e2]; omega) (by omega) (by omega))
  have hC0 : ¬ (C : Int) = 0 := by omega
  have hC0b : ((C : Int) == 0) = false := by simp; omega
  have hB0 := (Below.refl w.heap.size w).alloc (Nat.le_refl _) (.cells #[.int .i64 C, .int .i64 R] 73)
  clear hq hr hm0 hm1 e1 e2 hk
  cases b
  · have HE : Hid (oppN C R k false = q * C + (C - 1 - r)) := Lib.hid (by rw [HOP.out, if_neg (by simp)])
    go_enter Tryz.func46, Tryz.ntmps46
    go_wp2
    go_quiet (fail)
    go_wp2_with fail
    refine (HB.out _).mono ?_
    rintro e w2 ⟨rfl, hb2⟩
    go_wp2_with fail
    go_ret
    exact ⟨by rw [HE.out]; exact ret_int (by rw [Int.natCast_add, Int.natCast_mul]), (below_drewN hB0 _).trans (hb2.mono (B' := w.heap.size) (below_drewN hB0 _).size)⟩
  · have HE : Hid (oppN C R k true = (R - 1 - q) * C + r) := Lib.hid (by rw [HOP.out, if_pos rfl])
    go_enter Tryz.func46, Tryz.ntmps46
    go_wp2
    go_quiet (fail)
    go_wp2_with fail
    refine (HA.out _).mono ?_
    rintro e w2 ⟨rfl, hb2⟩
    go_wp2_with fail
    go_ret
    exact ⟨by rw [HE.out]; exact ret_int (by rw [Int.natCast_add, Int.natCast_mul]), (below_drewN hB0 _).trans (hb2.mono (B' := w.heap.size) (below_drewN hB0 _).size)⟩
structure View where
  C : Int
  R : Int
  l : List Page
def sameV (x y : View) : Bool := decide (x.C = y.C ∧ x.R = y.R ∧ x.l = y.l)
end Go.Proofs.YtgoandhlcekmiaaGreatDoor

namespace Go.Proofs.YtgoandhlcekmiaaGreatDoor
open Go.RowKit

def CopySchemePost (C R : Int) (L : List Cell) (w : World) (e : Ending) (w' : World) : Prop :=
  ∃ (a : Option Addr) (n c : Nat), e = .returned (.agg #[.int .i64 C, .int .i64 R, .slice a n c]) ∧ n = L.length ∧ RowsAt 4 Cell.l w' a L ∧ (a = none → c = 0) ∧ Below w.heap.size w w'
set_option maxRecDepth 100000 in
set_option maxHeartbeats 2000000 in
theorem copyScheme_any (C R : Int) (a : Option Addr) (L : List Cell) (c : Nat) (w : World) (hL : RowsAt 4 Cell.l w a L) (hl : L.length ≤ 1000000) (hn : a = none → c = 0) :
    Calls Tryz.prog 8 #[.agg #[.int .i64 C, .int .i64 R, .slice a L.length c]] w (CopySchemePost C R L w) := by
  obtain ⟨w2, hw2⟩ : ∃ w2, w2 = (w.alloc (.cells #[.int .i64 C, .int .i64 R, .slice a L.length c] 29)).alloc (.cells #[.int .i64 0, .int .i64 0, .slice none 0 0] 29) := ⟨_, rfl⟩
  have hsz : w2.heap.size = w.heap.size + 1 + 1 := by rw [hw2]; simp
  have bx0 : BoxAt w2 w.heap.size #[.int .i64 C, .int .i64 R, .slice a L.length c] 29 := by rw [hw2]; exact (BoxAt.new w _ _).alloc _
  have br0 : BoxAt w2 (w.heap.size + 1) #[.int .i64 0, .int .i64 0, .slice none 0 0] 29 := by
    rw [hw2]
    have := BoxAt.new (w.alloc (.cells #[.int .i64 C, .int .i64 R, .slice a L.length c] 29)) #[.int .i64 0, .int .i64 0, .slice none 0 0] 29
    simpa using this
  have hB2 : Below w.heap.size w w2 := by rw [hw2]; exact ((Below.refl w.heap.size w).alloc (Nat.le_refl _) _).alloc (by simp) _
  have hL2 := hL.below hB2
  have hm := World.ownsRow_made (e := 57) (size := 4) (base := w2.heap.size) w2 #[] 0 (Nat.le_refl _) (Nat.zero_le _) rfl
  have hown : OwnR 4 57 Cell.l (w2.alloc (.cells #[] 57)) w2.heap.size (.slice (some ⟨w2.heap.size, 0, none⟩) 0 0) [] := hm
  rw [hsz] at hown
  have bx1 := bx0.alloc (.cells #[] 57)
  have br1 := br0.alloc (.cells #[] 57)
  have hB3 := hB2.alloc hB2.size (.cells #[] 57)
  have HL := Lib.hid (hL2.alloc (.cells #[] 57))
  rw [hw2] at bx1 br1 hown hB3 HL
  clear hm hL hL2 bx0 br0 hB2 hw2 hsz
  have c2 := bx1.cell 2
  simp at c2
  go_enter Tryz.func8, Tryz.ntmps8
  go_wp2_with (at_builtin; refine wpList_appL tCell cell_l _ (by rfl) _ _ (by rfl) (w.heap.size + 1 + 1) _ [] (by rfl) hown a L c (by rfl) HL.out hn (by simp) hl (by simp) ?_; intro v' w' hown' hg' hB' hor'; have bx3 := bx1.grown hg' (by simp [Value.ownBlock]; try omega); have br3 := br1.grown hg' (by simp [Value.ownBlock]; try omega); have fz := bx3.free 2; have d0 := bx3.cell 0; have d1 := bx3.cell 1; have d2 := bx3.cell 2; have hbl := bx3.lt; have hrl := br3.lt; simp at d0 d1 d2; have r0 := br3.cell 0; have r1 := br3.cell 1; have r2 := br3.cell 2; simp at r0 r1 r2; have z := fun j => br3.free j; obtain ⟨a6, d6, e6, hr6, -, -, hnil, hge⟩ := hown'.rows cell_l; obtain ⟨n6, hn6⟩ : ∃ n, n = ([] ++ L).length := ⟨_, rfl⟩; rw [← hn6] at e6; subst e6; have HN6 := Lib.hid hn6; clear hn6)
  refine bodyPost_ret (v := .agg #[.int .i64 C, .int .i64 R, .slice a6 n6 d6]) ?_ rfl ?_
  · simp [results, Tryz.results8, go_sem, r0, r1, r2]
  · refine ⟨a6, n6, d6, rfl, by simpa using HN6.out, ?_, hnil, ?_⟩
    · have hr6 : RowsAt 4 Cell.l w' a6 L := hr6
      have hap0 : ∀ ad, a6 = some ad → ad.block ≠ w.heap.size := fun ad e => by have := hge ad e; omega
      have hap : ∀ ad, a6 = some ad → ad.block ≠ w.heap.size + 1 := fun ad e => by have := hge ad e; omega
      exact (((hr6.set (p := ⟨w.heap.size, 2, none⟩) hap0 _).set (p := ⟨w.heap.size + 1, 0, none⟩) hap _).set (p := ⟨w.heap.size + 1, 1, none⟩) hap _).set (p := ⟨w.heap.size + 1, 2, none⟩) hap _
    · exact ((((hB3.trans (hB'.mono (B' := w.heap.size) (by omega))).setCell (p := ⟨w.heap.size, 2, none⟩) (Nat.le_refl _) _).setCell (p := ⟨w.heap.size + 1, 0, none⟩) (by show w.heap.size ≤ w.heap.size + 1; omega) _).setCell (p := ⟨w.heap.size + 1, 1, none⟩) (by show w.heap.size ≤ w.heap.size + 1; omega) _).setCell (p := ⟨w.heap.size + 1, 2, none⟩) (by show w.heap.size ≤ w.heap.size + 1; omega) _
def CopyViewPost (C R : Int) (L : List Page) (w : World) (e : Ending) (w' : World) : Prop :=
  ∃ (a : Option Addr) (n c : Nat), e = .returned (.agg #[.int .i64 C, .int .i64 R, .slice a n c]) ∧ n = L.length ∧ RowsAt 2 Page.l w' a L ∧ (a = none → c = 0) ∧ Below w.heap.size w w'
end Go.Proofs.YtgoandhlcekmiaaGreatDoor

namespace Go.Proofs.YtgoandhlcekmiaaGreatDoor
open Go.RowKit

def roundB (b : Bool) : Int := if b = true then 1 else 0
theorem roundIf2 (b : Bool) (w : World) : Calls Tryz.prog 45 #[.bool b] w fun e w' => e = .returned (.int .i64 (roundB b)) ∧ w = w' := roundIf_any b w
theorem roundB_bit (b : Bool) : Bit (roundB b) := by unfold roundB Bit; split <;> omega
theorem cell_set2 {w : World} {al : Nat} {A B : Value} {p : Addr} {v : Value} (h : w.cell? p = some v) (hp : p.block ≠ al) : ((w.setCell ⟨al, 0, none⟩ A).setCell ⟨al, 1, none⟩ B).cell? p = some v := by
  rw [World.cell?_setCell_other _ _ _ _ (fun e => hp (congrArg Addr.block e).symm), World.cell?_setCell_other _ _ _ _ (fun e => hp (congrArg Addr.block e).symm), h]
def twErr (C R : Int) (L : List Page) : Int := if cellsErr C R L.length ≠ 0 then cellsErr C R L.length else if L.all (pageB 4000) = true then 0 else 2
def twCell (C R : Nat) (L : List Page) (b : Bool) (k : Nat) : Cell := ⟨(L.getD k default).p, (L.getD k default).t, (L.getD (oppN C R k b) default).p, xr (L.getD (oppN C R k b) default).t (roundB b)⟩
/-- The cells, the first k of them set. -/
def twTo (C R : Nat) (L : List Page) (b : Bool) (k : Nat) : List Cell := (List.range k).map (twCell C R L b) ++ List.replicate (L.length - k) ⟨0, 0, 0, 0⟩
theorem twTo_len {C R : Nat} {L : List Page} {b : Bool} {k : Nat} (hk : k ≤ L.length) : (twTo C R L b k).length = L.length := by simp [twTo]; omega
theorem twTo_set {C R : Nat} {L : List Page} {b : Bool} {k : Nat} (hk : k < L.length) : (twTo C R L b k).set k (twCell C R L b k) = twTo C R L b (k + 1) := by
  unfold twTo
  rw [List.set_append_right _ _ (by simp), List.length_map, List.length_range, Nat.sub_self]
  obtain ⟨m, hm⟩ : ∃ m, L.length - k = m + 1 := ⟨L.length - k - 1, by omega⟩
  rw [hm, List.replicate_succ, List.set_cons_zero, show L.length - (k + 1) = m by omega, List.range_succ, List.map_append, List.append_assoc]; try rfl
theorem page_ok {m : Int} {L : List Page} (h : L.all (pageB m) = true) : ∀ x ∈ L, Bit x.t := by
  intro x hx
  have := List.all_eq_true.1 h x hx
  unfold pageB at this
  simp only [Bool.and_eq_true] at this
  have := inB_iff.1 this.2
  unfold Bit; omega
theorem cells_ok {C R n : Int} (h : cellsErr C R n = 0) : sideErr C R = 0 ∧ n = C * R := by
  unfold cellsErr at h
  by_cases h1 : sideErr C R = 0
  · rw [if_neg (by simp [h1])] at h
    refine ⟨h1, ?_⟩
    by_cases h2 : n = C * R
    · exact h2
    · rw [if_pos h2] at h; exact absurd h (by decide)
  · rw [if_pos h1] at h; exact absurd h h1
def twD (C R : Int) (L : List Page) : Int × Int := if twErr C R L = 0 then (C, R) else (0, 0)
def twL (C R : Int) (L : List Page) (b : Bool) : List Cell := if twErr C R L = 0 then twTo C.toNat R.toNat L b L.length else []
def TwPost (w : World) (C R : Int) (L : List Page) (b : Bool) (e : Ending) (w' : World) : Prop :=
  ∃ (a : Option Addr) (n c : Nat), e = .returned (.tuple #[.agg #[.int .i64 (twD C R L).1, .int .i64 (twD C R L).2, .slice a n c], .int .i64 (twErr C R L)]) ∧ n = (twL C R L b).length ∧ RowsAt 4 Cell.l w' a (twL C R L b) ∧ (a = none → c = 0) ∧ Below w.heap.size w w'
set_option maxRecDepth 100000 in
set_option maxHeartbeats 4000000 in
theorem printedTwice_any (C R : Int) (a : Option Addr) (L : List Page) (c : Nat) (b : Bool) (w : World) (hL : RowsAt 2 Page.l w a L) (hl : L.length ≤ 1000000) :
    Calls Tryz.prog 15 #[.agg #[.int .i64 C, .int .i64 R, .slice a L.length c], .bool b] w (TwPost w C R L b) := by
  obtain ⟨w3, hw3⟩ : ∃ w3, w3 = ((w.alloc (.cells #[.int .i64 C, .int .i64 R, .slice a L.length c] 45)).alloc (.cells #[.int .i64 0, .int .i64 0, .slice none 0 0] 29)).alloc (.cells #[.int .i64 C, .int .i64 R] 73) := ⟨_, rfl⟩
  have bx0 : BoxAt w3 w.heap.size #[.int .i64 C, .int .i64 R, .slice a L.length c] 45 := by rw [hw3]; exact ((BoxAt.new w _ _).alloc _).alloc _
  have br0 : BoxAt w3 (w.heap.size + 1) #[.int .i64 0, .int .i64 0, .slice none 0 0] 29 := by
    rw [hw3]
    have := (BoxAt.new (w.alloc (.cells #[.int .i64 C, .int .i64 R, .slice a L.length c] 45)) #[.int .i64 0, .int .i64 0, .slice none 0 0] 29).alloc (.cells #[.int .i64 C, .int .i64 R] 73)
    simpa using this
  have bz0 : BoxAt w3 (w.heap.size + 1 + 1) #[.int .i64 C, .int .i64 R] 73 := by
    rw [hw3]
    have := BoxAt.new ((w.alloc (.cells #[.int .i64 C, .int .i64 R, .slice a L.length c] 45)).alloc (.cells #[.int .i64 0, .int .i64 0, .slice none 0 0] 29)) #[.int .i64 C, .int .i64 R] 73
    simpa using this
  have hB3 : Below w.heap.size w w3 := by rw [hw3]; exact (((Below.refl w.heap.size w).alloc (Nat.le_refl _) _).alloc (by simp) _).alloc (by simp; omega) _
  have W3 := Lib.hid hw3
  clear hw3
  go_enter Tryz.func15, Tryz.ntmps15
  go_wp2_with fail
  rw [← W3.out]
  refine (errorOfCells_any _ _ _ _).mono ?_
  rintro e w4 ⟨rfl, hb4⟩
  have bx4 := bx0.below hb4; have br4 := br0.below hb4; have bz4 := bz0.below hb4
  have hB4 := hB3.trans (hb4.mono (B' := w.heap.size) hB3.size)
  clear hb4 bx0 br0 bz0 hB3
  have c2 := bx4.cell 2
  have r0 := br4.cell 0; have r1 := br4.cell 1; have r2 := br4.cell 2
  have z := fun j => br4.free j
  have hrl := br4.lt
  simp at c2 r0 r1 r2
  by_cases h1 : cellsErr C R L.length = 0
  · have HC0 := Lib.hid h1
    rw [h1]
    clear h1
    go_wp2_with fail
    refine (arePages_any 4000 a L c _ (hL.below hB4) (by unfold maxLen; omega)).mono ?_
    rintro e w5 ⟨rfl, hb5⟩
    have bx5 := bx4.below hb5; have br5 := br4.below hb5; have bz5 := bz4.below hb5
    have hB5 := hB4.trans (hb5.mono (B' := w.heap.size) hB4.size)
    clear hb5 bx4 br4 bz4 hB4 c2 r0 r1 r2 z hrl
    cases hall : L.all (pageB 4000)
    · have HE : Hid (twErr C R L = 2) := Lib.hid (by unfold twErr; rw [if_neg (by simp [HC0.out]), if_neg (by simp [hall])])
      have HD : Hid (twD C R L = (0, 0) ∧ twL C R L b = []) := Lib.hid (by unfold twD twL; rw [HE.out]; exact ⟨rfl, rfl⟩)
      have r0 := br5.cell 0; have r1 := br5.cell 1; have r2 := br5.cell 2
      have z := fun j => br5.free j
      have hrl := br5.lt
      simp at r0 r1 r2
      clear hall
      go_wp2_with fail
      refine bodyPost_ret (v := .tuple #[.agg #[.int .i64 0, .int .i64 0, .slice none 0 0], .int .i64 2]) ?_ rfl ?_
      · simp [results, Tryz.results15, go_sem, r0, r1, r2]
      · exact ⟨none, 0, 0, scheme_ret HD.out.1 HE.out, by rw [HD.out.2]; try rfl, by rw [HD.out.2]; exact RowsAt.nil _ _, fun _ => rfl, (((hB5.setCell (p := ⟨w.heap.size + 1, 0, none⟩) (by show w.heap.size ≤ w.heap.size + 1; omega) _).setCell (p := ⟨w.heap.size + 1, 1, none⟩) (by show w.heap.size ≤ w.heap.size + 1; omega) _).setCell (p := ⟨w.heap.size + 1, 2, none⟩) (by show w.heap.size ≤ w.heap.size + 1; omega) _)⟩
    · have HALL := Lib.hid hall
      clear hall
      have d0 := bz5.cell 0; have d1 := bz5.cell 1
      simp at d0 d1
      obtain ⟨hs, hn⟩ := cells_ok HC0.out
      obtain ⟨sC, sR, sm⟩ := side_ok hs
      obtain ⟨cn, rfl⟩ : ∃ n : Nat, C = n := ⟨C.toNat, by omega⟩
      obtain ⟨rn, rfl⟩ : ∃ n : Nat, R = n := ⟨R.toNat, by omega⟩
      have HCR : Hid ((1 ≤ cn ∧ cn ≤ 8) ∧ (1 ≤ rn ∧ rn ≤ 8)) := Lib.hid (by omega)
      have HN : Hid (L.length = cn * rn) := Lib.hid (by have : (L.length : Int) = ((cn * rn : Nat) : Int) := by rw [hn, Int.natCast_mul]
                                                        omega)
      have hN64 : L.length ≤ 64 := by rw [HN.out]; exact Nat.mul_le_mul (show cn ≤ 8 by omega) (show rn ≤ 8 by omega)
      have HP : Hid (-1000000 ≤ (cn : Int) * rn ∧ (cn : Int) * rn ≤ 1000000) := Lib.hid (by omega)
      have HNI : Hid ((cn : Int) * rn = (L.length : Int)) := Lib.hid hn.symm
      have hmk := fun W => run_make_rowX (t := 27) Tryz.underlying27 info_cell .i64 .i64 L.length (by omega) (by omega) W
      have hz4 : (Value.agg #[.int .i64 0, .int .i64 0, .int .i64 0, .int .i64 0]).cells = #[.int .i64 0, .int .i64 0, .int .i64 0, .int .i64 0] := rfl
      rw [hz4] at hmk
      clear hs hn sC sR sm hz4 hl
      go_wp2_with fail
      refine (cells_any (cn : Int) (rn : Int) (L.length : Int) _ HNI.out HP.out.1 HP.out.2).mono ?_
      rintro e w6 ⟨rfl, hb6⟩
      have bx6 := bx5.below hb6; have br6 := br5.below hb6; have bz6 := bz5.below hb6
      have hB6 := hB5.trans (hb6.mono (B' := w.heap.size) hB5.size)
      clear hb6 bx5 br5 bz5 hB5 d0 d1
      have c2 := bx6.cell 2
      simp at c2
      have hxl := bx6.lt
      have q1 : ¬ w.heap.size = w6.heap.size := by omega
      have q2 : ¬ w6.heap.size = w.heap.size := by omega
      go_wp2_with fail
      obtain ⟨g, hg⟩ : ∃ g, w6.heap.size = g := ⟨_, rfl⟩
      rw [hg]
      have hzl : w.heap.size + 1 + 1 < g := by rw [← hg]; exact bz6.lt
      have O0 : OwnR 4 57 Cell.l (w6.alloc (.cells (madeCells #[.int .i64 0, .int .i64 0, .int .i64 0, .int .i64 0] (L.length * 4)) 57)) g (.slice (some ⟨g, 0, none⟩) L.length L.length) (twTo cn rn L b 0) := by
        have := OwnR.made4 (E := 57) cell_l w6 ⟨0, 0, 0, 0⟩ rfl L.length (by omega)
        rw [hg] at this; exact this
      have bx7 := bx6.alloc (.cells (madeCells #[.int .i64 0, .int .i64 0, .int .i64 0, .int .i64 0] (L.length * 4)) 57)
      have br7 := br6.alloc (.cells (madeCells #[.int .i64 0, .int .i64 0, .int .i64 0, .int .i64 0] (L.length * 4)) 57)
      have bz7 := bz6.alloc (.cells (madeCells #[.int .i64 0, .int .i64 0, .int .i64 0, .int .i64 0] (L.length * 4)) 57)
      have hB7 := hB6.alloc hB6.size (.cells (madeCells #[.int .i64 0, .int .i64 0, .int .i64 0, .int .i64 0] (L.length * 4)) 57)
      clear hmk hg q1 q2
      go_loopw [37] (fun i wr => ∃ k : Nat, k ≤ L.length ∧ i = .int .i64 k ∧ OwnR 4 57 Cell.l wr g (.slice (some ⟨g, 0, none⟩) L.length L.length) (twTo cn rn L b k) ∧ BoxAt wr w.heap.size #[.int .i64 cn, .int .i64 rn, .slice a L.length c] 45 ∧ BoxAt wr (w.heap.size + 1) #[.int .i64 0, .int .i64 0, .slice none 0 0] 29 ∧ BoxAt wr (w.heap.size + 1 + 1) #[.int .i64 cn, .int .i64 rn] 73 ∧ Below w.heap.size w wr) (fun i _ => L.length - (intOf i).toNat)
      case atStart => exact ⟨0, Nat.zero_le _, rfl, O0, bx7, br7, bz7, hB7⟩
      case round =>
        obtain ⟨k, hk, rfl, hO, bx, br, bz, hB⟩ := hrel
        clear O0 bx7 br7 bz7 hB7 bx6 br6 bz6 hB6 c2 hxl
        by_cases hkl : k < L.length
        · have hkI : (k : Int) < (L.length : Int) := by omega
          obtain ⟨ad, rfl, had, s0, s1⟩ := (hL.below hB).page hkl
          obtain ⟨x, ex⟩ : ∃ x, x = L[k] := ⟨_, rfl⟩
          have HOP := Lib.hid (fun W => opposite_any cn rn k b W HCR.out.1 HCR.out.2 (by rw [← HN.out]; exact hkl))
          have hol : oppN cn rn k b < L.length := by rw [HN.out]; exact oppN_lt b HCR.out.1.1 (by rw [← HN.out]; exact hkl)
          obtain ⟨o, ho⟩ : ∃ o, o = oppN cn rn k b := ⟨_, rfl⟩
          rw [← ho] at HOP hol
          obtain ⟨_, e2, -, t0, t1⟩ := (hL.below hB).page hol
          cases e2
          obtain ⟨y, ey⟩ : ∃ y, y = L[o] := ⟨_, rfl⟩
          have HYB : Hid (Bit y.t) := Lib.hid (by rw [ey]; exact page_ok HALL.out _ (List.getElem_mem hol))
          rw [← ex] at s0 s1
          rw [← ey] at t0 t1
          have HST : Hid ((twTo cn rn L b k).set k ⟨x.p, x.t, y.p, xr y.t (roundB b)⟩ = twTo cn rn L b (k + 1)) := Lib.hid (by
            rw [← twTo_set hkl]; unfold twCell; rw [← ho, getD_in default hkl, getD_in default hol, ← ex, ← ey])
          have hoI : (o : Int) < (L.length : Int) := by omega
          have EX := Lib.hid ex; have EY := Lib.hid ey
          clear ex ey ho
          have c2 := bx.cell 2; have d0 := bz.cell 0; have d1 := bz.cell 1
          have hxl := bx.lt; have hzl2 := bz.lt
          simp at c2 d0 d1
          obtain ⟨w4, e4⟩ : ∃ w4, w4 = wr.alloc (.cells #[.int .i64 x.p, .int .i64 x.t] 79) := ⟨_, rfl⟩
          have hA : Below wr.heap.size wr w4 := by rw [e4]; exact (Below.refl wr.heap.size wr).alloc (Nat.le_refl _) _
          have bp4 : BoxAt w4 wr.heap.size #[.int .i64 x.p, .int .i64 x.t] 79 := by rw [e4]; exact BoxAt.new wr _ _
          go_wp2_with fail
          rw [← e4]
          have bx4 := bx.below hA; have bz4 := bz.below hA; have br4 := br.below hA; have hO4 := hO.below hA
          have hB4 := hB.trans (hA.mono (B' := w.heap.size) hB.size)
          obtain ⟨_, e2, had, t0, t1⟩ := (hL.below hB4).page hol
          cases e2
          rw [← EY.out] at t0 t1
          clear c2 d0 d1 hxl hzl2 e4
          have c2 := bx4.cell 2; have d0 := bz4.cell 0; have d1 := bz4.cell 1
          have hxl := bx4.lt; have hzl2 := bz4.lt
          simp at c2 d0 d1
          have had4 : (ad.add (o * 2)).block < w4.heap.size := by rw [add_block]; exact had
          have had5 : (⟨(ad.add (o * 2)).block, (ad.add (o * 2)).off + 1, none⟩ : Addr).block < w4.heap.size := had4
          have v0 := World.new_ne w4 _ c2; have v1 := World.new_ne w4 _ d0; have v2 := World.new_ne w4 _ d1; have v3 := World.new_ne w4 _ t0; have v4 := World.new_ne w4 _ t1
          go_cut [11] from 42 to 53 (fun v wx => ∃ al, v = .pointer (some ⟨al, 0, none⟩) ∧ BoxAt wx al #[.int .i64 y.p, .int .i64 (xr y.t (roundB b))] 79 ∧ w4.heap.size ≤ al ∧ Below w4.heap.size w4 wx)
          case first =>
            rename_i J9 K9 hR9 hM9
            go_region_held3 (fun w' => w'.cell? ⟨w.heap.size, 2, none⟩ = some (.slice (some ad) L.length c) ∧ w'.cell? ⟨w.heap.size + 1 + 1, 0, none⟩ = some (.int .i64 cn) ∧ w'.cell? ⟨w.heap.size + 1 + 1, 1, none⟩ = some (.int .i64 rn) ∧ w'.cell? (ad.add (o * 2)) = some (.int .i64 y.p) ∧ w'.cell? ⟨(ad.add (o * 2)).block, (ad.add (o * 2)).off + 1, none⟩ = some (.int .i64 y.t)) (first | exact ⟨u0 _ _, u1 _ _, u2 _ _, u3 _ _, u4 _ _⟩ | exact ⟨j0, j1, j2, j3, j4⟩ | exact ⟨k0, k1, k2, k3, k4⟩ | go_keep)
              (first
                | (go_at_call 45; refine (roundIf2 b _).mono ?_; rintro e w' ⟨rfl, rfl⟩)
                | (go_at_call 46; refine (HOP.out w4.drew).mono ?_; rintro e w7 ⟨rfl, hb7⟩; have hq7 : Below w4.heap.size w4 w7 := (Below.refl _ w4).drew.trans hb7; have k0 := (hq7.cell (p := ⟨w.heap.size, 2, none⟩) hxl).trans c2; have k1 := (hq7.cell (p := ⟨w.heap.size + 1 + 1, 0, none⟩) hzl2).trans d0; have k2 := (hq7.cell (p := ⟨w.heap.size + 1 + 1, 1, none⟩) hzl2).trans d1; have k3 := (hq7.cell (p := ad.add (o * 2)) had4).trans t0; have k4 := (hq7.cell (p := ⟨(ad.add (o * 2)).block, (ad.add (o * 2)).off + 1, none⟩) had5).trans t1; have kn0 := World.new_ne w7 _ k0; have kn1 := World.new_ne w7 _ k1; have kn2 := World.new_ne w7 _ k2; have kn3 := World.new_ne w7 _ k3; have kn4 := World.new_ne w7 _ k4)
                | (go_at_call 46; refine (HOP.out _).mono ?_; rintro e w7 ⟨rfl, hb7⟩; have bal7 : BoxAt w7 w4.heap.size #[.int .i64 0, .int .i64 0] 79 := (BoxAt.new w4.drew #[.int .i64 0, .int .i64 0] 79).below hb7; have hq7 : Below w4.heap.size w4 w7 := ((Below.refl _ w4).drew.alloc (Nat.le_refl _) _).trans (hb7.mono (B' := w4.heap.size) (by simp)); have k0 := (hq7.cell (p := ⟨w.heap.size, 2, none⟩) hxl).trans c2; have k1 := (hq7.cell (p := ⟨w.heap.size + 1 + 1, 0, none⟩) hzl2).trans d0; have k2 := (hq7.cell (p := ⟨w.heap.size + 1 + 1, 1, none⟩) hzl2).trans d1; have k3 := (hq7.cell (p := ad.add (o * 2)) had4).trans t0; have k4 := (hq7.cell (p := ⟨(ad.add (o * 2)).block, (ad.add (o * 2)).off + 1, none⟩) had5).trans t1; have kn0 := World.new_ne w7 _ k0; have kn1 := World.new_ne w7 _ k1; have kn2 := World.new_ne w7 _ k2; have kn3 := World.new_ne w7 _ k3; have kn4 := World.new_ne w7 _ k4)
                | (go_at_call 43; refine (turned_any y (roundB b) w7 HYB.out (roundB_bit b)).mono ?_; rintro e w8 ⟨rfl, hb8⟩; have bal8 := bal7.below hb8; have hq8 := hq7.trans (hb8.mono (B' := w4.heap.size) hq7.size); have j0 := (hq8.cell (p := ⟨w.heap.size, 2, none⟩) hxl).trans c2; have j1 := (hq8.cell (p := ⟨w.heap.size + 1 + 1, 0, none⟩) hzl2).trans d0; have j2 := (hq8.cell (p := ⟨w.heap.size + 1 + 1, 1, none⟩) hzl2).trans d1; have j3 := (hq8.cell (p := ad.add (o * 2)) had4).trans t0; have j4 := (hq8.cell (p := ⟨(ad.add (o * 2)).block, (ad.add (o * 2)).off + 1, none⟩) had5).trans t1; have u0 := fun A B => cell_set2 (al := w4.heap.size) (A := A) (B := B) j0 (Nat.ne_of_lt hxl); have u1 := fun A B => cell_set2 (al := w4.heap.size) (A := A) (B := B) j1 (Nat.ne_of_lt hzl2); have u2 := fun A B => cell_set2 (al := w4.heap.size) (A := A) (B := B) j2 (Nat.ne_of_lt hzl2); have u3 := fun A B => cell_set2 (al := w4.heap.size) (A := A) (B := B) j3 (Nat.ne_of_lt had4); have u4 := fun A B => cell_set2 (al := w4.heap.size) (A := A) (B := B) j4 (Nat.ne_of_lt had5); have fz := fun j => bal8.free j; have a0 := bal8.cell 0; have a1 := bal8.cell 1; have hll := bal8.lt; simp at a0 a1)
                | (go_at_call 43; refine (turned_any y (roundB b) w7 HYB.out (roundB_bit b)).mono ?_; rintro e w8 ⟨rfl, hb8⟩; have hq8 := hq7.trans (hb8.mono (B' := w4.heap.size) hq7.size); have j0 := (hq8.cell (p := ⟨w.heap.size, 2, none⟩) hxl).trans c2; have j1 := (hq8.cell (p := ⟨w.heap.size + 1 + 1, 0, none⟩) hzl2).trans d0; have j2 := (hq8.cell (p := ⟨w.heap.size + 1 + 1, 1, none⟩) hzl2).trans d1; have j3 := (hq8.cell (p := ad.add (o * 2)) had4).trans t0; have j4 := (hq8.cell (p := ⟨(ad.add (o * 2)).block, (ad.add (o * 2)).off + 1, none⟩) had5).trans t1; have jn0 := World.new_ne w8 _ j0; have jn1 := World.new_ne w8 _ j1; have jn2 := World.new_ne w8 _ j2; have jn3 := World.new_ne w8 _ j3; have jn4 := World.new_ne w8 _ j4)
                | (go_at_call 43; refine (turned_any y (roundB b) _ HYB.out (roundB_bit b)).mono ?_; rintro e w8 ⟨rfl, hb8⟩; have bal8 := (BoxAt.new w7 #[.int .i64 0, .int .i64 0] 79).below hb8; have hq8 := (hq7.alloc hq7.size _).trans (hb8.mono (B' := w4.heap.size) (by have := hq7.size; simp; omega)); have j0 := (hq8.cell (p := ⟨w.heap.size, 2, none⟩) hxl).trans c2; have j1 := (hq8.cell (p := ⟨w.heap.size + 1 + 1, 0, none⟩) hzl2).trans d0; have j2 := (hq8.cell (p := ⟨w.heap.size + 1 + 1, 1, none⟩) hzl2).trans d1; have j3 := (hq8.cell (p := ad.add (o * 2)) had4).trans t0; have j4 := (hq8.cell (p := ⟨(ad.add (o * 2)).block, (ad.add (o * 2)).off + 1, none⟩) had5).trans t1; have u0 := fun A B => cell_set2 (al := w7.heap.size) (A := A) (B := B) j0 (Nat.ne_of_lt (Nat.lt_of_lt_of_le hxl hq7.size)); have u1 := fun A B => cell_set2 (al := w7.heap.size) (A := A) (B := B) j1 (Nat.ne_of_lt (Nat.lt_of_lt_of_le hzl2 hq7.size)); have u2 := fun A B => cell_set2 (al := w7.heap.size) (A := A) (B := B) j2 (Nat.ne_of_lt (Nat.lt_of_lt_of_le hzl2 hq7.size)); have u3 := fun A B => cell_set2 (al := w7.heap.size) (A := A) (B := B) j3 (Nat.ne_of_lt (Nat.lt_of_lt_of_le had4 hq7.size)); have u4 := fun A B => cell_set2 (al := w7.heap.size) (A := A) (B := B) j4 (Nat.ne_of_lt (Nat.lt_of_lt_of_le had5 hq7.size)); have fz := fun j => bal8.free j; have a0 := bal8.cell 0; have a1 := bal8.cell 1; have hll := bal8.lt; simp at a0 a1))
            all_goals
              refine hM9 _ _ ?_
              refine Met.intro ?_
              refine hR9 _ _ ?_
              (repeat apply Exists.intro)
              refine ⟨?_, rfl⟩
            all_goals first
              | exact ⟨_, rfl, BoxAt.new _ _ _, hq8.size, hq8.alloc hq8.size _⟩
              | exact ⟨_, rfl, (bal8.set 0 _).set 1 _, hq7.size, (hq8.setCell (p := ⟨w7.heap.size, 0, none⟩) hq7.size _).setCell (p := ⟨w7.heap.size, 1, none⟩) hq7.size _⟩
              | exact ⟨_, rfl, (bal8.set 0 _).set 1 _, Nat.le_refl _, (hq8.setCell (p := ⟨w4.heap.size, 0, none⟩) (Nat.le_refl _) _).setCell (p := ⟨w4.heap.size, 1, none⟩) (Nat.le_refl _) _⟩
          case rest =>
            obtain ⟨al, rfl, bal, hal, hbx⟩ := hcut
            have bpc := bp4.below hbx; have bxc := bx4.below hbx; have brc := br4.below hbx; have bzc := bz4.below hbx; have hOc := hO4.below hbx
            have hBc := hB4.trans (hbx.mono (B' := w.heap.size) hB4.size)
            clear c2 d0 d1 hxl hzl2 had4 had5 v0 v1 v2 v3 v4 t0 t1 s0 s1 had
            have p0 := bpc.cell 0; have p1 := bpc.cell 1; have a0 := bal.cell 0; have a1 := bal.cell 1
            have hpl := bpc.lt; have hll := bal.lt
            simp at p0 p1 a0 a1
            go_wp2_with fail
            refine (cellOf_any x ⟨y.p, xr y.t (roundB b)⟩ _).mono ?_
            rintro e w9 ⟨rfl, hb9⟩
            have bx9 := bxc.below hb9; have br9 := brc.below hb9; have bz9 := bzc.below hb9; have hO9 := hOc.below hb9
            have hB9 := hBc.trans (hb9.mono (B' := w.heap.size) hBc.size)
            have hO10 := hO9.put4c (twTo_len hk).symm (k := k) (by rw [twTo_len hk]; exact hkl) ⟨x.p, x.t, y.p, xr y.t (roundB b)⟩
            rw [HST.out] at hO10
            obtain ⟨og, oc, oe1, orow, -, -, -, -⟩ := hO9.rows cell_l
            have oe1' : (⟨g, 0, none⟩ : Addr) = ⟨g, 0, none⟩ := rfl
            injection oe1 with oe1 oe2 oe3
            clear oe2 oe1'
            subst oe1 oe3
            obtain ⟨_, oe1, oh1, x0, x1, x2, x3⟩ := orow.cell (k := k) (by rw [twTo_len hk]; exact hkl)
            cases oe1
            rw [add0] at x0 x1 x2 x3
            have z := fun q => hO9.free q
            have hwg : w.heap.size ≤ g := by omega
            have m0 : w.heap.size ≠ g := by omega
            have m1 : w.heap.size + 1 ≠ g := by omega
            have m2 : w.heap.size + 1 + 1 ≠ g := by omega
            clear p0 p1 a0 a1 hpl hll
            go_wp2
            go_roundw
            case rel =>
              refine ⟨k + 1, by omega, by go_num, hO10, ?_, ?_, ?_, ?_⟩
              · exact (((bx9.set_other (p := ⟨g, k * 4, none⟩) m0 _).set_other (p := ⟨g, k * 4 + 1, none⟩) m0 _).set_other (p := ⟨g, k * 4 + 2, none⟩) m0 _).set_other (p := ⟨g, k * 4 + 3, none⟩) m0 _
              · exact (((br9.set_other (p := ⟨g, k * 4, none⟩) m1 _).set_other (p := ⟨g, k * 4 + 1, none⟩) m1 _).set_other (p := ⟨g, k * 4 + 2, none⟩) m1 _).set_other (p := ⟨g, k * 4 + 3, none⟩) m1 _
              · exact (((bz9.set_other (p := ⟨g, k * 4, none⟩) m2 _).set_other (p := ⟨g, k * 4 + 1, none⟩) m2 _).set_other (p := ⟨g, k * 4 + 2, none⟩) m2 _).set_other (p := ⟨g, k * 4 + 3, none⟩) m2 _
              · exact (((hB9.setCell (p := ⟨g, k * 4, none⟩) hwg _).setCell (p := ⟨g, k * 4 + 1, none⟩) hwg _).setCell (p := ⟨g, k * 4 + 2, none⟩) hwg _).setCell (p := ⟨g, k * 4 + 3, none⟩) hwg _
            case measure => simp [intOf]; omega
        · have hkL : k = L.length := by omega
          have HE : Hid (twErr cn rn L = 0) := Lib.hid (by unfold twErr; rw [if_neg (by simp [HC0.out]), if_pos HALL.out])
          have HD : Hid (twD cn rn L = ((cn : Int), (rn : Int)) ∧ twL cn rn L b = twTo cn rn L b L.length) := Lib.hid (by unfold twD twL; rw [HE.out]; exact ⟨rfl, rfl⟩)
          have hkI : ¬ (k : Int) < (L.length : Int) := by omega
          rw [hkL] at hO
          have HO := Lib.hid hO
          have r0 := br.cell 0; have r1 := br.cell 1; have r2 := br.cell 2
          have z := fun j => br.free j
          have hrl := br.lt
          have d0 := bz.cell 0; have d1 := bz.cell 1
          have hzl2 := bz.lt
          simp at r0 r1 r2 d0 d1
          clear hkL hO
          go_wp2_with fail
          refine bodyPost_ret (v := .tuple #[.agg #[.int .i64 cn, .int .i64 rn, .slice (some ⟨g, 0, none⟩) L.length L.length], .int .i64 0]) ?_ rfl ?_
          · simp [results, Tryz.results15, go_sem, r0, r1, r2]
          · obtain ⟨a', c', e1, hrow, -, -, hnil, -⟩ := HO.out.rows cell_l
            injection e1 with e1 e2 e3
            subst e1 e3
            refine ⟨_, L.length, L.length, scheme_ret HD.out.1 HE.out, by rw [HD.out.2, twTo_len (Nat.le_refl _)], ?_, hnil, (((hB.setCell (p := ⟨w.heap.size + 1, 0, none⟩) (by show w.heap.size ≤ w.heap.size + 1; omega) _).setCell (p := ⟨w.heap.size + 1, 1, none⟩) (by show w.heap.size ≤ w.heap.size + 1; omega) _).setCell (p := ⟨w.heap.size + 1, 2, none⟩) (by show w.heap.size ≤ w.heap.size + 1; omega) _)⟩
            rw [HD.out.2]
            exact ((hrow.set (p := ⟨w.heap.size + 1, 0, none⟩) (fun ad e => by cases e; show g ≠ w.heap.size + 1; omega) _).set (p := ⟨w.heap.size + 1, 1, none⟩) (fun ad e => by cases e; show g ≠ w.heap.size + 1; omega) _).set (p := ⟨w.heap.size + 1, 2, none⟩) (fun ad e => by cases e; show g ≠ w.heap.size + 1; omega) _
  · have HE : Hid (twErr C R L = cellsErr C R L.length) := Lib.hid (by unfold twErr; rw [if_pos h1])
    have HD : Hid (twD C R L = (0, 0) ∧ twL C R L b = []) := Lib.hid (by unfold twD twL; rw [HE.out, if_neg h1, if_neg h1]; exact ⟨rfl, rfl⟩)
    have heb : (cellsErr C R L.length != 0) = true := by simpa using h1
    clear h1
    go_wp2_with fail
    refine bodyPost_ret (v := .tuple #[.agg #[.int .i64 0, .int .i64 0, .slice none 0 0], .int .i64 (cellsErr C R L.length)]) ?_ rfl ?_
    · simp [results, Tryz.results15, go_sem, r0, r1, r2]
    · exact ⟨none, 0, 0, scheme_ret HD.out.1 HE.out, by rw [HD.out.2]; try rfl, by rw [HD.out.2]; exact RowsAt.nil _ _, fun _ => rfl, (((hB4.setCell (p := ⟨w.heap.size + 1, 0, none⟩) (by show w.heap.size ≤ w.heap.size + 1; omega) _).setCell (p := ⟨w.heap.size + 1, 1, none⟩) (by show w.heap.size ≤ w.heap.size + 1; omega) _).setCell (p := ⟨w.heap.size + 1, 2, none⟩) (by show w.heap.size ≤ w.heap.size + 1; omega) _)⟩
end Go.Proofs.YtgoandhlcekmiaaGreatDoor
