/-
  The levels of a pattern: the reference's walk.
-/
import Derived.Test.YtlkkociijfdcgaaGreatDoorLX
import Derived.Test.YtlkkociijfdcgaaGreatDoorZY
namespace Go.Proofs.YtlkkociijfdcgaaGreatDoor
open Go.RowKit Go.Maps Go.Shelf

theorem dotsB_eq (t s : ByteArray) (o : Nat) : dotsB t s o = dotsL t.data.toList s.data.toList o := by
  unfold dotsB dotsL
  rw [Array.length_toList, Array.length_toList]
  rfl
structure LvKnow (w : World) (I : ByteArray) (A : Option Addr) (c : Nat) (x : Pat) (ss : ByteArray) (o : Nat) (wr : World) : Prop where
  box : wr.heap[w.heap.size]? = some (.cells #[.string I, .slice A (refLv x).length c] 149 (0, 0))
  row : RowX wr (w.heap.size + 1) (rF (refItems x) (dotted ss.data.toList) ss.size (refLv x) o)
  low : Below w.heap.size w wr
theorem LvKnow.next {w : World} {I : ByteArray} {A : Option Addr} {c : Nat} {x : Pat} {ss : ByteArray} {o : Nat} {wr : World} (h : LvKnow w I A c x ss o wr) (nq : Nat) (e : rF (refItems x) (dotted ss.data.toList) ss.size (refLv x) (o + 1) = rF (refItems x) (dotted ss.data.toList) ss.size (refLv x) o) : LvKnow w I A c x ss (o + 1) (wr.drewN nq) :=
  ⟨h.box, by rw [e]; exact h.row.drewN nq, below_drewN h.low nq⟩
theorem bc_true {a b : Bool} (h1 : a = true) (h2 : b = true) : (a && b) = true := by rw [h1, h2]; try rfl
theorem bc_l {a b : Bool} (h1 : a = false) : ¬ (a && b) = true := by rw [h1]; simp
theorem bc_r {a b : Bool} (h1 : b = false) : ¬ (a && b) = true := by rw [h1]; simp
/-- What lies between two rounds of the inner loop. -/
structure LvIn (w : World) (I : ByteArray) (A : Option Addr) (c : Nat) (x : Pat) (M : List Int) (wr : World) : Prop where
  box : wr.heap[w.heap.size]? = some (.cells #[.string I, .slice A (refLv x).length c] 149 (0, 0))
  row : RowX wr (w.heap.size + 1) M
  low : Below w.heap.size w wr
theorem LvIn.set_ {w : World} {I : ByteArray} {A : Option Addr} {c : Nat} {x : Pat} {M : List Int} {wr : World} (h : LvIn w I A c x M wr) (j : Nat) (v : Int) : LvIn w I A c x (M.set j v) (wr.setCell ⟨w.heap.size + 1, j, none⟩ (.int .i64 v)) :=
  ⟨(Below.heap_setCell _ _ _ _ (by show w.heap.size ≠ w.heap.size + 1; omega)).trans h.box, h.row.set_ j v, h.low.setCell (by show w.heap.size ≤ w.heap.size + 1; omega) _⟩
theorem LvIn.drewN {w : World} {I : ByteArray} {A : Option Addr} {c : Nat} {x : Pat} {M : List Int} {wr : World} (h : LvIn w I A c x M wr) (n : Nat) : LvIn w I A c x M (wr.drewN n) := ⟨h.box, h.row.drewN n, below_drewN h.low n⟩
theorem LvIn.drew {w : World} {I : ByteArray} {A : Option Addr} {c : Nat} {x : Pat} {M : List Int} {wr : World} (h : LvIn w I A c x M wr) : LvIn w I A c x M wr.drew := ⟨h.box, h.row.drew, h.low.drew⟩
set_option maxRecDepth 100000 in
set_option maxHeartbeats 2000000 in
theorem refLevels_any (x : Pat) (I : ByteArray) (A : Option Addr) (n c : Nat) (s : ByteArray) (w : World) (hI : I.data.toList = refItems x) (hV : IntsAt w A (refLv x)) (hn : n = (refLv x).length) (hx : PatFine x) (hx16 : x.ls.length ≤ 16) (hs : s.size ≤ 900) :
    Calls Tryz.prog 120 #[.agg #[.string I, .slice A n c], .string s] w fun e w' => ∃ h, e = .returned (.slice (some ⟨h, 0, none⟩) (s.size + 1) (s.size + 1)) ∧ RowX w' h (lvOne x (lowS s)) ∧ w.heap.size ≤ h ∧ Below w.heap.size w w' := by
  subst hn
  have hLp : 0 < (refLv x).length := by
    unfold refLv
    rw [List.length_append, List.length_append, List.length_map, hx.len]
    omega
  obtain ⟨ad, rfl⟩ : ∃ ad, A = some ad := by
    obtain ⟨ad, e, _⟩ := hV 0 hLp
    exact ⟨ad, e⟩
  clear hLp
  obtain ⟨ss, hss⟩ : ∃ ss, ss = lowS s := ⟨_, rfl⟩
  have hssz : ss.size = s.size := by rw [hss]; exact lowS_size s
  have HSM := Lib.hid (fun W => lowText_any s W (by omega))
  have HSS := Lib.hid hss
  have HSS0 := Lib.hid hss
  have HX := Lib.hid hx
  have hmk := fun W => (show (Instr.makeSlice 63 (.int .i64 ((s.size : Int) + 1)) (.int .i64 ((s.size : Int) + 1))).run Tryz.prog W = .ok (.slice (some ⟨W.heap.size, 0, none⟩) (s.size + 1) (s.size + 1)) (W.alloc (.cells (madeCells #[.int .i64 0] (s.size + 1)) 3)) from
    run_make_row' (P := Tryz.prog) 63 3 (.int .i64 0) 8 Tryz.underlying63 info3 rfl .i64 .i64 (s.size + 1) (by omega) (by omega) W)
  clear hss hx
  go_enter Tryz.func120, Tryz.ntmps120
  go_wp2_with fail
  refine (HSM.out _).mono ?_
  rintro e w1 ⟨rfl, hb1⟩
  change Hid (ss = ⟨(Lib.toLowerA s.data.toList).toArray⟩) at HSS
  rw [← HSS.out]
  have hb0 := ((Below.refl w.heap.size w).alloc (Nat.le_refl _) (.cells #[.string I, .slice (some ad) (refLv x).length c] 149)).alloc (by simp) (.cells (madeCells #[.int .i64 0] (s.size + 1)) 3)
  have hx0 := heap_keep (o := .cells (madeCells #[.int .i64 0] (s.size + 1)) 3) (heap_new w (.cells #[.string I, .slice (some ad) (refLv x).length c] 149))
  have hx1 := heap_new (w.alloc (.cells #[.string I, .slice (some ad) (refLv x).length c] 149)) (.cells (madeCells #[.int .i64 0] (s.size + 1)) 3)
  have hK0 : LvKnow w I (some ad) c x ss 0 w1 := by
    refine ⟨(hb1.block _ (by simp; omega)).trans hx0, ?_, hb0.trans (hb1.mono hb0.size)⟩
    have h := (hb1.block _ (by simp)).trans hx1
    rw [World.size_alloc] at h
    show w1.heap[w.heap.size + 1]? = some (.cells (vals (List.replicate (ss.size + 1) 0)).toArray 3 (0, 0))
    rw [h]
    congr 2
    apply Array.ext'
    rw [toList_madeCells_one, hssz]
    simp [vals]
  clear hb0 hx0 hx1 hb1 hmk HSM
  have HSZ2 := Lib.hid hssz
  have hss9 : ss.size ≤ 900 := by omega
  clear hssz
  go_wp2_with fail
  have hssz := HSZ2.out
  obtain ⟨S, hS⟩ : ∃ S, S = (⟨#[46]⟩ ++ ss ++ ⟨#[46]⟩ : ByteArray) := ⟨_, rfl⟩
  rw [← hS]
  have hSd : S.data.toList = dotted ss.data.toList := by rw [hS]; simp [dotted]
  have hSs : S.size = s.size + 2 := by
    have h := congrArg List.length hSd
    rw [Array.length_toList] at h
    have e : (dotted ss.data.toList).length = ss.size + 2 := by simp [dotted]
    rw [e] at h
    have e2 : S.data.size = S.size := rfl
    omega
  have hIs : I.size = (refItems x).length := by rw [← hI, Array.length_toList]; try rfl
  have hI18 : 1 ≤ I.size ∧ I.size ≤ 18 := by
    rw [hIs]
    unfold refItems
    rw [List.length_append, List.length_append]
    have := HX.out.some_
    have h1 : (refPre x.start).length ≤ 1 := by cases x.start <;> decide
    have h2 : (refPre x.stop).length ≤ 1 := by cases x.stop <;> decide
    omega
  have hL18 : (refLv x).length ≤ 19 := by
    unfold refLv
    rw [List.length_append, List.length_append, List.length_map, HX.out.len]
    have h1 : (refPreV x.start).length ≤ 1 := by cases x.start <;> decide
    have h2 : (refPreV x.stop).length ≤ 1 := by cases x.stop <;> decide
    omega
  have HSD := Lib.hid hSd
  have HSZ := Lib.hid hSs
  have HI := Lib.hid hI
  have HIS := Lib.hid hIs
  have hSle : S.size ≤ 902 := by omega
  have HV := Lib.hid hV
  obtain ⟨NN, hNN⟩ : ∃ NN, NN = s.size + 3 - I.size := ⟨_, rfl⟩
  have HN := Lib.hid hNN
  have hN2 : ∀ o, o < NN ↔ o + I.size ≤ S.size := fun o => by omega
  have HN2 := Lib.hid hN2
  clear hSd hSs hI hIs hS hssz hNN hN2 hV
  go_loopw [7] (fun v7 wr => ∃ o : Nat, o ≤ NN ∧ v7 = .int .i64 o ∧ LvKnow w I (some ad) c x ss o wr) (fun v7 _ => NN - (intOf v7).toNat)
  case atStart => exact ⟨0, Nat.zero_le _, rfl, hK0⟩
  case round =>
    obtain ⟨o, ho, rfl, hK⟩ := hrel
    clear hK0
    have q0 : wr.cell? ⟨w.heap.size, 0, none⟩ = some (.string I) := cell_of_row wr _ 0 _ _ (0, 0) hK.box
    have q1 : wr.cell? ⟨w.heap.size, 1, none⟩ = some (.slice (some ad) (refLv x).length c) := cell_of_row wr _ 1 _ _ (0, 0) hK.box
    by_cases hlt : o < NN
    · have hle := (HN2.out o).1 hlt
      have hle' : (o : Int) + (I.size : Int) ≤ (S.size : Int) := by omega
      have ho0 : (0 : Int) ≤ (o : Int) := by omega
      have hsum : IntKind.i64.wrap ((o : Int) + (I.size : Int)) = (o : Int) + (I.size : Int) := IntWalk.i64_in _ (by omega)
      have hsumN : ((o : Int) + (I.size : Int)).toNat = o + I.size := by omega
      have HRS := Lib.hid (show rF (refItems x) (dotted ss.data.toList) ss.size (refLv x) (o + 1) = if hitL (refItems x) (dotted ss.data.toList) o = true then rD o ss.size (refLv x) (refLv x).length (rF (refItems x) (dotted ss.data.toList) ss.size (refLv x) o) else rF (refItems x) (dotted ss.data.toList) ss.size (refLv x) o from rfl)
      have HHIT := Lib.hid (show hitL (refItems x) (dotted ss.data.toList) o = ((S.extract o (o + I.size)).toList == I.toList && dotsB I S o) by
        unfold hitL
        rw [dotsB_eq, HI.out, HSD.out, toList_data, toList_data, ext_list, HI.out, HSD.out, Nat.add_sub_cancel_left, HIS.out]
        cases dotsL (refItems x) (dotted ss.data.toList) o
        · rw [Bool.and_false, Bool.and_false]
        · rw [Bool.and_true, Bool.and_true, Bool.eq_iff_iff, decide_eq_true_eq, beq_iff_eq])
      cases hq : ((S.extract o (o + I.size)).toList == I.toList)
      · have hqn : ((S.extract o (o + I.size)).toList != I.toList) = true := by rw [bne, hq]; try rfl
        have HNX := Lib.hid (show rF (refItems x) (dotted ss.data.toList) ss.size (refLv x) (o + 1) = rF (refItems x) (dotted ss.data.toList) ss.size (refLv x) o by rw [HRS.out, if_neg (by rw [HHIT.out]; exact bc_l hq)])
        go_wp2_with fail
        go_quiet (fail)
        go_wp2
        go_roundw
        case rel => exact ⟨o + 1, by omega, by go_num, hK.next _ HNX.out⟩
        case measure => simp [intOf]; omega
      · have hqn : ((S.extract o (o + I.size)).toList != I.toList) = false := by rw [bne, hq]; try rfl
        have HD := Lib.hid (fun W => refDots_any I S o W (by omega) (by omega) (by omega))
        cases hd : dotsB I S o
        · rw [hd] at HD
          have HNX := Lib.hid (show rF (refItems x) (dotted ss.data.toList) ss.size (refLv x) (o + 1) = rF (refItems x) (dotted ss.data.toList) ss.size (refLv x) o by rw [HRS.out, if_neg (by rw [HHIT.out]; exact bc_r hd)])
          clear hd
          go_wp2_with fail
          go_quiet ((go_at_call 167; exact Calls.quiet_of_same (HD.out _)))
          go_wp2
          go_roundw
          case rel => exact ⟨o + 1, by omega, by go_num, hK.next _ HNX.out⟩
          case measure => simp [intOf]; omega
        · rw [hd] at HD
          have HNX := Lib.hid (show rF (refItems x) (dotted ss.data.toList) ss.size (refLv x) (o + 1) = rD o ss.size (refLv x) (refLv x).length (rF (refItems x) (dotted ss.data.toList) ss.size (refLv x) o) by rw [HRS.out, if_pos (by rw [HHIT.out]; exact bc_true hq hd)])
          obtain ⟨M, hM⟩ : ∃ M, M = rF (refItems x) (dotted ss.data.toList) ss.size (refLv x) o := ⟨_, rfl⟩
          have hKI : LvIn w I (some ad) c x M wr := ⟨hK.box, by rw [hM]; exact hK.row, hK.low⟩
          have hMl : M.length = ss.size + 1 := by rw [hM]; exact rF_len _ _ _ _ _
          rw [← hM] at HNX
          have HML := Lib.hid hMl
          clear hd hM hMl hK HRS HHIT
          go_wp2_with fail
          go_quiet ((go_at_call 167; exact Calls.quiet_of_same (HD.out _)))
          go_wp2_with fail
          have hKI2 := hKI.drewN nq
          obtain ⟨wo, hwo⟩ : ∃ wo, wo = wr.drewN nq := ⟨_, rfl⟩
          rw [← hwo] at hKI2 ⊢
          clear hKI hwo q0 q1 hq hqn
          go_loopw [8] (fun v8 wi => ∃ g : Nat, g ≤ (refLv x).length ∧ v8 = .int .i64 g ∧ LvIn w I (some ad) c x (rD o ss.size (refLv x) g M) wi) (fun v8 _ => (refLv x).length - (intOf v8).toNat)
          case atStart => exact ⟨0, Nat.zero_le _, rfl, hKI2⟩
          case round =>
            obtain ⟨g, hg, rfl, hL⟩ := hrel
            clear hKI2
            have q0 : wr.cell? ⟨w.heap.size, 0, none⟩ = some (.string I) := cell_of_row wr _ 0 _ _ (0, 0) hL.box
            have q1 : wr.cell? ⟨w.heap.size, 1, none⟩ = some (.slice (some ad) (refLv x).length c) := cell_of_row wr _ 1 _ _ (0, 0) hL.box
            by_cases hgl : g < (refLv x).length
            · have hgl' : (g : Int) < ((refLv x).length : Int) := by omega
              obtain ⟨ad', ead, hadlt, hca⟩ := (HV.out.below hL.low).at_ hgl
              obtain rfl : ad = ad' := Option.some.inj ead
              clear ead
              have hg0 : (0 : Int) ≤ (g : Int) := by omega
              have HRD := Lib.hid (show rD o ss.size (refLv x) (g + 1) M = if 1 ≤ o + g ∧ o + g ≤ ss.size + 1 then (rD o ss.size (refLv x) g M).set (o + g - 1) (max ((rD o ss.size (refLv x) g M).getD (o + g - 1) 0) ((refLv x).getD g 0)) else rD o ss.size (refLv x) g M from rfl)
              by_cases hin : 1 ≤ o + g ∧ o + g ≤ ss.size + 1
              · have HWL := Lib.hid (fun W => (within_any ((o : Int) + (g : Int) - 1) 0 (s.size : Int) W).mono (fun e w' h => (⟨h.1.trans (by rw [show inB ((o : Int) + (g : Int) - 1) 0 (s.size : Int) = true from decide_eq_true (by have := HSZ2.out; omega)]), h.2⟩ : e = .returned (.bool true) ∧ W = w')))
                have HR1 := Lib.hid (HRD.out.trans (if_pos hin))
                have hlen : o + g - 1 < (rD o ss.size (refLv x) g M).length := by rw [rD_len, HML.out]; omega
                have hcell := hL.row.cell hlen
                have hfz := hL.row.frozen (o + g - 1)
                obtain ⟨cv, hcv⟩ : ∃ cv, cv = (rD o ss.size (refLv x) g M).getD (o + g - 1) 0 := ⟨_, rfl⟩
                obtain ⟨dv, hdv⟩ : ∃ dv, dv = (refLv x).getD g 0 := ⟨_, rfl⟩
                rw [← hcv] at hcell HR1
                rw [← hdv] at hca HR1
                have hpl0 : (0 : Int) ≤ (o : Int) + (g : Int) - 1 := by omega
                have hplt : (o : Int) + (g : Int) - 1 < (s.size : Int) + 1 := by have := HSZ2.out; omega
                have hpln : ((o : Int) + (g : Int) - 1).toNat = o + g - 1 := by omega
                have hnew := (hL.set_ (o + g - 1) (max cv dv))
                rw [← HR1.out] at hnew
                clear hcv hdv hin HRD hlen
                go_wp2_with fail
                refine (HWL.out _).mono ?_
                rintro e w' ⟨rfl, rfl⟩
                go_wp2_with fail
                go_region
                go_wp2
                go_roundw
                case rel => exact ⟨g + 1, by omega, by go_num, hnew.drew⟩
                case measure => simp [intOf]; omega
              · have HWL := Lib.hid (fun W => (within_any ((o : Int) + (g : Int) - 1) 0 (s.size : Int) W).mono (fun e w' h => (⟨h.1.trans (by rw [show inB ((o : Int) + (g : Int) - 1) 0 (s.size : Int) = false from decide_eq_false (by have := HSZ2.out; omega)]), h.2⟩ : e = .returned (.bool false) ∧ W = w')))
                have HR1 := Lib.hid (HRD.out.trans (if_neg hin))
                have hnew := hL
                rw [← HR1.out] at hnew
                clear hin HRD
                go_wp2_with fail
                refine (HWL.out _).mono ?_
                rintro e w' ⟨rfl, rfl⟩
                go_wp2
                go_roundw
                case rel => exact ⟨g + 1, by omega, by go_num, hnew⟩
                case measure => simp [intOf]; omega
            · have hgl' : ¬ (g : Int) < ((refLv x).length : Int) := by omega
              obtain rfl : g = (refLv x).length := by omega
              have hK2 : LvKnow w I (some ad) c x ss (o + 1) wr := ⟨hL.box, by rw [HNX.out]; exact hL.row, hL.low⟩
              clear hL
              go_wp2
              go_roundw
              case rel => exact ⟨o + 1, by omega, by go_num, hK2⟩
              case measure => simp [intOf]; omega
    · have hge : ¬ (o : Int) + (I.size : Int) ≤ (S.size : Int) := fun h => hlt ((HN2.out o).2 (by omega))
      obtain rfl : o = NN := by omega
      have hrow : RowX wr (w.heap.size + 1) (lvOne x ss) := by
        have e : ss.size + 3 - (refItems x).length = o := by rw [← HIS.out, HN.out, HSZ2.out]
        rw [← rF_one HX.out ss, e]
        exact hK.row
      have hsum : IntKind.i64.wrap ((o : Int) + (I.size : Int)) = (o : Int) + (I.size : Int) := IntWalk.i64_in _ (by have := HN.out; omega)
      have hlow := hK.low
      clear hK
      go_wp2
      go_ret
      exact ⟨_, rfl, by rw [← HSS0.out]; exact hrow, by omega, hlow⟩
end Go.Proofs.YtlkkociijfdcgaaGreatDoor
/-
  The levels of all patterns: the reference's walk.
-/
namespace Go.Proofs.YtlkkociijfdcgaaGreatDoor
open Go.RowKit Go.Maps Go.Shelf

theorem pats_fine {l : List ByteArray} (h : (checkPats l).2 = 0) : l.length ≤ 60 ∧ ∀ j, j < l.length → patOf (l.getD j noTx).data.toList = some (patG l j) ∧ PatFine (patG l j) ∧ (patG l j).ls.length ≤ 16 := by
  unfold checkPats at h
  by_cases h60 : 60 < l.length
  · rw [if_pos h60] at h; exact absurd h (by decide)
  · rw [if_neg h60] at h
    refine ⟨by omega, fun j hj => ?_⟩
    cases hf : firstAt (badPat l) (l.length - 0) 0 with
    | some i => rw [hf] at h; exact absurd (show (3 : Int) = 0 from h) (by decide)
    | none =>
      have hb := firstAt_none hf j (Nat.zero_le _) (by omega)
      unfold badPat at hb
      unfold patG
      cases hp : patOf (l.getD j noTx).data.toList with
      | none => rw [hp] at hb; cases hb
      | some x =>
        obtain ⟨h1, h2, h3, h4, h5⟩ := patOf_ok hp
        refine ⟨rfl, ⟨h3, h1, fun c hc e => ?_, getD_digs h4⟩, h2⟩
        have := h5 c hc
        rw [e] at this
        exact absurd this (by decide)
theorem checkR_fine {r : RU} (h : (checkR r).2 = 0) : r.ps.l.length ≤ 60 ∧ ∀ j, j < r.ps.l.length → patOf (r.ps.l.getD j noTx).data.toList = some (patG r.ps.l j) ∧ PatFine (patG r.ps.l j) ∧ (patG r.ps.l j).ls.length ≤ 16 := by
  refine pats_fine ?_
  unfold checkR at h
  by_cases h1 : (checkPats r.ps.l).2 = 0
  · exact h1
  · rw [if_pos h1] at h; exact h
/-- The inner loop: the greater one of two tables, up to a place. -/
def mxTo (O L : List Int) : Nat → List Int
  | 0 => O
  | k + 1 => (mxTo O L k).set k (max ((mxTo O L k).getD k 0) (L.getD k 0))
theorem mxTo_len (O L : List Int) : ∀ k, (mxTo O L k).length = O.length
  | 0 => rfl
  | k + 1 => by unfold mxTo; rw [List.length_set]; exact mxTo_len O L k
theorem mxTo_at {O L : List Int} (j : Nat) : ∀ k, k ≤ O.length → (mxTo O L k).getD j 0 = if j < k then max (O.getD j 0) (L.getD j 0) else O.getD j 0
  | 0, _ => by rw [if_neg (by omega)]; try rfl
  | k + 1, h => by
    have ih := mxTo_at (O := O) (L := L) j k (by omega)
    have ih2 := mxTo_at (O := O) (L := L) k k (by omega)
    rw [if_neg (by omega)] at ih2
    unfold mxTo
    rw [getD_set (by rw [mxTo_len]; omega), ih2, ih]
    by_cases e : k = j
    · subst e; rw [if_pos rfl, if_pos (by omega)]
    · rw [if_neg e]
      by_cases h2 : j < k
      · rw [if_pos h2, if_pos (by omega)]
      · rw [if_neg h2, if_neg (by omega)]
theorem mxTo_lv {x : Pat} (hx : PatFine x) (s : ByteArray) {M : List Int} (hM : LvOk (s.size + 1) M) : mxTo M (lvOne x s) (s.size + 1) = lvP (patP x) s M := by
  refine List.ext_getElem (by rw [mxTo_len, lvP_len]) fun j h1 h2 => ?_
  have hj : j < s.size + 1 := by rw [mxTo_len, hM.1] at h1; exact h1
  have e1 := mxTo_at (O := M) (L := lvOne x s) j (s.size + 1) (by rw [hM.1]; exact Nat.le_refl _)
  rw [if_pos hj] at e1
  have e2 := lvP_one hx s hM.1 (fun j => (hM.2 j).1) j
  have e := e1.trans e2.symm
  rw [List.getD_eq_getElem?_getD, List.getD_eq_getElem?_getD, List.getElem?_eq_getElem h1, List.getElem?_eq_getElem h2] at e
  exact e
theorem IRow.ints {w : World} {base : Nat} {A : Option Addr} {n c : Nat} {l : List Int} (h : IRow w base (.slice A n c) l) : n = l.length ∧ IntsAt w A l := by
  obtain ⟨a, c', e, hI, _⟩ := h.shape
  injection e with e1 e2 e3
  subst e1
  exact ⟨e2, hI⟩
structure LOKnow (w : World) (r : RU) (M : List Int) (wr : World) : Prop where
  box : wr.heap[w.heap.size]? = some (.cells #[.slice r.ps.a r.ps.l.length r.ps.c, .slice r.es.a r.es.l.length r.es.c, .slice r.bs.a r.bs.l.length r.bs.c, .int .i64 r.left, .int .i64 r.right] 24 (0, 0))
  row : RowX wr (w.heap.size + 1) M
  low : Below w.heap.size w wr
theorem LOKnow.below {w : World} {r : RU} {M : List Int} {wr wr' : World} (h : LOKnow w r M wr) (hb : Below wr.heap.size wr wr') : LOKnow w r M wr' := ⟨(hb.block _ (heap_lt h.box)).trans h.box, h.row.below hb, h.low.trans (hb.mono h.low.size)⟩
theorem LOKnow.set_ {w : World} {r : RU} {M : List Int} {wr : World} (h : LOKnow w r M wr) (j : Nat) (v : Int) : LOKnow w r (M.set j v) (wr.setCell ⟨w.heap.size + 1, j, none⟩ (.int .i64 v)) :=
  ⟨(Below.heap_setCell _ _ _ _ (by show w.heap.size ≠ w.heap.size + 1; omega)).trans h.box, h.row.set_ j v, h.low.setCell (by show w.heap.size ≤ w.heap.size + 1; omega) _⟩
theorem LOKnow.drew {w : World} {r : RU} {M : List Int} {wr : World} (h : LOKnow w r M wr) : LOKnow w r M wr.drew := ⟨h.box, h.row.drew, h.low.drew⟩
set_option maxRecDepth 100000 in
set_option maxHeartbeats 2000000 in
theorem refLevelsOf_any (r : RU) (s : ByteArray) (w : World) (hR : r.at_ w) (hS : TXSmall r.ps.l) (he : (checkR r).2 = 0) (hs : s.size ≤ 900) :
    Calls Tryz.prog 61 #[.agg r.cells, .string s] w fun e w' => ∃ h, e = .returned (.slice (some ⟨h, 0, none⟩) (s.size + 1) (s.size + 1)) ∧ RowX w' h (lvTo (patG r.ps.l) (lowS s) r.ps.l.length) ∧ w.heap.size ≤ h ∧ Below w.heap.size w w' := by
  obtain ⟨h60, hfine⟩ := checkR_fine he
  have HR := Lib.hid hR.1.1
  have HF := Lib.hid hfine
  have hlss := lowS_size s
  have HLV := Lib.hid (lvTo_ok (fn := patG r.ps.l) (s := lowS s) (m := r.ps.l.length) (fun j hj k => ((hfine j hj).2.1.digs k).2))
  obtain ⟨ss, hss⟩ : ∃ ss, ss = lowS s := ⟨_, rfl⟩
  rw [← hss] at hlss HLV
  have HSZ := Lib.hid hlss
  have HL := Lib.hid (fun x I A n c W h1 h2 h3 h4 h5 => refLevels_any x I A n c s W h1 h2 h3 h4 h5 hs)
  rw [← hss] at HL ⊢
  have hmk := fun W => (show (Instr.makeSlice 63 (.int .i64 ((s.size : Int) + 1)) (.int .i64 ((s.size : Int) + 1))).run Tryz.prog W = .ok (.slice (some ⟨W.heap.size, 0, none⟩) (s.size + 1) (s.size + 1)) (W.alloc (.cells (madeCells #[.int .i64 0] (s.size + 1)) 3)) from
    run_make_row' (P := Tryz.prog) 63 3 (.int .i64 0) 8 Tryz.underlying63 info3 rfl .i64 .i64 (s.size + 1) (by omega) (by omega) W)
  have hb0 := ((Below.refl w.heap.size w).alloc (Nat.le_refl _) (.cells #[.slice r.ps.a r.ps.l.length r.ps.c, .slice r.es.a r.es.l.length r.es.c, .slice r.bs.a r.bs.l.length r.bs.c, .int .i64 r.left, .int .i64 r.right] 24)).alloc (by simp) (.cells (madeCells #[.int .i64 0] (s.size + 1)) 3)
  have hK0 : LOKnow w r (lvTo (patG r.ps.l) ss 0) ((w.alloc (.cells #[.slice r.ps.a r.ps.l.length r.ps.c, .slice r.es.a r.es.l.length r.es.c, .slice r.bs.a r.bs.l.length r.bs.c, .int .i64 r.left, .int .i64 r.right] 24)).alloc (.cells (madeCells #[.int .i64 0] (s.size + 1)) 3)) := by
    refine ⟨heap_keep (heap_new w _), ?_, hb0⟩
    have h := heap_new (w.alloc (.cells #[.slice r.ps.a r.ps.l.length r.ps.c, .slice r.es.a r.es.l.length r.es.c, .slice r.bs.a r.bs.l.length r.bs.c, .int .i64 r.left, .int .i64 r.right] 24)) (.cells (madeCells #[.int .i64 0] (s.size + 1)) 3)
    rw [World.size_alloc] at h
    show _ = some (Obj.cells (vals (List.replicate (ss.size + 1) 0)).toArray 3 (0, 0))
    rw [h]
    congr 2
    apply Array.ext'
    rw [toList_madeCells_one, hlss]
    simp [vals]
  unfold RU.cells
  clear hss hlss hfine hR hb0 he
  go_enter Tryz.func61, Tryz.ntmps61
  go_wp2_with fail
  clear hmk
  go_loopw [6] (fun v6 wr => ∃ k : Nat, k ≤ r.ps.l.length ∧ v6 = .int .i64 k ∧ LOKnow w r (lvTo (patG r.ps.l) ss k) wr) (fun v6 _ => r.ps.l.length - (intOf v6).toNat)
  case atStart => exact ⟨0, Nat.zero_le _, rfl, hK0⟩
  case round =>
    obtain ⟨k, hk, rfl, hK⟩ := hrel
    clear hK0
    have q0 : wr.cell? ⟨w.heap.size, 0, none⟩ = some (.slice r.ps.a r.ps.l.length r.ps.c) := cell_of_row wr _ 0 _ _ (0, 0) hK.box
    by_cases hlt : k < r.ps.l.length
    · have hkl : (k : Int) < (r.ps.l.length : Int) := by omega
      obtain ⟨p1, ep1, hp1', hc1⟩ := (HR.out.below hK.low) k hlt
      rw [ep1] at q0
      obtain ⟨hpo, hfi, h16⟩ := HF.out k hlt
      have hz := hS k hlt
      obtain ⟨t, et⟩ : ∃ t, t = r.ps.l.getD k noTx := ⟨_, rfl⟩
      rw [← et] at hc1 hpo hz
      have HRP := Lib.hid (fun W => readPattern_any t W hz)
      have HPO := Lib.hid hpo
      have hMok := HLV.out k hk
      have HST := Lib.hid (show lvTo (patG r.ps.l) ss (k + 1) = lvP (patP (patG r.ps.l k)) ss (lvTo (patG r.ps.l) ss k) from rfl)
      obtain ⟨M, hM⟩ : ∃ M, M = lvTo (patG r.ps.l) ss k := ⟨_, rfl⟩
      rw [← hM] at hMok HST hK
      obtain ⟨x, hx⟩ : ∃ x, x = patG r.ps.l k := ⟨_, rfl⟩
      rw [← hx] at hfi h16 HPO HST
      have HMX := Lib.hid (mxTo_lv hfi ss hMok)
      have HFI := Lib.hid hfi
      have HMO := Lib.hid hMok
      clear et ep1 hM hx hpo hfi hMok
      go_wp2_with fail
      refine (HRP.out _).mono ?_
      rintro e w2 ⟨hb2, I, A, m, c, rfl, hpp⟩
      obtain ⟨hIi, hrow⟩ := hpp x HPO.out
      obtain ⟨hm, hints⟩ := hrow.ints
      have HIi := Lib.hid hIi
      have HM := Lib.hid hm
      have hK2 := hK.below hb2
      have hb3 := (Below.refl w2.heap.size w2).alloc (Nat.le_refl _) (.cells #[.string I, .slice A m c] 149)
      have hK3 := hK2.below hb3
      have hints3 := hints.below hb3
      rw [HPO.out]
      clear hpp hIi hm hrow hints q0 hc1 hK hK2 hb2 hb3 HRP
      have hsz2 := hK3.row.lt
      go_wp2_with fail
      refine (HL.out x I A m c _ HIi.out hints3 HM.out HFI.out h16).mono ?_
      rintro e w4 ⟨h, rfl, hrow4, hh, hb4⟩
      have hK4 := hK3.below hb4
      have hhn : h ≠ w.heap.size + 1 := by omega
      obtain ⟨L, hL⟩ : ∃ L, L = lvOne x ss := ⟨_, rfl⟩
      have hLl : L.length = s.size + 1 := by rw [hL, lvOne_len, HSZ.out]
      have hMl : M.length = s.size + 1 := by rw [HMO.out.1, HSZ.out]
      rw [← hL] at hrow4 HMX
      rw [HSZ.out] at HMX
      have HLL := Lib.hid hLl
      have HML := Lib.hid hMl
      clear hL hLl hMl hints3 hK3 hb4 hh h16 hsz2
      go_wp2_with fail
      obtain ⟨wo, rfl⟩ : ∃ wo : World, wo = w4 := ⟨_, rfl⟩
      go_loopw [10] (fun v10 wi => ∃ j : Nat, j ≤ s.size + 1 ∧ v10 = .int .i64 j ∧ LOKnow w r (mxTo M L j) wi ∧ RowX wi h L) (fun v10 _ => s.size + 1 - (intOf v10).toNat)
      case atStart => exact ⟨0, Nat.zero_le _, rfl, hK4, hrow4⟩
      case round =>
        obtain ⟨j, hj, rfl, hK, hrow⟩ := hrel
        clear hK4 hrow4
        by_cases hjl : j < s.size + 1
        · have hjl' : (j : Int) < (s.size : Int) + 1 := by omega
          have hj0 : (0 : Int) ≤ (j : Int) := by omega
          have hc1 := hK.row.cell (j := j) (by rw [mxTo_len, HML.out]; exact hjl)
          have hfz := hK.row.frozen j
          have hc2 := hrow.cell (j := j) (by rw [HLL.out]; exact hjl)
          have HS2 := Lib.hid (show mxTo M L (j + 1) = (mxTo M L j).set j (max ((mxTo M L j).getD j 0) (L.getD j 0)) from rfl)
          obtain ⟨cv, hcv⟩ : ∃ cv, cv = (mxTo M L j).getD j 0 := ⟨_, rfl⟩
          obtain ⟨dv, hdv⟩ : ∃ dv, dv = L.getD j 0 := ⟨_, rfl⟩
          rw [← hcv] at hc1 HS2
          rw [← hdv] at hc2 HS2
          have hnew := hK.set_ j (max cv dv)
          rw [← HS2.out] at hnew
          have hrow' := hrow.far (p := ⟨w.heap.size + 1, j, none⟩) hhn (.int .i64 (max cv dv))
          clear hcv hdv hK hrow
          go_wp2_with fail
          go_region
          go_wp2
          go_roundw
          case rel => exact ⟨j + 1, by omega, by go_num, hnew.drew, hrow'.drew⟩
          case measure => simp [intOf]; omega
        · have hjl' : ¬ (j : Int) < (s.size : Int) + 1 := by omega
          obtain rfl : j = s.size + 1 := by omega
          rw [HMX.out, ← HST.out] at hK
          clear hrow
          go_wp2
          go_roundw
          case rel => exact ⟨k + 1, by omega, by go_num, hK⟩
          case measure => simp [intOf]; omega
    · have hkl : ¬ (k : Int) < (r.ps.l.length : Int) := by omega
      obtain rfl : k = r.ps.l.length := by omega
      have hrow := hK.row
      have hlow := hK.low
      clear hK
      go_wp2
      go_ret
      exact ⟨_, rfl, hrow, by omega, hlow⟩
end Go.Proofs.YtlkkociijfdcgaaGreatDoor
