/-
  Package press: what is wrong with an order, by the program and by the reference.
-/
import Derived.BigQuiet
import Derived.Test.YtpplcbpnojggcaaAM
namespace Go.Proofs.Ytpplcbpnojggcaa
open Go.RowKit Go.Maps Go.Shelf

/-- Block b holds the truths S. -/
def BBox (w : World) (b : Nat) (S : List Bool) : Prop := BoxAt w b (S.map Value.bool).toArray 4
section
variable {w w' : World} {b : Nat} {S : List Bool}
theorem BBox.lt (h : BBox w b S) : b < w.heap.size := BoxAt.lt h
theorem BBox.free (h : BBox w b S) (j : Nat) : w.frozen? ⟨b, j, none⟩ = false := BoxAt.free h j
theorem BBox.cell (h : BBox w b S) {k : Nat} (hk : k < S.length) : w.cell? ⟨b, k, none⟩ = some (.bool S[k]) := by
  rw [BoxAt.cell h k, List.getElem?_toArray, List.getElem?_map, List.getElem?_eq_getElem hk]; rfl
theorem BBox.set (h : BBox w b S) (k : Nat) (v : Bool) : BBox (w.setCell ⟨b, k, none⟩ (.bool v)) b (S.set k v) := by
  have h1 := BoxAt.set h k (.bool v)
  have e : (S.map Value.bool).toArray.setIfInBounds k (.bool v) = ((S.set k v).map Value.bool).toArray := by
    apply Array.ext'
    rw [Array.toList_setIfInBounds]; simp [List.map_set]
  rw [e] at h1; exact h1
theorem BBox.made (w : World) (n : Nat) : BBox (w.alloc (.cells (madeCells #[.bool false] n) 4)) w.heap.size (List.replicate n false) := by
  have h := BoxAt.new w (madeCells #[.bool false] n) 4
  have e : madeCells #[.bool false] n = ((List.replicate n false).map Value.bool).toArray := by
    apply Array.ext'
    rw [toList_madeCells_one]; simp
  rw [e] at h ⊢; exact h
end
theorem info_boolN : (Try.prog.info? 4).map (fun i => (i.zero, i.size, i.bytes)) = some (some (.bool false), 1, 1) := by kernel_rfl
theorem make_bool (n : Nat) (h : n ≤ 1000000) (W : World) : (Instr.makeSlice 183 (.int .i64 (n : Int)) (.int .i64 (n : Int))).run Try.prog W = .ok (.slice (some ⟨W.heap.size, 0, none⟩) n n) (W.alloc (.cells (madeCells #[.bool false] n) 4)) := by
  have h1 := run_make_rowX (t := 183) Try.underlying183 info_boolN .i64 .i64 n (by omega) (by omega) W
  rw [Nat.mul_one] at h1
  exact h1
set_option maxRecDepth 100000 in
set_option maxHeartbeats 4000000 in
theorem errorOfOrder_any (a : Option Addr) (O : List Int) (n c m : Nat) (w : World) (hn : n = O.length) (hO : RowsAt 1 intL w a O) (hl : O.length ≤ maxLen) (hm : m ≤ 1000000) :
    Calls Try.prog 107 #[.slice a n c, .int .i64 m] w (CheckPost (ordErr m O) w) := by
  unfold maxLen at hl
  subst hn
  go_enter Try.func107, Try.ntmps107
  by_cases h0 : O.length = m
  · have HE0 := Lib.hid (show ordErr m O = ordF m (O.take 0) (O.drop 0) by unfold ordErr; rw [if_neg (by simp [h0])]; rfl)
    have hmk := fun W => make_bool m hm W
    have im := BBox.made w m
    have hB0 := (Below.refl w.heap.size w).alloc (Nat.le_refl _) (.cells (madeCells #[.bool false] m) 4)
    have h0' : ((O.length : Int) != (m : Int)) = false := by simp [h0]
    have HM := Lib.hid h0
    clear h0
    go_wp2_with fail
    obtain ⟨w0, hw0⟩ : ∃ w0, w0 = w.alloc (.cells (madeCells #[.bool false] m) 4) := ⟨_, rfl⟩
    rw [← hw0] at im hB0 ⊢
    clear hw0 hmk h0'
    go_loopw [16] (fun i wr => ∃ (k : Nat) (S : List Bool), k ≤ O.length ∧ i = .int .i64 k ∧ Hid (ordErr m O = ordF m (O.take k) (O.drop k)) ∧ Hid (S.length = m ∧ ∀ j : Nat, j < m → S.getD j false = (O.take k).contains (j : Int)) ∧ BBox wr w.heap.size S ∧ Below w.heap.size w wr) (fun i _ => O.length - (intOf i).toNat)
    case atStart => exact ⟨0, _, Nat.zero_le _, rfl, HE0, Lib.hid ⟨by simp, fun j hj => by simp [List.getD_eq_getElem?_getD, hj]⟩, im, hB0⟩
    case round =>
      obtain ⟨k, S, hk, rfl, HE, HS, im, hB⟩ := hrel
      by_cases hlt : k < O.length
      · obtain ⟨ad, rfl, had, s0⟩ := (hO.below hB).int hlt
        have HAT := Lib.hid (ordF_at (n := m) hlt)
        have HTK := Lib.hid (List.take_succ_eq_append_getElem hlt)
        obtain ⟨y, ey⟩ : ∃ y, y = O[k] := ⟨_, rfl⟩
        rw [← ey] at s0 HAT HTK
        have hkl : (k : Int) < (O.length : Int) := by omega
        have hw1 : IntKind.i64.wrap ((m : Int) - 1) = (m : Int) - 1 := IntWalk.i64_in _ (by omega)
        clear ey
        cases hin : inB y 0 ((m : Int) - 1)
        · have HR := Lib.hid (show ordErr m O = 6 by rw [HE.out, HAT.out, if_pos hin])
          go_wp2_with (go_at_call 85; refine (isFrom_any _ _ _ _).mono ?_; rintro e w' ⟨rfl, rfl⟩)
          go_ret
          exact ⟨ret_int HR.out.symm, hB⟩
        · have hy := inB_iff.1 hin
          obtain ⟨yN, rfl⟩ : ∃ yN : Nat, y = yN := ⟨y.toNat, by omega⟩
          have hyS : yN < S.length := by have := HS.out.1; omega
          have hyS' : (yN : Int) < (m : Int) := by omega
          have c0 := im.cell hyS
          have hcon := HS.out.2 yN (by omega)
          have eg : S.getD yN false = S[yN] := by rw [List.getD_eq_getElem?_getD, List.getElem?_eq_getElem hyS]; rfl
          rw [eg] at hcon
          have fz := im.free yN
          have hil := im.lt
          have HIN := Lib.hid hin
          have HCON := Lib.hid hcon
          have HIM := Lib.hid im; have HB := Lib.hid hB
          obtain ⟨bb, hbb⟩ : ∃ bb, bb = S[yN] := ⟨_, rfl⟩
          rw [← hbb] at c0 HCON
          clear hcon hbb eg hin im hB hy
          cases bb
          · have HR := Lib.hid (show ordErr m O = ordF m (O.take (k + 1)) (O.drop (k + 1)) by rw [HE.out, HAT.out, if_neg (by rw [HIN.out]; decide), if_neg (by rw [← HCON.out]; decide)])
            have HSS : Hid ((S.set yN true).length = m ∧ ∀ j : Nat, j < m → (S.set yN true).getD j false = (O.take (k + 1)).contains (j : Int)) := Lib.hid ⟨by rw [List.length_set]; exact HS.out.1, fun j hj => by
              rw [HTK.out]
              have e1 : ((O.take k) ++ [(yN : Int)]).contains (j : Int) = ((O.take k).contains (j : Int) || ((j : Int) == (yN : Int))) := by
                rw [Bool.eq_iff_iff]; simp [List.mem_append]
              rw [e1, List.getD_eq_getElem?_getD, List.getElem?_set]
              by_cases e : yN = j
              · subst e; rw [if_pos rfl, if_pos hyS]; simp
              · rw [if_neg e]
                have h9 := HS.out.2 j hj
                rw [List.getD_eq_getElem?_getD] at h9
                rw [h9]
                have : ((j : Int) == (yN : Int)) = false := by rw [beq_eq_false_iff_ne]; omega
                rw [this, Bool.or_false]⟩
            have HIM2 := Lib.hid (HIM.out.set yN true)
            have HB2 := Lib.hid (HB.out.setCell (p := ⟨w.heap.size, yN, none⟩) (Nat.le_refl _) (.bool true))
            have HINr := HIN.out
            go_wp2_with (go_at_call 85; refine (isFrom_any _ _ _ _).mono ?_; rintro e w' ⟨rfl, rfl⟩; rw [HINr])
            go_roundw
            case rel => exact ⟨k + 1, _, by omega, by go_num, HR, HSS, HIM2.out, HB2.out⟩
            case measure => simp [intOf]; omega
          · have HR := Lib.hid (show ordErr m O = 28 by rw [HE.out, HAT.out, if_neg (by rw [HIN.out]; decide), if_pos HCON.out.symm])
            have HINr := HIN.out
            go_wp2_with (go_at_call 85; refine (isFrom_any _ _ _ _).mono ?_; rintro e w' ⟨rfl, rfl⟩; rw [HINr])
            go_ret
            exact ⟨ret_int HR.out.symm, HB.out⟩
      · have HR := Lib.hid (show ordErr m O = 0 by rw [HE.out, List.drop_of_length_le (by omega)]; rfl)
        go_wp2
        go_ret
        exact ⟨ret_int HR.out.symm, hB⟩
  · have HE := Lib.hid (show ordErr m O = 10 by unfold ordErr; rw [if_pos h0])
    have h0' : ((O.length : Int) != (m : Int)) = true := by simp; omega
    clear h0
    go_wp2_with fail
    go_ret
    exact ⟨ret_int HE.out.symm, Below.refl _ _⟩
set_option maxRecDepth 100000 in
set_option maxHeartbeats 1000000 in
theorem has_any (a : Option Addr) (L : List Int) (n c : Nat) (x : Int) (w : World) (hn : n = L.length) (hX : RowsAt 1 intL w a L) (hl : n ≤ maxLen) :
    Calls Try.prog 112 #[.slice a n c, .int .i64 x] w fun e w' => e = .returned (.bool (L.contains x)) ∧ w = w' := by
  unfold maxLen at hl
  have HN := Lib.hid hn
  clear hn
  have HANY := Lib.hid (show L.contains x = L.any (fun y => y == x) by
    rw [Bool.eq_iff_iff]; simp)
  go_enter Try.func112, Try.ntmps112
  go_wp2
  go_loop [5] (fun i => ∃ k : Nat, k ≤ n ∧ i = .int .i64 k ∧ Hid ((L.any fun y => y == x) = ((L.drop k).any fun y => y == x))) (fun i => n - (intOf i).toNat)
  case atStart => exact ⟨0, Nat.zero_le _, rfl, Lib.hid (by rw [List.drop_zero])⟩
  case round =>
    obtain ⟨k, hk, rfl, HR⟩ := hrel
    by_cases hlt : k < n
    · have hlt2 : k < L.length := by have := HN.out; omega
      have hkl : (k : Int) < (n : Int) := by omega
      obtain ⟨ad, rfl, had, hc⟩ := hX.int hlt2
      have HS := Lib.hid (any_step (p := fun y => y == x) hlt2)
      obtain ⟨y, ey⟩ : ∃ y, y = L[k] := ⟨_, rfl⟩
      rw [← ey] at hc HS
      clear ey
      cases hq : (y == x)
      · have HQ := Lib.hid hq
        go_wp2
        go_round
        case rel => exact ⟨k + 1, by omega, by go_num, Lib.hid (by rw [HR.out, HS.out, HQ.out]; rfl)⟩
        case measure => simp [intOf]; omega
      · have HQ := Lib.hid hq
        go_wp2
        go_ret
        exact ⟨ret_bool (by have h := HANY.out; rw [HR.out, HS.out, HQ.out] at h; simpa using h), rfl⟩
    · have HE := Lib.hid (any_stop (p := fun y => y == x) (L := L) (k := k) (by have := HN.out; omega))
      obtain rfl : k = n := by omega
      go_wp2
      go_ret
      exact ⟨ret_bool (by have h := HANY.out; rw [HR.out, HE.out] at h; simpa using h), rfl⟩
set_option maxRecDepth 100000 in
set_option maxHeartbeats 4000000 in
theorem refCheckOrder_any (a : Option Addr) (O : List Int) (n c m : Nat) (w : World) (hn : n = O.length) (hO : RowsAt 1 intL w a O) (hc : O.length ≤ c) (hl : O.length ≤ maxLen) (hm : m ≤ 1000000) :
    Calls Try.prog 50 #[.slice a n c, .int .i64 m] w (CheckPost (ordErr m O) w) := by
  unfold maxLen at hl
  subst hn
  go_enter Try.func50, Try.ntmps50
  by_cases h0 : O.length = m
  · have HE0 := Lib.hid (show ordErr m O = ordF m (O.take 0) (O.drop 0) by unfold ordErr; rw [if_neg (by simp [h0])]; rfl)
    have h0' : ((O.length : Int) != (m : Int)) = false := by simp [h0]
    have HM := Lib.hid h0
    clear h0
    go_wp2_with fail
    clear h0'
    go_loopw [5] (fun i wr => ∃ k : Nat, k ≤ m ∧ i = .int .i64 k ∧ Hid (ordErr m O = ordF m (O.take k) (O.drop k)) ∧ Drew w wr) (fun i _ => m - (intOf i).toNat)
    case atStart => exact ⟨0, Nat.zero_le _, rfl, HE0, Drew.refl _⟩
    case round =>
      obtain ⟨k, hk, rfl, HE, hdr⟩ := hrel
      have HBW := Lib.hid (hdr.below (Below.refl w.heap.size w))
      by_cases hltm : k < m
      · have hlt : k < O.length := by have := HM.out; omega
        have hOW := hdr.rows hO
        obtain ⟨ad, rfl, had, s0⟩ := hOW.int hlt
        have HAT := Lib.hid (ordF_at (n := m) hlt)
        have hCUT := cut_low (P := Try.prog) 75 ad O.length c k intsUnder 1 intSize (by omega)
        have hkl : (k : Int) < (O.length : Int) := by omega
        have hw1 : IntKind.i64.wrap ((m : Int) - 1) = (m : Int) - 1 := IntWalk.i64_in _ (by omega)
        have HHAS := Lib.hid (fun (x : Int) W (h : RowsAt 1 intL W (some ad) (O.take k)) => has_any (some ad) (O.take k) k c x W (by rw [List.length_take]; omega) h (by unfold maxLen; omega))
        have HTK := Lib.hid (hOW.take k)
        obtain ⟨y, ey⟩ : ∃ y, y = O[k] := ⟨_, rfl⟩
        rw [← ey] at s0 HAT
        clear ey hOW
        cases hin : inB y 0 ((m : Int) - 1)
        · have HR := Lib.hid (show ordErr m O = 6 by rw [HE.out, HAT.out, if_pos hin])
          go_wp2_with (go_at_call 30; refine (within_any _ _ _ _).mono ?_; rintro e w' ⟨rfl, rfl⟩)
          go_ret
          exact ⟨ret_int HR.out.symm, HBW.out⟩
        · have HIN := Lib.hid hin
          cases hcon : (O.take k).contains y
          · have HR := Lib.hid (show ordErr m O = ordF m (O.take (k + 1)) (O.drop (k + 1)) by rw [HE.out, HAT.out, if_neg (by rw [HIN.out]; decide), if_neg (by rw [hcon]; decide)])
            have HC := Lib.hid (fun W h => (HHAS.out y W h))
            rw [hcon] at HC
            clear hcon
            go_wp2_with (go_at_call 30; refine (within_any _ _ _ _).mono ?_; rintro e w' ⟨rfl, rfl⟩; rw [HIN.out])
            go_quiet ((go_at_call 112; exact Calls.quiet_of_same (flip_same (HC.out _ HTK.out))))
            go_wp2
            go_roundw
            case rel => exact ⟨k + 1, by omega, by go_num, HR, hdr.drewN _⟩
            case measure => simp [intOf]; omega
          · have HR := Lib.hid (show ordErr m O = 28 by rw [HE.out, HAT.out, if_neg (by rw [HIN.out]; decide), if_pos hcon])
            have HC := Lib.hid (fun W h => (HHAS.out y W h))
            rw [hcon] at HC
            clear hcon
            go_wp2_with (go_at_call 30; refine (within_any _ _ _ _).mono ?_; rintro e w' ⟨rfl, rfl⟩; rw [HIN.out])
            go_quiet ((go_at_call 112; exact Calls.quiet_of_same (flip_same (HC.out _ HTK.out))))
            go_wp2
            go_ret
            exact ⟨ret_int HR.out.symm, below_drewN HBW.out _⟩
      · have HR := Lib.hid (show ordErr m O = 0 by rw [HE.out, List.drop_of_length_le (by have := HM.out; omega)]; rfl)
        go_wp2
        go_ret
        exact ⟨ret_int HR.out.symm, HBW.out⟩
  · have HE := Lib.hid (show ordErr m O = 10 by unfold ordErr; rw [if_pos h0])
    have h0' : ((O.length : Int) != (m : Int)) = true := by simp; omega
    clear h0
    go_wp2_with fail
    go_ret
    exact ⟨ret_int HE.out.symm, Below.refl _ _⟩
end Go.Proofs.Ytpplcbpnojggcaa
