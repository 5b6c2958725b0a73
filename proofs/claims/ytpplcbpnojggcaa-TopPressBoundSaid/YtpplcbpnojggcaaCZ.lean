/-
  Package press: what is wrong with an order, by the program and by the reference.
-/
import Derived.BigQuiet
import Derived.Test.YtpplcbpnojggcaaAM
import Derived.Test.YtpplcbpnojggcaaE8
import Derived.Test.YtpplcbpnojggcaaGF
import Derived.Test.YtpplcbpnojggcaaCY
import Derived.Deep.RegionHeld3

namespace Go.Proofs.Ytpplcbpnojggcaa
open Go.RowKit Go.Maps Go.Shelf

/-- Block b holds the truths S. -/
def BBox (w : World) (b : Nat) (S : List Bool) : Prop := BoxAt w b (S.map Value.bool).toArray 4
section
variable {w w' : World} {b : Nat} {S : List Bool}
theorem BBox.lt (h : BBox w b S) : b < w.heap.size := BoxAt.lt h
theorem BBox.free (h : BBox w b S) (j : Nat) : w.frozen? ⟨b, j, none⟩ = false := BoxAt.free h j
theorem BBox.cell (h : BBox w b S) {k : Nat} (hk : k < S.length) : w.cell? ⟨b, k, none⟩ = some (.bool S[k]) := by
  rw [BoxAt.cell h k, List.getElem?_toArray, List.getElem?_map, List.getElem?_eq_getElem hk]; rfl
theorem BBox.set (h : BBox w b S) (k : Nat) (v : Bool) : BBox (w.setCell ⟨b, k, none⟩ (.bool v)) b (S.set k v) := by
  have h1 := BoxAt.set h k (.bool v)
  have e : (S.map Value.bool).toArray.setIfInBounds k (.bool v) = ((S.set k v).map Value.bool).toArray := by
    apply Array.ext'
    rw [Array.toList_setIfInBounds]; simp [List.map_set]
  rw [e] at h1; exact h1
theorem BBox.made (w : World) (n : Nat) : BBox (w.alloc (.cells (madeCells #[.bool false] n) 4)) w.heap.size (List.replicate n false) := by
  have h := BoxAt.new w (madeCells #[.bool false] n) 4
  have e : madeCells #[.bool false] n = ((List.replicate n false).map Value.bool).toArray := by
    apply Array.ext'
    rw [toList_madeCells_one]; simp
  rw [e] at h ⊢; exact h
end
theorem info_boolN : (Try.prog.info? 4).map (fun i => (i.zero, i.size, i.bytes)) = some (some (.bool false), 1, 1) := by kernel_rfl
theorem make_bool (n : Nat) (h : n ≤ 1000000) (W : World) : (Instr.makeSlice 183 (.int .i64 (n : Int)) (.int .i64 (n : Int))).run Try.prog W = .ok (.slice (some ⟨W.heap.size, 0, none⟩) n n) (W.alloc (.cells (madeCells #[.bool false] n) 4)) := by
  have h1 := run_make_rowX (t := 183) Try.underlying183 info_boolN .i64 .i64 n (by omega) (by omega) W
  rw [Nat.mul_one] at h1
  exact h1
set_option maxRecDepth 100000 in
set_option maxHeartbeats 4000000 in
theorem errorOfOrder_any (a : Option Addr) (O : List Int) (n c m : Nat) (w : World) (hn : n = O.length) (hO : RowsAt 1 intL w a O) (hl : O.length ≤ maxLen) (hm : m ≤ 1000000) :
    Calls Try.prog 107 #[.slice a n c, .int .i64 m] w (CheckPost (ordErr m O) w) := by
  unfold maxLen at hl
  subst hn
  go_enter Try.func107, Try.ntmps107
  by_cases h0 : O.length = m
  · have HE0 := Lib.hid (show ordErr m O = ordF m (O.take 0) (O.drop 0) by unfold ordErr; rw [if_neg (by simp [h0])]; rfl)
    have hmk := fun W => make_bool m hm W
    have im := BBox.made w m
    have hB0 := (Below.refl w.heap.size w).alloc (Nat.le_refl _) (.cells (madeCells #[.bool false] m) 4)
    have h0' : ((O.length : Int) != (m : Int)) = false := by simp [h0]
    have HM := Lib.hid h0
    clear h0
    go_wp2_with fail
    obtain ⟨w0, hw0⟩ : ∃ w0, w0 = w.alloc (.cells (madeCells #[.bool false] m) 4) := ⟨_, rfl⟩
    rw [← hw0] at im hB0 ⊢
    clear hw0 hmk h0'
    go_loopw [16] (fun i wr => ∃ (k : Nat) (S : List Bool), k ≤ O.length ∧ i = .int .i64 k ∧ Hid (ordErr m O = ordF m (O.take k) (O.drop k)) ∧ Hid (S.length = m ∧ ∀ j : Nat, j < m → S.getD j false = (O.take k).contains (j : Int)) ∧ BBox wr w.heap.size S ∧ Below w.heap.size w wr) (fun i _ => O.length - (intOf i).toNat)
    case atStart => exact ⟨0, _, Nat.zero_le _, rfl, HE0, Lib.hid ⟨by simp, fun j hj => by simp [List.getD_eq_getElem?_getD, hj]⟩, im, hB0⟩
    case round =>
      obtain ⟨k, S, hk, rfl, HE, HS, im, hB⟩ := hrel
      by_cases hlt : k < O.length
      · obtain ⟨ad, rfl, had, s0⟩ := (hO.below hB).int hlt
        have HAT := Lib.hid (ordF_at (n := m) hlt)
        have HTK := Lib.hid (List.take_succ_eq_append_getElem hlt)
        obtain ⟨y, ey⟩ : ∃ y, y = O[k] := ⟨_, rfl⟩
        rw [← ey] at s0 HAT HTK
        have hkl : (k : Int) < (O.length : Int) := by omega
        have hw1 : IntKind.i64.wrap ((m : Int) - 1) = (m : Int) - 1 := IntWalk.i64_in _ (by omega)
        clear ey
        cases hin : inB y 0 ((m : Int) - 1)
        · have HR := Lib.hid (show ordErr m O = 6 by rw [HE.out, HAT.out, if_pos hin])
          go_wp2_with (go_at_call 85; refine (isFrom_any _ _ _ _).mono ?_; rintro e w' ⟨rfl, rfl⟩)
          go_ret
          exact ⟨ret_int HR.out.symm, hB⟩
        · have hy := inB_iff.1 hin
          obtain ⟨yN, rfl⟩ : ∃ yN : Nat, y = yN := ⟨y.toNat, by omega⟩
          have hyS : yN < S.length := by have := HS.out.1; omega
          have hyS' : (yN : Int) < (m : Int) := by omega
          have c0 := im.cell hyS
          have hcon := HS.out.2 yN (by omega)
          have eg : S.getD yN false = S[yN] := by rw [List.getD_eq_getElem?_getD, List.getElem?_eq_getElem hyS]; rfl
          rw [eg] at hcon
          have fz := im.free yN
          have hil := im.lt
          have HIN := Lib.hid hin
          have HCON := Lib.hid hcon
          have HIM := Lib.hid im; have HB := Lib.hid hB
          obtain ⟨bb, hbb⟩ : ∃ bb, bb = S[yN] := ⟨_, rfl⟩
          rw [← hbb] at c0 HCON
          clear hcon hbb eg hin im hB hy
          cases bb
          · have HR := Lib.hid (show ordErr m O = ordF m (O.take (k + 1)) (O.drop (k + 1)) by rw [HE.out, HAT.out, if_neg (by rw [HIN.out]; decide), if_neg (by rw [← HCON.out]; decide)])
            have HSS : Hid ((S.set yN true).length = m ∧ ∀ j : Nat, j < m → (S.set yN true).getD j false = (O.take (k + 1)).contains (j : Int)) := Lib.hid ⟨by rw [List.length_set]; exact HS.out.1, fun j hj => by
              rw [HTK.out]
              have e1 : ((O.take k) ++ [(yN : Int)]).contains (j : Int) = ((O.take k).contains (j : Int) || ((j : Int) == (yN : Int))) := by
                rw [Bool.eq_iff_iff]; simp [List.mem_append]
              rw [e1, List.getD_eq_getElem?_getD, List.getElem?_set]
              by_cases e : yN = j
              · subst e; rw [if_pos rfl, if_pos hyS]; simp
              · rw [if_neg e]
                have h9 := HS.out.2 j hj
                rw [List.getD_eq_getElem?_getD] at h9
                rw [h9]
                have : ((j : Int) == (yN : Int)) = false := by rw [beq_eq_false_iff_ne]; omega
                rw [this, Bool.or_false]⟩
            have HIM2 := Lib.hid (HIM.out.set yN true)
            have HB2 := Lib.hid (HB.out.setCell (p := ⟨w.heap.size, yN, none⟩) (Nat.le_refl _) (.bool true))
            have HINr := HIN.out
            go_wp2_with (go_at_call 85; refine (isFrom_any _ _ _ _).mono ?_; rintro e w' ⟨rfl, rfl⟩; rw [HINr])
            go_roundw
            case rel => exact ⟨k + 1, _, by omega, by go_num, HR, HSS, HIM2.out, HB2.out⟩
            case measure => simp [intOf]; omega
          · have HR := Lib.hid (show ordErr m O = 28 by rw [HE.out, HAT.out, if_neg (by rw [HIN.out]; decide), if_pos HCON.out.symm])
            have HINr := HIN.out
            go_wp2_with (go_at_call 85; refine (isFrom_any _ _ _ _).mono ?_; rintro e w' ⟨rfl, rfl⟩; rw [HINr])
            go_ret
            exact ⟨ret_int HR.out.symm, HB.out⟩
      · have HR := Lib.hid (show ordErr m O = 0 by rw [HE.out, List.drop_of_length_le (by omega)]; rfl)
        go_wp2
        go_ret
        exact ⟨ret_int HR.out.symm, hB⟩
  · have HE := Lib.hid (show ordErr m O = 10 by unfold ordErr; rw [if_pos h0])
    have h0' : ((O.length : Int) != (m : Int)) = true := by simp; omega
    clear h0
    go_wp2_with fail
    go_ret
    exact ⟨ret_int HE.out.symm, Below.refl _ _⟩
set_option maxRecDepth 100000 in
set_option maxHeartbeats 1000000 in
theorem has_any (a : Option Addr) (L : List Int) (n c : Nat) (x : Int) (w : World) (hn : n = L.length) (hX : RowsAt 1 intL w a L) (hl : n ≤ maxLen) :
    Calls Try.prog 112 #[.slice a n c, .int .i64 x] w fun e w' => e = .returned (.bool (L.contains x)) ∧ w = w' := by
  unfold maxLen at hl
  have HN := Lib.hid hn
  clear hn
  have HANY := Lib.hid (show L.contains x = L.any (fun y => y == x) by
    rw [Bool.eq_iff_iff]; simp)
  go_enter Try.func112, Try.ntmps112
  go_wp2
  go_loop [5] (fun i => ∃ k : Nat, k ≤ n ∧ i = .int .i64 k ∧ Hid ((L.any fun y => y == x) = ((L.drop k).any fun y => y == x))) (fun i => n - (intOf i).toNat)
  case atStart => exact ⟨0, Nat.zero_le _, rfl, Lib.hid (by rw [List.drop_zero])⟩
  case round =>
    obtain ⟨k, hk, rfl, HR⟩ := hrel
    by_cases hlt : k < n
    · have hlt2 : k < L.length := by have := HN.out; omega
      have hkl : (k : Int) < (n : Int) := by omega
      obtain ⟨ad, rfl, had, hc⟩ := hX.int hlt2
      have HS := Lib.hid (any_step (p := fun y => y == x) hlt2)
      obtain ⟨y, ey⟩ : ∃ y, y = L[k] := ⟨_, rfl⟩
      rw [← ey] at hc HS
      clear ey
      cases hq : (y == x)
      · have HQ := Lib.hid hq
        go_wp2
        go_round
        case rel => exact ⟨k + 1, by omega, by go_num, Lib.hid (by rw [HR.out, HS.out, HQ.out]; rfl)⟩
        case measure => simp [intOf]; omega
      · have HQ := Lib.hid hq
        go_wp2
        go_ret
        exact ⟨ret_bool (by have h := HANY.out; rw [HR.out, HS.out, HQ.out] at h; simpa using h), rfl⟩
    · have HE := Lib.hid (any_stop (p := fun y => y == x) (L := L) (k := k) (by have := HN.out; omega))
      obtain rfl : k = n := by omega
      go_wp2
      go_ret
      exact ⟨ret_bool (by have h := HANY.out; rw [HR.out, HE.out] at h; simpa using h), rfl⟩
set_option maxRecDepth 100000 in
set_option maxHeartbeats 4000000 in
theorem refCheckOrder_any (a : Option Addr) (O : List Int) (n c m : Nat) (w : World) (hn : n = O.length) (hO : RowsAt 1 intL w a O) (hc : O.length ≤ c) (hl : O.length ≤ maxLen) (hm : m ≤ 1000000) :
    Calls Try.prog 50 #[.slice a n c, .int .i64 m] w (CheckPost (ordErr m O) w) := by
  unfold maxLen at hl
  subst hn
  go_enter Try.func50, Try.ntmps50
  by_cases h0 : O.length = m
  · have HE0 := Lib.hid (show ordErr m O = ordF m (O.take 0) (O.drop 0) by unfold ordErr; rw [if_neg (by simp [h0])]; rfl)
    have h0' : ((O.length : Int) != (m : Int)) = false := by simp [h0]
    have HM := Lib.hid h0
    clear h0
    go_wp2_with fail
    clear h0'
    go_loopw [5] (fun i wr => ∃ k : Nat, k ≤ m ∧ i = .int .i64 k ∧ Hid (ordErr m O = ordF m (O.take k) (O.drop k)) ∧ Drew w wr) (fun i _ => m - (intOf i).toNat)
    case atStart => exact ⟨0, Nat.zero_le _, rfl, HE0, Drew.refl _⟩
    case round =>
      obtain ⟨k, hk, rfl, HE, hdr⟩ := hrel
      have HBW := Lib.hid (hdr.below (Below.refl w.heap.size w))
      by_cases hltm : k < m
      · have hlt : k < O.length := by have := HM.out; omega
        have hOW := hdr.rows hO
        obtain ⟨ad, rfl, had, s0⟩ := hOW.int hlt
        have HAT := Lib.hid (ordF_at (n := m) hlt)
        have hCUT := cut_low (P := Try.prog) 75 ad O.length c k intsUnder 1 intSize (by omega)
        have hkl : (k : Int) < (O.length : Int) := by omega
        have hw1 : IntKind.i64.wrap ((m : Int) - 1) = (m : Int) - 1 := IntWalk.i64_in _ (by omega)
        have HHAS := Lib.hid (fun (x : Int) W (h : RowsAt 1 intL W (some ad) (O.take k)) => has_any (some ad) (O.take k) k c x W (by rw [List.length_take]; omega) h (by unfold maxLen; omega))
        have HTK := Lib.hid (hOW.take k)
        obtain ⟨y, ey⟩ : ∃ y, y = O[k] := ⟨_, rfl⟩
        rw [← ey] at s0 HAT
        clear ey hOW
        cases hin : inB y 0 ((m : Int) - 1)
        · have HR := Lib.hid (show ordErr m O = 6 by rw [HE.out, HAT.out, if_pos hin])
          go_wp2_with (go_at_call 30; refine (within_any _ _ _ _).mono ?_; rintro e w' ⟨rfl, rfl⟩)
          go_ret
          exact ⟨ret_int HR.out.symm, HBW.out⟩
        · have HIN := Lib.hid hin
          cases hcon : (O.take k).contains y
          · have HR := Lib.hid (show ordErr m O = ordF m (O.take (k + 1)) (O.drop (k + 1)) by rw [HE.out, HAT.out, if_neg (by rw [HIN.out]; decide), if_neg (by rw [hcon]; decide)])
            have HC := Lib.hid (fun W h => (HHAS.out y W h))
            rw [hcon] at HC
            clear hcon
            go_wp2_with (go_at_call 30; refine (within_any _ _ _ _).mono ?_; rintro e w' ⟨rfl, rfl⟩; rw [HIN.out])
            go_quiet ((go_at_call 112; exact Calls.quiet_of_same (flip_same (HC.out _ HTK.out))))
            go_wp2
            go_roundw
            case rel => exact ⟨k + 1, by omega, by go_num, HR, hdr.drewN _⟩
            case measure => simp [intOf]; omega
          · have HR := Lib.hid (show ordErr m O = 28 by rw [HE.out, HAT.out, if_neg (by rw [HIN.out]; decide), if_pos hcon])
            have HC := Lib.hid (fun W h => (HHAS.out y W h))
            rw [hcon] at HC
            clear hcon
            go_wp2_with (go_at_call 30; refine (within_any _ _ _ _).mono ?_; rintro e w' ⟨rfl, rfl⟩; rw [HIN.out])
            go_quiet ((go_at_call 112; exact Calls.quiet_of_same (flip_same (HC.out _ HTK.out))))
            go_wp2
            go_ret
            exact ⟨ret_int HR.out.symm, below_drewN HBW.out _⟩
      · have HR := Lib.hid (show ordErr m O = 0 by rw [HE.out, List.drop_of_length_le (by have := HM.out; omega)]; rfl)
        go_wp2
        go_ret
        exact ⟨ret_int HR.out.symm, HBW.out⟩
  · have HE := Lib.hid (show ordErr m O = 10 by unfold ordErr; rw [if_pos h0])
    have h0' : ((O.length : Int) != (m : Int)) = true := by simp; omega
    clear h0
    go_wp2_with fail
    go_ret
    exact ⟨ret_int HE.out.symm, Below.refl _ _⟩
end Go.Proofs.Ytpplcbpnojggcaa

namespace Go.Proofs.Ytpplcbpnojggcaa
open Go.RowKit Go.Maps Go.Shelf

def tabI (T : List PR) (e c : Nat) : Int := (T.getD e noPR).l.getD c 0
def mkR (T : List PR) (O : List Int) : Nat → Int
  | 0 => 0
  | k + 1 => mkR T O k + tabI T (O.getD (k - 1) 0).toNat (O.getD k 0).toNat
def mkA (T : List PR) (O : List Int) : Int := mkR T O O.length
/-- What is wrong with a table. -/
def tblErr (T : List PR) : Int := if 7 < T.length then 8 else rowsE T.length 0 T
structure TabRight (T : List PR) : Prop where
  le : T.length ≤ 7
  rows : ∀ r ∈ T, r.l.length = T.length ∧ ∀ y ∈ r.l, 0 ≤ y ∧ y ≤ 10000
theorem tab_right {T : List PR} (h : tblErr T = 0) : TabRight T := by
  unfold tblErr at h
  split at h
  · cases h
  exact ⟨by omega, rowsE_ok h⟩
theorem tabI_map {T T' : List PR} (h : T'.map (·.l) = T.map (·.l)) (e c : Nat) : tabI T' e c = tabI T e c := by
  have g : ∀ S : List PR, (S.getD e noPR).l = (S.map (·.l)).getD e [] := fun S => by
    rw [List.getD_eq_getElem?_getD, List.getD_eq_getElem?_getD, List.getElem?_map]
    cases S[e]? <;> rfl
  unfold tabI; rw [g, g, h]
theorem mkR_map {T T' : List PR} (h : T'.map (·.l) = T.map (·.l)) (O : List Int) : ∀ k, mkR T' O k = mkR T O k
  | 0 => rfl
  | k + 1 => by unfold mkR; rw [mkR_map h O k, tabI_map h]
theorem map_len {T T' : List PR} (h : T'.map (·.l) = T.map (·.l)) : T'.length = T.length := by
  have := congrArg List.length h; simpa using this
theorem rowsE_map9 {n : Nat} {least : Int} : ∀ {T T' : List PR}, T'.map (·.l) = T.map (·.l) → rowsE n least T' = rowsE n least T
  | [], [], _ => rfl
  | [], _ :: _, h => by cases h
  | _ :: _, [], h => by cases h
  | x :: T, y :: T', h => by
    have h1 : y.l = x.l := by simpa using (List.cons.inj h).1
    have h2 : T'.map (·.l) = T.map (·.l) := (List.cons.inj h).2
    unfold rowsE
    rw [h1, rowsE_map9 h2]
theorem tblErr_map {T T' : List PR} (h : T'.map (·.l) = T.map (·.l)) : tblErr T' = tblErr T := by
  unfold tblErr; rw [map_len h, rowsE_map9 h]
theorem tab_bd {T : List PR} (h : TabRight T) (e c : Nat) : 0 ≤ tabI T e c ∧ tabI T e c ≤ 10000 := by
  unfold tabI
  rcases Nat.lt_or_ge e T.length with he | he
  · have : T.getD e noPR = T[e] := by rw [List.getD_eq_getElem?_getD, List.getElem?_eq_getElem he]; rfl
    rw [this]
    exact getD_bd (h.rows _ (List.getElem_mem he)).2 (by omega) c
  · have : T.getD e noPR = noPR := by rw [List.getD_eq_getElem?_getD, List.getElem?_eq_none he]; rfl
    rw [this]
    show 0 ≤ ([] : List Int).getD c 0 ∧ ([] : List Int).getD c 0 ≤ 10000
    simp
theorem mkR_bd {T : List PR} (h : TabRight T) (O : List Int) : ∀ k, 0 ≤ mkR T O k ∧ mkR T O k ≤ 10000 * k
  | 0 => by unfold mkR; omega
  | k + 1 => by
    have h1 := mkR_bd h O k
    have h2 := tab_bd h (O.getD (k - 1) 0).toNat (O.getD k 0).toNat
    unfold mkR; omega
theorem tab_row {T : List PR} (h : TabRight T) {e c : Nat} {ra : Option Addr} {rl : List Int} {rc : Nat} (he : e < T.length) (hr : T[e] = ⟨ra, rl, rc⟩) (hc : c < T.length) :
    ∃ d, (∃ h : c < rl.length, rl[c] = d) ∧ tabI T e c = d ∧ 0 ≤ d ∧ d ≤ 10000 := by
  have h1 := (h.rows _ (List.getElem_mem he)).1
  rw [hr] at h1
  have h2 : c < rl.length := by have h1 : rl.length = T.length := h1; omega
  have h3 : T.getD e noPR = ⟨ra, rl, rc⟩ := by rw [List.getD_eq_getElem?_getD, List.getElem?_eq_getElem he, hr]; rfl
  have h4 := tab_bd h e c
  have h5 : tabI T e c = rl[c] := by unfold tabI; rw [h3]; exact getD_eqI h2
  exact ⟨rl[c], ⟨h2, rfl⟩, h5, by rw [← h5]; exact h4⟩
/-- A cell of a table, in memory. -/
theorem TabAt.at_ {w : World} {a : Option Addr} {T : List PR} (h : TabAt w a T) (hr : TabRight T) {e c : Nat} (he : e < T.length) (hc : c < T.length) :
    ∃ ad rad rn rc, a = some ad ∧ ad.block < w.heap.size ∧ rad.block < w.heap.size ∧ w.cell? (ad.add e) = some (.slice (some rad) rn rc) ∧ c < rn ∧ rn = T.length ∧ w.cell? (rad.add c) = some (.int .i64 (tabI T e c)) := by
  obtain ⟨ad, ra, rl, rc, ha, had, hcell, hrow, hrr⟩ := h.pick he
  obtain ⟨d, ⟨hcr, ed⟩, hd, -⟩ := tab_row hr he hrr hc
  obtain ⟨rad, hra, hrad, s⟩ := hrow.int hcr
  have hl : rl.length = T.length := by have := (hr.rows _ (List.getElem_mem he)).1; rw [hrr] at this; exact this
  subst hra
  exact ⟨ad, rad, rl.length, rc, ha, had, hrad, hcell, hcr, hl, by rw [hd, ← ed]; exact s⟩
set_option maxRecDepth 100000 in
set_option maxHeartbeats 1000000 in
theorem errorOfReadyTable_any (T : List PR) (a : Option Addr) (n c : Nat) (w : World) (hn : n = T.length) (hT : TabAt w a T) (hl : T.length ≤ maxLen) :
    Calls Try.prog 127 #[.slice a n c] w fun e w' => e = .returned (.int .i64 (tblErr T)) ∧ w = w' := by
  unfold maxLen at hl
  subst hn
  have HT := Lib.hid hT
  clear hT
  go_enter Try.func127, Try.ntmps127
  by_cases h7 : 7 < T.length
  · have HE := Lib.hid (show tblErr T = 8 by unfold tblErr; rw [if_pos h7])
    have h7' : (7 : Int) < (T.length : Int) := by omega
    clear h7
    go_wp2_with fail
    go_ret
    exact ⟨ret_int HE.out.symm, rfl⟩
  · have HE := Lib.hid (show tblErr T = rowsE T.length 0 T by unfold tblErr; rw [if_neg h7])
    have h7' : ¬ (7 : Int) < (T.length : Int) := by omega
    have HR := Lib.hid (errorOfRows_any T a T.length c 0 w rfl HT.out (by omega))
    clear h7
    go_wp2_with (go_at_call 111; refine HR.out.mono ?_; rintro e w' ⟨rfl, rfl⟩)
    go_ret
    exact ⟨ret_int HE.out.symm, rfl⟩
set_option maxRecDepth 100000 in
set_option maxHeartbeats 4000000 in
theorem makeReady_any (T : List PR) (ta : Option Addr) (tn tc : Nat) (O : List Int) (a : Option Addr) (n oc : Nat) (w : World) (htn : tn = T.length) (hn : n = O.length) (hT : TabAt w ta T) (hr : TabRight T) (hO : RowsAt 1 intL w a O) (hol : O.length ≤ 7) (hin : ∀ y ∈ O, 0 ≤ y ∧ y < T.length) :
    Calls Try.prog 128 #[.slice ta tn tc, .slice a n oc] w fun e w' => e = .returned (.int .i64 (mkA T O)) ∧ w = w' := by
  subst hn; subst htn
  have HT := Lib.hid hT; have HR := Lib.hid hr; have HIN := Lib.hid hin; have HO := Lib.hid hO
  clear hT hr hin hO
  go_enter Try.func128, Try.ntmps128
  go_wp2_with fail
  go_loop [5, 11] (fun s i => ∃ k : Nat, k ≤ O.length ∧ i = .int .i64 k ∧ s = .int .i64 (mkR T O k)) (fun _ i => O.length - (intOf i).toNat)
  case atStart => exact ⟨0, Nat.zero_le _, rfl, rfl⟩
  case round =>
    obtain ⟨k, hk, rfl, rfl⟩ := hrel
    by_cases hlt : k < O.length
    · have hp : k - 1 < O.length := by omega
      obtain ⟨ad, rfl, had, s0⟩ := HO.out.int hlt
      obtain ⟨ad', ea', -, s1⟩ := HO.out.int hp
      injection ea' with ea'
      subst ea'
      have hi1 := HIN.out _ (List.getElem_mem hlt)
      have hi2 := HIN.out _ (List.getElem_mem hp)
      have HG1 := Lib.hid (getD_eqI (d := 0) hlt)
      have HG2 := Lib.hid (getD_eqI (d := 0) hp)
      obtain ⟨y, ey⟩ : ∃ y, y = O[k] := ⟨_, rfl⟩
      obtain ⟨z, ez⟩ : ∃ z, z = O[k - 1] := ⟨_, rfl⟩
      rw [← ey] at s0 hi1 HG1
      rw [← ez] at s1 hi2 HG2
      obtain ⟨cN, rfl⟩ : ∃ cN : Nat, y = cN := ⟨y.toNat, by omega⟩
      obtain ⟨eN, rfl⟩ : ∃ eN : Nat, z = eN := ⟨z.toNat, by omega⟩
      obtain ⟨tad, rad, rn, rc, hta, htb, hrb, s2, hcr, hrn, s3⟩ := HT.out.at_ HR.out (e := eN) (c := cN) (by omega) (by omega)
      subst hta
      have HS := Lib.hid (show mkR T O (k + 1) = mkR T O k + tabI T (O.getD (k - 1) 0).toNat (O.getD k 0).toNat from rfl)
      rw [HG1.out, HG2.out, show ((cN : Int)).toNat = cN by omega, show ((eN : Int)).toNat = eN by omega] at HS
      have hb1 := mkR_bd HR.out O k
      have hb2 := tab_bd HR.out eN cN
      obtain ⟨d, hd⟩ : ∃ d, d = tabI T eN cN := ⟨_, rfl⟩
      rw [← hd] at s3 HS hb2
      obtain ⟨q, hq⟩ : ∃ q, q = mkR T O k := ⟨_, rfl⟩
      rw [← hq] at HS hb1 ⊢
      have hw1 : IntKind.i64.wrap (q + d) = q + d := IntWalk.i64_in _ (by omega)
      have hw2 : IntKind.i64.wrap ((k : Int) - 1) = (k : Int) - 1 := IntWalk.i64_in _ (by omega)
      have hmx : max ((k : Int) - 1) 0 = ((k - 1 : Nat) : Int) := by omega
      have hmx2 : (if (k : Int) - 1 < 0 then (0 : Int) else (k : Int) - 1) = ((k - 1 : Nat) : Int) := by split <;> omega
      have hkO : (k : Int) < (O.length : Int) := by omega
      have hpO : ((k - 1 : Nat) : Int) < (O.length : Int) := by omega
      have hcr' : (cN : Int) < (rn : Int) := by omega
      have heT : (eN : Int) < (T.length : Int) := hi2.2
      have HRN := Lib.hid hrn
      clear ey ez hd hq HG1 HG2 hi1 hi2 hrn
      go_wp2
      go_round
      case rel => exact ⟨k + 1, by omega, by go_num, by rw [HS.out]⟩
      case measure => simp [intOf]; omega
    · obtain rfl : k = O.length := by omega
      go_wp2
      go_ret
      exact ⟨rfl, rfl⟩
set_option maxRecDepth 100000 in
set_option maxHeartbeats 4000000 in
theorem refMakeReady_any (T : List PR) (ta : Option Addr) (tn tc : Nat) (O : List Int) (a : Option Addr) (n oc : Nat) (w : World) (htn : tn = T.length) (hn : n = O.length) (hT : TabAt w ta T) (hr : TabRight T) (hO : RowsAt 1 intL w a O) (hol : O.length ≤ 7) (hin : ∀ y ∈ O, 0 ≤ y ∧ y < T.length) :
    Calls Try.prog 75 #[.slice ta tn tc, .slice a n oc] w (CheckPost (mkA T O) w) := by
  subst hn; subst htn
  have HT := Lib.hid hT; have HR := Lib.hid hr; have HIN := Lib.hid hin; have HO := Lib.hid hO
  clear hT hr hin hO
  go_enter Try.func75, Try.ntmps75
  go_wp2_with fail
  go_loopw [5, 6] (fun s i wr => ∃ k : Nat, k ≤ O.length ∧ i = .int .i64 k ∧ s = .int .i64 (mkR T O k) ∧ Drew w wr) (fun _ i _ => O.length - (intOf i).toNat)
  case atStart => exact ⟨0, Nat.zero_le _, rfl, rfl, Drew.refl _⟩
  case round =>
    obtain ⟨k, hk, rfl, rfl, hdr⟩ := hrel
    by_cases hlt : k < O.length
    · have hp : k - 1 < O.length := by omega
      have hOW := hdr.rows HO.out
      have hTW := HT.out.below (hdr.below (Below.refl _ _))
      obtain ⟨ad, rfl, had, s0⟩ := hOW.int hlt
      obtain ⟨ad', ea', -, s1⟩ := hOW.int hp
      injection ea' with ea'
      subst ea'
      have hi1 := HIN.out _ (List.getElem_mem hlt)
      have hi2 := HIN.out _ (List.getElem_mem hp)
      have HG1 := Lib.hid (getD_eqI (d := 0) hlt)
      have HG2 := Lib.hid (getD_eqI (d := 0) hp)
      obtain ⟨y, ey⟩ : ∃ y, y = O[k] := ⟨_, rfl⟩
      obtain ⟨z, ez⟩ : ∃ z, z = O[k - 1] := ⟨_, rfl⟩
      rw [← ey] at s0 hi1 HG1
      rw [← ez] at s1 hi2 HG2
      obtain ⟨cN, rfl⟩ : ∃ cN : Nat, y = cN := ⟨y.toNat, by omega⟩
      obtain ⟨eN, rfl⟩ : ∃ eN : Nat, z = eN := ⟨z.toNat, by omega⟩
      obtain ⟨tad, rad, rn, rc, hta, htb, hrb, s2, hcr, hrn, s3⟩ := hTW.at_ HR.out (e := eN) (c := cN) (by omega) (by omega)
      subst hta
      have HS := Lib.hid (show mkR T O (k + 1) = mkR T O k + tabI T (O.getD (k - 1) 0).toNat (O.getD k 0).toNat from rfl)
      rw [HG1.out, HG2.out, show ((cN : Int)).toNat = cN by omega, show ((eN : Int)).toNat = eN by omega] at HS
      have hb1 := mkR_bd HR.out O k
      have hb2 := tab_bd HR.out eN cN
      obtain ⟨d, hd⟩ : ∃ d, d = tabI T eN cN := ⟨_, rfl⟩
      rw [← hd] at s3 HS hb2
      have HQ0 := Lib.hid (show k = 0 → mkR T O k = 0 from fun e => by rw [e]; rfl)
      obtain ⟨q, hq⟩ : ∃ q, q = mkR T O k := ⟨_, rfl⟩
      rw [← hq] at HS hb1 HQ0 ⊢
      have hw1 : IntKind.i64.wrap (q + d) = q + d := IntWalk.i64_in _ (by omega)
      have hw2 : IntKind.i64.wrap ((k : Int) - 1) = (k : Int) - 1 := IntWalk.i64_in _ (by omega)
      have hkO : (k : Int) < (O.length : Int) := by omega
      have hcr' : (cN : Int) < (rn : Int) := by omega
      have heT : (eN : Int) < (T.length : Int) := hi2.2
      have HRN := Lib.hid hrn
      have HYZ := Lib.hid (show k = 0 → eN = cN from fun e => by subst e; have h := ey.trans ez.symm; omega)
      clear ey ez hd hq HG1 HG2 hi1 hi2 hrn hOW hTW
      by_cases hk0 : k = 0
      · have HS1 := Lib.hid (show mkR T O 1 = d by have := HS.out; rw [hk0, Nat.zero_add] at this; have h0 := HQ0.out hk0; omega)
        have hyz := HYZ.out hk0
        subst hyz
        subst hk0
        have z0 : wr.cell? ad = some (.int .i64 (eN : Int)) := by have h := s0; rw [show ad.add 0 = ad by unfold Addr.add; rw [if_pos rfl]] at h; exact h
        go_wp2_with fail
        go_quiet (fail)
        go_wp2
        go_roundw
        case rel => exact ⟨1, by omega, by go_num, by rw [HS1.out], hdr.drewN _⟩
        case measure => simp [intOf]; omega
      · obtain ⟨p, hpk⟩ : ∃ p, p = k - 1 := ⟨_, rfl⟩
        rw [← hpk] at s1
        have hw3 : IntKind.i64.wrap ((k : Int) - 1) = (p : Int) := by rw [hw2]; omega
        have hz : ((k : Int) == 0) = false := by rw [beq_eq_false_iff_ne]; omega
        have hpO : (p : Int) < (O.length : Int) := by omega
        clear hk0 hp hw2 hpk
        go_wp2_with fail
        go_quiet (fail)
        go_wp2
        go_roundw
        case rel => exact ⟨k + 1, by omega, by go_num, by rw [HS.out], hdr.drewN _⟩
        case measure => simp [intOf]; omega
    · obtain rfl : k = O.length := by omega
      have HB := Lib.hid (hdr.below (Below.refl w.heap.size w))
      go_wp2
      go_ret
      exact ⟨rfl, HB.out⟩
set_option maxRecDepth 100000 in
set_option maxHeartbeats 4000000 in
theorem refCheckTable_any (T : List PR) (a : Option Addr) (n c : Nat) (w : World) (hn : n = T.length) (hT : TabAt w a T) (hl : T.length ≤ maxLen) (hsz : ∀ r ∈ T, r.l.length ≤ maxLen) :
    Calls Try.prog 73 #[.slice a n c] w fun e w' => e = .returned (.int .i64 (tblErr T)) ∧ w = w' := by
  unfold maxLen at hl
  subst hn
  have HT := Lib.hid hT; have HSZ := Lib.hid hsz
  clear hT hsz
  go_enter Try.func73, Try.ntmps73
  by_cases h7 : 7 < T.length
  · have HE := Lib.hid (show tblErr T = 8 by unfold tblErr; rw [if_pos h7])
    have h7' : (7 : Int) < (T.length : Int) := by omega
    clear h7
    go_wp2_with fail
    go_ret
    exact ⟨ret_int HE.out.symm, rfl⟩
  have HE0 := Lib.hid (show tblErr T = rowsE T.length 0 T by unfold tblErr; rw [if_neg h7])
  have h7' : ¬ (7 : Int) < (T.length : Int) := by omega
  clear h7
  go_wp2_with fail
  clear h7'
  go_loop [4] (fun i => ∃ k : Nat, k ≤ T.length ∧ i = .int .i64 k ∧ Hid (rowsE T.length 0 T = rowsE T.length 0 (T.drop k))) (fun i => T.length - (intOf i).toNat)
  case atStart => exact ⟨0, Nat.zero_le _, rfl, Lib.hid rfl⟩
  case round =>
    obtain ⟨k, hk, rfl, HR⟩ := hrel
    by_cases hlt : k < T.length
    · have hkT : (k : Int) < (T.length : Int) := by omega
      obtain ⟨ad, ra, rl, rc, rfl, had, s0, hrow, hrr⟩ := HT.out.pick hlt
      have HST := Lib.hid (fun h => rowsE_stop (n := T.length) (least := 0) hlt h)
      have HGO := Lib.hid (fun h => rowsE_go (n := T.length) (least := 0) hlt h)
      have hrz : rl.length ≤ maxLen := by have := HSZ.out _ (List.getElem_mem hlt); rw [hrr] at this; exact this
      rw [hrr] at HST HGO
      dsimp only at HST HGO
      have HRW := Lib.hid hrow
      unfold maxLen at hrz
      clear hrr hrow
      by_cases hx : rl.length = T.length
      · have hx' : ((rl.length : Int) != (T.length : Int)) = false := by simp [hx]
        have HX := Lib.hid hx
        clear hx
        go_wp2_with fail
        clear hx'
        go_loop [5] (fun i => ∃ j : Nat, j ≤ T.length ∧ i = .int .i64 j ∧ Hid (rl.all (fun x => inB x 0 10000) = (rl.drop j).all (fun x => inB x 0 10000))) (fun i => T.length - (intOf i).toNat)
        case atStart => exact ⟨0, Nat.zero_le _, rfl, Lib.hid rfl⟩
        case round =>
          obtain ⟨j, hj, rfl, HJ⟩ := hrel
          by_cases hjm : j < T.length
          · have hjl : j < rl.length := by have := HX.out; omega
            have hjl' : (j : Int) < (rl.length : Int) := by omega
            have hjT' : (j : Int) < (T.length : Int) := by omega
            obtain ⟨ad2, rfl, had2, s2⟩ := HRW.out.int hjl
            have HAL := Lib.hid (all_step (α := Int) (p := fun x => inB x 0 10000) hjl)
            obtain ⟨y, ey⟩ : ∃ y, y = rl[j] := ⟨_, rfl⟩
            rw [← ey] at s2 HAL
            clear ey
            cases hin : inB y 0 10000
            · have HE := Lib.hid (show tblErr T = 2 by
                have h1 : rowErr T.length 0 rl = 2 := by unfold rowErr; rw [if_neg (by have := HX.out; omega), if_neg (by rw [HJ.out, HAL.out, hin]; simp)]
                rw [HE0.out, HR.out, HST.out (by rw [h1]; decide), h1])
              go_wp2_with (go_at_call 30; refine (within_any _ _ _ _).mono ?_; rintro e w' ⟨rfl, rfl⟩)
              go_ret
              exact ⟨ret_int HE.out.symm, rfl⟩
            · have HIN := Lib.hid hin
              go_wp2_with (go_at_call 30; refine (within_any _ _ _ _).mono ?_; rintro e w' ⟨rfl, rfl⟩; rw [HIN.out])
              go_round
              case rel => exact ⟨j + 1, by omega, by go_num, Lib.hid (by rw [HJ.out, HAL.out, HIN.out]; rfl)⟩
              case measure => simp [intOf]; omega
          · have HE := Lib.hid (show rowErr T.length 0 rl = 0 by unfold rowErr; rw [if_neg (by have := HX.out; omega), if_pos (by rw [HJ.out]; exact all_stop (by have := HX.out; omega))])
            go_wp2
            go_round
            case rel => exact ⟨k + 1, by omega, by go_num, Lib.hid (by rw [HR.out, HGO.out HE.out])⟩
            case measure => simp [intOf]; omega
      · have hx' : ((rl.length : Int) != (T.length : Int)) = true := by simp; omega
        have HE := Lib.hid (show tblErr T = 10 by
          have h1 : rowErr T.length 0 rl = 10 := by unfold rowErr; rw [if_pos hx]
          rw [HE0.out, HR.out, HST.out (by rw [h1]; decide), h1])
        clear hx
        go_wp2
        go_ret
        exact ⟨ret_int HE.out.symm, rfl⟩
    · have HE := Lib.hid (show tblErr T = 0 by rw [HE0.out, HR.out, List.drop_of_length_le (by omega)]; rfl)
      go_wp2
      go_ret
      exact ⟨ret_int HE.out.symm, rfl⟩
end Go.Proofs.Ytpplcbpnojggcaa

namespace Go.Proofs.Ytpplcbpnojggcaa
open Go.RowKit Go.Maps Go.Shelf
attribute [local go_sem] Oper.semAt_some

set_option maxRecDepth 100000 in
set_option maxHeartbeats 4000000 in
theorem leastReady_any (cn c : Nat) (tk : List Int → Int × Int) (lb : Value) (w : World) (hE : OrdsEnd cn c) (hcn : cn ≤ 100)
    (htk : ∀ (O : List Int) (v : Value) (B : Nat) (W : World), Below w.heap.size w W → OwnR 1 3 intL W B v O → O.length = cn → (∀ y ∈ O, 0 ≤ y ∧ y < cn) → Calls Try.prog 129 #[v, lb] W (TwoPost (tk O) W)) :
    Calls Try.prog 113 #[.int .i64 cn, .func (.func 129) #[] #[lb]] w (LstPost (lstF tk (ordsL cn c)) w) := by
  have HE := Lib.hid hE; have HTK := Lib.hid htk
  clear hE htk
  refine (callsIn_wide (n := 9)).1 ?_
  refine callsIn_of_wp_marks Try.func113 rfl trivial ?_ rfl
  simp only [Try.ntmps113, List.size_toArray, List.length_cons, List.length_nil, Nat.reduceAdd, Nat.reduceSub, Array.replicate_succ, Array.replicate_zero, List.push_toArray, List.append_toArray, List.nil_append, List.cons_append]
  gi_wp2_with (refine ⟨trivial, ?_⟩; gi_at_call 139; refine (callsIn_wide.2 (orders_any _ _)).mono ?_; rintro e w' ⟨rfl, rfl⟩)
  obtain ⟨fv, hfv⟩ : ∃ fv, fv = Value.func (.func 129) #[] #[lb] := ⟨_, rfl⟩
  have HFV := Lib.hid hfv
  obtain ⟨A1, hA1⟩ : ∃ A1, A1 = w.alloc (.cells #[Value.func (.func 129) #[] #[lb]] 162) := ⟨_, rfl⟩
  obtain ⟨A2, hA2⟩ : ∃ A2, A2 = A1.alloc (.cells #[.slice none 0 0] 75) := ⟨_, rfl⟩
  obtain ⟨A3, hA3⟩ : ∃ A3, A3 = A2.alloc (.cells #[.int .i64 0] 3) := ⟨_, rfl⟩
  obtain ⟨A4, hA4⟩ : ∃ A4, A4 = A3.alloc (.cells #[.int .i64 12] 29) := ⟨_, rfl⟩
  obtain ⟨A5, hA5⟩ : ∃ A5, A5 = A4.alloc (.cells #[.int .i64 cn] 3) := ⟨_, rfl⟩
  have hz1 : A1.heap.size = w.heap.size + 1 := by rw [hA1]; simp
  have hz2 : A2.heap.size = w.heap.size + 1 + 1 := by rw [hA2]; simp [hz1]
  have hz3 : A3.heap.size = w.heap.size + 1 + 1 + 1 := by rw [hA3]; simp [hz2]
  have hz4 : A4.heap.size = w.heap.size + 1 + 1 + 1 + 1 := by rw [hA4]; simp [hz3]
  have hz5 : A5.heap.size = w.heap.size + 5 := by rw [hA5]; simp [hz4]
  have b0 : BoxAt A5 w.heap.size #[fv] 162 := by rw [hA5, hA4, hA3, hA2, hA1, hfv]; exact ((((BoxAt.new w _ _).alloc _).alloc _).alloc _).alloc _
  have b1 : BoxAt A5 (w.heap.size + 1) #[.slice none 0 0] 75 := by rw [hA5, hA4, hA3, hA2, ← hz1]; exact (((BoxAt.new A1 _ _).alloc _).alloc _).alloc _
  have b2 : BoxAt A5 (w.heap.size + 2) #[.int .i64 0] 3 := by rw [hA5, hA4, hA3, show w.heap.size + 2 = A2.heap.size by omega]; exact ((BoxAt.new A2 _ _).alloc _).alloc _
  have b3 : BoxAt A5 (w.heap.size + 3) #[.int .i64 12] 29 := by rw [hA5, hA4, show w.heap.size + 3 = A3.heap.size by omega]; exact (BoxAt.new A3 _ _).alloc _
  have b4 : BoxAt A5 (w.heap.size + 1 + 1 + 1 + 1) #[.int .i64 cn] 3 := by rw [hA5, ← hz4]; exact BoxAt.new A4 _ _
  have hlow : Below w.heap.size w A5 := by
    rw [hA5, hA4, hA3, hA2, hA1]
    exact ((((((Below.refl w.heap.size w).alloc (Nat.le_refl _) _).alloc (by simp) _).alloc (by simp; omega) _).alloc (by simp; omega) _).alloc (by simp; omega) _)
  have hLI : LsI w fv (lstF tk []) [] (.slice none 0 0) A5 := ⟨b0, b1, b2, b3, OwnR.nil _ _, (fun y hy => by cases hy), hlow, by omega, fun _ => rfl⟩
  change Code.wpIn _ _ _ _ _ _ (((((w.alloc (.cells #[Value.func (.func 129) #[] #[lb]] 162)).alloc (.cells #[.slice none 0 0] 75)).alloc (.cells #[.int .i64 0] 3)).alloc (.cells #[.int .i64 12] 29)).alloc (.cells #[.int .i64 cn] 3))
  rw [← hA1, ← hA2, ← hA3, ← hA4, ← hA5]
  clear hA1 hA2 hA3 hA4 hA5 hz1 hz2 hz3 hz4 b0 b1 b2 b3 hfv
  refine wpIn_rangeFunc_rw rfl (by omega) (gf := 154) (lb := #[.pointer (some ⟨w.heap.size + 1 + 1 + 1 + 1, 0, none⟩)]) rfl trivial (enters_of Try.func154 (by kernel_rfl) rfl)
    (orders_rw cn c (w.heap.size + 1 + 1 + 1 + 1) _ A5 HE.out hcn b4) rfl
    (fun xs W => ∃ V, LsI w fv (lstF tk (xs.map (·.l))) xs V W)
    (fun _ _ _ => False)
    (fun xs X Y row hs hg hr => by obtain ⟨V, h⟩ := hs; exact ⟨V, h.kept hg (fun r e => ⟨by have := (hr r e).1; omega, (hr r e).2⟩)⟩)
    (fun _ _ _ _ _ hs _ _ => hs)
    (fun xs x X Y hs ho ht => by obtain ⟨V, h⟩ := hs; exact ⟨V, h.turn (List.mem_append.2 (Or.inr (List.mem_singleton.2 rfl))) (fun k e => by have := (ho.lt k e).1; omega) ht⟩)
    (fun X hX => ⟨_, hLI.below hX⟩)
    (fun x => { tmps := #[.int .i64 cn, .func (.func 129) #[] #[lb], undef, .pointer (some ⟨w.heap.size, 0, none⟩), .slice none 0 0, .int .i64 0, .int .i64 0, .pointer (some ⟨w.heap.size + 1, 0, none⟩), .pointer (some ⟨w.heap.size + 1 + 1, 0, none⟩), .pointer (some ⟨w.heap.size + 1 + 1 + 1, 0, none⟩), x.v, undef, undef, .int .i64 cn, .func (.func 154) #[] #[.pointer (some ⟨w.heap.size + 1 + 1 + 1 + 1, 0, none⟩)], x.v, undef, undef, undef, undef, undef, undef, undef, undef, undef, undef, undef, undef, undef, undef, undef, undef, undef, undef, undef, undef, undef, undef, undef], defers := [] }) ?assign ?body ?done ?stop
  case assign =>
    intro l x W K hK
    gi_wp2
    exact hK
  case body =>
    rintro l pre x W ⟨V, hI⟩ hlen ⟨hone, k, hk, hm⟩ how
    have hxl := ord_pick hm
    have HLEN := Lib.hid (show x.l.length = cn by rw [hxl]; exact ordAt_len _ _)
    have HTC := Lib.hid (HTK.out x.l x.v (A5.heap.size + 2) W hI.low how HLEN.out (by rw [hxl]; exact ord_in' _ _))
    have HSN := Lib.hid (show lstF tk ((pre ++ [x]).map (·.l)) = lstP tk (lstF tk (pre.map (·.l))) x.l by rw [List.map_append]; exact lstF_snoc _ _ _)
    obtain ⟨st, hst⟩ : ∃ st, st = lstF tk (pre.map (·.l)) := ⟨_, rfl⟩
    rw [← hst] at hI HSN
    have HONE := Lib.hid hone
    clear hst hm hxl hone
    obtain ⟨F, le, fo⟩ := st
    obtain ⟨t, ht⟩ : ∃ t, t = tk x.l := ⟨_, rfl⟩
    rw [← ht] at HTC
    have HLP := Lib.hid (show lstP tk (F, le, fo) x.l = if t.2 = 0 ∧ (fo ≠ 0 ∨ t.1 < le) then (x.l, t.1, 0) else (F, le, fo) by unfold lstP; rw [← ht])
    clear ht
    obtain ⟨mn, er⟩ := t
    dsimp only at HLP
    have c0 : W.cell? ⟨w.heap.size, 0, none⟩ = some fv := hI.b0.cell 0
    rw [HFV.out] at c0
    have HI := Lib.hid hI
    have HOW := Lib.hid how
    have hlo := hI.lo
    have HZ5 := Lib.hid hz5
    have HLX0 := Lib.hid (fun (W' : World) (hb : Below W.heap.size W W') => (show LsI w fv (F, le, fo) (pre ++ [x]) V W' from
      { hI.below hb with
        ne := fun y hy q e => by
          have hq : ∀ y ∈ pre, y.v = x.v := fun y hy => by
            obtain ⟨v, h⟩ := HONE.out
            rw [h y (List.mem_append.2 (Or.inl hy)), h x (List.mem_append.2 (Or.inr (List.mem_singleton.2 rfl)))]
          rcases List.mem_append.1 hy with h | h
          · exact hI.ne y h q e
          · rw [List.mem_singleton.1 h]
            rcases pre with _ | ⟨y0, pre0⟩
            · rw [hI.emp rfl] at e; cases e
            · rw [← hq y0 List.mem_cons_self]; exact hI.ne y0 List.mem_cons_self q e
        emp := fun h => by simp at h }))
    clear hI how hlow hz5 hLI b4
    refine wpIn_block ?_
    refine wpIn_seq ?_
    refine wpIn_round_plain (by rfl) (fun ⟨_, _, h⟩ => h) ?_
    go_wp2_with (go_at_call 129; refine HTC.out.mono ?_; rintro e W1 ⟨rfl, hb1⟩)
    have HB1 := Lib.hid hb1
    have HLX := Lib.hid (HLX0.out W1 hb1)
    have hI1 := HI.out.below hb1
    have hz1 := hb1.size
    have d2 : W1.cell? ⟨w.heap.size + 1 + 1, 0, none⟩ = some (.int .i64 le) := hI1.b2.cell 0
    have d3 : W1.cell? ⟨w.heap.size + 1 + 1 + 1, 0, none⟩ = some (.int .i64 fo) := hI1.b3.cell 0
    have HI1 := Lib.hid hI1
    have HO1 := Lib.hid (HOW.out.below hb1)
    clear c0 hb1 hI1 HLX0
    refine wpIn_seq ?_
    by_cases h1 : er = 0
    · by_cases h2 : fo = 0
      · by_cases h3 : mn < le
        · have HLP : Hid (lstP tk (F, le, fo) x.l = (x.l, mn, 0)) := Lib.hid (by rw [HLP.out, if_pos ⟨h1, Or.inr h3⟩])
          have h1' : (er == 0) = true := by simpa using h1
          have h2' : (fo != 0) = false := by simpa using h2
          have h3' : decide (mn < le) = true := decide_eq_true h3
          clear h1 h2 h3
          refine wpIn_round_plain (by rfl) (fun ⟨_, _, h⟩ => h) ?_
          go_wp2
          refine wpIn_cond (t := true) rfl ?_
          refine wpIn_round_plain (by rfl) (fun ⟨_, _, h⟩ => h) ?_
          go_wp2_with (go_at_call 140; refine (cloneOwn_any _ x.v x.l W1 HO1.out (by rw [HLEN.out]; omega)).mono ?_; rintro e W2 ⟨v2, rfl, hO2, hb2⟩; obtain ⟨ca, cc, ev, -⟩ := hO2.rows int_l; subst ev; have B1 := HI1.out.b1.below hb2; have B2 := HI1.out.b2.below hb2; have B3 := HI1.out.b3.below hb2; have k1 : W2.cell? ⟨w.heap.size + 1, 0, none⟩ = some V := B1.cell 0; have k2 : W2.cell? ⟨w.heap.size + 1 + 1, 0, none⟩ = some (.int .i64 le) := B2.cell 0; have k3 : W2.cell? ⟨w.heap.size + 1 + 1 + 1, 0, none⟩ = some (.int .i64 fo) := B3.cell 0; have f1 : W2.frozen? ⟨w.heap.size + 1, 0, none⟩ = false := B1.free 0; have f2 : W2.frozen? ⟨w.heap.size + 1 + 1, 0, none⟩ = false := B2.free 0; have f3 : W2.frozen? ⟨w.heap.size + 1 + 1 + 1, 0, none⟩ = false := B3.free 0; have l1 : w.heap.size + 1 + 1 + 1 < W2.heap.size := B3.lt; clear B1 B2 B3; have HO2 := Lib.hid hO2; have HB2 := Lib.hid hb2; clear hO2 hb2)
          have hne : ∀ y ∈ pre ++ [x], ∀ q, (Value.slice ca x.l.length cc).ownBlock = some q → y.v.ownBlock ≠ some q := fun y hy q e e2 => by
            obtain ⟨v, h⟩ := HONE.out
            have h1 := (HO2.out.lt q e).1
            rw [h y hy, ← h x (List.mem_append.2 (Or.inr (List.mem_singleton.2 rfl)))] at e2
            have h2 := (HO1.out.lt q e2).2
            omega
          have hP := (HI1.out.below HB2.out).put (mn := mn) (xs' := pre ++ [x]) HO2.out (by omega) hne (by simp)
          have hkk : ∀ k, k < W.heap.size → w.heap.size + 5 ≤ k → (((W2.setCell ⟨w.heap.size + 1, 0, none⟩ (.slice ca x.l.length cc)).setCell ⟨w.heap.size + 1 + 1, 0, none⟩ (.int .i64 mn)).setCell ⟨w.heap.size + 1 + 1 + 1, 0, none⟩ (.int .i64 0)).heap[k]? = W.heap[k]? := fun k hk hk2 => (hP.2 k hk2).trans ((HB2.out.block k (by omega)).trans (HB1.out.block k hk))
          have hz5 := HZ5.out
          refine ⟨⟨by simp; have := HB2.out.size; omega, fun k o hk ho _ => (hkk k (heap_lt ho) (by omega)).trans ho⟩, fun q e => hkk q (HOW.out.lt q e).2 (by have := (HOW.out.lt q e).1; omega), .slice ca x.l.length cc, ?_⟩
          rw [HSN.out, HLP.out]
          exact hP.1
        · have HLP : Hid (lstP tk (F, le, fo) x.l = (F, le, fo)) := Lib.hid (by rw [HLP.out, if_neg (by rintro ⟨_, h | h⟩; exact h h2; exact h3 h)])
          have h1' : (er == 0) = true := by simpa using h1
          have h2' : (fo != 0) = false := by simpa using h2
          have h3' : decide (mn < le) = false := decide_eq_false h3
          clear h1 h2 h3
          refine wpIn_round_plain (by rfl) (fun ⟨_, _, h⟩ => h) ?_
          go_wp2
          refine wpIn_cond (t := false) rfl ?_
          refine wpIn_skip ?_
          refine ⟨keeps_below HB1.out, fun q e => HB1.out.block q (HOW.out.lt q e).2, V, ?_⟩
          rw [HSN.out, HLP.out]
          exact HLX.out
      · have HLP : Hid (lstP tk (F, le, fo) x.l = (x.l, mn, 0)) := Lib.hid (by rw [HLP.out, if_pos ⟨h1, Or.inl h2⟩])
        have h1' : (er == 0) = true := by simpa using h1
        have h2' : (fo != 0) = true := by simpa using h2
        clear h1 h2
        refine wpIn_round_plain (by rfl) (fun ⟨_, _, h⟩ => h) ?_
        go_wp2
        refine wpIn_cond (t := true) rfl ?_
        refine wpIn_round_plain (by rfl) (fun ⟨_, _, h⟩ => h) ?_
        go_wp2_with (go_at_call 140; refine (cloneOwn_any _ x.v x.l W1 HO1.out (by rw [HLEN.out]; omega)).mono ?_; rintro e W2 ⟨v2, rfl, hO2, hb2⟩; obtain ⟨ca, cc, ev, -⟩ := hO2.rows int_l; subst ev; have B1 := HI1.out.b1.below hb2; have B2 := HI1.out.b2.below hb2; have B3 := HI1.out.b3.below hb2; have k1 : W2.cell? ⟨w.heap.size + 1, 0, none⟩ = some V := B1.cell 0; have k2 : W2.cell? ⟨w.heap.size + 1 + 1, 0, none⟩ = some (.int .i64 le) := B2.cell 0; have k3 : W2.cell? ⟨w.heap.size + 1 + 1 + 1, 0, none⟩ = some (.int .i64 fo) := B3.cell 0; have f1 : W2.frozen? ⟨w.heap.size + 1, 0, none⟩ = false := B1.free 0; have f2 : W2.frozen? ⟨w.heap.size + 1 + 1, 0, none⟩ = false := B2.free 0; have f3 : W2.frozen? ⟨w.heap.size + 1 + 1 + 1, 0, none⟩ = false := B3.free 0; have l1 : w.heap.size + 1 + 1 + 1 < W2.heap.size := B3.lt; clear B1 B2 B3; have HO2 := Lib.hid hO2; have HB2 := Lib.hid hb2; clear hO2 hb2)
        have hne : ∀ y ∈ pre ++ [x], ∀ q, (Value.slice ca x.l.length cc).ownBlock = some q → y.v.ownBlock ≠ some q := fun y hy q e e2 => by
          obtain ⟨v, h⟩ := HONE.out
          have h1 := (HO2.out.lt q e).1
          rw [h y hy, ← h x (List.mem_append.2 (Or.inr (List.mem_singleton.2 rfl)))] at e2
          have h2 := (HO1.out.lt q e2).2
          omega
        have hP := (HI1.out.below HB2.out).put (mn := mn) (xs' := pre ++ [x]) HO2.out (by omega) hne (by simp)
        have hkk : ∀ k, k < W.heap.size → w.heap.size + 5 ≤ k → (((W2.setCell ⟨w.heap.size + 1, 0, none⟩ (.slice ca x.l.length cc)).setCell ⟨w.heap.size + 1 + 1, 0, none⟩ (.int .i64 mn)).setCell ⟨w.heap.size + 1 + 1 + 1, 0, none⟩ (.int .i64 0)).heap[k]? = W.heap[k]? := fun k hk hk2 => (hP.2 k hk2).trans ((HB2.out.block k (by omega)).trans (HB1.out.block k hk))
        have hz5 := HZ5.out
        refine ⟨⟨by simp; have := HB2.out.size; omega, fun k o hk ho _ => (hkk k (heap_lt ho) (by omega)).trans ho⟩, fun q e => hkk q (HOW.out.lt q e).2 (by have := (HOW.out.lt q e).1; omega), .slice ca x.l.length cc, ?_⟩
        rw [HSN.out, HLP.out]
        exact hP.1
    · have HLP : Hid (lstP tk (F, le, fo) x.l = (F, le, fo)) := Lib.hid (by rw [HLP.out, if_neg (fun h => h1 h.1)])
      have h1' : (er == 0) = false := by simpa using h1
      clear h1
      refine wpIn_round_plain (by rfl) (fun ⟨_, _, h⟩ => h) ?_
      go_wp2
      refine wpIn_cond (t := false) rfl ?_
      refine wpIn_skip ?_
      refine ⟨keeps_below HB1.out, fun q e => HB1.out.block q (HOW.out.lt q e).2, V, ?_⟩
      rw [HSN.out, HLP.out]
      exact HLX.out
  case done =>
    rintro D xs W hD ⟨hone, hm⟩ ⟨V, hI⟩ hK
    rw [hm] at hI
    have c6 : W.cell? ⟨w.heap.size + 1, 0, none⟩ = some V := hI.b1.cell 0
    have c7 : W.cell? ⟨w.heap.size + 1 + 1, 0, none⟩ = some (.int .i64 (lstF tk (ordsL cn c)).2.1) := hI.b2.cell 0
    have c8 : W.cell? ⟨w.heap.size + 1 + 1 + 1, 0, none⟩ = some (.int .i64 (lstF tk (ordsL cn c)).2.2) := hI.b3.cell 0
    have HI := Lib.hid hI
    obtain ⟨va, vc, ev, -⟩ := hI.own.rows int_l
    subst ev
    clear hI hm hone
    gi_wp2
    refine wpIn_wide.2 ?_
    go_quiet (fail)
    gi_wp2
    have hnb : (Value.slice va (lstF tk (ordsL cn c)).1.length vc).ownBlock ≠ some D := fun e => by
      obtain ⟨cs, hcs⟩ := own_block HI.out.own D e
      rw [hK] at hcs; cases hcs
    refine ⟨by simp, .inl ⟨_, _, rfl, run_takeDeferred (w := W.drewN nq) hK, ?_⟩⟩
    refine ⟨.tuple #[.slice va (lstF tk (ordsL cn c)).1.length vc, .int .i64 (lstF tk (ordsL cn c)).2.1, .int .i64 (lstF tk (ordsL cn c)).2.2], by simp [results, Try.results113, go_sem], .slice va (lstF tk (ordsL cn c)).1.length vc, rfl, ?_, ?_⟩
    · exact ((HI.out.own.drewN nq).putObj hnb _).mono (by omega)
    · exact below_putObj (below_drewN HI.out.low nq) (by omega) _
  case stop =>
    rintro D cc pre W _ _ h _
    exact h.elim
end Go.Proofs.Ytpplcbpnojggcaa

namespace Go.Proofs.Ytpplcbpnojggcaa
open Go.RowKit Go.Maps Go.Shelf

set_option maxRecDepth 100000 in
set_option maxHeartbeats 1000000 in
theorem ready1_any (T : List PR) (ta : Option Addr) (tc b B : Nat) (O : List Int) (v : Value) (w : World) (hb : BoxAt w b #[.slice ta T.length tc] 76) (hT : TabAt w ta T) (hr : TabRight T)
    (hO : OwnR 1 3 intL w B v O) (hol : O.length ≤ 7) (hin : ∀ y ∈ O, 0 ≤ y ∧ y < T.length) :
    Calls Try.prog 129 #[v, .pointer (some ⟨b, 0, none⟩)] w (TwoPost (mkA T O, 0) w) := by
  obtain ⟨a, c, rfl, hRS, hc, -⟩ := hO.rows int_l
  have HM := Lib.hid (makeReady_any T ta T.length tc O a O.length c w rfl rfl hT hr hRS hol hin)
  have c0 : w.cell? ⟨b, 0, none⟩ = some (.slice ta T.length tc) := hb.cell 0
  clear hT hr hO hin hRS
  go_enter Try.func129, Try.ntmps129
  go_wp2_with (go_at_call 128; refine HM.out.mono ?_; rintro e w1 ⟨rfl, rfl⟩)
  go_ret2
  exact ⟨rfl, Below.refl _ _⟩
/-- What MakeReady returns: the minutes, the error. -/
def mrE (T : List PR) (O : List Int) : Int × Int := if tblErr T ≠ 0 then (0, tblErr T) else if ordErr T.length O ≠ 0 then (0, ordErr T.length O) else (mkA T O, 0)
theorem mrE_map {T T' : List PR} (h : T'.map (·.l) = T.map (·.l)) (O : List Int) : mrE T' O = mrE T O := by
  unfold mrE mkA; rw [tblErr_map h, map_len h, mkR_map h]
set_option maxRecDepth 100000 in
set_option maxHeartbeats 2000000 in
theorem MakeReady_any (T : List PR) (ta : Option Addr) (tn tc : Nat) (O : List Int) (a : Option Addr) (n oc : Nat) (w : World) (htn : tn = T.length) (hn : n = O.length) (hT : TabAt w ta T) (hTl : T.length ≤ 1000000) (hO : RowsAt 1 intL w a O) (hl : O.length ≤ maxLen) :
    Calls Try.prog 70 #[.slice ta tn tc, .slice a n oc] w (TwoPost (mrE T O) w) := by
  subst hn; subst htn
  have HCC := Lib.hid (errorOfReadyTable_any T ta T.length tc w rfl hT (by unfold maxLen; omega))
  have HEO := Lib.hid (errorOfOrder_any a O O.length oc T.length w rfl hO hl hTl)
  have HMO := Lib.hid (fun W (hb : Below w.heap.size w W) h2 h3 h4 => makeReady_any T ta T.length tc O a O.length oc W rfl rfl (hT.below hb) h2 (hO.below hb) h3 h4)
  have HDEF := Lib.hid (show mrE T O = if tblErr T ≠ 0 then (0, tblErr T) else if ordErr T.length O ≠ 0 then (0, ordErr T.length O) else (mkA T O, 0) from rfl)
  obtain ⟨R, hR⟩ : ∃ R, R = mrE T O := ⟨_, rfl⟩
  rw [← hR] at HDEF ⊢
  clear hT hO hR
  go_enter Try.func70, Try.ntmps70
  by_cases h0 : tblErr T = 0
  · have HOK := Lib.hid (tab_right h0)
    have HD1 := Lib.hid (show R = if ordErr T.length O ≠ 0 then (0, ordErr T.length O) else (mkA T O, 0) by rw [HDEF.out, if_neg (by simp [h0])])
    have H0 := Lib.hid h0
    clear h0 HDEF
    by_cases h1 : ordErr T.length O = 0
    · have HR := Lib.hid (show R = (mkA T O, 0) by rw [HD1.out, if_neg (by simp [h1])])
      have HL7 := Lib.hid (show O.length ≤ 7 by have := HOK.out.le; have h2 := (ord_right h1).1; omega)
      have HIN := Lib.hid (ord_right h1).2.2
      have H1 := Lib.hid h1
      clear h1 HD1
      go_wp2_with (first
        | (go_at_call 127; refine HCC.out.mono ?_; rintro e w1 ⟨rfl, rfl⟩; rw [H0.out])
        | (go_at_call 107; refine HEO.out.mono ?_; rintro e w2 ⟨rfl, hb2⟩; rw [H1.out]; have HB2 := Lib.hid hb2; clear hb2)
        | (go_at_call 128; refine (HMO.out _ HB2.out HOK.out HL7.out HIN.out).mono ?_; rintro e w3 ⟨rfl, rfl⟩))
      go_ret2
      exact ⟨two_to HR.out, HB2.out⟩
    · have HR := Lib.hid (show R = (0, ordErr T.length O) by rw [HD1.out, if_pos h1])
      have h1' : (ordErr T.length O != 0) = true := by simpa using h1
      obtain ⟨oe, hoe⟩ : ∃ oe, oe = ordErr T.length O := ⟨_, rfl⟩
      rw [← hoe] at HEO HR h1'
      clear h1 HD1 hoe
      go_wp2_with (first
        | (go_at_call 127; refine HCC.out.mono ?_; rintro e w1 ⟨rfl, rfl⟩; rw [H0.out])
        | (go_at_call 107; refine HEO.out.mono ?_; rintro e w2 ⟨rfl, hb2⟩))
      go_ret2
      exact ⟨two_to HR.out, hb2⟩
  · have HR := Lib.hid (show R = (0, tblErr T) by rw [HDEF.out, if_pos h0])
    have h0' : (tblErr T != 0) = true := by simpa using h0
    obtain ⟨ce, hce⟩ : ∃ ce, ce = tblErr T := ⟨_, rfl⟩
    rw [← hce] at HCC HR h0'
    clear h0 HDEF hce
    go_wp2_with (go_at_call 127; refine HCC.out.mono ?_; rintro e w1 ⟨rfl, rfl⟩)
    go_ret2
    exact ⟨two_to HR.out, Below.refl _ _⟩
/-- What LeastMakeReady returns. -/
def lmF (T : List PR) (c : Nat) : List Int × Int × Int := lstF (fun O => (mkA T O, 0)) (ordsL T.length c)
def LmPost (T : List PR) (c : Nat) (w : World) (e : Ending) (w' : World) : Prop :=
  ∃ (a : Option Addr) (n q : Nat), ((tblErr T ≠ 0 ∧ n = 0 ∧ e = .returned (.tuple #[.slice a n q, .int .i64 0, .int .i64 (tblErr T)])) ∨
  (tblErr T = 0 ∧ n = (lmF T c).1.length ∧ e = .returned (.tuple #[.slice a n q, .int .i64 (lmF T c).2.1, .int .i64 (lmF T c).2.2]) ∧ RowsAt 1 intL w' a (lmF T c).1)) ∧ Below w.heap.size w w'
theorem results_tmp3 {fn : Func} {tmps : Array Value} {w : World} {P : Program} {i j k : Nat} (hf : fn.results = #[.tmp i, .tmp j, .tmp k]) : (results fn tmps).run P w = .ok (.tuple #[tmps.getD i undef, tmps.getD j undef, tmps.getD k undef]) w := by
  simp [results, hf, go_sem]
set_option maxRecDepth 100000 in
set_option maxHeartbeats 2000000 in
theorem leastMakeReady_any (T : List PR) (ta : Option Addr) (tn tc c : Nat) (w : World) (htn : tn = T.length) (hT : TabAt w ta T) (hTl : T.length ≤ 1000000) (hE : T.length ≤ 7 → OrdsEnd T.length c) :
    Calls Try.prog 72 #[.slice ta tn tc] w (LmPost T c w) := by
  subst htn
  have hb0 := (Below.refl w.heap.size w).alloc (Nat.le_refl _) (.cells #[.slice ta T.length tc] 76)
  have bx := BoxAt.new w #[.slice ta T.length tc] 76
  have HCC := Lib.hid (errorOfReadyTable_any T ta T.length tc _ rfl (hT.below hb0) (by unfold maxLen; omega))
  have HT := Lib.hid hT
  have HBX := Lib.hid bx; have HB0 := Lib.hid hb0; have HE := Lib.hid hE
  clear hT bx hb0 hE
  go_enter Try.func72, Try.ntmps72
  by_cases h0 : tblErr T = 0
  · have HOK := Lib.hid (tab_right h0)
    have H0 := Lib.hid h0
    clear h0
    go_wp2_with (go_at_call 127; refine HCC.out.mono ?_; rintro e w1 ⟨rfl, rfl⟩; rw [H0.out])
    refine (leastReady_any T.length c (fun O => (mkA T O, 0)) (.pointer (some ⟨w.heap.size, 0, none⟩)) _ (HE.out HOK.out.le) (by have := HOK.out.le; omega) (fun O v B W hB hO hlen hin => ready1_any T ta tc w.heap.size B O v W (HBX.out.below hB) (HT.out.below (HB0.out.trans (hB.mono HB0.out.size))) HOK.out hO (by have := HOK.out.le; omega) hin)).mono ?_
    rintro e w2 ⟨v, rfl, hO2, hb2⟩
    have HLM := Lib.hid (show lmF T c = lstF (fun O => (mkA T O, 0)) (ordsL T.length c) from rfl)
    obtain ⟨st, hst⟩ : ∃ st, st = lstF (fun O => (mkA T O, 0)) (ordsL T.length c) := ⟨_, rfl⟩
    rw [← hst] at hO2 HLM ⊢
    clear hst
    obtain ⟨F, le, er⟩ := st
    dsimp only at hO2 ⊢
    obtain ⟨va, vc, ev, hrv, -⟩ := hO2.rows int_l
    subst ev
    have HF := Lib.hid (show LmPost T c w (.returned (.tuple #[.slice va F.length vc, .int .i64 le, .int .i64 er])) w2 from ⟨va, F.length, vc, Or.inr ⟨H0.out, by rw [HLM.out], by rw [HLM.out], by rw [HLM.out]; exact hrv⟩, HB0.out.trans (hb2.mono HB0.out.size)⟩)
    clear hrv hO2 hb2
    go_wp2
    (try simp only [Exit.inBlock, Exit.then]); refine bodyPost_ret (results_tmp3 rfl) rfl ?_
    exact HF.out
  · have HJ := Lib.hid h0
    have h0' : (tblErr T != 0) = true := by simpa using h0
    have HF := Lib.hid (show LmPost T c w (.returned (.tuple #[.slice none 0 0, .int .i64 0, .int .i64 (tblErr T)])) (w.alloc (.cells #[.slice ta T.length tc] 76)) from ⟨none, 0, 0, Or.inl ⟨h0, rfl, rfl⟩, HB0.out⟩)
    obtain ⟨ce, hce⟩ : ∃ ce, ce = tblErr T := ⟨_, rfl⟩
    rw [← hce] at HCC HF h0'
    clear h0 hce
    go_wp2_with (go_at_call 127; refine HCC.out.mono ?_; rintro e w1 ⟨rfl, rfl⟩)
    (try simp only [Exit.inBlock, Exit.then]); refine bodyPost_ret (results_tmp3 rfl) rfl ?_
    exact HF.out
end Go.Proofs.Ytpplcbpnojggcaa

namespace Go.Proofs.Ytpplcbpnojggcaa
open Go.RowKit Go.Maps Go.Shelf

def CIPost (L : List Int) (w : World) (e : Ending) (w' : World) : Prop := ∃ v, e = .returned v ∧ OwnR 1 3 intL w' w.heap.size v L ∧ Below w.heap.size w w'
set_option maxRecDepth 100000 in
set_option maxHeartbeats 1000000 in
theorem copyInts_any (a : Option Addr) (L : List Int) (n c : Nat) (w : World) (hn : n = L.length) (hL : RowsAt 1 intL w a L) (hl : L.length ≤ 1000000) (hd : a = none → c = 0) :
    Calls Try.prog 47 #[.slice a n c] w (CIPost L w) := by
  subst hn
  have hm := World.ownsRow_made (e := 3) (size := 1) (base := w.heap.size) w #[] 0 (Nat.le_refl _) (Nat.zero_le _) rfl
  have hown : OwnR 1 3 intL (w.alloc (.cells #[] 3)) w.heap.size (.slice (some ⟨w.heap.size, 0, none⟩) 0 0) [] := hm
  have hB := (Below.refl w.heap.size w).alloc (Nat.le_refl _) (.cells #[] 3)
  have HL := Lib.hid (hL.alloc (.cells #[] 3))
  clear hm hL
  go_enter Try.func47, Try.ntmps47
  go_wp2_with (at_builtin; refine wpList_appL tInt int_l _ rfl _ _ rfl w.heap.size _ [] rfl hown a L c rfl HL.out hd (by simp) hl (by simp) ?_; intro v' w' hown' hg' hB' hor')
  go_ret
  exact ⟨_, rfl, hown', hB.trans hB'⟩
theorem prV_l : ∀ x : PR, (prV x).length = 1 := fun _ => rfl
theorem prV_one : ∀ x : PR, ∀ u ∈ prV x, u.oneCell' = true := fun x u hu => by rw [List.mem_singleton.1 hu]; rfl
theorem tPR : ElG 1 24 76 75 (.slice none 0 0) := ⟨Try.underlying76, by kernel_rfl, rfl, by decide, by decide⟩
/-- The rows of a table, each of the call's own. -/
def OwnRows (w : World) (B : Nat) (T : List PR) : Prop := ∀ x ∈ T, OwnR 1 3 intL w B (.slice x.a x.l.length x.c) x.l
theorem OwnRows.below {w w' : World} {B : Nat} {T : List PR} (h : OwnRows w B T) (hb : Below w.heap.size w w') : OwnRows w' B T := fun x hx => (h x hx).below hb
theorem OwnRows.grown {w w' : World} {B B' n m : Nat} {v : Value} {T : List PR} {xs : List Value} (h : OwnRows w B T) (ho : w.ownsRow B' 75 n v m xs) (hg : w.grownBy w' v.ownBlock) : OwnRows w' B T := fun x hx =>
  (h x hx).grown hg (fun q e e' => rows_apart (h x hx) ho (by decide) q e e'.symm)
theorem RowsG.setC {α : Type} {n : Nat} {g : α → List Value} {w : World} {a : Option Addr} {L : List α} (h : RowsG n g w a L) {p : Addr} (hp : ∀ ad, a = some ad → ad.block ≠ p.block) (u : Value) : RowsG n g (w.setCell p u) a L := fun k hk => by
  obtain ⟨ad, e, hlt, hs⟩ := h k hk
  refine ⟨ad, e, by rw [World.size_setCell]; exact hlt, fun j hj => ?_⟩
  rw [World.cell?_setCell_other _ _ _ _ (fun e2 => hp ad e (by have := congrArg Addr.block e2; rw [fld_block, add_block] at this; exact this.symm))]
  exact hs j hj
/-- Where a table lies: from a block on. -/
def TabGe (B : Nat) (a : Option Addr) (T : List PR) : Prop := (∀ ad, a = some ad → B ≤ ad.block) ∧ ∀ x ∈ T, ∀ ad, x.a = some ad → B ≤ ad.block
theorem TabAt.set {w : World} {a : Option Addr} {T : List PR} {B : Nat} (h : TabAt w a T) (hg : TabGe B a T) {p : Addr} (hp : p.block < B) (u : Value) : TabAt (w.setCell p u) a T :=
  ⟨h.rows.setC (fun ad e => by have := hg.1 ad e; omega) u, fun x hx => (h.ints x hx).set (fun ad e => by have := hg.2 x hx ad e; omega) u⟩
theorem TabAt.drew {w : World} {a : Option Addr} {T : List PR} (h : TabAt w a T) : TabAt w.drew a T := ⟨h.rows, h.ints⟩
/-- A copy of a table. -/
def CLPost (T : List PR) (w : World) (e : Ending) (w' : World) : Prop := ∃ (a : Option Addr) (c : Nat) (T' : List PR), e = .returned (.slice a T'.length c) ∧ T'.map (·.l) = T.map (·.l) ∧ TabAt w' a T' ∧ (a = none → c = 0) ∧ (∀ x ∈ T', x.a = none → x.c = 0) ∧ TabGe w.heap.size a T' ∧ Below w.heap.size w w'
theorem pick_lt {w : World} {a : Option Addr} {T : List PR} (h : TabAt w a T) {k : Nat} (hk : k < T.length) : ∃ ad, a = some ad := by
  obtain ⟨ad, e, _⟩ := h.row hk; exact ⟨ad, e⟩
set_option maxRecDepth 100000 in
set_option maxHeartbeats 4000000 in
theorem copyLists_any (a : Option Addr) (T : List PR) (n c : Nat) (w : World) (hn : n = T.length) (hT : TabAt w a T) (hl : T.length ≤ 1000) (hsz : ∀ x ∈ T, x.l.length ≤ 1000000) (hd : ∀ x ∈ T, x.a = none → x.c = 0) :
    Calls Try.prog 71 #[.slice a n c] w (CLPost T w) := by
  subst hn
  have HSZ := Lib.hid hsz; have HD := Lib.hid hd
  clear hsz hd
  go_enter Try.func71, Try.ntmps71
  go_wp2_with fail
  go_loopw [3, 4] (fun v i wr => ∃ (k : Nat) (T' : List PR), k ≤ T.length ∧ i = .int .i64 k ∧ Hid (T'.map (·.l) = (T.take k).map (·.l)) ∧ Hid (T'.length = k) ∧ OwnG 1 75 prV wr w.heap.size v T' ∧ OwnRows wr w.heap.size T' ∧ Below w.heap.size w wr) (fun _ i _ => T.length - (intOf i).toNat)
  case atStart => exact ⟨0, [], Nat.zero_le _, rfl, Lib.hid rfl, Lib.hid rfl, OwnG.nil _ _, fun x hx => (by cases hx), Below.refl _ _⟩
  case round =>
    obtain ⟨k, T', hk, rfl, HM, HTL, hown, hrows, hB⟩ := hrel
    by_cases hlt : k < T.length
    · obtain ⟨ad, ra, rl, rc, rfl, had, hcell, hrow, hrr⟩ := (hT.below hB).pick hlt
      have hxl : rl.length ≤ 1000000 := by have := HSZ.out _ (List.getElem_mem hlt); rw [hrr] at this; exact this
      have hxd : ra = none → rc = 0 := by have := HD.out _ (List.getElem_mem hlt); rw [hrr] at this; exact this
      have HTK := Lib.hid (show (T.take (k + 1)).map (·.l) = (T.take k).map (·.l) ++ [rl] by rw [List.take_succ_eq_append_getElem hlt, List.map_append, hrr]; rfl)
      have hkl : (k : Int) < (T.length : Int) := by omega
      have HO := Lib.hid hown; have HRS := Lib.hid hrows; have HB := Lib.hid hB; have HRW := Lib.hid hrow
      clear hrr hown hrows hB hrow
      go_wp2_with (first
        | (go_at_call 47; refine (copyInts_any ra rl rl.length rc _ rfl HRW.out hxl hxd).mono ?_; rintro e w2 ⟨v2, rfl, hO2, hb2⟩; obtain ⟨a2, c2, e2, -⟩ := hO2.rows int_l; subst e2; have HO2 := Lib.hid (hO2.mono HB.out.size); have HOT := Lib.hid (HO.out.below hb2); have HRS2 := Lib.hid (HRS.out.below hb2); have HB2 := Lib.hid (HB.out.trans (hb2.mono HB.out.size)); clear hO2 hb2)
        | (at_builtin; refine wpList_appG1 tPR prV_l prV_one w2 (⟨a2, rl, c2⟩ : PR) _ rfl rfl _ _ rfl w.heap.size _ T' rfl HOT.out rfl (by have := HTL.out; omega) HB2.out.size ?_; intro v3 w3 hO3 hg3 hb3 hor3))
      have hrows3 : OwnRows w3 w.heap.size (T' ++ [⟨a2, rl, c2⟩]) := fun y hy => by
        rcases List.mem_append.1 hy with h | h
        · exact (HRS2.out.grown HOT.out hg3) y h
        · rw [List.mem_singleton.1 h]
          exact HO2.out.grown hg3 (fun q e e' => rows_apart HO2.out HOT.out (by decide) q e e'.symm)
      go_roundw
      case rel => exact ⟨k + 1, T' ++ [⟨a2, rl, c2⟩], by omega, by go_num, Lib.hid (by rw [List.map_append, HM.out, HTK.out]; rfl), Lib.hid (by rw [List.length_append, HTL.out]; rfl), hO3, hrows3, HB2.out.trans hb3⟩
      case measure => simp [intOf]; omega
    · have hk2 : k = T.length := by omega
      subst hk2
      obtain ⟨a2, c2, ev, hr2, hn2, hge2⟩ := hown.rows prV_l
      subst ev
      have HMM := Lib.hid (show T'.map (·.l) = T.map (·.l) by rw [HM.out, List.take_length])
      have hTA : TabAt wr a2 T' := ⟨hr2, fun x hx => by
        obtain ⟨a3, c3, e3, hr3, -⟩ := (hrows x hx).rows int_l
        injection e3 with e4
        rw [e4]; exact hr3⟩
      have hnil : ∀ x ∈ T', x.a = none → x.c = 0 := fun x hx => by
        obtain ⟨a3, c3, e3, -, -, -, hn3, -⟩ := (hrows x hx).rows int_l
        injection e3 with e4 _ e5
        rw [e4, e5]; exact hn3
      have hge : TabGe w.heap.size a2 T' := ⟨hge2, fun x hx => by
        obtain ⟨a3, c3, e3, -, -, -, -, hg3⟩ := (hrows x hx).rows int_l
        injection e3 with e4
        rw [e4]; exact hg3⟩
      have HTA := Lib.hid hTA; have HNL := Lib.hid hnil; have HGE := Lib.hid hge
      clear hTA hnil hge hge2 hrows hown hr2
      go_wp2
      go_ret
      exact ⟨a2, c2, T', rfl, HMM.out, HTA.out, hn2, HNL.out, HGE.out, hB⟩
end Go.Proofs.Ytpplcbpnojggcaa

namespace Go.Proofs.Ytpplcbpnojggcaa
open Go.RowKit Go.Maps Go.Shelf

/-- A number within rows, counted from the rows' beginning. -/
theorem fldj (ad : Addr) (q n r : Nat) : ad.add (q * n + r) = fld (ad.add (q * n)) r := by
  cases r with
  | zero => rfl
  | succ r =>
    show _ = (⟨(ad.add (q * n)).block, (ad.add (q * n)).off + (r + 1), none⟩ : Addr)
    unfold Addr.add
    by_cases hz : q * n = 0
    · rw [if_pos hz, if_neg (by omega), hz, Nat.zero_add]
    · rw [if_neg hz, if_neg (by omega)]
      show (⟨ad.block, ad.off + (q * n + (r + 1)), none⟩ : Addr) = ⟨ad.block, ad.off + q * n + (r + 1), none⟩
      rw [Nat.add_assoc]
/-- 'append(l, m...)' at a slice of the call's own, at a step of a region that draws. -/
theorem step_appL {α : Type} {n by_ : Nat} {ST E : TypeId} {z : Value} {g : α → List Int} (T : ElT n by_ ST E z) (hg : ∀ x, (g x).length = n) {ops : Array Oper} {o : Oper} {a : Act} {K : Act → World → Prop} {Q : Exit → Act → World → Prop} {E0 : Prop} (w : World) (hgd : o.guard = none) (s xo : Operand)
    (ho : o.op = .call { callee := .builtin .append, args := #[s, xo], argTypes := #[ST, ST] }) (B : Nat) (v : Value) (L : List α) (hs : a.eval s = v) (hown : OwnR n E g w B v L)
    (b : Option Addr) (M : List α) (m c : Nat) (hm : m = M.length) (hx : a.eval xo = .slice b m c) (hM : RowsAt n g w b M) (hbc : b = none → c = 0) (hl : L.length ≤ 1000000) (hl2 : M.length ≤ 1000000) (hB : B ≤ w.heap.size)
    (h : ∀ v' w', OwnR n E g w' B v' (L ++ M) → w.grownBy w' v.ownBlock → Below B w w' → (v'.ownBlock = v.ownBlock ∨ v'.ownBlock = some w.heap.size) → K (a.put o.dst v') w') :
    if Region.wanted o (yielded ops a.tmps) = true then Oper.wp Try.prog o a w K Q else E0 := by
  subst hm
  have hw : Region.wanted o (yielded ops a.tmps) = true := by simp [Region.wanted, hgd]
  rw [if_pos hw]
  obtain ⟨i0, hi0, hz0, hz1, hz2⟩ := info_parts T.info
  have hbl := T.by64
  cases b with
  | none =>
    have hM0 := hM.drop_none
    subst hM0
    have hc := hbc rfl
    subst hc
    have hrun := run_append_owned_none (P := Try.prog) (w := w) B ST o.type E i0 n T.sl hi0 v L.length (vals (L.flatMap g)) hown
    unfold Oper.wp
    simp [execOp, ho, resolve, invoke, builtin, hs, hx, hrun, Result.andThen]
    exact h v w (by rw [List.append_nil]; exact hown) ⟨rfl, rfl, rfl, Nat.le_refl _, fun _ _ _ => rfl⟩ (Below.refl _ _) (Or.inl rfl)
  | some ad =>
    obtain ⟨v', w', hr, h2, h3, h4, h5⟩ := run_append_own_at (P := Try.prog) w B ST o.type E i0 z n by_ T.sl hi0 hz0 hz1 hz2 T.zs T.pos v L.length (vals (L.flatMap g)) hown ad M.length c (vals (M.flatMap g))
      (by simp [vals, flat_len hg M]) (fun j u hj => by
        have hjl : j < M.length * n := by
          have := (List.getElem?_eq_some_iff.1 hj).1
          simpa [vals, flat_len hg M] using this
        have hn := T.pos
        have hk : j / n < M.length := Nat.div_lt_of_lt_mul (by rw [Nat.mul_comm]; exact hjl)
        have hjn : j % n < n := Nat.mod_lt _ hn
        have ej : j / n * n + j % n = j := by rw [Nat.mul_comm]; exact Nat.div_add_mod j n
        obtain ⟨ad', e, _, hs⟩ := hM (j / n) hk
        cases e
        have e1 := hs (j % n) hjn
        have e2 := flat_at hg M (j / n) (j % n) hk hjn
        rw [ej] at e2
        unfold vals at hj
        rw [List.getElem?_map, e2] at hj
        rw [← fldj, ej] at e1
        rw [e1, ← hj]; rfl) (vals_one _) (by unfold maxLen; omega) (Nat.le_trans (Nat.mul_le_mul_left _ hbl) (by omega)) hB
    unfold Oper.wp execOp
    simp only [ho, resolve, invoke, builtin, Sem.run_bind, Sem.run_pure, Result.andThen_ok, List.map_toArray, List.map_cons, List.map_nil, hs, hx, hr]
    refine h v' w' ?_ h3 ((Below.refl B w).grown h3 hB (fun k hk => (hown.lt k hk).1)) h5
    unfold OwnR
    rw [List.flatMap_append, vals_app, List.length_append]
    exact h2
/-- 'append(l, m...)' at a slice of the call's own, at a step of a region that draws. -/
theorem step_appG {α : Type} {n by_ : Nat} {ST E : TypeId} {z : Value} {g : α → List Value} (T : ElG n by_ ST E z) (hg : ∀ x, (g x).length = n) (ho1 : ∀ x, ∀ u ∈ g x, u.oneCell' = true) {ops : Array Oper} {o : Oper} {a : Act} {K : Act → World → Prop} {Q : Exit → Act → World → Prop} {E0 : Prop} (w : World) (hgd : o.guard = none) (s xo : Operand)
    (ho : o.op = .call { callee := .builtin .append, args := #[s, xo], argTypes := #[ST, ST] }) (B : Nat) (v : Value) (L : List α) (hs : a.eval s = v) (hown : OwnG n E g w B v L)
    (b : Option Addr) (M : List α) (m c : Nat) (hm : m = M.length) (hx : a.eval xo = .slice b m c) (hM : RowsG n g w b M) (hbc : b = none → c = 0) (hl : L.length ≤ 1000000) (hl2 : M.length ≤ 1000000) (hB : B ≤ w.heap.size)
    (h : ∀ v' w', OwnG n E g w' B v' (L ++ M) → w.grownBy w' v.ownBlock → Below B w w' → (v'.ownBlock = v.ownBlock ∨ v'.ownBlock = some w.heap.size) → K (a.put o.dst v') w') :
    if Region.wanted o (yielded ops a.tmps) = true then Oper.wp Try.prog o a w K Q else E0 := by
  subst hm
  have hw : Region.wanted o (yielded ops a.tmps) = true := by simp [Region.wanted, hgd]
  rw [if_pos hw]
  obtain ⟨i0, hi0, hz0, hz1, hz2⟩ := info_parts T.info
  have hbl := T.by64
  cases b with
  | none =>
    have hM0 := hM.drop_none
    subst hM0
    have hc := hbc rfl
    subst hc
    have hrun := run_append_owned_none (P := Try.prog) (w := w) B ST o.type E i0 n T.sl hi0 v L.length (L.flatMap g) hown
    unfold Oper.wp
    simp [execOp, ho, resolve, invoke, builtin, hs, hx, hrun, Result.andThen]
    exact h v w (by rw [List.append_nil]; exact hown) ⟨rfl, rfl, rfl, Nat.le_refl _, fun _ _ _ => rfl⟩ (Below.refl _ _) (Or.inl rfl)
  | some ad =>
    obtain ⟨v', w', hr, h2, h3, h4, h5⟩ := run_append_own_at (P := Try.prog) w B ST o.type E i0 z n by_ T.sl hi0 hz0 hz1 hz2 T.zs T.pos v L.length (L.flatMap g) hown ad M.length c (M.flatMap g)
      (flatG_len hg M) (fun j u hj => by
        have hjl : j < M.length * n := by
          have := (List.getElem?_eq_some_iff.1 hj).1
          simpa [flatG_len hg M] using this
        have hn := T.pos
        have hk : j / n < M.length := Nat.div_lt_of_lt_mul (by rw [Nat.mul_comm]; exact hjl)
        have hjn : j % n < n := Nat.mod_lt _ hn
        have ej : j / n * n + j % n = j := by rw [Nat.mul_comm]; exact Nat.div_add_mod j n
        obtain ⟨ad', e, _, hs⟩ := hM (j / n) hk
        cases e
        have e1 := hs (j % n) hjn
        have e2 := flatG_at hg M (j / n) (j % n) hk hjn
        rw [ej] at e2
        rw [e2] at hj
        have e3 : fld (ad.add (j / n * n)) (j % n) = ad.add j := by
          rcases Nat.eq_zero_or_pos (j % n) with h0 | h0
          · rw [h0]; show ad.add _ = _; rw [← ej, h0, Nat.add_zero, Nat.mul_div_cancel _ hn]
          · obtain ⟨q, hq⟩ : ∃ q, j % n = q + 1 := ⟨j % n - 1, by omega⟩
            rw [hq]
            show (⟨(ad.add (j / n * n)).block, (ad.add (j / n * n)).off + (q + 1), none⟩ : Addr) = ad.add j
            rw [← hq]
            unfold Addr.add
            by_cases hz : j / n * n = 0
            · rw [if_pos hz, if_neg (by omega)]
              have : j % n = j := by omega
              rw [this]
            · rw [if_neg hz, if_neg (by omega)]
              show (⟨ad.block, ad.off + j / n * n + j % n, none⟩ : Addr) = ⟨ad.block, ad.off + j, none⟩
              rw [Nat.add_assoc, ej]
        rw [← e3, e1]; exact hj) (flatG_one ho1 M) (by unfold maxLen; omega) (Nat.le_trans (Nat.mul_le_mul_left _ hbl) (by omega)) hB
    unfold Oper.wp execOp
    simp only [ho, resolve, invoke, builtin, Sem.run_bind, Sem.run_pure, Result.andThen_ok, List.map_toArray, List.map_cons, List.map_nil, hs, hx, hr]
    refine h v' w' ?_ h3 ((Below.refl B w).grown h3 hB (fun k hk => (hown.lt k hk).1)) h5
    unfold OwnG
    rw [List.flatMap_append, List.length_append]
    exact h2

set_option maxRecDepth 100000 in
set_option maxHeartbeats 2000000 in
theorem refOthers_any (a : Option Addr) (O : List Int) (m c n : Nat) (w : World) (hm : m = O.length) (hO : RowsAt 1 intL w a O) (hol : O.length ≤ 1000) (hn : n ≤ 1000) :
    Calls Try.prog 143 #[.slice a m c, .int .i64 n] w (LeftPost w (leftK O n)) := by
  subst hm
  have HO := Lib.hid hO
  clear hO
  go_enter Try.func143, Try.ntmps143
  go_wp2_with fail
  go_loopw [5, 6] (fun v i wr => ∃ k : Nat, k ≤ n ∧ i = .int .i64 k ∧ OwnR 1 3 intL wr w.heap.size v (leftK O k) ∧ Below w.heap.size w wr) (fun _ i _ => n - (intOf i).toNat)
  case atStart => exact ⟨0, Nat.zero_le _, rfl, OwnR.nil _ _, Below.refl _ _⟩
  case round =>
    obtain ⟨k, hk, rfl, hOL, hB⟩ := hrel
    by_cases hlt : k < n
    · have HC := Lib.hid (has_any a O O.length c (k : Int) wr rfl (HO.out.below hB) (by unfold maxLen; omega))
      have HL := Lib.hid (leftK_len O k)
      have HOW := Lib.hid hOL
      have HBW := Lib.hid hB
      have hkn : (k : Int) < (n : Int) := by omega
      clear hOL hB
      cases hc : O.contains (k : Int)
      · have HS := Lib.hid (show leftK O (k + 1) = leftK O k ++ [(k : Int)] by show (if _ then _ else _) = _; rw [hc]; rfl)
        rw [hc] at HC
        clear hc
        go_wp2_with (first | (go_at_call 112; refine HC.out.mono ?_; rintro e w' ⟨rfl, rfl⟩) | (at_builtin; refine wpList_appX tInt int_l _ (k : Int) _ rfl rfl _ _ rfl w.heap.size _ (leftK O k) rfl HOW.out rfl (by have := HL.out; omega) HBW.out.size ?_; intro gg cg wg hOg hgg hBg))
        go_roundw
        case rel => exact ⟨k + 1, by omega, by go_num, by rw [HS.out]; exact hOg, HBW.out.trans hBg⟩
        case measure => simp [intOf] <;> omega
      · have HS := Lib.hid (show leftK O (k + 1) = leftK O k by show (if _ then _ else _) = _; rw [hc]; rfl)
        rw [hc] at HC
        clear hc
        go_wp2_with (go_at_call 112; refine HC.out.mono ?_; rintro e w' ⟨rfl, rfl⟩)
        go_roundw
        case rel => exact ⟨k + 1, by omega, by go_num, by rw [HS.out]; exact HOW.out, HBW.out⟩
        case measure => simp [intOf] <;> omega
    · obtain rfl : k = n := by omega
      go_wp2
      go_ret
      exact ⟨_, rfl, hOL, hB⟩
/-- A list of orders, each in a row of the call's own. -/
def OrdsPost (L : List (List Int)) (w : World) (e : Ending) (w' : World) : Prop := ∃ (v : Value) (T : List PR), e = .returned v ∧ OwnG 1 75 prV w' w.heap.size v T ∧ OwnRows w' w.heap.size T ∧ T.map (·.l) = L ∧ Below w.heap.size w w'
theorem own_made1 (w : World) (B : Nat) (x : PR) (hB : B ≤ w.heap.size) : OwnG 1 75 prV (w.alloc (.cells #[.slice x.a x.l.length x.c] 75)) B (.slice (some ⟨w.heap.size, 0, none⟩) 1 1) [x] :=
  ⟨by simp [prV], .inr ⟨w.heap.size, 1, #[.slice x.a x.l.length x.c], rfl, hB, heap_alloc_new w _, Nat.le_refl _, by unfold maxLen; decide, rfl, rfl⟩⟩
theorem flat_map_take {α β : Type} (F : α → List β) {L : List α} {k : Nat} (hk : k < L.length) : (L.take (k + 1)).flatMap F = (L.take k).flatMap F ++ F L[k] := by
  rw [List.take_succ_eq_append_getElem hk, List.flatMap_append]; simp
set_option maxRecDepth 100000 in
set_option maxHeartbeats 8000000 in
theorem refOrders_any (n : Nat) (hn5 : n ≤ 5) : ∀ (f : Nat) (O : List Int) (a : Option Addr) (m c : Nat) (w : World), m = O.length → O.length + f = n → RowsAt 1 intL w a O → (a = none → c = 0) →
    Calls Try.prog 116 #[.slice a m c, .int .i64 n] w (OrdsPost (refOrds f n O) w) := by
  intro f
  induction f with
  | zero =>
    intro O a m c w hm hf hO hd
    subst hm
    have hE : ((O.length : Int) == (n : Int)) = true := by simp; omega
    have HC := Lib.hid (fun W h => copyInts_any a O O.length c W rfl h (by omega) hd)
    have HO := Lib.hid hO
    clear hO hf
    go_enter Try.func116, Try.ntmps116
    go_wp2_with (go_at_call 47; refine (HC.out _ HO.out).mono ?_; rintro e w2 ⟨v2, rfl, hO2, hb2⟩; obtain ⟨a2, c2, e2, -⟩ := hO2.rows int_l; subst e2)
    have HOW := Lib.hid (hO2.alloc (.cells #[.slice a2 O.length c2] 75))
    have HG := Lib.hid (own_made1 w2 w.heap.size ⟨a2, O, c2⟩ hb2.size)
    have HB := Lib.hid (hb2.alloc hb2.size (.cells #[.slice a2 O.length c2] 75))
    clear hO2 hb2 hE
    go_ret
    exact ⟨_, [⟨a2, O, c2⟩], rfl, HG.out, fun x hx => (by rw [List.mem_singleton.1 hx]; exact HOW.out), rfl, HB.out⟩
  | succ f ih =>
    intro O a m c w hm hf hO hd
    subst hm
    have hE : ((O.length : Int) == (n : Int)) = false := by rw [beq_eq_false_iff_ne]; omega
    have HC := Lib.hid (fun W h => copyInts_any a O O.length c W rfl h (by omega) hd)
    have HOT := Lib.hid (fun W h => refOthers_any a O O.length c n W rfl h (by omega) (by omega))
    have HO := Lib.hid hO
    have HIH := Lib.hid (fun (y : Int) (a2 : Option Addr) (m2 c2 : Nat) (W : World) (h2 : m2 = (O ++ [y]).length) (h : RowsAt 1 intL W a2 (O ++ [y])) (hd2 : a2 = none → c2 = 0) => ih (O ++ [y]) a2 m2 c2 W h2 (by simp; omega) h hd2)
    have HEQ := Lib.hid (show refOrds (f + 1) n O = (leftK O n).flatMap fun y => refOrds f n (O ++ [y]) from rfl)
    have HLL := Lib.hid (show ∀ k, (((leftK O n).take k).flatMap fun y => refOrds f n (O ++ [y])).length ≤ 100000 from fun k => by
      have h1 : ∀ L : List Int, L.length ≤ 5 → (L.flatMap fun y => refOrds f n (O ++ [y])).length ≤ L.length * 5 ^ 5 := by
        intro L
        induction L with
        | nil => intro _; simp
        | cons y L ih2 =>
          intro hl
          have h3 := refOrds_len f (O ++ [y]) (n := n)
          have h4 : n ^ f ≤ 5 ^ 5 := Nat.le_trans (Nat.pow_le_pow_left hn5 f) (Nat.pow_le_pow_right (by decide) (by omega))
          have h5 := ih2 (by simp at hl; omega)
          rw [List.flatMap_cons, List.length_append, List.length_cons, Nat.succ_mul]
          omega
      have h2 := leftK_len O n
      have h6 : ((leftK O n).take k).length ≤ 5 := by rw [List.length_take]; omega
      have h7 := h1 _ h6
      have h8 : ((leftK O n).take k).length * 5 ^ 5 ≤ 5 * 5 ^ 5 := Nat.mul_le_mul_right _ h6
      omega)
    have hol : O.length ≤ 5 := by omega
    have hf5 : f ≤ 5 := by omega
    clear hO hf ih
    go_enter Try.func116, Try.ntmps116
    go_wp2_with (go_at_call 143; refine (HOT.out _ HO.out).mono ?_; rintro e w2 ⟨v2, rfl, hO2, hb2⟩; obtain ⟨a2, c2, e2, -⟩ := hO2.rows int_l; subst e2)
    have HL2 := Lib.hid hO2; have HB2 := Lib.hid hb2
    obtain ⟨Lf, hLf⟩ : ∃ Lf, Lf = leftK O n := ⟨_, rfl⟩
    rw [← hLf] at HL2 HEQ HLL ⊢
    have hll : Lf.length ≤ 5 := by have := leftK_len O n; rw [hLf]; omega
    clear hO2 hb2 hE hLf HOT
    go_loopw [5, 7] (fun v i wr => ∃ (k : Nat) (T : List PR), k ≤ Lf.length ∧ i = .int .i64 k ∧ OwnG 1 75 prV wr w2.heap.size v T ∧ OwnRows wr w.heap.size T ∧ Hid (T.map (·.l) = (Lf.take k).flatMap fun y => refOrds f n (O ++ [y])) ∧ Below w2.heap.size w2 wr) (fun _ i _ => Lf.length - (intOf i).toNat)
    case atStart => exact ⟨0, [], Nat.zero_le _, rfl, OwnG.nil _ _, fun x hx => (by cases hx), Lib.hid rfl, Below.refl _ _⟩
    case round =>
      obtain ⟨k, T, hk, rfl, hown, hrows, HM, hB⟩ := hrel
      by_cases hlt : k < Lf.length
      · have hL := HL2.out.below hB
        obtain ⟨a3, c3, e3, hr3, -⟩ := hL.rows int_l
        injection e3 with e4 _ e5
        subst e4; subst e5
        obtain ⟨ad, rfl, had, s0⟩ := hr3.int hlt
        obtain ⟨y, ey⟩ : ∃ y, y = Lf[k] := ⟨_, rfl⟩
        have HFM := Lib.hid (flat_map_take (fun y => refOrds f n (O ++ [y])) hlt)
        rw [← ey] at s0 HFM
        have hkl : (k : Int) < (Lf.length : Int) := by omega
        have HOW := Lib.hid (HO.out.below (HB2.out.trans (hB.mono HB2.out.size)))
        have HOWN := Lib.hid hown; have HRS := Lib.hid hrows; have HB := Lib.hid hB
        have HTL := Lib.hid (show T.length ≤ 100000 by have h := congrArg List.length HM.out; rw [List.length_map] at h; rw [h]; exact HLL.out k)
        obtain ⟨va, vc, ev, -⟩ := hown.rows prV_l
        subst ev
        have hadb : (ad.add k).block < wr.heap.size := by rw [add_block]; exact had
        clear ey hr3 hL hown hrows hB
        go_wp2_with fail
        have HBW := Lib.hid (HB2.out.trans (HB.out.mono HB2.out.size))
        have hn5x := hn5
        go_region_law (first
          | (go_simp; go_at_call 47; refine Calls.mono (HC.out _ (by first | exact HOW.out.drew | exact HOW.out.drew.alloc _)) ?_; rintro e w3 ⟨v3, rfl, hO3, hb3⟩; obtain ⟨a3, c3, e3, -⟩ := hO3.rows int_l; subst e3; have HB3 : Hid (Below wr.heap.size wr w3) := Lib.hid (by first | exact (Below.refl _ wr).drew.trans hb3 | exact ((Below.refl _ wr).drew.alloc (Nat.le_refl _) _).trans (hb3.mono (by simp))); have HO3 : Hid (OwnR 1 3 intL w3 wr.heap.size (.slice a3 O.length c3) O) := Lib.hid (hO3.mono (by first | exact Nat.le_refl _ | simp)); (try have HM3 : Hid (RowsAt 1 intL w3 (some ⟨wr.heap.size, 0, none⟩) [y]) := Lib.hid ((IBox.lit wr.drew [y] _ rfl).below hb3).rows); have s0 : w3.cell? (ad.add k) = some (.int .i64 y) := (HB3.out.cell hadb).trans s0; clear hO3 hb3)
          | (refine step_appL tInt int_l _ (by rfl) _ _ (by rfl) wr.heap.size _ O (by rfl) (by first | exact HO3.out | exact HO3.out.alloc _) _ [y] 1 1 rfl (by rfl) (by first | exact (IBox.lit w3 [y] _ rfl).rows | exact (HM3.out)) (fun e => by cases e) (by omega) (by simp) (by first | exact HB3.out.size | (have := HB3.out.size; simp; omega)) ?_; intro v4 w4 hO4 hg4 hB4 hor4; obtain ⟨a4, c4, e4, hr4, -, -, hn4, -⟩ := hO4.rows int_l; subst e4; have HB4 : Hid (Below wr.heap.size wr w4) := Lib.hid (by first | exact HB3.out.trans hB4 | exact (HB3.out.alloc HB3.out.size _).trans hB4); have HR4 := Lib.hid hr4; clear hO4 hg4 hB4 hor4 hr4)
          | (go_simp; go_at_call 116; refine (HIH.out y a4 _ c4 _ (by simp) HR4.out hn4).mono ?_; rintro e w5 ⟨v5, T5, rfl, hG5, hR5, hm5, hb5⟩; obtain ⟨a5, c5, e5, hr5, hn5, -⟩ := hG5.rows prV_l; subst e5; have HB5 := Lib.hid (HB4.out.trans (hb5.mono HB4.out.size)); have HG5 := Lib.hid (hG5.mono HB4.out.size); have HR5 := Lib.hid hR5; have HM5 := Lib.hid hm5; have HRR5 := Lib.hid hr5; have HT5 := Lib.hid (show T5.length ≤ 100000 by have h := congrArg List.length hm5; rw [List.length_map] at h; rw [h]; exact Nat.le_trans (refOrds_len f _) (Nat.le_trans (Nat.pow_le_pow_left hn5x f) (Nat.le_trans (Nat.pow_le_pow_right (by decide) hf5) (by decide)))); clear hG5 hR5 hm5 hb5 hr5)
          | (refine step_appG tPR prV_l prV_one _ (by rfl) _ _ (by rfl) w2.heap.size _ T (by rfl) (HOWN.out.below HB5.out) _ T5 _ _ rfl (by rfl) HRR5.out hn5 (by have := HTL.out; omega) (by have := HT5.out; omega) (by have h1 := HB5.out.size; have h2 := HB.out.size; omega) ?_; intro v6 w6 hO6 hg6 hB6 hor6))
        all_goals
          have hRS6 : OwnRows w6 w.heap.size (T ++ T5) := fun z hz => by
            rcases List.mem_append.1 hz with h | h
            · exact ((HRS.out.below HB5.out).grown (HOWN.out.below HB5.out) hg6) z h
            · exact (OwnRows.grown (fun z hz => (HR5.out z hz).mono (Nat.le_trans HBW.out.size HB4.out.size)) (HOWN.out.below HB5.out) hg6) z h
          have HRS6 := Lib.hid hRS6; have HO6 := Lib.hid hO6
          have HB6 := Lib.hid (HB.out.trans ((HB5.out.mono HB.out.size).trans hB6))
          have HM6 := Lib.hid (show (T ++ T5).map (·.l) = (Lf.take (k + 1)).flatMap fun y => refOrds f n (O ++ [y]) by rw [List.map_append, HM.out, HM5.out, HFM.out])
          clear hRS6 hO6 hg6 hB6 hor6
          go_wp2
          go_roundw
          case rel => exact ⟨k + 1, T ++ T5, by omega, by go_num, HO6.out, HRS6.out, HM6, HB6.out⟩
          case measure => simp [intOf]; omega
      · obtain rfl : k = Lf.length := by omega
        obtain ⟨va, vc, ev, -⟩ := hown.rows prV_l
        subst ev
        have HE := Lib.hid (show T.map (·.l) = refOrds (f + 1) n O by rw [HEQ.out, HM.out, List.take_length])
        have HOWN := Lib.hid (hown.mono HB2.out.size); have HRS := Lib.hid hrows
        have HB := Lib.hid (HB2.out.trans (hB.mono HB2.out.size))
        clear hown hrows hB
        go_wp2
        go_ret
        exact ⟨_, T, rfl, HOWN.out, HRS.out, HE.out, HB.out⟩
end Go.Proofs.Ytpplcbpnojggcaa

namespace Go.Proofs.Ytpplcbpnojggcaa
open Go.RowKit Go.Maps Go.Shelf

def RlPost (st : List Int × Int) (w : World) (e : Ending) (w' : World) : Prop := ∃ (a : Option Addr) (n q : Nat), n = st.1.length ∧ e = .returned (.tuple #[.slice a n q, .int .i64 (max st.2 0)]) ∧ RowsAt 1 intL w' a st.1 ∧ Below w.heap.size w w'
set_option maxRecDepth 100000 in
set_option maxHeartbeats 4000000 in
theorem refLeastReady_any (T : List PR) (ta : Option Addr) (tn tc : Nat) (w : World) (htn : tn = T.length) (hT : TabAt w ta T) (hr : TabRight T) (h5 : T.length ≤ 5) :
    Calls Try.prog 74 #[.slice ta tn tc] w (RlPost (rlF (mkA T) (refOrds T.length T.length [])) w) := by
  subst htn
  have HT := Lib.hid hT; have HR := Lib.hid hr
  have HOR := Lib.hid (refOrders_any T.length h5 T.length [] none 0 0 w rfl (by simp) (RowsAt.nil _ _) (fun _ => rfl))
  have HIT := Lib.hid (refOrds_item (n := T.length) T.length [])
  have HLN := Lib.hid (show (refOrds T.length T.length []).length ≤ 100000 from Nat.le_trans (refOrds_len _ _) (Nat.le_trans (Nat.pow_le_pow_left h5 _) (Nat.le_trans (Nat.pow_le_pow_right (by decide) h5) (by decide))))
  obtain ⟨L, hL⟩ : ∃ L, L = refOrds T.length T.length [] := ⟨_, rfl⟩
  rw [← hL] at HOR HIT HLN ⊢
  clear hT hr hL
  go_enter Try.func74, Try.ntmps74
  go_wp2_with (go_at_call 116; refine HOR.out.mono ?_; rintro e w2 ⟨v2, TT, rfl, hG2, hR2, hm2, hb2⟩; obtain ⟨a2, c2, e2, hr2, -⟩ := hG2.rows prV_l; subst e2)
  have HTT := Lib.hid (show TabAt w2 a2 TT from ⟨hr2, fun x hx => by
    obtain ⟨a3, c3, e3, hr3, -⟩ := (hR2 x hx).rows int_l
    injection e3 with e4
    rw [e4]; exact hr3⟩)
  have HM2 := Lib.hid hm2; have HB2 := Lib.hid hb2
  have HTL := Lib.hid (show TT.length = L.length by have h := congrArg List.length hm2; simpa using h)
  have htl : TT.length ≤ 100000 := by have h1 := HTL.out; have h2 := HLN.out; omega
  clear hG2 hR2 hm2 hb2 hr2
  go_loopw [4, 5, 7] (fun v s i wr => ∃ (k : Nat) (ba : Option Addr) (bn bc : Nat), k ≤ TT.length ∧ i = .int .i64 k ∧ v = .slice ba bn bc ∧ s = .int .i64 (rlF (mkA T) (L.take k)).2 ∧ Hid (bn = (rlF (mkA T) (L.take k)).1.length) ∧ Hid (RowsAt 1 intL wr ba (rlF (mkA T) (L.take k)).1) ∧ Below w2.heap.size w2 wr) (fun _ _ i _ => TT.length - (intOf i).toNat)
  case atStart => exact ⟨0, none, 0, 0, Nat.zero_le _, rfl, rfl, rfl, Lib.hid rfl, Lib.hid (RowsAt.nil _ _), Below.refl _ _⟩
  case round =>
    obtain ⟨k, ba, bn, bc, hk, rfl, rfl, rfl, HBN, HBR, hB⟩ := hrel
    by_cases hlt : k < TT.length
    · have hltL : k < L.length := by have := HTL.out; omega
      obtain ⟨ad, ra, rl, rc, rfl, had, s0, hrow, hrr⟩ := (HTT.out.below hB).pick hlt
      have HLK := Lib.hid (show L[k] = rl by
        have h := HM2.out
        have h1 : (TT.map (·.l))[k]? = some rl := by rw [List.getElem?_map, List.getElem?_eq_getElem hlt, hrr]; rfl
        rw [h, List.getElem?_eq_getElem hltL] at h1
        exact Option.some.inj h1)
      obtain ⟨hi1, hi2⟩ := HIT.out _ (List.getElem_mem hltL)
      rw [HLK.out] at hi1 hi2
      have HIN := Lib.hid (show ∀ y ∈ rl, 0 ≤ y ∧ y < T.length from fun y hy => (hi2 y hy).resolve_left (by simp))
      have HST := Lib.hid (show rlF (mkA T) (L.take (k + 1)) = rlP (mkA T) (rlF (mkA T) (L.take k)) rl by rw [List.take_succ_eq_append_getElem hltL, rlF_snoc, HLK.out])
      have HTW := Lib.hid (HT.out.below (HB2.out.trans (hB.mono HB2.out.size)))
      have HROW := Lib.hid hrow
      have HB := Lib.hid hB
      have hkl : (k : Int) < (TT.length : Int) := by omega
      have hrl : rl.length ≤ 7 := by simp at hi1; omega
      obtain ⟨st, hst⟩ : ∃ st, st = rlF (mkA T) (L.take k) := ⟨_, rfl⟩
      rw [← hst] at HBN HBR HST ⊢
      obtain ⟨bo, ls⟩ := st
      dsimp only at HBN HBR ⊢
      have HRP := Lib.hid (show rlP (mkA T) (bo, ls) rl = if ls < 0 ∨ mkA T rl < ls then (rl, mkA T rl) else (bo, ls) from rfl)
      have HMK := Lib.hid (refMakeReady_any T ta T.length tc rl ra rl.length rc wr rfl rfl HTW.out HR.out HROW.out hrl HIN.out)
      obtain ⟨q, hq⟩ : ∃ q, q = mkA T rl := ⟨_, rfl⟩
      rw [← hq] at HRP HMK
      clear hB hrow hrr hst hi1 hi2 hq
      by_cases c1 : ls < 0
      · have HS := Lib.hid (show rlF (mkA T) (L.take (k + 1)) = (rl, q) by rw [HST.out, HRP.out, if_pos (Or.inl c1)])
        have c1' := decide_eq_true c1
        go_wp2_with (go_at_call 75; refine HMK.out.mono ?_; rintro e w3 ⟨rfl, hb3⟩; have s0 : w3.cell? (ad.add k) = some (.slice ra rl.length rc) := (hb3.cell (by rw [add_block]; exact had)).trans s0; have HR3 := Lib.hid (HROW.out.below hb3); have HB3 := Lib.hid (HB.out.trans (hb3.mono HB.out.size)); clear hb3)
        go_roundw
        case rel => exact ⟨k + 1, ra, rl.length, rc, by omega, by go_num, rfl, by rw [HS.out], Lib.hid (by rw [HS.out]), Lib.hid (by rw [HS.out]; exact HR3.out), HB3.out⟩
        case measure => simp [intOf]; omega
      · have c1' := decide_eq_false c1
        by_cases c2 : q < ls
        · have HS := Lib.hid (show rlF (mkA T) (L.take (k + 1)) = (rl, q) by rw [HST.out, HRP.out, if_pos (Or.inr c2)])
          have c2' := decide_eq_true c2
          go_wp2_with (go_at_call 75; refine HMK.out.mono ?_; rintro e w3 ⟨rfl, hb3⟩; have s0 : w3.cell? (ad.add k) = some (.slice ra rl.length rc) := (hb3.cell (by rw [add_block]; exact had)).trans s0; have HR3 := Lib.hid (HROW.out.below hb3); have HB3 := Lib.hid (HB.out.trans (hb3.mono HB.out.size)); clear hb3)
          go_roundw
          case rel => exact ⟨k + 1, ra, rl.length, rc, by omega, by go_num, rfl, by rw [HS.out], Lib.hid (by rw [HS.out]), Lib.hid (by rw [HS.out]; exact HR3.out), HB3.out⟩
          case measure => simp [intOf]; omega
        · have HS := Lib.hid (show rlF (mkA T) (L.take (k + 1)) = (bo, ls) by rw [HST.out, HRP.out, if_neg (by rintro (h | h); exact c1 h; exact c2 h)])
          have c2' := decide_eq_false c2
          go_wp2_with (go_at_call 75; refine HMK.out.mono ?_; rintro e w3 ⟨rfl, hb3⟩; have HR3 := Lib.hid (HBR.out.below hb3); have HB3 := Lib.hid (HB.out.trans (hb3.mono HB.out.size)); clear hb3)
          go_roundw
          case rel => exact ⟨k + 1, ba, bn, bc, by omega, by go_num, rfl, by rw [HS.out], Lib.hid (by rw [HS.out]; exact HBN.out), Lib.hid (by rw [HS.out]; exact HR3.out), HB3.out⟩
          case measure => simp [intOf]; omega
    · have HTK := Lib.hid (show L.take k = L by rw [List.take_of_length_le (by have := HTL.out; omega)])
      have HB := Lib.hid (HB2.out.trans (hB.mono HB2.out.size))
      rw [HTK.out] at HBN HBR ⊢
      clear hB
      go_wp2
      go_ret2
      exact ⟨ba, bn, bc, HBN.out, rfl, HBR.out, HB.out⟩
theorem mkA_map {T T' : List PR} (h : T'.map (·.l) = T.map (·.l)) : mkA T' = mkA T := by
  funext O; unfold mkA; rw [mkR_map h]
theorem lmF_map {T T' : List PR} (h : T'.map (·.l) = T.map (·.l)) (c : Nat) : lmF T' c = lmF T c := by
  unfold lmF; rw [mkA_map h, map_len h]
theorem rlF_in (mk : List Int → Int) : ∀ (n : Nat) (L : List (List Int)), L.length = n → (rlF mk L).1 ∈ L ∨ (rlF mk L).1 = []
  | 0, L, h => by rw [List.eq_nil_of_length_eq_zero h]; exact Or.inr rfl
  | n + 1, L, h => by
    obtain ⟨L0, O, rfl⟩ : ∃ L0 O, L = L0 ++ [O] := ⟨L.dropLast, L.getLast (fun e => by rw [e] at h; cases h), (List.dropLast_concat_getLast _).symm⟩
    rw [rlF_snoc]
    unfold rlP
    split
    · exact Or.inl (List.mem_append.2 (Or.inr (List.mem_singleton.2 rfl)))
    · rcases rlF_in mk n L0 (by simpa using h) with h1 | h1
      · exact Or.inl (List.mem_append.2 (Or.inl h1))
      · exact Or.inr h1
/-- The orders of both sides, and what both find. -/
theorem least_both {T : List PR} (hr : TabRight T) (h5 : T.length ≤ 5) : ∃ (c : Nat) (F : List Int) (le : Int), OrdsEnd T.length c ∧ lmF T c = (F, le, 0) ∧ rlF (mkA T) (refOrds T.length T.length []) = (F, le) ∧ 0 ≤ le ∧ F.length ≤ 5 ∧ ∀ O, ordErr T.length O = 0 → le ≤ mkA T O := by
  obtain ⟨c, hE, hL⟩ := ords_all h5
  have h0 : ∀ O, 0 ≤ mkA T O := fun O => (mkR_bd hr O _).1
  obtain ⟨h1, h2⟩ := ls_rl (mk := mkA T) (tk := fun O => (mkA T O, 0)) _ (refOrds T.length T.length []) rfl (fun O _ => ⟨h0 O, rfl⟩)
  have hlm : lmF T c = lstF (fun O => (mkA T O, 0)) (refOrds T.length T.length []) := by unfold lmF; rw [hL]
  rcases h2 with ⟨-, -, -, e⟩ | ⟨e1, e2, e3, e4⟩
  · have h3 : (ordsL T.length c).length = 0 := by rw [hL, e]; rfl
    unfold ordsL at h3
    have := hE.pos
    simp at h3; omega
  · refine ⟨c, (rlF (mkA T) (refOrds T.length T.length [])).1, (rlF (mkA T) (refOrds T.length T.length [])).2, hE, ?_, rfl, e3, ?_, fun O hO => e4 O (ord_in_all hO)⟩
    · rw [hlm]
      exact Prod.ext h1 (Prod.ext e2 e1)
    · rcases rlF_in (mkA T) _ (refOrds T.length T.length []) rfl with h | h
      · have h9 := (refOrds_item (n := T.length) T.length [] _ h).1; simp at h9; omega
      · rw [h]; decide
end Go.Proofs.Ytpplcbpnojggcaa

namespace Go.Proofs.Ytpplcbpnojggcaa
open Go.RowKit Go.Maps Go.Shelf

theorem RowsG.run {w : World} {a : Option Addr} {L : List RunR} (h : RowsG 7 runV w a L) {k : Nat} (hk : k < L.length) : ∃ ad, a = some ad ∧ (ad.add (k * 7)).block < w.heap.size ∧
    w.cell? (ad.add (k * 7)) = some (.string L[k].x.job) ∧ w.cell? ⟨(ad.add (k * 7)).block, (ad.add (k * 7)).off + 1, none⟩ = some (.int .i64 L[k].x.day) ∧ w.cell? ⟨(ad.add (k * 7)).block, (ad.add (k * 7)).off + 2, none⟩ = some (.int .i64 L[k].x.wanted) ∧ w.cell? ⟨(ad.add (k * 7)).block, (ad.add (k * 7)).off + 3, none⟩ = some (.int .i64 L[k].x.given) ∧
    w.cell? ⟨(ad.add (k * 7)).block, (ad.add (k * 7)).off + 4, none⟩ = some (.slice L[k].a L[k].x.cols.length L[k].c) ∧ w.cell? ⟨(ad.add (k * 7)).block, (ad.add (k * 7)).off + 5, none⟩ = some (.int .i64 L[k].x.ready) ∧ w.cell? ⟨(ad.add (k * 7)).block, (ad.add (k * 7)).off + 6, none⟩ = some (.int .i64 L[k].x.hour) := by
  obtain ⟨ad, e, hlt, hs⟩ := h k hk
  exact ⟨ad, e, by rw [add_block]; exact hlt, hs 0 (by decide), hs 1 (by decide), hs 2 (by decide), hs 3 (by decide), hs 4 (by decide), hs 5 (by decide), hs 6 (by decide)⟩
theorem RunsAt.below {w w' : World} {a : Option Addr} {L : List RunR} (h : RunsAt w a L) (hb : Below w.heap.size w w') : RunsAt w' a L := ⟨h.row.below hb, fun y hy => (h.cols y hy).below hb⟩
theorem own_made4 (w : World) (B : Nat) (x : Job) (hB : B ≤ w.heap.size) : OwnG 4 136 jobV (w.alloc (.cells #[.string x.name, .int .i64 x.ready, .int .i64 x.mins, .int .i64 x.due] 136)) B (.slice (some ⟨w.heap.size, 0, none⟩) 1 1) [x] :=
  ⟨by simp [jobV], .inr ⟨w.heap.size, 1, #[.string x.name, .int .i64 x.ready, .int .i64 x.mins, .int .i64 x.due], rfl, hB, heap_alloc_new w _, Nat.le_refl _, by unfold maxLen; decide, rfl, rfl⟩⟩
theorem rows_made4 (w : World) (x : Job) : RowsG 4 jobV (w.alloc (.cells #[.string x.name, .int .i64 x.ready, .int .i64 x.mins, .int .i64 x.due] 136)) (some ⟨w.heap.size, 0, none⟩) [x] := by
  obtain ⟨a, c, e, h, -⟩ := (own_made4 w w.heap.size x (Nat.le_refl _)).rows job_l
  injection e with e1
  rw [e1]; exact h
theorem own_made3 (w : World) (B : Nat) (x : Sl) (hB : B ≤ w.heap.size) : OwnR 3 113 Sl.l (w.alloc (.cells #[.int .i64 x.job, .int .i64 x.from_, .int .i64 x.mins] 113)) B (.slice (some ⟨w.heap.size, 0, none⟩) 1 1) [x] :=
  ⟨by simp [Sl.l, vals], .inr ⟨w.heap.size, 1, #[.int .i64 x.job, .int .i64 x.from_, .int .i64 x.mins], rfl, hB, heap_alloc_new w _, Nat.le_refl _, by unfold maxLen; decide, rfl, rfl⟩⟩
theorem rows_made3 (w : World) (x : Sl) : RowsAt 3 Sl.l (w.alloc (.cells #[.int .i64 x.job, .int .i64 x.from_, .int .i64 x.mins] 113)) (some ⟨w.heap.size, 0, none⟩) [x] := by
  obtain ⟨a, c, e, h, -⟩ := (own_made3 w w.heap.size x (Nat.le_refl _)).rows sl_l
  injection e with e1
  rw [e1]; exact h
theorem own_empty (W : World) : OwnG 4 136 jobV (W.alloc (.cells #[] 136)) W.heap.size (.slice (some ⟨W.heap.size, 0, none⟩) 0 0) [] :=
  World.ownsRow_made (e := 136) (size := 4) (base := W.heap.size) W #[] 0 (Nat.le_refl _) (Nat.zero_le _) rfl
theorem within_yes (j n : Nat) (hj : j < n) (W : World) : Calls Try.prog 30 #[.int .i64 (j : Int), .int .i64 0, .int .i64 ((n : Int) - 1)] W fun e W' => e = .returned (.bool true) ∧ W = W' := by
  have h := within_any (j : Int) 0 ((n : Int) - 1) W
  have e : inB (j : Int) 0 ((n : Int) - 1) = true := inB_iff.2 ⟨by omega, by omega⟩
  rw [e] at h; exact h
theorem fresh_bd {fr : Nat} {r : Int} (h : fr ≤ 6) (h0 : 0 ≤ r) (h1 : r ≤ 10000) : IntKind.i64.wrap ((fr : Int) * r) = (fr : Int) * r ∧ 0 ≤ min ((fr : Int) * r) 10000 ∧ min ((fr : Int) * r) 10000 ≤ 10000 := by
  have h2 : 0 ≤ (fr : Int) * r := Int.mul_nonneg (by omega) h0
  have h3 : (fr : Int) * r ≤ 6 * r := Int.mul_le_mul_of_nonneg_right (by omega) h0
  obtain ⟨z, hz⟩ : ∃ z, z = (fr : Int) * r := ⟨_, rfl⟩
  rw [← hz] at h2 h3 ⊢
  exact ⟨IntWalk.i64_in _ (by omega), by omega, by omega⟩
/-- What is kept of the jobs that are made of runs. -/
structure MadeOf (R : List RunR) (k : Nat) (J : List Job) : Prop where
  len : J.length = k
  once : ∀ x ∈ J, x.ready = 0
  name : ∀ x ∈ J, x.name.size ≤ 2
  run : ∀ y ∈ R.take k, runErr y.x = 0
theorem MadeOf.nil (R : List RunR) : MadeOf R 0 [] := ⟨rfl, fun x hx => (by cases hx), fun x hx => (by cases hx), fun y hy => (by simp at hy)⟩
theorem MadeOf.more {R : List RunR} {k : Nat} {J : List Job} (h : MadeOf R k J) (hk : k < R.length) (he : runErr R[k].x = 0) {s : ByteArray} (hs : s.size ≤ 1) (m d : Int) : MadeOf R (k + 1) (J ++ [⟨⟨#[106]⟩ ++ s, 0, m, d⟩]) := by
  refine ⟨by simp [h.len], fun x hx => ?_, fun x hx => ?_, fun y hy => ?_⟩
  · rcases List.mem_append.1 hx with h1 | h1
    · exact h.once x h1
    · rw [List.mem_singleton.1 h1]
  · rcases List.mem_append.1 hx with h1 | h1
    · exact h.name x h1
    · rw [List.mem_singleton.1 h1]
      show (⟨#[106]⟩ ++ s : ByteArray).size ≤ 2
      rw [ByteArray.size_append]
      have : (⟨#[106]⟩ : ByteArray).size = 1 := rfl
      omega
  · rw [List.take_succ_eq_append_getElem hk] at hy
    rcases List.mem_append.1 hy with h1 | h1
    · exact h.run y h1
    · rw [List.mem_singleton.1 h1]; exact he
theorem rowsE_zero {n : Nat} {least : Int} : ∀ {T : List PR}, (∀ x ∈ T, x.l.length = n ∧ ∀ y ∈ x.l, least ≤ y ∧ y ≤ 10000) → rowsE n least T = 0
  | [], _ => rfl
  | x :: T, h => by
    unfold rowsE
    obtain ⟨h1, h2⟩ := h x List.mem_cons_self
    have h3 : rowErr n least x.l = 0 := by
      unfold rowErr
      rw [if_neg (by omega), if_pos]
      exact List.all_eq_true.2 fun y hy => inB_iff.2 (h2 y hy)
    rw [if_neg (by simp [h3])]
    exact rowsE_zero fun y hy => h y (List.mem_cons_of_mem _ hy)
theorem right_tbl {T : List PR} (h : TabRight T) : tblErr T = 0 := by
  unfold tblErr
  rw [if_neg (by have := h.le; omega)]
  exact rowsE_zero h.rows
end Go.Proofs.Ytpplcbpnojggcaa
