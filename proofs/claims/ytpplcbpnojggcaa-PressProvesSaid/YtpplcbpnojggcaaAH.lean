/-
  Package press: tables of make-ready: their check, what an order takes, by the program and by the reference.
-/
import Derived.BigQuiet
import Derived.Test.YtpplcbpnojggcaaAB
namespace Go.Proofs.Ytpplcbpnojggcaa
open Go.RowKit Go.Maps Go.Shelf

def tabI (T : List PR) (e c : Nat) : Int := (T.getD e noPR).l.getD c 0
def mkR (T : List PR) (O : List Int) : Nat → Int
  | 0 => 0
  | k + 1 => mkR T O k + tabI T (O.getD (k - 1) 0).toNat (O.getD k 0).toNat
def mkA (T : List PR) (O : List Int) : Int := mkR T O O.length
/-- What is wrong with a table. -/
def tblErr (T : List PR) : Int := if 7 < T.length then 8 else rowsE T.length 0 T
structure TabRight (T : List PR) : Prop where
  le : T.length ≤ 7
  rows : ∀ r ∈ T, r.l.length = T.length ∧ ∀ y ∈ r.l, 0 ≤ y ∧ y ≤ 10000
theorem tab_right {T : List PR} (h : tblErr T = 0) : TabRight T := by
  unfold tblErr at h
  split at h
  · cases h
  exact ⟨by omega, rowsE_ok h⟩
theorem tabI_map {T T' : List PR} (h : T'.map (·.l) = T.map (·.l)) (e c : Nat) : tabI T' e c = tabI T e c := by
  have g : ∀ S : List PR, (S.getD e noPR).l = (S.map (·.l)).getD e [] := fun S => by
    rw [List.getD_eq_getElem?_getD, List.getD_eq_getElem?_getD, List.getElem?_map]
    cases S[e]? <;> rfl
  unfold tabI; rw [g, g, h]
theorem mkR_map {T T' : List PR} (h : T'.map (·.l) = T.map (·.l)) (O : List Int) : ∀ k, mkR T' O k = mkR T O k
  | 0 => rfl
  | k + 1 => by unfold mkR; rw [mkR_map h O k, tabI_map h]
theorem map_len {T T' : List PR} (h : T'.map (·.l) = T.map (·.l)) : T'.length = T.length := by
  have := congrArg List.length h; simpa using this
theorem rowsE_map9 {n : Nat} {least : Int} : ∀ {T T' : List PR}, T'.map (·.l) = T.map (·.l) → rowsE n least T' = rowsE n least T
  | [], [], _ => rfl
  | [], _ :: _, h => by cases h
  | _ :: _, [], h => by cases h
  | x :: T, y :: T', h => by
    have h1 : y.l = x.l := by simpa using (List.cons.inj h).1
    have h2 : T'.map (·.l) = T.map (·.l) := (List.cons.inj h).2
    unfold rowsE
    rw [h1, rowsE_map9 h2]
theorem tblErr_map {T T' : List PR} (h : T'.map (·.l) = T.map (·.l)) : tblErr T' = tblErr T := by
  unfold tblErr; rw [map_len h, rowsE_map9 h]
theorem tab_bd {T : List PR} (h : TabRight T) (e c : Nat) : 0 ≤ tabI T e c ∧ tabI T e c ≤ 10000 := by
  unfold tabI
  rcases Nat.lt_or_ge e T.length with he | he
  · have : T.getD e noPR = T[e] := by rw [List.getD_eq_getElem?_getD, List.getElem?_eq_getElem he]; rfl
    rw [this]
    exact getD_bd (h.rows _ (List.getElem_mem he)).2 (by omega) c
  · have : T.getD e noPR = noPR := by rw [List.getD_eq_getElem?_getD, List.getElem?_eq_none he]; rfl
    rw [this]
    show 0 ≤ ([] : List Int).getD c 0 ∧ ([] : List Int).getD c 0 ≤ 10000
    simp
theorem mkR_bd {T : List PR} (h : TabRight T) (O : List Int) : ∀ k, 0 ≤ mkR T O k ∧ mkR T O k ≤ 10000 * k
  | 0 => by unfold mkR; omega
  | k + 1 => by
    have h1 := mkR_bd h O k
    have h2 := tab_bd h (O.getD (k - 1) 0).toNat (O.getD k 0).toNat
    unfold mkR; omega
theorem tab_row {T : List PR} (h : TabRight T) {e c : Nat} {ra : Option Addr} {rl : List Int} {rc : Nat} (he : e < T.length) (hr : T[e] = ⟨ra, rl, rc⟩) (hc : c < T.length) :
    ∃ d, (∃ h : c < rl.length, rl[c] = d) ∧ tabI T e c = d ∧ 0 ≤ d ∧ d ≤ 10000 := by
  have h1 := (h.rows _ (List.getElem_mem he)).1
  rw [hr] at h1
  have h2 : c < rl.length := by have h1 : rl.length = T.length := h1; omega
  have h3 : T.getD e noPR = ⟨ra, rl, rc⟩ := by rw [List.getD_eq_getElem?_getD, List.getElem?_eq_getElem he, hr]; rfl
  have h4 := tab_bd h e c
  have h5 : tabI T e c = rl[c] := by unfold tabI; rw [h3]; exact getD_eqI h2
  exact ⟨rl[c], ⟨h2, rfl⟩, h5, by rw [← h5]; exact h4⟩
/-- A cell of a table, in memory. -/
theorem TabAt.at_ {w : World} {a : Option Addr} {T : List PR} (h : TabAt w a T) (hr : TabRight T) {e c : Nat} (he : e < T.length) (hc : c < T.length) :
    ∃ ad rad rn rc, a = some ad ∧ ad.block < w.heap.size ∧ rad.block < w.heap.size ∧ w.cell? (ad.add e) = some (.slice (some rad) rn rc) ∧ c < rn ∧ rn = T.length ∧ w.cell? (rad.add c) = some (.int .i64 (tabI T e c)) := by
  obtain ⟨ad, ra, rl, rc, ha, had, hcell, hrow, hrr⟩ := h.pick he
  obtain ⟨d, ⟨hcr, ed⟩, hd, -⟩ := tab_row hr he hrr hc
  obtain ⟨rad, hra, hrad, s⟩ := hrow.int hcr
  have hl : rl.length = T.length := by have := (hr.rows _ (List.getElem_mem he)).1; rw [hrr] at this; exact this
  subst hra
  exact ⟨ad, rad, rl.length, rc, ha, had, hrad, hcell, hcr, hl, by rw [hd, ← ed]; exact s⟩
set_option maxRecDepth 100000 in
set_option maxHeartbeats 1000000 in
theorem errorOfReadyTable_any (T : List PR) (a : Option Addr) (n c : Nat) (w : World) (hn : n = T.length) (hT : TabAt w a T) (hl : T.length ≤ maxLen) :
    Calls Try.prog 127 #[.slice a n c] w fun e w' => e = .returned (.int .i64 (tblErr T)) ∧ w = w' := by
  unfold maxLen at hl
  subst hn
  have HT := Lib.hid hT
  clear hT
  go_enter Try.func127, Try.ntmps127
  by_cases h7 : 7 < T.length
  · have HE := Lib.hid (show tblErr T = 8 by unfold tblErr; rw [if_pos h7])
    have h7' : (7 : Int) < (T.length : Int) := by omega
    clear h7
    go_wp2_with fail
    go_ret
    exact ⟨ret_int HE.out.symm, rfl⟩
  · have HE := Lib.hid (show tblErr T = rowsE T.length 0 T by unfold tblErr; rw [if_neg h7])
    have h7' : ¬ (7 : Int) < (T.length : Int) := by omega
    have HR := Lib.hid (errorOfRows_any T a T.length c 0 w rfl HT.out (by omega))
    clear h7
    go_wp2_with (go_at_call 111; refine HR.out.mono ?_; rintro e w' ⟨rfl, rfl⟩)
    go_ret
    exact ⟨ret_int HE.out.symm, rfl⟩
set_option maxRecDepth 100000 in
set_option maxHeartbeats 4000000 in
theorem makeReady_any (T : List PR) (ta : Option Addr) (tn tc : Nat) (O : List Int) (a : Option Addr) (n oc : Nat) (w : World) (htn : tn = T.length) (hn : n = O.length) (hT : TabAt w ta T) (hr : TabRight T) (hO : RowsAt 1 intL w a O) (hol : O.length ≤ 7) (hin : ∀ y ∈ O, 0 ≤ y ∧ y < T.length) :
    Calls Try.prog 128 #[.slice ta tn tc, .slice a n oc] w fun e w' => e = .returned (.int .i64 (mkA T O)) ∧ w = w' := by
  subst hn; subst htn
  have HT := Lib.hid hT; have HR := Lib.hid hr; have HIN := Lib.hid hin; have HO := Lib.hid hO
  clear hT hr hin hO
  go_enter Try.func128, Try.ntmps128
  go_wp2_with fail
  go_loop [5, 11] (fun s i => ∃ k : Nat, k ≤ O.length ∧ i = .int .i64 k ∧ s = .int .i64 (mkR T O k)) (fun _ i => O.length - (intOf i).toNat)
  case atStart => exact ⟨0, Nat.zero_le _, rfl, rfl⟩
  case round =>
    obtain ⟨k, hk, rfl, rfl⟩ := hrel
    by_cases hlt : k < O.length
    · have hp : k - 1 < O.length := by omega
      obtain ⟨ad, rfl, had, s0⟩ := HO.out.int hlt
      obtain ⟨ad', ea', -, s1⟩ := HO.out.int hp
      injection ea' with ea'
      subst ea'
      have hi1 := HIN.out _ (List.getElem_mem hlt)
      have hi2 := HIN.out _ (List.getElem_mem hp)
      have HG1 := Lib.hid (getD_eqI (d := 0) hlt)
      have HG2 := Lib.hid (getD_eqI (d := 0) hp)
      obtain ⟨y, ey⟩ : ∃ y, y = O[k] := ⟨_, rfl⟩
      obtain ⟨z, ez⟩ : ∃ z, z = O[k - 1] := ⟨_, rfl⟩
      rw [← ey] at s0 hi1 HG1
      rw [← ez] at s1 hi2 HG2
      obtain ⟨cN, rfl⟩ : ∃ cN : Nat, y = cN := ⟨y.toNat, by omega⟩
      obtain ⟨eN, rfl⟩ : ∃ eN : Nat, z = eN := ⟨z.toNat, by omega⟩
      obtain ⟨tad, rad, rn, rc, hta, htb, hrb, s2, hcr, hrn, s3⟩ := HT.out.at_ HR.out (e := eN) (c := cN) (by omega) (by omega)
      subst hta
      have HS := Lib.hid (show mkR T O (k + 1) = mkR T O k + tabI T (O.getD (k - 1) 0).toNat (O.getD k 0).toNat from rfl)
      rw [HG1.out, HG2.out, show ((cN : Int)).toNat = cN by omega, show ((eN : Int)).toNat = eN by omega] at HS
      have hb1 := mkR_bd HR.out O k
      have hb2 := tab_bd HR.out eN cN
      obtain ⟨d, hd⟩ : ∃ d, d = tabI T eN cN := ⟨_, rfl⟩
      rw [← hd] at s3 HS hb2
      obtain ⟨q, hq⟩ : ∃ q, q = mkR T O k := ⟨_, rfl⟩
      rw [← hq] at HS hb1 ⊢
      have hw1 : IntKind.i64.wrap (q + d) = q + d := IntWalk.i64_in _ (by omega)
      have hw2 : IntKind.i64.wrap ((k : Int) - 1) = (k : Int) - 1 := IntWalk.i64_in _ (by omega)
      have hmx : max ((k : Int) - 1) 0 = ((k - 1 : Nat) : Int) := by omega
      have hmx2 : (if (k : Int) - 1 < 0 then (0 : Int) else (k : Int) - 1) = ((k - 1 : Nat) : Int) := by split <;> omega
      have hkO : (k : Int) < (O.length : Int) := by omega
      have hpO : ((k - 1 : Nat) : Int) < (O.length : Int) := by omega
      have hcr' : (cN : Int) < (rn : Int) := by omega
      have heT : (eN : Int) < (T.length : Int) := hi2.2
      have HRN := Lib.hid hrn
      clear ey ez hd hq HG1 HG2 hi1 hi2 hrn
      go_wp2
      go_round
      case rel => exact ⟨k + 1, by omega, by go_num, by rw [HS.out]⟩
      case measure => simp [intOf]; omega
    · obtain rfl : k = O.length := by omega
      go_wp2
      go_ret
      exact ⟨rfl, rfl⟩
set_option maxRecDepth 100000 in
set_option maxHeartbeats 4000000 in
theorem refMakeReady_any (T : List PR) (ta : Option Addr) (tn tc : Nat) (O : List Int) (a : Option Addr) (n oc : Nat) (w : World) (htn : tn = T.length) (hn : n = O.length) (hT : TabAt w ta T) (hr : TabRight T) (hO : RowsAt 1 intL w a O) (hol : O.length ≤ 7) (hin : ∀ y ∈ O, 0 ≤ y ∧ y < T.length) :
    Calls Try.prog 75 #[.slice ta tn tc, .slice a n oc] w (CheckPost (mkA T O) w) := by
  subst hn; subst htn
  have HT := Lib.hid hT; have HR := Lib.hid hr; have HIN := Lib.hid hin; have HO := Lib.hid hO
  clear hT hr hin hO
  go_enter Try.func75, Try.ntmps75
  go_wp2_with fail
  go_loopw [5, 6] (fun s i wr => ∃ k : Nat, k ≤ O.length ∧ i = .int .i64 k ∧ s = .int .i64 (mkR T O k) ∧ Drew w wr) (fun _ i _ => O.length - (intOf i).toNat)
  case atStart => exact ⟨0, Nat.zero_le _, rfl, rfl, Drew.refl _⟩
  case round =>
    obtain ⟨k, hk, rfl, rfl, hdr⟩ := hrel
    by_cases hlt : k < O.length
    · have hp : k - 1 < O.length := by omega
      have hOW := hdr.rows HO.out
      have hTW := HT.out.below (hdr.below (Below.refl _ _))
      obtain ⟨ad, rfl, had, s0⟩ := hOW.int hlt
      obtain ⟨ad', ea', -, s1⟩ := hOW.int hp
      injection ea' with ea'
      subst ea'
      have hi1 := HIN.out _ (List.getElem_mem hlt)
      have hi2 := HIN.out _ (List.getElem_mem hp)
      have HG1 := Lib.hid (getD_eqI (d := 0) hlt)
      have HG2 := Lib.hid (getD_eqI (d := 0) hp)
      obtain ⟨y, ey⟩ : ∃ y, y = O[k] := ⟨_, rfl⟩
      obtain ⟨z, ez⟩ : ∃ z, z = O[k - 1] := ⟨_, rfl⟩
      rw [← ey] at s0 hi1 HG1
      rw [← ez] at s1 hi2 HG2
      obtain ⟨cN, rfl⟩ : ∃ cN : Nat, y = cN := ⟨y.toNat, by omega⟩
      obtain ⟨eN, rfl⟩ : ∃ eN : Nat, z = eN := ⟨z.toNat, by omega⟩
      obtain ⟨tad, rad, rn, rc, hta, htb, hrb, s2, hcr, hrn, s3⟩ := hTW.at_ HR.out (e := eN) (c := cN) (by omega) (by omega)
      subst hta
      have HS := Lib.hid (show mkR T O (k + 1) = mkR T O k + tabI T (O.getD (k - 1) 0).toNat (O.getD k 0).toNat from rfl)
      rw [HG1.out, HG2.out, show ((cN : Int)).toNat = cN by omega, show ((eN : Int)).toNat = eN by omega] at HS
      have hb1 := mkR_bd HR.out O k
      have hb2 := tab_bd HR.out eN cN
      obtain ⟨d, hd⟩ : ∃ d, d = tabI T eN cN := ⟨_, rfl⟩
      rw [← hd] at s3 HS hb2
      have HQ0 := Lib.hid (show k = 0 → mkR T O k = 0 from fun e => by rw [e]; rfl)
      obtain ⟨q, hq⟩ : ∃ q, q = mkR T O k := ⟨_, rfl⟩
      rw [← hq] at HS hb1 HQ0 ⊢
      have hw1 : IntKind.i64.wrap (q + d) = q + d := IntWalk.i64_in _ (by omega)
      have hw2 : IntKind.i64.wrap ((k : Int) - 1) = (k : Int) - 1 := IntWalk.i64_in _ (by omega)
      have hkO : (k : Int) < (O.length : Int) := by omega
      have hcr' : (cN : Int) < (rn : Int) := by omega
      have heT : (eN : Int) < (T.length : Int) := hi2.2
      have HRN := Lib.hid hrn
      have HYZ := Lib.hid (show k = 0 → eN = cN from fun e => by subst e; have h := ey.trans ez.symm; omega)
      clear ey ez hd hq HG1 HG2 hi1 hi2 hrn hOW hTW
      by_cases hk0 : k = 0
      · have HS1 := Lib.hid (show mkR T O 1 = d by have := HS.out; rw [hk0, Nat.zero_add] at this; have h0 := HQ0.out hk0; omega)
        have hyz := HYZ.out hk0
        subst hyz
        subst hk0
        have z0 : wr.cell? ad = some (.int .i64 (eN : Int)) := by have h := s0; rw [show ad.add 0 = ad by unfold Addr.add; rw [if_pos rfl]] at h; exact h
        go_wp2_with fail
        go_quiet (fail)
        go_wp2
        go_roundw
        case rel => exact ⟨1, by omega, by go_num, by rw [HS1.out], hdr.drewN _⟩
        case measure => simp [intOf]; omega
      · obtain ⟨p, hpk⟩ : ∃ p, p = k - 1 := ⟨_, rfl⟩
        rw [← hpk] at s1
        have hw3 : IntKind.i64.wrap ((k : Int) - 1) = (p : Int) := by rw [hw2]; omega
        have hz : ((k : Int) == 0) = false := by rw [beq_eq_false_iff_ne]; omega
        have hpO : (p : Int) < (O.length : Int) := by omega
        clear hk0 hp hw2 hpk
        go_wp2_with fail
        go_quiet (fail)
        go_wp2
        go_roundw
        case rel => exact ⟨k + 1, by omega, by go_num, by rw [HS.out], hdr.drewN _⟩
        case measure => simp [intOf]; omega
    · obtain rfl : k = O.length := by omega
      have HB := Lib.hid (hdr.below (Below.refl w.heap.size w))
      go_wp2
      go_ret
      exact ⟨rfl, HB.out⟩
set_option maxRecDepth 100000 in
set_option maxHeartbeats 4000000 in
theorem refCheckTable_any (T : List PR) (a : Option Addr) (n c : Nat) (w : World) (hn : n = T.length) (hT : TabAt w a T) (hl : T.length ≤ maxLen) (hsz : ∀ r ∈ T, r.l.length ≤ maxLen) :
    Calls Try.prog 73 #[.slice a n c] w fun e w' => e = .returned (.int .i64 (tblErr T)) ∧ w = w' := by
  unfold maxLen at hl
  subst hn
  have HT := Lib.hid hT; have HSZ := Lib.hid hsz
  clear hT hsz
  go_enter Try.func73, Try.ntmps73
  by_cases h7 : 7 < T.length
  · have HE := Lib.hid (show tblErr T = 8 by unfold tblErr; rw [if_pos h7])
    have h7' : (7 : Int) < (T.length : Int) := by omega
    clear h7
    go_wp2_with fail
    go_ret
    exact ⟨ret_int HE.out.symm, rfl⟩
  have HE0 := Lib.hid (show tblErr T = rowsE T.length 0 T by unfold tblErr; rw [if_neg h7])
  have h7' : ¬ (7 : Int) < (T.length : Int) := by omega
  clear h7
  go_wp2_with fail
  clear h7'
  go_loop [4] (fun i => ∃ k : Nat, k ≤ T.length ∧ i = .int .i64 k ∧ Hid (rowsE T.length 0 T = rowsE T.length 0 (T.drop k))) (fun i => T.length - (intOf i).toNat)
  case atStart => exact ⟨0, Nat.zero_le _, rfl, Lib.hid rfl⟩
  case round =>
    obtain ⟨k, hk, rfl, HR⟩ := hrel
    by_cases hlt : k < T.length
    · have hkT : (k : Int) < (T.length : Int) := by omega
      obtain ⟨ad, ra, rl, rc, rfl, had, s0, hrow, hrr⟩ := HT.out.pick hlt
      have HST := Lib.hid (fun h => rowsE_stop (n := T.length) (least := 0) hlt h)
      have HGO := Lib.hid (fun h => rowsE_go (n := T.length) (least := 0) hlt h)
      have hrz : rl.length ≤ maxLen := by have := HSZ.out _ (List.getElem_mem hlt); rw [hrr] at this; exact this
      rw [hrr] at HST HGO
      dsimp only at HST HGO
      have HRW := Lib.hid hrow
      unfold maxLen at hrz
      clear hrr hrow
      by_cases hx : rl.length = T.length
      · have hx' : ((rl.length : Int) != (T.length : Int)) = false := by simp [hx]
        have HX := Lib.hid hx
        clear hx
        go_wp2_with fail
        clear hx'
        go_loop [5] (fun i => ∃ j : Nat, j ≤ T.length ∧ i = .int .i64 j ∧ Hid (rl.all (fun x => inB x 0 10000) = (rl.drop j).all (fun x => inB x 0 10000))) (fun i => T.length - (intOf i).toNat)
        case atStart => exact ⟨0, Nat.zero_le _, rfl, Lib.hid rfl⟩
        case round =>
          obtain ⟨j, hj, rfl, HJ⟩ := hrel
          by_cases hjm : j < T.length
          · have hjl : j < rl.length := by have := HX.out; omega
            have hjl' : (j : Int) < (rl.length : Int) := by omega
            have hjT' : (j : Int) < (T.length : Int) := by omega
            obtain ⟨ad2, rfl, had2, s2⟩ := HRW.out.int hjl
            have HAL := Lib.hid (all_step (α := Int) (p := fun x => inB x 0 10000) hjl)
            obtain ⟨y, ey⟩ : ∃ y, y = rl[j] := ⟨_, rfl⟩
            rw [← ey] at s2 HAL
            clear ey
            cases hin : inB y 0 10000
            · have HE := Lib.hid (show tblErr T = 2 by
                have h1 : rowErr T.length 0 rl = 2 := by unfold rowErr; rw [if_neg (by have := HX.out; omega), if_neg (by rw [HJ.out, HAL.out, hin]; simp)]
                rw [HE0.out, HR.out, HST.out (by rw [h1]; decide), h1])
              go_wp2_with (go_at_call 30; refine (within_any _ _ _ _).mono ?_; rintro e w' ⟨rfl, rfl⟩)
              go_ret
              exact ⟨ret_int HE.out.symm, rfl⟩
            · have HIN := Lib.hid hin
              go_wp2_with (go_at_call 30; refine (within_any _ _ _ _).mono ?_; rintro e w' ⟨rfl, rfl⟩; rw [HIN.out])
              go_round
              case rel => exact ⟨j + 1, by omega, by go_num, Lib.hid (by rw [HJ.out, HAL.out, HIN.out]; rfl)⟩
              case measure => simp [intOf]; omega
          · have HE := Lib.hid (show rowErr T.length 0 rl = 0 by unfold rowErr; rw [if_neg (by have := HX.out; omega), if_pos (by rw [HJ.out]; exact all_stop (by have := HX.out; omega))])
            go_wp2
            go_round
            case rel => exact ⟨k + 1, by omega, by go_num, Lib.hid (by rw [HR.out, HGO.out HE.out])⟩
            case measure => simp [intOf]; omega
      · have hx' : ((rl.length : Int) != (T.length : Int)) = true := by simp; omega
        have HE := Lib.hid (show tblErr T = 10 by
          have h1 : rowErr T.length 0 rl = 10 := by unfold rowErr; rw [if_pos hx]
          rw [HE0.out, HR.out, HST.out (by rw [h1]; decide), h1])
        clear hx
        go_wp2
        go_ret
        exact ⟨ret_int HE.out.symm, rfl⟩
    · have HE := Lib.hid (show tblErr T = 0 by rw [HE0.out, HR.out, List.drop_of_length_le (by omega)]; rfl)
      go_wp2
      go_ret
      exact ⟨ret_int HE.out.symm, rfl⟩
end Go.Proofs.Ytpplcbpnojggcaa
