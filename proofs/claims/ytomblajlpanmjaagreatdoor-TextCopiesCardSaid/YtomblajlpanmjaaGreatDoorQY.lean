/-
  The error of a part of a copy: the program's own test.
-/
import Derived.Test.YtomblajlpanmjaaGreatDoorQX
namespace Go.Proofs.YtomblajlpanmjaaGreatDoor
open Go.RowKit Go.Maps

def badTx (l : List ByteArray) (j : Nat) : Bool := !isWordB (l.getD j noTx)
def partErr (kd : Int) (l : List ByteArray) : Int :=
  if kd < 1 ∨ 3 < kd then 15 else if l.length = 0 then 10 else if 100 < l.length then 8 else if markB (l.getD 0 noTx) = true then 3 else if (firstAt (badTx l) (l.length - 0) 0).isSome = true then 3 else 0
def SizesOk (l : List ByteArray) : Prop := ∀ k, k < l.length → (l.getD k noTx).size ≤ maxLen

set_option maxRecDepth 100000 in
set_option maxHeartbeats 2000000 in
theorem errorOfPart_any (kd : Int) (b : Option Addr) (l : List ByteArray) (d : Nat) (w : World) (hX : TextsAt w b l) (hl : l.length ≤ maxLen) (hS : SizesOk l) :
    Calls Tryz.prog 66 #[.agg #[.int .i64 kd, .slice b l.length d]] w fun e w' => e = .returned (.int .i64 (partErr kd l)) ∧ Below w.heap.size w w' := by
  have hB := (Below.refl w.heap.size w).alloc (Nat.le_refl _) (.cells #[.int .i64 kd, .slice b l.length d] 72)
  have hX1 := hX.alloc (.cells #[.int .i64 kd, .slice b l.length d] 72)
  unfold maxLen at hl
  by_cases h1 : kd < 1 ∨ 3 < kd
  · have HE := Lib.hid (show partErr kd l = 15 by unfold partErr; rw [if_pos h1])
    go_enter Tryz.func66, Tryz.ntmps66
    go_wp2
    all_goals first | (exfalso; omega) | skip
    all_goals go_ret
    all_goals exact ⟨ret_int HE.out.symm, hB⟩
  have g1 : 1 ≤ kd := by omega
  have g2 : kd ≤ 3 := by omega
  by_cases h2 : l.length = 0
  · have HE := Lib.hid (show partErr kd l = 10 by unfold partErr; rw [if_neg h1, if_pos h2])
    rw [h2] at hB
    clear h1
    go_enter Tryz.func66, Tryz.ntmps66
    go_wp2
    all_goals first | (exfalso; omega) | skip
    all_goals go_ret
    all_goals exact ⟨ret_int HE.out.symm, hB⟩
  by_cases h3 : 100 < l.length
  · have HE := Lib.hid (show partErr kd l = 8 by unfold partErr; rw [if_neg h1, if_neg h2, if_pos h3])
    have e2 : ((l.length : Int) == 0) = false := by rw [beq_eq_false_iff_ne]; omega
    clear h1 h2
    go_enter Tryz.func66, Tryz.ntmps66
    go_wp2
    all_goals first | (exfalso; omega) | skip
    all_goals go_ret
    all_goals exact ⟨ret_int HE.out.symm, hB⟩
  have e2 : ((l.length : Int) == 0) = false := by rw [beq_eq_false_iff_ne]; omega
  have g3 : l.length ≤ 100 := by omega
  have g0 : (0 : Int) < (l.length : Int) := by omega
  obtain ⟨p0, rfl, hp0, hc0⟩ := hX1.at_ (k := 0) (by omega)
  by_cases h4 : markB (l.getD 0 noTx) = true
  · have HE := Lib.hid (show partErr kd l = 3 by unfold partErr; rw [if_neg h1, if_neg h2, if_neg h3, if_pos h4])
    obtain ⟨x, ex⟩ : ∃ x, x = l.getD 0 noTx := ⟨_, rfl⟩
    rw [← ex] at hc0 h4
    clear ex h1 h2 h3
    have ha0 : p0.add 0 = p0 := by simp [Addr.add]
    have hc0b := hc0; rw [ha0] at hc0b
    go_enter Tryz.func66, Tryz.ntmps66
    go_wp2_with (go_at_call 110; refine (isMark_any _ _).mono ?_; rintro e w' ⟨rfl, rfl⟩)
    all_goals first | (exfalso; omega) | skip
    all_goals go_ret
    all_goals exact ⟨ret_int HE.out.symm, hB⟩
  have h4' : markB (l.getD 0 noTx) = false := by simpa using h4
  have HE := Lib.hid (show partErr kd l = if (firstAt (badTx l) (l.length - 0) 0).isSome = true then 3 else 0 by unfold partErr; rw [if_neg h1, if_neg h2, if_neg h3, if_neg h4])
  obtain ⟨x0, ex0⟩ : ∃ x, x = l.getD 0 noTx := ⟨_, rfl⟩
  rw [← ex0] at hc0 h4'
  clear ex0 h1 h2 h3 h4
  have ha0 : p0.add 0 = p0 := by simp [Addr.add]
  have hc0b := hc0; rw [ha0] at hc0b
  go_enter Tryz.func66, Tryz.ntmps66
  go_wp2_with (go_at_call 110; refine (isMark_any _ _).mono ?_; rintro e w' ⟨rfl, rfl⟩)
  go_loop [34] (fun i => ∃ k : Nat, k ≤ l.length ∧ i = .int .i64 k ∧ Hid (firstAt (badTx l) (l.length - 0) 0 = firstAt (badTx l) (l.length - k) k)) (fun i => l.length - (intOf i).toNat)
  case atStart => exact ⟨0, Nat.zero_le _, rfl, Lib.hid rfl⟩
  case round =>
    obtain ⟨k, hk, rfl, HR⟩ := hrel
    by_cases hlt : k < l.length
    · obtain ⟨p1, ep, hp1, hc1⟩ := hX1.at_ hlt
      cases ep
      have hkl : (k : Int) < (l.length : Int) := by omega
      have hsz := Lib.hid (hS k hlt)
      cases hq : badTx l k
      · have HS := Lib.hid (firstAt_go hlt hq)
        have HW := Lib.hid (show wordErr (l.getD k noTx) = 0 by unfold wordErr; rw [if_pos (by unfold badTx at hq; simpa using hq)])
        clear hq
        generalize l.getD k noTx = x at hc1 HW hsz
        go_wp2_with (go_at_call 111; refine (errorOfWord_any _ _ hsz.out).mono ?_; rintro e w' ⟨rfl, rfl⟩; rw [HW.out])
        go_round
        case rel => exact ⟨k + 1, by omega, by go_num, Lib.hid (HR.out.trans HS.out)⟩
        case measure => simp [intOf]; omega
      · have HS := Lib.hid (firstAt_stop hlt hq)
        have HW := Lib.hid (show wordErr (l.getD k noTx) = 3 by unfold wordErr; rw [if_neg (by unfold badTx at hq; simpa using hq)])
        clear hq
        generalize l.getD k noTx = x at hc1 HW hsz
        go_wp2_with (go_at_call 111; refine (errorOfWord_any _ _ hsz.out).mono ?_; rintro e w' ⟨rfl, rfl⟩; rw [HW.out])
        go_ret
        exact ⟨ret_int (by rw [HE.out, HR.out, HS.out]; try rfl), hB⟩
    · have HS := Lib.hid (firstAt_end (q := badTx l) hlt)
      go_wp2
      go_ret
      exact ⟨ret_int (by rw [HE.out, HR.out, HS.out]; try rfl), hB⟩
end Go.Proofs.YtomblajlpanmjaaGreatDoor
/-
  The check of the parts of a copy: the program's own.
-/
namespace Go.Proofs.YtomblajlpanmjaaGreatDoor
open Go.RowKit Go.Maps

/-- A part of a copy: its kind, where its words lie, the words. -/
structure CP where
  kd : Int
  a : Option Addr
  c : Nat
  l : List ByteArray
def noCP : CP := ⟨0, none, 0, []⟩
def PartAt (w : World) (p : Addr) (x : CP) : Prop :=
  w.cell? p = some (.int .i64 x.kd) ∧ w.cell? ⟨p.block, p.off + 1, none⟩ = some (.slice x.a x.l.length x.c)
def PartsAt (w : World) (a : Option Addr) (l : List CP) : Prop :=
  ∀ k, k < l.length → ∃ ad, a = some ad ∧ ad.block < w.heap.size ∧ PartAt w (ad.add (k * 2)) (l.getD k noCP) ∧ TextsAt w (l.getD k noCP).a (l.getD k noCP).l
def OkP (l : List CP) : Prop := l.length ≤ maxLen ∧ ∀ k, k < l.length → (l.getD k noCP).l.length ≤ maxLen ∧ SizesOk (l.getD k noCP).l
theorem PartsAt.below {w w' : World} {a : Option Addr} {l : List CP} (h : PartsAt w a l) (hb : Below w.heap.size w w') : PartsAt w' a l := fun k hk => by
  obtain ⟨ad, e, hlt, hs, ht⟩ := h k hk
  exact ⟨ad, e, Nat.lt_of_lt_of_le hlt hb.size, ⟨(hb.cell (by rw [add_block]; exact hlt)).trans hs.1, (hb.cell (p := ⟨_, _, none⟩) (by show (ad.add (k * 2)).block < _; rw [add_block]; exact hlt)).trans hs.2⟩, ht.below hb⟩
theorem PartsAt.alloc {w : World} {a : Option Addr} {l : List CP} (h : PartsAt w a l) (o : Obj) : PartsAt (w.alloc o) a l := h.below ((Below.refl _ _).alloc (Nat.le_refl _) o)
def isBadP (l : List CP) (j : Nat) : Bool := partErr (l.getD j noCP).kd (l.getD j noCP).l != 0
def checkP (l : List CP) : Int × Int :=
  if 60 < l.length then (0, 8) else match firstAt (isBadP l) (l.length - 0) 0 with
    | none => (0, 0)
    | some i => ((i : Int), partErr (l.getD i noCP).kd (l.getD i noCP).l)

set_option maxRecDepth 100000 in
set_option maxHeartbeats 2000000 in
theorem CheckParts_any (a : Option Addr) (l : List CP) (c : Nat) (w : World) (hX : PartsAt w a l) (hO : OkP l) :
    Calls Tryz.prog 19 #[.slice a l.length c] w fun e w' => e = .returned (.tuple #[.int .i64 (checkP l).1, .int .i64 (checkP l).2]) ∧ Below w.heap.size w w' := by
  have hl := hO.1
  unfold maxLen at hl
  by_cases h1 : 60 < l.length
  · have HE := Lib.hid (show checkP l = (0, 8) by unfold checkP; rw [if_pos h1])
    go_enter Tryz.func19, Tryz.ntmps19
    go_wp2
    all_goals first | (exfalso; omega) | skip
    all_goals go_ret2
    all_goals exact ⟨by rw [HE.out]; try rfl, Below.refl _ _⟩
  have h1' : l.length ≤ 60 := by omega
  have HE := Lib.hid (show checkP l = (match firstAt (isBadP l) (l.length - 0) 0 with
    | none => (0, 0)
    | some i => ((i : Int), partErr (l.getD i noCP).kd (l.getD i noCP).l)) by unfold checkP; rw [if_neg h1])
  clear h1
  go_enter Tryz.func19, Tryz.ntmps19
  go_wp2
  go_loopw [12] (fun i wr => ∃ k : Nat, k ≤ l.length ∧ i = .int .i64 k ∧ Hid (firstAt (isBadP l) (l.length - 0) 0 = firstAt (isBadP l) (l.length - k) k) ∧ Below w.heap.size w wr) (fun i _ => l.length - (intOf i).toNat)
  case atStart => exact ⟨0, Nat.zero_le _, rfl, Lib.hid rfl, Below.refl _ _⟩
  case round =>
    obtain ⟨k, hk, rfl, HR, hB⟩ := hrel
    by_cases hlt : k < l.length
    · have hXr := hX.below hB
      obtain ⟨ad, rfl, had, ⟨hc0, hc1⟩, hT⟩ := hXr k hlt
      obtain ⟨ho1, ho2⟩ := hO.2 k hlt
      have hkl : (k : Int) < (l.length : Int) := by omega
      obtain ⟨x, ex⟩ : ∃ x, x = l.getD k noCP := ⟨_, rfl⟩
      rw [← ex] at hc0 hc1 hT ho1 ho2
      have EX := Lib.hid ex; clear ex
      have hsz := hB.size
      have hT1 := hT.alloc (.cells #[.int .i64 x.kd, .slice x.a x.l.length x.c] 72)
      have hBa := hB.alloc hB.size (.cells #[.int .i64 x.kd, .slice x.a x.l.length x.c] 72)
      cases hq : isBadP l k
      · have HS := Lib.hid (firstAt_go hlt hq)
        have HW := Lib.hid (show partErr x.kd x.l = 0 by rw [EX.out]; unfold isBadP at hq; simpa using hq)
        clear hq
        go_wp2_with fail
        refine (errorOfPart_any x.kd x.a x.l x.c _ hT1 ho1 ho2).mono ?_
        rintro e w1 ⟨rfl, hb1⟩
        rw [HW.out]
        have hB1 := hBa.trans (hb1.mono (by have := hBa.size; simpa using this))
        go_wp2
        go_roundw
        case rel => exact ⟨k + 1, by omega, by go_num, Lib.hid (HR.out.trans HS.out), hB1⟩
        case measure => simp [intOf]; omega
      · have HS := Lib.hid (firstAt_stop hlt hq)
        have hn : (partErr x.kd x.l != 0) = true := by have h := hq; unfold isBadP at h; rw [← EX.out] at h; exact h
        clear hq
        go_wp2_with fail
        refine (errorOfPart_any x.kd x.a x.l x.c _ hT1 ho1 ho2).mono ?_
        rintro e w1 ⟨rfl, hb1⟩
        have hB1 := hBa.trans (hb1.mono (by have := hBa.size; simpa using this))
        go_wp2
        go_ret2
        exact ⟨by rw [HE.out, HR.out, HS.out]; show _ = Ending.returned (.tuple #[.int .i64 (k : Int), .int .i64 (partErr (l.getD k noCP).kd (l.getD k noCP).l)]); rw [← EX.out]; try rfl, hB1⟩
    · have HS := Lib.hid (firstAt_end (q := isBadP l) hlt)
      go_wp2
      go_ret2
      exact ⟨by rw [HE.out, HR.out, HS.out]; try rfl, hB⟩
end Go.Proofs.YtomblajlpanmjaaGreatDoor

/-
  The check of the parts of a copy: the reference's.
-/
namespace Go.Proofs.YtomblajlpanmjaaGreatDoor
open Go.RowKit Go.Maps

theorem partErr_word {kd : Int} {l : List ByteArray} {j : Nat} (h1 : 1 ≤ kd ∧ kd ≤ 3) (h2 : l.length ≠ 0) (h3 : l.length ≤ 100) (hb : firstAt (badTx l) (l.length - 0) 0 = some j) : partErr kd l = 3 := by
  unfold partErr
  rw [if_neg (by omega), if_neg h2, if_neg (by omega), hb]
  split
  · rfl
  · simp
theorem partErr_mark {kd : Int} {l : List ByteArray} (h1 : 1 ≤ kd ∧ kd ≤ 3) (h2 : l.length ≠ 0) (h3 : l.length ≤ 100) (hb : firstAt (badTx l) (l.length - 0) 0 = none) : partErr kd l = if markB (l.getD 0 noTx) = true then 3 else 0 := by
  unfold partErr
  rw [if_neg (by omega), if_neg h2, if_neg (by omega), hb]
  rfl

set_option maxRecDepth 100000 in
set_option maxHeartbeats 4000000 in
theorem refCheckParts_any (a : Option Addr) (l : List CP) (c : Nat) (w : World) (hX : PartsAt w a l) (hO : OkP l) :
    Calls Tryz.prog 22 #[.slice a l.length c] w fun e w' => e = .returned (.tuple #[.int .i64 (checkP l).1, .int .i64 (checkP l).2]) ∧ w = w' := by
  have hl := hO.1
  unfold maxLen at hl
  by_cases h1 : 60 < l.length
  · have HE := Lib.hid (show checkP l = (0, 8) by unfold checkP; rw [if_pos h1])
    go_enter Tryz.func22, Tryz.ntmps22
    go_wp2
    all_goals first | (exfalso; omega) | skip
    all_goals go_ret2
    all_goals exact ⟨by rw [HE.out]; try rfl, rfl⟩
  have h1' : l.length ≤ 60 := by omega
  have HE := Lib.hid (show checkP l = (match firstAt (isBadP l) (l.length - 0) 0 with
    | none => (0, 0)
    | some i => ((i : Int), partErr (l.getD i noCP).kd (l.getD i noCP).l)) by unfold checkP; rw [if_neg h1]; try rfl)
  clear h1
  go_enter Tryz.func22, Tryz.ntmps22
  go_wp2
  go_loop [4] (fun i => ∃ k : Nat, k ≤ l.length ∧ i = .int .i64 k ∧ Hid (firstAt (isBadP l) (l.length - 0) 0 = firstAt (isBadP l) (l.length - k) k)) (fun i => l.length - (intOf i).toNat)
  case atStart => exact ⟨0, Nat.zero_le _, rfl, Lib.hid rfl⟩
  case round =>
    obtain ⟨k, hk, rfl, HR⟩ := hrel
    by_cases hlt : k < l.length
    · obtain ⟨ad, rfl, had, ⟨hc0, hc1⟩, hT⟩ := hX k hlt
      obtain ⟨ho1, ho2⟩ := hO.2 k hlt
      have hkl : (k : Int) < (l.length : Int) := by omega
      obtain ⟨x, ex⟩ : ∃ x, x = l.getD k noCP := ⟨_, rfl⟩
      rw [← ex] at hc0 hc1 hT ho1 ho2
      have STOP : Hid (∀ e, partErr x.kd x.l = e → e ≠ 0 → checkP l = ((k : Int), e)) := Lib.hid (fun e he hn => by
        have hq : isBadP l k = true := by unfold isBadP; rw [← ex, he]; simpa using hn
        rw [HE.out, HR.out, firstAt_stop hlt hq]
        show ((k : Int), _) = _
        rw [← ex, he])
      have GO : Hid (partErr x.kd x.l = 0 → firstAt (isBadP l) (l.length - k) k = firstAt (isBadP l) (l.length - (k + 1)) (k + 1)) := Lib.hid (fun he => by
        have hq : isBadP l k = false := by unfold isBadP; rw [← ex, he]; try rfl
        exact firstAt_go hlt hq)
      clear ex
      unfold maxLen at ho1
      generalize x.a = xa at hc1 hT
      by_cases g1 : 1 ≤ x.kd ∧ x.kd ≤ 3
      · have b1 : inB x.kd 1 3 = true := decide_eq_true g1
        by_cases g2 : x.l.length = 0
        · have HP := Lib.hid (STOP.out 10 (by unfold partErr; rw [if_neg (by omega), if_pos g2]) (by decide))
          clear g1
          go_wp2_with (go_at_call 44; refine (within_any _ _ _ _).mono ?_; rintro e w' ⟨rfl, rfl⟩)
          go_ret2
          exact ⟨by rw [HP.out]; try rfl, rfl⟩
        have e2 : ((x.l.length : Int) == 0) = false := by rw [beq_eq_false_iff_ne]; omega
        by_cases g3 : 100 < x.l.length
        · have HP := Lib.hid (STOP.out 8 (by unfold partErr; rw [if_neg (by omega), if_neg g2, if_pos g3]) (by decide))
          clear g1 g2
          go_wp2_with (go_at_call 44; refine (within_any _ _ _ _).mono ?_; rintro e w' ⟨rfl, rfl⟩)
          go_ret2
          exact ⟨by rw [HP.out]; try rfl, rfl⟩
        have g3' : x.l.length ≤ 100 := by omega
        have PW := Lib.hid (fun j => partErr_word (j := j) g1 g2 g3')
        have PM := Lib.hid (partErr_mark g1 g2 g3')
        have g0 : (0 : Int) < (x.l.length : Int) := by omega
        obtain ⟨p0, rfl, hp0, hd0⟩ := hT 0 (by omega)
        have ha0 : p0.add 0 = p0 := by simp [Addr.add]
        have hd0b := hd0; rw [ha0] at hd0b
        clear g1 g2 g3
        go_wp2_with (go_at_call 44; refine (within_any _ _ _ _).mono ?_; rintro e w' ⟨rfl, rfl⟩)
        go_loop [5] (fun i => ∃ j : Nat, j ≤ x.l.length ∧ i = .int .i64 j ∧ Hid (firstAt (badTx x.l) (x.l.length - 0) 0 = firstAt (badTx x.l) (x.l.length - j) j)) (fun i => x.l.length - (intOf i).toNat)
        case atStart => exact ⟨0, Nat.zero_le _, rfl, Lib.hid rfl⟩
        case round =>
          obtain ⟨j, hj, rfl, HJ⟩ := hrel
          by_cases hjl : j < x.l.length
          · obtain ⟨p1, ep, hp1, hd1⟩ := hT.at_ hjl
            cases ep
            have hjl' : (j : Int) < (x.l.length : Int) := by omega
            have hsz := Lib.hid (ho2 j hjl)
            cases hq : badTx x.l j
            · have HS := Lib.hid (firstAt_go hjl hq)
              have HW : isWordB (x.l.getD j noTx) = true := by unfold badTx at hq; simpa using hq
              clear hq
              generalize x.l.getD j noTx = y at hd1 HW hsz
              go_wp2_with (go_at_call 70; refine (refIsWord_any _ _ hsz.out).mono ?_; rintro e w' ⟨rfl, rfl⟩)
              go_round
              case rel => exact ⟨j + 1, by omega, by go_num, Lib.hid (HJ.out.trans HS.out)⟩
              case measure => simp [intOf]; omega
            · have HP := Lib.hid (STOP.out 3 (PW.out j (HJ.out.trans (firstAt_stop hjl hq))) (by decide))
              have HW : isWordB (x.l.getD j noTx) = false := by unfold badTx at hq; simpa using hq
              clear hq
              generalize x.l.getD j noTx = y at hd1 HW hsz
              go_wp2_with (go_at_call 70; refine (refIsWord_any _ _ hsz.out).mono ?_; rintro e w' ⟨rfl, rfl⟩)
              go_ret2
              exact ⟨by rw [HP.out]; try rfl, rfl⟩
          · have HM := Lib.hid (PM.out (HJ.out.trans (firstAt_end (q := badTx x.l) hjl)))
            cases hm : markB (x.l.getD 0 noTx)
            · have HN := Lib.hid (GO.out (by rw [HM.out, hm]; try rfl))
              generalize x.l.getD 0 noTx = y at hd0 hd0b hm
              go_wp2_with (go_at_call 71; refine (refMark_any _ _).mono ?_; rintro e w' ⟨rfl, rfl⟩)
              go_round
              case rel => exact ⟨k + 1, by omega, by go_num, Lib.hid (HR.out.trans HN.out)⟩
              case measure => simp [intOf]; omega
            · have HP := Lib.hid (STOP.out 3 (by rw [HM.out, hm]; try rfl) (by decide))
              generalize x.l.getD 0 noTx = y at hd0 hd0b hm
              go_wp2_with (go_at_call 71; refine (refMark_any _ _).mono ?_; rintro e w' ⟨rfl, rfl⟩)
              go_ret2
              exact ⟨by rw [HP.out]; try rfl, rfl⟩
      · have b1 : inB x.kd 1 3 = false := decide_eq_false g1
        have HP := Lib.hid (STOP.out 15 (by unfold partErr; rw [if_pos (by omega)]) (by decide))
        clear g1
        go_wp2_with (go_at_call 44; refine (within_any _ _ _ _).mono ?_; rintro e w' ⟨rfl, rfl⟩)
        go_ret2
        exact ⟨by rw [HP.out]; try rfl, rfl⟩
    · have HS := Lib.hid (firstAt_end (q := isBadP l) hlt)
      go_wp2
      go_ret2
      exact ⟨by rw [HE.out, HR.out, HS.out]; try rfl, rfl⟩
end Go.Proofs.YtomblajlpanmjaaGreatDoor

/-
  Which copies and texts the statements look at.
-/
namespace Go.Proofs.YtomblajlpanmjaaGreatDoor
open Go.RowKit Go.Maps

def longTx (l : List ByteArray) (j : Nat) : Bool := decide (40 < (l.getD j noTx).size)
def sizeBad (n few most : Nat) : Prop := (few < n ∧ n ≤ most) ∨ most + 2 < n
instance (n few most : Nat) : Decidable (sizeBad n few most) := inferInstanceAs (Decidable (_ ∨ _))
def shortB (l : List ByteArray) (few most : Nat) : Bool := if sizeBad l.length few most then false else !(firstAt (longTx l) (l.length - 0) 0).isSome

set_option maxRecDepth 100000 in
set_option maxHeartbeats 2000000 in
theorem short_any (b : Option Addr) (l : List ByteArray) (d : Nat) (few most : Nat) (w : World) (hX : TextsAt w b l) (hl : l.length ≤ maxLen) (hf : few ≤ most) (hm : most ≤ 1000) :
    Calls Tryz.prog 53 #[.slice b l.length d, .int .i64 few, .int .i64 most] w fun e w' => e = .returned (.bool (shortB l few most)) ∧ w = w' := by
  have hl' : l.length ≤ 9223372036854775807 := by unfold maxLen at hl; omega
  by_cases h1 : sizeBad l.length few most
  · have HE := Lib.hid (show shortB l few most = false by unfold shortB; rw [if_pos h1])
    unfold sizeBad at h1
    go_enter Tryz.func53, Tryz.ntmps53
    go_wp2
    all_goals first | (exfalso; omega) | skip
    all_goals go_ret
    all_goals exact ⟨ret_bool HE.out.symm, rfl⟩
  have HE := Lib.hid (show shortB l few most = !(firstAt (longTx l) (l.length - 0) 0).isSome by unfold shortB; rw [if_neg h1])
  unfold sizeBad at h1
  have h2 : l.length ≤ few ∨ most < l.length := by omega
  have h3 : l.length ≤ most + 2 := by omega
  clear h1
  rcases h2 with h2 | h2
  all_goals
    go_enter Tryz.func53, Tryz.ntmps53
    go_wp2
    all_goals first | (exfalso; omega) | skip
    go_loop [7] (fun i => ∃ k : Nat, k ≤ l.length ∧ i = .int .i64 k ∧ Hid (firstAt (longTx l) (l.length - 0) 0 = firstAt (longTx l) (l.length - k) k)) (fun i => l.length - (intOf i).toNat)
    case atStart => exact ⟨0, Nat.zero_le _, rfl, Lib.hid rfl⟩
    case round =>
      obtain ⟨k, hk, rfl, HR⟩ := hrel
      by_cases hlt : k < l.length
      · obtain ⟨p1, rfl, hp1, hc1⟩ := hX.at_ hlt
        have hkl : (k : Int) < (l.length : Int) := by omega
        by_cases hq : 40 < (l.getD k noTx).size
        · have HS := Lib.hid (firstAt_stop (q := longTx l) hlt (decide_eq_true hq))
          generalize l.getD k noTx = x at hc1 hq
          go_wp2
          all_goals first | (exfalso; omega) | skip
          all_goals go_ret
          all_goals exact ⟨ret_bool (by rw [HE.out, HR.out, HS.out]; try rfl), rfl⟩
        · have HS := Lib.hid (firstAt_go (q := longTx l) hlt (decide_eq_false hq))
          have hq' : (l.getD k noTx).size ≤ 40 := by omega
          clear hq
          generalize l.getD k noTx = x at hc1 hq'
          go_wp2
          go_round
          case rel => exact ⟨k + 1, by omega, by go_num, Lib.hid (HR.out.trans HS.out)⟩
          case measure => simp [intOf]; omega
      · have HS := Lib.hid (firstAt_end (q := longTx l) hlt)
        go_wp2
        go_ret
        exact ⟨ret_bool (by rw [HE.out, HR.out, HS.out]; try rfl), rfl⟩

def darkP (l : List CP) (j : Nat) : Bool := !shortB (l.getD j noCP).l 8 100
def lightB (l : List CP) : Bool := if sizeBad l.length 5 60 then false else !(firstAt (darkP l) (l.length - 0) 0).isSome
set_option maxRecDepth 100000 in
set_option maxHeartbeats 2000000 in
theorem light_any (a : Option Addr) (l : List CP) (c : Nat) (w : World) (hX : PartsAt w a l) (hO : OkP l) :
    Calls Tryz.prog 18 #[.slice a l.length c] w fun e w' => e = .returned (.bool (lightB l)) ∧ w = w' := by
  have hl := hO.1
  unfold maxLen at hl
  by_cases h1 : sizeBad l.length 5 60
  · have HE := Lib.hid (show lightB l = false by unfold lightB; rw [if_pos h1])
    unfold sizeBad at h1
    go_enter Tryz.func18, Tryz.ntmps18
    go_wp2
    all_goals first | (exfalso; omega) | skip
    all_goals go_ret
    all_goals exact ⟨ret_bool HE.out.symm, rfl⟩
  have HE := Lib.hid (show lightB l = !(firstAt (darkP l) (l.length - 0) 0).isSome by unfold lightB; rw [if_neg h1])
  unfold sizeBad at h1
  have h2 : l.length ≤ 5 ∨ 60 < l.length := by omega
  have h3 : l.length ≤ 62 := by omega
  clear h1
  rcases h2 with h2 | h2
  all_goals
    go_enter Tryz.func18, Tryz.ntmps18
    go_wp2
    all_goals first | (exfalso; omega) | skip
    go_loop [3] (fun i => ∃ k : Nat, k ≤ l.length ∧ i = .int .i64 k ∧ Hid (firstAt (darkP l) (l.length - 0) 0 = firstAt (darkP l) (l.length - k) k)) (fun i => l.length - (intOf i).toNat)
    case atStart => exact ⟨0, Nat.zero_le _, rfl, Lib.hid rfl⟩
    case round =>
      obtain ⟨k, hk, rfl, HR⟩ := hrel
      by_cases hlt : k < l.length
      · obtain ⟨ad, rfl, had, ⟨hc0, hc1⟩, hT⟩ := hX k hlt
        have ho1 := Lib.hid (hO.2 k hlt).1
        have hkl : (k : Int) < (l.length : Int) := by omega
        cases hq : darkP l k
        · have HS := Lib.hid (firstAt_go hlt hq)
          have HB : shortB (l.getD k noCP).l 8 100 = true := by unfold darkP at hq; simpa using hq
          clear hq
          generalize l.getD k noCP = x at hc0 hc1 hT ho1 HB
          have HB' := Lib.hid HB; clear HB
          go_wp2_with (go_at_call 53; refine (short_any x.a x.l x.c 8 100 _ hT ho1.out (by omega) (by omega)).mono ?_; rintro e w' ⟨rfl, rfl⟩; rw [HB'.out])
          go_round
          case rel => exact ⟨k + 1, by omega, by go_num, Lib.hid (HR.out.trans HS.out)⟩
          case measure => simp [intOf]; omega
        · have HS := Lib.hid (firstAt_stop hlt hq)
          have HB : shortB (l.getD k noCP).l 8 100 = false := by unfold darkP at hq; simpa using hq
          clear hq
          generalize l.getD k noCP = x at hc0 hc1 hT ho1 HB
          have HB' := Lib.hid HB; clear HB
          go_wp2_with (go_at_call 53; refine (short_any x.a x.l x.c 8 100 _ hT ho1.out (by omega) (by omega)).mono ?_; rintro e w' ⟨rfl, rfl⟩; rw [HB'.out])
          go_ret
          exact ⟨ret_bool (by rw [HE.out, HR.out, HS.out]; try rfl), rfl⟩
      · have HS := Lib.hid (firstAt_end (q := darkP l) hlt)
        go_wp2
        go_ret
        exact ⟨ret_bool (by rw [HE.out, HR.out, HS.out]; try rfl), rfl⟩
end Go.Proofs.YtomblajlpanmjaaGreatDoor

/-
  The patterns of rules: the program's own list of them.
-/
namespace Go.Proofs.YtomblajlpanmjaaGreatDoor
open Go.RowKit Go.Maps

def noPat : Pat := ⟨[], [], false, false⟩
def patG (l : List ByteArray) (j : Nat) : Pat := (patOf (l.getD j noTx).data.toList).getD noPat
def badPat (l : List ByteArray) (j : Nat) : Bool := (patOf (l.getD j noTx).data.toList).isNone
def checkPats (l : List ByteArray) : Int × Int :=
  if 60 < l.length then (0, 8) else match firstAt (badPat l) (l.length - 0) 0 with
    | none => (0, 0)
    | some i => ((i : Int), 3)
theorem infoP : (Tryz.prog.info? 225).map (fun i => (i.zero, i.size, i.bytes)) = some (some (.agg #[.string ⟨#[]⟩, .slice none 0 0, .bool false, .bool false]), 4, 48) := by kernel_rfl
/-- Pattern j of a row that lies in block g: its four cells, its digits behind the row. -/
def PatIn (w : World) (g j : Nat) (x : Pat) : Prop := ∃ s A cap, w.cell? ⟨g, j * 4, none⟩ = some (.string s) ∧ w.cell? ⟨g, j * 4 + 1, none⟩ = some (.slice (some A) x.ds.length cap) ∧ w.cell? ⟨g, j * 4 + 2, none⟩ = some (.bool x.start) ∧ w.cell? ⟨g, j * 4 + 3, none⟩ = some (.bool x.stop) ∧ s.data.toList = x.ls ∧ g < A.block ∧ IntsAt w (some A) x.ds
/-- A row of n patterns' cells in block g, the first k of which are those of fn. -/
structure PRow (w : World) (g n : Nat) (fn : Nat → Pat) (k : Nat) : Prop where
  row : ∃ cs : Array Value, w.heap[g]? = some (.cells cs 225 (0, 0)) ∧ cs.size = n * 4
  pats : ∀ j, j < k → PatIn w g j (fn j)
section
variable {w : World} {g n k : Nat} {fn : Nat → Pat}
theorem PRow.lt (h : PRow w g n fn k) : g < w.heap.size := by
  obtain ⟨cs, h1, _⟩ := h.row
  rcases Nat.lt_or_ge g w.heap.size with hlt | hge
  · exact hlt
  · rw [Array.getElem?_eq_none hge] at h1; cases h1
theorem PRow.some_ (h : PRow w g n fn k) {j : Nat} (hj : j < n * 4) : ∃ v, w.cell? ⟨g, j, none⟩ = some v := by
  obtain ⟨cs, h1, h2⟩ := h.row
  exact ⟨cs[j]'(by omega), by rw [cell_of_row w g j cs _ (0, 0) h1]; exact Array.getElem?_eq_getElem (by omega)⟩
theorem PRow.frozen (h : PRow w g n fn k) (j : Nat) : w.frozen? ⟨g, j, none⟩ = false := by
  obtain ⟨cs, h1, _⟩ := h.row
  simp [World.frozen?, h1]
theorem PRow.below {w' : World} (h : PRow w g n fn k) (hb : Below w.heap.size w w') : PRow w' g n fn k := by
  have hlt := h.lt
  obtain ⟨cs, h1, h2⟩ := h.row
  refine ⟨⟨cs, (hb.block g hlt).trans h1, h2⟩, fun j hj => ?_⟩
  obtain ⟨s, A, cap, c0, c1, c2, c3, hs, hA, hI⟩ := h.pats j hj
  exact ⟨s, A, cap, (hb.cell (p := ⟨_, _, none⟩) hlt).trans c0, (hb.cell (p := ⟨_, _, none⟩) hlt).trans c1, (hb.cell (p := ⟨_, _, none⟩) hlt).trans c2, (hb.cell (p := ⟨_, _, none⟩) hlt).trans c3, hs, hA, hI.below hb⟩
end
theorem ints_set {w : World} {A : Addr} {l : List Int} {g : Nat} (h : IntsAt w (some A) l) (hg : A.block ≠ g) (j : Nat) (u : Value) : IntsAt (w.setCell ⟨g, j, none⟩ u) (some A) l := by
  intro k hk
  obtain ⟨ad, e, hlt, h0⟩ := h k hk
  cases e
  refine ⟨A, rfl, by simpa [World.setCell] using hlt, ?_⟩
  rw [World.cell?_setCell_other _ _ _ _ (fun e => hg (by have e2 := congrArg Addr.block e; simp only [add_block] at e2; exact e2.symm))]; exact h0
theorem cell_else {w : World} {g i j : Nat} {u : Value} (h : i ≠ j) : (w.setCell ⟨g, i, none⟩ u).cell? ⟨g, j, none⟩ = w.cell? ⟨g, j, none⟩ :=
  World.cell?_setCell_other _ _ _ _ (fun e => h (by injection e))
theorem PRow.same {w : World} {g n k : Nat} {fn : Nat → Pat} (h : PRow w g n fn k) {j : Nat} (hj : j < n * 4) (u : Value) : (w.setCell ⟨g, j, none⟩ u).cell? ⟨g, j, none⟩ = some u := by
  obtain ⟨cs, h1, h2⟩ := h.row
  rw [cell_of_row _ g j _ _ (0, 0) (pat_set h1 j u)]
  simp [h2, hj]
theorem PRow.set_ {w : World} {g n k : Nat} {fn : Nat → Pat} (h : PRow w g n fn k) {j : Nat} (hj : k * 4 ≤ j) (u : Value) : PRow (w.setCell ⟨g, j, none⟩ u) g n fn k := by
  obtain ⟨cs, h1, h2⟩ := h.row
  refine ⟨⟨_, pat_set h1 j u, by simp [h2]⟩, fun i hi => ?_⟩
  obtain ⟨s, A, cap, c0, c1, c2, c3, hs, hA, hI⟩ := h.pats i hi
  exact ⟨s, A, cap, by rw [cell_else (by omega)]; exact c0, by rw [cell_else (by omega)]; exact c1, by rw [cell_else (by omega)]; exact c2, by rw [cell_else (by omega)]; exact c3, hs, hA, ints_set hI (by omega) _ _⟩
theorem PRow.push {w : World} {g n k m : Nat} {fn : Nat → Pat} {x : Pat} {s : ByteArray} {A : Addr} {cap : Nat} (h : PRow w g n fn k) (hk : k < n) (hx : fn k = x) (hm : x.ds.length = m) (hs : s.data.toList = x.ls) (hA : g < A.block) (hI : IntsAt w (some A) x.ds) :
    PRow ((((w.setCell ⟨g, k * 4, none⟩ (.string s)).setCell ⟨g, k * 4 + 1, none⟩ (.slice (some A) m cap)).setCell ⟨g, k * 4 + 2, none⟩ (.bool x.start)).setCell ⟨g, k * 4 + 3, none⟩ (.bool x.stop)) g n fn (k + 1) := by
  have h1 := h.set_ (j := k * 4) (Nat.le_refl _) (.string s)
  have h2 := h1.set_ (j := k * 4 + 1) (by omega) (.slice (some A) m cap)
  have h3 := h2.set_ (j := k * 4 + 2) (by omega) (.bool x.start)
  have h4 := h3.set_ (j := k * 4 + 3) (by omega) (.bool x.stop)
  refine ⟨h4.row, fun i hi => ?_⟩
  by_cases e : i = k
  · subst e
    rw [hx]
    refine ⟨s, A, cap, ?_, ?_, ?_, ?_, hs, hA, ints_set (ints_set (ints_set (ints_set hI (by omega) _ _) (by omega) _ _) (by omega) _ _) (by omega) _ _⟩
    · rw [cell_else (by omega), cell_else (by omega), cell_else (by omega)]; exact h.same (by omega) _
    · rw [cell_else (by omega), cell_else (by omega), hm]; exact h1.same (by omega) _
    · rw [cell_else (by omega)]; exact h2.same (by omega) _
    · exact h3.same (by omega) _
  · exact h4.pats i (by omega)
def PatsPost (w : World) (l : List ByteArray) (e : Ending) (w' : World) : Prop :=
  Below w.heap.size w w' ∧ if (checkPats l).2 = 0 then ∃ g, e = .returned (.tuple #[.slice (some ⟨g, 0, none⟩) l.length l.length, .int .i64 0, .int .i64 0]) ∧ w.heap.size ≤ g ∧ PRow w' g l.length (patG l) l.length
    else e = .returned (.tuple #[.slice none 0 0, .int .i64 (checkPats l).1, .int .i64 (checkPats l).2])

set_option maxRecDepth 100000 in
set_option maxHeartbeats 4000000 in
theorem patternsOf_any (b : Option Addr) (l : List ByteArray) (d : Nat) (w : World) (hX : TextsAt w b l) (hl : l.length ≤ maxLen) (hS : ∀ k, k < l.length → (l.getD k noTx).size ≤ maxLen) :
    Calls Tryz.prog 96 #[.slice b l.length d] w (PatsPost w l) := by
  have hl' : l.length ≤ 9223372036854775807 := by unfold maxLen at hl; omega
  by_cases h1 : 60 < l.length
  · have HE := Lib.hid (show checkPats l = (0, 8) by unfold checkPats; rw [if_pos h1])
    go_enter Tryz.func96, Tryz.ntmps96
    go_wp2
    all_goals first | (exfalso; omega) | skip
    all_goals go_ret3
    all_goals exact ⟨Below.refl _ _, by rw [HE.out]; exact rfl⟩
  have h2 : l.length ≤ 60 := by omega
  have HE := Lib.hid (show checkPats l = (match firstAt (badPat l) (l.length - 0) 0 with
    | none => (0, 0)
    | some i => ((i : Int), 3)) by unfold checkPats; rw [if_neg h1])
  clear h1
  obtain ⟨i0, hi0, hz0, hz1, hz2⟩ := info_parts infoP
  obtain ⟨w0, hmk, hown0, hg0⟩ := run_make_full (P := Tryz.prog) (w := w) w.heap.size 106 225 i0 _ 4 Tryz.underlying106 hi0 hz0 hz1 .i64 .i64 l.length (by rw [hz2]; omega) hl (Nat.le_refl _)
  have hB0 : Below w.heap.size w w0 := (Below.refl _ _).grown hg0 (Nat.le_refl _) (fun q hq => by cases hq)
  have hr0 : PRow w0 w.heap.size l.length (patG l) 0 := by
    refine ⟨?_, fun j hj => absurd hj (Nat.not_lt_zero _)⟩
    rcases hown0.2 with ⟨ev, _⟩ | ⟨g, cap, cur, ev, _, hh, _, _, hsz, _⟩
    · cases ev
    · injection ev with e1 e2 e3
      injection e1 with e1
      injection e1 with e1 _ _
      rw [← e1] at hh
      exact ⟨cur, hh, by rw [hsz, ← e3]⟩
  clear hown0 hg0
  go_enter Tryz.func96, Tryz.ntmps96
  go_wp2
  clear hmk
  go_loopw [18] (fun i wr => ∃ k : Nat, k ≤ l.length ∧ i = .int .i64 k ∧ Hid (firstAt (badPat l) (l.length - 0) 0 = firstAt (badPat l) (l.length - k) k) ∧ Below w.heap.size w wr ∧ PRow wr w.heap.size l.length (patG l) k) (fun i _ => l.length - (intOf i).toNat)
  case atStart => exact ⟨0, Nat.zero_le _, rfl, Lib.hid rfl, hB0, hr0⟩
  case round =>
    obtain ⟨k, hk, rfl, HR, hB, hrow⟩ := hrel
    clear hB0 hr0
    by_cases hlt : k < l.length
    · obtain ⟨p1, rfl, hp1, hc1⟩ := (hX.below hB).at_ hlt
      have hkl : (k : Int) < (l.length : Int) := by omega
      have hsz := Lib.hid (hS k hlt)
      have hBs := hB.size
      have hrl := hrow.lt
      cases hq : patOf (l.getD k noTx).data.toList with
      | none =>
        have HS := Lib.hid (firstAt_stop (q := badPat l) hlt (by unfold badPat; rw [hq]; rfl))
        have HQ := Lib.hid hq; clear hq
        generalize l.getD k noTx = s at hc1 hsz HQ
        go_wp2_with fail
        refine (patternOf_any s _ hsz.out).mono ?_
        rw [HQ.out]
        rintro e w1 ⟨⟨s0, A0, n0, c0, t1, t2, rfl⟩, hb1⟩
        have hB1 := (hB.trans (hb1.mono hB.size)).alloc (by have := hb1.size; omega) (.cells #[.string s0, .slice A0 n0 c0, .bool t1, .bool t2] 225)
        go_wp2
        go_ret3
        have HK : checkPats l = ((k : Int), 3) := by rw [HE.out, HR.out, HS.out]
        exact ⟨hB1, by rw [HK]; exact rfl⟩
      | some x =>
        have HS := Lib.hid (firstAt_go (q := badPat l) hlt (by unfold badPat; rw [hq]; rfl))
        have HG : Hid (patG l k = x) := Lib.hid (by unfold patG; rw [hq]; try rfl)
        have hok := patOf_ok hq
        have HQ := Lib.hid hq; clear hq
        generalize l.getD k noTx = s at hc1 hsz HQ
        go_wp2_with fail
        refine (patternOf_any s _ hsz.out).mono ?_
        rw [HQ.out]
        rintro e w1 ⟨ls, v, rfl, hls, hown, hb1⟩
        obtain ⟨n, hxn⟩ : ∃ n, x.ds.length = n + 1 := ⟨x.ls.length, hok.2.2.1⟩
        rw [hxn] at hown
        have HXN := Lib.hid hxn; clear hxn hok
        obtain ⟨g, cap, rfl⟩ := own_pos hown
        have hib := (hown.lt g rfl)
        have hI := (ints_of_row hown)
        have hB1 := (hB.trans (hb1.mono hB.size))
        have hB2 := hB1.alloc hB1.size (.cells #[.string ls, .slice (some ⟨g, 0, none⟩) (n + 1) cap, .bool x.start, .bool x.stop] 225)
        have hr2 := (hrow.below hb1).below ((Below.refl w1.heap.size w1).alloc (Nat.le_refl _) (.cells #[.string ls, .slice (some ⟨g, 0, none⟩) (n + 1) cap, .bool x.start, .bool x.stop] 225))
        have hI2 := hI.alloc (.cells #[.string ls, .slice (some ⟨g, 0, none⟩) (n + 1) cap, .bool x.start, .bool x.stop] 225)
        obtain ⟨z0, y0⟩ := hr2.some_ (j := k * 4) (by omega)
        obtain ⟨z1, y1⟩ := hr2.some_ (j := k * 4 + 1) (by omega)
        obtain ⟨z2, y2⟩ := hr2.some_ (j := k * 4 + 2) (by omega)
        obtain ⟨z3, y3⟩ := hr2.some_ (j := k * 4 + 3) (by omega)
        have hfz := hr2.frozen
        have hB3 := (((hB2.setCell (p := ⟨w.heap.size, k * 4, none⟩) (Nat.le_refl _) (.string ls)).setCell (p := ⟨w.heap.size, k * 4 + 1, none⟩) (Nat.le_refl _) (.slice (some ⟨g, 0, none⟩) (n + 1) cap)).setCell (p := ⟨w.heap.size, k * 4 + 2, none⟩) (Nat.le_refl _) (.bool x.start)).setCell (p := ⟨w.heap.size, k * 4 + 3, none⟩) (Nat.le_refl _) (.bool x.stop)
        have hr3 := hr2.push (cap := cap) hlt HG.out HXN.out hls (show w.heap.size < g by have := hib.1; omega) hI2
        have HB3 := Lib.hid hB3; have HR3 := Lib.hid hr3
        clear hB3 hr3
        go_wp2
        go_roundw
        case rel => exact ⟨k + 1, by omega, by go_num, Lib.hid (HR.out.trans HS.out), HB3.out, HR3.out⟩
        case measure => simp [intOf]; omega
    · have HS := Lib.hid (firstAt_end (q := badPat l) hlt)
      have hkn : k = l.length := by omega
      subst hkn
      go_wp2
      go_ret3
      have HK : checkPats l = (0, 0) := by rw [HE.out, HR.out, HS.out]
      exact ⟨hB, by rw [HK]; exact ⟨_, rfl, Nat.le_refl _, hrow⟩⟩
end Go.Proofs.YtomblajlpanmjaaGreatDoor

/-
  Rules as they lie in memory; which rules the statements look at.
-/
namespace Go.Proofs.YtomblajlpanmjaaGreatDoor
open Go.RowKit Go.Maps

/-- A list of texts: where it lies, its capacity, what it reads. -/
structure TX where
  a : Option Addr
  c : Nat
  l : List ByteArray
structure RU where
  ps : TX
  es : TX
  bs : TX
  left : Int
  right : Int
def TX.val (x : TX) : Value := .slice x.a x.l.length x.c
def TX.at_ (x : TX) (w : World) : Prop := TextsAt w x.a x.l ∧ x.l.length ≤ maxLen ∧ SizesOk x.l
def RU.cells (r : RU) : Array Value := #[.slice r.ps.a r.ps.l.length r.ps.c, .slice r.es.a r.es.l.length r.es.c, .slice r.bs.a r.bs.l.length r.bs.c, .int .i64 r.left, .int .i64 r.right]
def RU.at_ (r : RU) (w : World) : Prop := r.ps.at_ w ∧ r.es.at_ w ∧ r.bs.at_ w
theorem TX.at_.below {x : TX} {w w' : World} (h : x.at_ w) (hb : Below w.heap.size w w') : x.at_ w' := ⟨h.1.below hb, h.2⟩
theorem RU.at_.below {r : RU} {w w' : World} (h : r.at_ w) (hb : Below w.heap.size w w') : r.at_ w' := ⟨h.1.below hb, h.2.1.below hb, h.2.2.below hb⟩
end Go.Proofs.YtomblajlpanmjaaGreatDoor
