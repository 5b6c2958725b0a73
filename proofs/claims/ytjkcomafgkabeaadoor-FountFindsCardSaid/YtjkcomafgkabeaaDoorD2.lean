/-
  The reference: the check of a fount, of a case.
-/
import Derived.Test.YtjkcomafgkabeaaDoorD1
namespace Go.Proofs.YtjkcomafgkabeaaDoor
open Go.RowKit Go.Maps

theorem quiet_more {P : Program} {f : FuncId} {args : Array Value} {w : World} {a n : Nat} {v : Value}
    (h : Calls P f args (w.drewN (a + n)) fun e w' => e = .returned v ∧ w' = w.drewN (a + n)) :
    Calls P f args (w.drewN (a + n)) fun e w'' => e = .returned v ∧ ∃ m, w'' = w.drewN (a + m) :=
  h.mono fun _ _ ⟨he, hm⟩ => ⟨he, n, hm⟩

theorem SortsAt.take {w : World} {a : Option Addr} {l : List TS} (h : SortsAt w a l) {k : Nat} (hk : k ≤ l.length) : SortsAt w a (l.take k) := fun j hj => by
  rw [List.length_take] at hj
  have e : (l.take k).getD j noTS = l.getD j noTS := by
    rw [List.getD_eq_getElem?_getD, List.getD_eq_getElem?_getD, List.getElem?_take_of_lt (by omega)]
  rw [e]; exact h j (by omega)
theorem SortsAt.drewN {w : World} {a : Option Addr} {l : List TS} (h : SortsAt w a l) (n : Nat) : SortsAt (w.drewN n) a l := h

theorem named_no {a : Option Addr} {l : List TS} {n c : Nat} {s : ByteArray} {w : World} (hn : n = l.length) (hF : SortsAt w a l) (hl : l.length ≤ maxLen) (h : l.any (sameName s) = false) :
    Calls Tryd.prog 74 #[.slice a n c, .string s] w fun e w' => e = .returned (.int .i64 (-1)) ∧ w' = w := by
  have := named_any a l n c s w hn hF hl
  rw [none_of_any h] at this
  exact this
theorem named_yes {a : Option Addr} {l : List TS} {n c : Nat} {s : ByteArray} {w : World} {i : Nat} (hn : n = l.length) (hF : SortsAt w a l) (hl : l.length ≤ maxLen) (h : l.findIdx? (sameName s) = some i) :
    Calls Tryd.prog 74 #[.slice a n c, .string s] w fun e w' => e = .returned (.int .i64 (i : Int)) ∧ w' = w := by
  have := named_any a l n c s w hn hF hl
  rw [h] at this
  exact this
theorem some_of_any {l : List TS} {p : TS → Bool} (h : l.any p = true) : ∃ i, l.findIdx? p = some i := by
  cases e : l.findIdx? p with
  | none => rw [any_none e] at h; cases h
  | some i => exact ⟨i, rfl⟩
theorem inB_cases (n lo hi : Int) : (inB n lo hi = true ∧ lo ≤ n ∧ n ≤ hi) ∨ (inB n lo hi = false ∧ ¬ (lo ≤ n ∧ n ≤ hi)) := by
  cases h : inB n lo hi
  · exact .inr ⟨rfl, of_decide_eq_false h⟩
  · exact .inl ⟨rfl, inB_iff.1 h⟩

structure RefRel (w : World) (f : FT) (a : Option Addr) (c k : Nat) (wr : World) : Prop where
  below : Below w.heap.size w wr
  err : firstErr f.sorts f.sorts.length 0 = firstErr f.sorts (f.sorts.length - k) k
  lt : w.heap.size < wr.heap.size
  c0 : wr.cell? ⟨w.heap.size, 2, none⟩ = some (.slice a f.sorts.length c)

set_option maxRecDepth 100000 in
set_option maxHeartbeats 4000000 in
theorem refCheckFount_any (f : FT) (a : Option Addr) (c : Nat) (w : World) (hc : f.sorts.length ≤ c) (hO : OkF f) (hF : SortsAt w a f.sorts) :
    Calls Tryd.prog 22 #[.agg #[.string f.name, .int .i64 f.body, .slice a f.sorts.length c]] w (Checked2 w f) := by
  have hO1 := hO.1
  have hO2 := hO.2.1
  have hB0 := (Below.refl w.heap.size w).alloc (Nat.le_refl _) (.cells #[.string f.name, .int .i64 f.body, .slice a f.sorts.length c] 24)
  by_cases h1 : frameErr f.name f.body f.sorts.length = 0
  · have HC := Lib.hid (checkF_of h1)
    have hle := frame_le h1
    have h1' := h1
    unfold frameErr at h1'
    split at h1'
    · cases h1'
    rename_i e1
    split at h1'
    · cases h1'
    rename_i e2
    split at h1'
    · cases h1'
    rename_i e3
    have e1 : isNameB f.name = true := by simpa using e1
    have e2 : inB f.body 1 144 = true := by simpa using e2
    have e3' : ((f.sorts.length : Int) == 0) = false := by simpa using e3
    have H1 := Lib.hid h1
    clear h1 h1' e3
    go_enter Tryd.func22, Tryd.ntmps22
    go_wp2_with (first | (go_at_call 73; refine (refIsName_any _ _ hO1).mono ?_; rintro e w' ⟨rfl, rfl⟩) | (go_at_call 30; refine (within_any _ _ _ _).mono ?_; rintro e w' ⟨rfl, rfl⟩))
    go_loopw [4] (fun i wr => ∃ k : Nat, k ≤ f.sorts.length ∧ i = .int .i64 k ∧ RefRel w f a c k wr) (fun i _ => f.sorts.length - (intOf i).toNat)
    case atStart => exact ⟨0, Nat.zero_le _, rfl, hB0, rfl, by simp, by simp⟩
    case round =>
      obtain ⟨k, hk, rfl, RB, RE, RL, r0⟩ := hrel
      have RE' := Lib.hid RE; clear RE
      by_cases hlt : k < f.sorts.length
      · have hFr := hF.below RB
        obtain ⟨ad, rfl, had, s0, s1, s2, s3⟩ := hFr.at_ hlt
        have hx := hO.at_ hlt
        obtain ⟨x, ex⟩ : ∃ x, x = f.sorts.getD k noTS := ⟨_, rfl⟩
        rw [← ex] at s0 s1 s2 s3 hx
        have EX := Lib.hid ex; clear ex
        have hadb : (ad.add (k * 4)).block < wr.heap.size := by rw [add_block]; exact had
        have htk : k = (f.sorts.take k).length := by rw [List.length_take]; omega
        have hFk := (hFr.alloc (.cells #[.string x.name, .string x.text, .int .i64 x.kind, .int .i64 x.width] 47)).take (k := k) (by omega)
        have hlk : (f.sorts.take k).length ≤ maxLen := by rw [← htk]; omega
        have HTK := Lib.hid htk; clear htk
        have hkc : k ≤ c := by omega
        cases hnm : isNameB x.name
        · have hfe : firstErr f.sorts (f.sorts.length - k) k = ((k : Int), 4) := by
            have e := firstErr_stop (l := f.sorts) hlt
            rw [← EX.out] at e
            have e4 : sortErr (f.sorts.take k) x = 4 := by rw [sortErr_name (by rw [nameErr_bad hnm]; decide), nameErr_bad hnm]
            rw [e (by rw [e4]; decide), e4]
          have HFE := Lib.hid hfe; clear hfe
          go_wp2_with (go_at_call 73; refine (refIsName_any _ _ hx.1).mono ?_; rintro e w' ⟨rfl, rfl⟩)
          go_ret2
          exact ⟨ret2_int (by rw [HC.out, RE'.out, HFE.out]) (by rw [HC.out, RE'.out, HFE.out]), RB.alloc (by omega) _⟩
        cases hdup : (f.sorts.take k).any (sameName x.name)
        · have hn0 := nameErr_ok hnm hdup
          cases hkd : inB x.kind 1 3
          · have HSE := Lib.hid (sortErr_kind (x := x) hn0 hkd)
            have HNZ := Lib.hid (show (15 : Int) ≠ 0 by decide)
            have HFE := Lib.hid (show firstErr f.sorts (f.sorts.length - k) k = ((k : Int), 15) by
              have e := firstErr_stop (l := f.sorts) hlt
              rw [← EX.out] at e
              rw [e (by rw [HSE.out]; exact HNZ.out), HSE.out])
            clear hn0
            go_wp2_with (go_at_call 73; refine (refIsName_any _ _ hx.1).mono ?_; rintro e w' ⟨rfl, rfl⟩)
            go_quiet ((go_at_call 74; exact Calls.quiet_of_same (named_no HTK.out (hFk.drewN _) hlk hdup)))
            go_wp2_with (go_at_call 30; refine (within_any _ _ _ _).mono ?_; rintro e w' ⟨rfl, rfl⟩)
            go_ret2
            exact ⟨ret2_int (by rw [HC.out, RE'.out, HFE.out]) (by rw [HC.out, RE'.out, HFE.out]), (below_drewN (RB.alloc (by omega) _) _)⟩
          have hkd2 := inB_iff.1 hkd
          by_cases hwd : widthErr x.width = 0
          · have hwd' : inB x.width 1 100000 = true := by
              cases e : inB x.width 1 100000
              · unfold widthErr at hwd; rw [e] at hwd; simp at hwd
              · rfl
            by_cases htx : textErr (f.sorts.take k) x.kind x.text = 0
            · have HFE := Lib.hid (show firstErr f.sorts (f.sorts.length - k) k = firstErr f.sorts (f.sorts.length - (k + 1)) (k + 1) from firstErr_go hlt (by rw [← EX.out, sortErr_text hn0 hkd hwd]; exact htx))
              have HTX := Lib.hid htx
              clear hn0 hwd htx
              have hpe := fun n => printsErr_any (some ad) (f.sorts.take k) k c x.kind x.text ((wr.alloc (.cells #[.string x.name, .string x.text, .int .i64 x.kind, .int .i64 x.width] 47)).drewN n) HTK.out (hFk.drewN _) hlk hx.2 hkd2
              rw [HTX.out] at hpe
              have HPE := Lib.hid hpe; clear hpe
              go_wp2_with (go_at_call 73; refine (refIsName_any _ _ hx.1).mono ?_; rintro e w' ⟨rfl, rfl⟩)
              go_quiet ((go_at_call 74; exact Calls.quiet_of_same (named_no HTK.out (hFk.drewN _) hlk hdup)))
              go_wp2_with (go_at_call 30; refine (within_any _ _ _ _).mono ?_; rintro e w' ⟨rfl, rfl⟩)
              go_quiet ((go_at_call 75; exact quiet_more (HPE.out _)))
              go_wp2
              go_roundw
              case rel => exact ⟨k + 1, by omega, by go_num, below_drewN (RB.alloc (by omega) _) _, RE'.out.trans HFE.out, by show w.heap.size < (wr.alloc _).heap.size; simp; omega, (World.cell?_alloc_past _ _ _ RL).trans r0⟩
              case measure => simp [intOf]; omega
            · have HFE := Lib.hid (show firstErr f.sorts (f.sorts.length - k) k = ((k : Int), textErr (f.sorts.take k) x.kind x.text) by
                have e := firstErr_stop (l := f.sorts) hlt
                rw [← EX.out, sortErr_text hn0 hkd hwd] at e
                exact e htx)
              have hpe := fun n => printsErr_any (some ad) (f.sorts.take k) k c x.kind x.text ((wr.alloc (.cells #[.string x.name, .string x.text, .int .i64 x.kind, .int .i64 x.width] 47)).drewN n) HTK.out (hFk.drewN _) hlk hx.2 hkd2
              have HPE := Lib.hid hpe
              have htb : (textErr (f.sorts.take k) x.kind x.text != 0) = true := by simpa using htx
              clear hn0 hwd htx hpe
              go_wp2_with (go_at_call 73; refine (refIsName_any _ _ hx.1).mono ?_; rintro e w' ⟨rfl, rfl⟩)
              go_quiet ((go_at_call 74; exact Calls.quiet_of_same (named_no HTK.out (hFk.drewN _) hlk hdup)))
              go_wp2_with (go_at_call 30; refine (within_any _ _ _ _).mono ?_; rintro e w' ⟨rfl, rfl⟩)
              go_quiet ((go_at_call 75; exact quiet_more (HPE.out _)))
              go_wp2
              go_ret2
              exact ⟨ret2_int (by rw [HC.out, RE'.out, HFE.out]) (by rw [HC.out, RE'.out, HFE.out]), below_drewN (RB.alloc (by omega) _) _⟩
          · have hwd' : inB x.width 1 100000 = false := by
              cases e : inB x.width 1 100000
              · rfl
              · unfold widthErr at hwd; rw [e] at hwd; simp at hwd
            have HFE := Lib.hid (show firstErr f.sorts (f.sorts.length - k) k = ((k : Int), 2) by
              have e := firstErr_stop (l := f.sorts) hlt
              have e2 : widthErr x.width = 2 := by unfold widthErr; rw [if_pos hwd']
              rw [← EX.out, sortErr_width hn0 hkd hwd, e2] at e
              exact e (by decide))
            clear hn0 hwd
            go_wp2_with (go_at_call 73; refine (refIsName_any _ _ hx.1).mono ?_; rintro e w' ⟨rfl, rfl⟩)
            go_quiet ((go_at_call 74; exact Calls.quiet_of_same (named_no HTK.out (hFk.drewN _) hlk hdup)))
            go_wp2_with (go_at_call 30; refine (within_any _ _ _ _).mono ?_; rintro e w' ⟨rfl, rfl⟩)
            go_ret2
            exact ⟨ret2_int (by rw [HC.out, RE'.out, HFE.out]) (by rw [HC.out, RE'.out, HFE.out]), below_drewN (RB.alloc (by omega) _) _⟩
        · have HFE := Lib.hid (show firstErr f.sorts (f.sorts.length - k) k = ((k : Int), 5) by
            have e := firstErr_stop (l := f.sorts) hlt
            rw [← EX.out] at e
            have e4 : sortErr (f.sorts.take k) x = 5 := by rw [sortErr_name (by rw [nameErr_dup hnm hdup]; decide), nameErr_dup hnm hdup]
            rw [e (by rw [e4]; decide), e4])
          obtain ⟨i, hi⟩ := some_of_any hdup
          have HI := Lib.hid hi
          have hi0 : (0 : Int) ≤ (i : Int) := by omega
          clear hi hdup
          go_wp2_with (go_at_call 73; refine (refIsName_any _ _ hx.1).mono ?_; rintro e w' ⟨rfl, rfl⟩)
          go_quiet ((go_at_call 74; exact Calls.quiet_of_same (named_yes HTK.out (hFk.drewN _) hlk HI.out)))
          go_wp2
          go_ret2
          exact ⟨ret2_int (by rw [HC.out, RE'.out, HFE.out]) (by rw [HC.out, RE'.out, HFE.out]), below_drewN (RB.alloc (by omega) _) _⟩
      · have HFE := Lib.hid (firstErr_end (l := f.sorts) hlt)
        go_wp2
        go_ret2
        exact ⟨ret2_int (by rw [HC.out, RE'.out, HFE.out]) (by rw [HC.out, RE'.out, HFE.out]), RB⟩
  · have HC := Lib.hid (checkF_frame h1)
    unfold maxLen at hO2
    have h1k := h1
    clear h1
    cases e1 : isNameB f.name
    · have HE := Lib.hid (frame_name (body := f.body) (n := f.sorts.length) e1)
      go_enter Tryd.func22, Tryd.ntmps22
      go_wp2_with (go_at_call 73; refine (refIsName_any _ _ hO1).mono ?_; rintro e w' ⟨rfl, rfl⟩)
      go_ret2
      exact ⟨ret2_int (by rw [HC.out]) (by rw [HC.out, HE.out]), hB0⟩
    cases e2 : inB f.body 1 144
    · have HE := Lib.hid (frame_body (body := f.body) (n := f.sorts.length) e1 (by unfold inB at e2; have := of_decide_eq_false e2; omega))
      go_enter Tryd.func22, Tryd.ntmps22
      go_wp2_with (first | (go_at_call 73; refine (refIsName_any _ _ hO1).mono ?_; rintro e w' ⟨rfl, rfl⟩) | (go_at_call 30; refine (within_any _ _ _ _).mono ?_; rintro e w' ⟨rfl, rfl⟩))
      go_ret2
      exact ⟨ret2_int (by rw [HC.out]) (by rw [HC.out, HE.out]), hB0⟩
    have HE := Lib.hid (frame_len (n := f.sorts.length) e1 (inB_iff.1 e2).1 (inB_iff.1 e2).2)
    by_cases e3 : f.sorts.length = 0
    · have H3 := Lib.hid e3
      have e3' : ((f.sorts.length : Int) == 0) = true := by simpa using e3
      clear e3
      go_enter Tryd.func22, Tryd.ntmps22
      go_wp2_with (first | (go_at_call 73; refine (refIsName_any _ _ hO1).mono ?_; rintro e w' ⟨rfl, rfl⟩) | (go_at_call 30; refine (within_any _ _ _ _).mono ?_; rintro e w' ⟨rfl, rfl⟩))
      go_ret2
      exact ⟨ret2_int (by rw [HC.out]) (by rw [HC.out, HE.out, if_pos H3.out]), hB0⟩
    · have H3 := Lib.hid e3
      have e3' : ((f.sorts.length : Int) == 0) = false := by simpa using e3
      by_cases e4 : 120 < f.sorts.length
      · clear e3
        go_enter Tryd.func22, Tryd.ntmps22
        go_wp2_with (first | (go_at_call 73; refine (refIsName_any _ _ hO1).mono ?_; rintro e w' ⟨rfl, rfl⟩) | (go_at_call 30; refine (within_any _ _ _ _).mono ?_; rintro e w' ⟨rfl, rfl⟩))
        go_ret2
        exact ⟨ret2_int (by rw [HC.out]) (by rw [HC.out, HE.out, if_neg H3.out, if_pos e4]), hB0⟩
      · exact absurd (by rw [HE.out, if_neg e3, if_neg e4]) h1k
set_option maxRecDepth 100000 in
set_option maxHeartbeats 1000000 in
theorem refErr_any (f : FT) (a : Option Addr) (c : Nat) (w : World) (hc : f.sorts.length ≤ c) (hO : OkF f) (hF : SortsAt w a f.sorts) :
    Calls Tryd.prog 29 #[.agg #[.string f.name, .int .i64 f.body, .slice a f.sorts.length c]] w fun e w' => e = .returned (.int .i64 (checkF f).2) ∧ Below w.heap.size w w' := by
  have hB0 := (Below.refl w.heap.size w).alloc (Nat.le_refl _) (.cells #[.string f.name, .int .i64 f.body, .slice a f.sorts.length c] 24)
  go_enter Tryd.func29, Tryd.ntmps29
  go_wp2_with fail
  refine (refCheckFount_any f a c _ hc hO (by exact hF.alloc _)).mono ?_
  rintro e w1 ⟨rfl, hb⟩
  have hB1 := hB0.trans (hb.mono (B' := w.heap.size) (by simp))
  clear hb hB0
  go_wp2
  go_ret
  exact ⟨rfl, hB1⟩

theorem caseErr_fount {f : FT} {l : List Int} (h : (checkF f).2 ≠ 0) : caseErr f l = (checkF f).2 := by unfold caseErr; rw [if_pos h]
theorem caseErr_rest {f : FT} {l : List Int} (h : (checkF f).2 = 0) : caseErr f l = countErr f.sorts.length l := by unfold caseErr; rw [if_neg (by simp [h])]
set_option maxRecDepth 100000 in
set_option maxHeartbeats 1000000 in
theorem refCheckCase_any (f : FT) (a : Option Addr) (c : Nat) (b : Option Addr) (l : List Int) (d : Nat) (w : World) (hc : f.sorts.length ≤ c) (hO : OkF f) (hF : SortsAt w a f.sorts) (hX : IntsAt w b l) (hl : l.length ≤ maxLen) :
    Calls Tryd.prog 43 #[.agg #[.string f.name, .int .i64 f.body, .slice a f.sorts.length c], .slice b l.length d] w fun e w' => e = .returned (.int .i64 (caseErr f l)) ∧ Below w.heap.size w w' := by
  have hO2 := hO.2.1
  unfold maxLen at hl hO2
  have hB0 := (Below.refl w.heap.size w).alloc (Nat.le_refl _) (.cells #[.string f.name, .int .i64 f.body, .slice a f.sorts.length c] 24)
  by_cases h1 : (checkF f).2 = 0
  · have HC := Lib.hid (caseErr_rest (l := l) h1)
    go_enter Tryd.func43, Tryd.ntmps43
    go_wp2_with fail
    refine (refErr_any f a c _ hc hO (by exact hF.alloc _)).mono ?_
    rintro e w1 ⟨rfl, hb⟩
    rw [h1]
    clear h1
    obtain ⟨hcc, hff⟩ := bcell hb
    have b2 : w1.cell? ⟨w.heap.size, 2, none⟩ = some (.slice a f.sorts.length c) := by rw [hcc _ _ (by simp)]; simp
    have hB1 := hB0.trans (hb.mono (B' := w.heap.size) (by simp))
    have hi := hX.below hB1
    clear hb hB0 hcc hff
    by_cases hn : l.length = f.sorts.length
    · have hne : ((l.length : Int) != (f.sorts.length : Int)) = false := by simp [hn]
      have HN := Lib.hid (countErr_rest hn)
      clear hn
      go_wp2
      go_loop [6] (fun i => ∃ j : Nat, j ≤ l.length ∧ i = .int .i64 j ∧ Hid (l.any outB = (l.drop j).any outB)) (fun i => l.length - (intOf i).toNat)
      case atStart => exact ⟨0, Nat.zero_le _, rfl, Lib.hid (by rw [List.drop_zero])⟩
      case round =>
        obtain ⟨j, hj, rfl, HJ⟩ := hrel
        by_cases hjl : j < l.length
        · obtain ⟨bd, rfl, hbdl, hjc⟩ := hi.at_ hjl
          have hoc := outs_cons hjl
          obtain ⟨v, ev⟩ : ∃ v, v = l.getD j 0 := ⟨_, rfl⟩
          rw [← ev] at hjc hoc
          clear ev
          cases ho : inB v 0 1000000
          · rw [out_yes (by unfold inB at ho; have := of_decide_eq_false ho; omega), Bool.true_or] at hoc
            have HOC := Lib.hid hoc; clear hoc
            go_wp2_with (go_at_call 30; refine (within_any _ _ _ _).mono ?_; rintro e w' ⟨rfl, rfl⟩)
            go_ret
            exact ⟨ret_int (by rw [HC.out, HN.out, HJ.out, HOC.out]; rfl), hB1⟩
          · rw [out_no (by have := inB_iff.1 ho; omega), Bool.false_or] at hoc
            have HOC := Lib.hid hoc; clear hoc
            go_wp2_with (go_at_call 30; refine (within_any _ _ _ _).mono ?_; rintro e w' ⟨rfl, rfl⟩)
            go_round
            case rel => exact ⟨j + 1, by omega, by go_num, Lib.hid (HJ.out.trans HOC.out)⟩
            case measure => simp [intOf]; omega
        · have HOC := Lib.hid (outs_end hjl)
          go_wp2
          go_ret
          exact ⟨ret_int (by rw [HC.out, HN.out, HJ.out, HOC.out]; rfl), hB1⟩
    · have hne : ((l.length : Int) != (f.sorts.length : Int)) = true := by simp; omega
      have HN := Lib.hid (countErr_len hn)
      clear hn
      go_wp2
      go_ret
      exact ⟨ret_int (by rw [HC.out, HN.out]), hB1⟩
  · have HC := Lib.hid (caseErr_fount (l := l) h1)
    have heb : ((checkF f).2 != 0) = true := by simpa using h1
    clear h1
    go_enter Tryd.func43, Tryd.ntmps43
    go_wp2_with fail
    refine (refErr_any f a c _ hc hO (by exact hF.alloc _)).mono ?_
    rintro e w1 ⟨rfl, hb⟩
    have hB1 := hB0.trans (hb.mono (B' := w.heap.size) (by simp))
    clear hb hB0
    go_wp2
    go_ret
    exact ⟨ret_int (by rw [HC.out]), hB1⟩
end Go.Proofs.YtjkcomafgkabeaaDoor
