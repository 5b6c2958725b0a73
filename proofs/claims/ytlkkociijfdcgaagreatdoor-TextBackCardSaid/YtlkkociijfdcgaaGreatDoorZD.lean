/-
  The reference: a sort's number by its name, the error of what a sort prints.
-/
import Derived.Test.YtlkkociijfdcgaaGreatDoorZB
import Derived.Laws.AppendOwnNone
import Derived.Deep.RegionHeld3
namespace Go.Proofs.YtlkkociijfdcgaaGreatDoor
open Go.RowKit Go.Maps

/-- The first place, from the k-th on, n places far, at which q holds. -/
def firstAt (q : Nat → Bool) : Nat → Nat → Option Nat
  | 0, _ => none
  | n + 1, k => if q k = true then some k else firstAt q n (k + 1)
theorem firstAt_stop {q : Nat → Bool} {n k : Nat} (h : k < n) (e : q k = true) : firstAt q (n - k) k = some k := by
  obtain ⟨m, hm⟩ : ∃ m, n - k = m + 1 := ⟨n - k - 1, by omega⟩
  rw [hm]; unfold firstAt; rw [if_pos e]
theorem firstAt_go {q : Nat → Bool} {n k : Nat} (h : k < n) (e : q k = false) : firstAt q (n - k) k = firstAt q (n - (k + 1)) (k + 1) := by
  obtain ⟨m, hm⟩ : ∃ m, n - k = m + 1 := ⟨n - k - 1, by omega⟩
  rw [hm, show n - (k + 1) = m by omega]
  show (if _ then _ else _) = _
  rw [if_neg (by simp [e])]
theorem firstAt_end {q : Nat → Bool} {n k : Nat} (h : ¬ k < n) : firstAt q (n - k) k = none := by rw [show n - k = 0 by omega]; rfl
theorem firstAt_list (p : TS → Bool) : ∀ (l : List TS) (k : Nat), firstAt (fun i => p (l.getD (i - k) noTS)) l.length k = (l.findIdx? p).map (· + k) := by
  intro l
  induction l with
  | nil => intro k; rfl
  | cons x r ih =>
    intro k
    show (if p ((x :: r).getD (k - k) noTS) = true then _ else _) = _
    rw [List.findIdx?_cons]
    have e0 : (x :: r).getD (k - k) noTS = x := by rw [Nat.sub_self]; rfl
    rw [e0]
    cases hx : p x
    · rw [if_neg (by simp)]
      have : ∀ n j, k + 1 ≤ j → firstAt (fun i => p ((x :: r).getD (i - k) noTS)) n j = firstAt (fun i => p (r.getD (i - (k + 1)) noTS)) n j := by
        intro n
        induction n with
        | zero => intro j _; rfl
        | succ n ihn =>
          intro j hj
          show (if p ((x :: r).getD (j - k) noTS) = true then _ else _) = (if p (r.getD (j - (k + 1)) noTS) = true then _ else _)
          have e1 : (x :: r).getD (j - k) noTS = r.getD (j - (k + 1)) noTS := by
            rw [show j - k = (j - (k + 1)) + 1 by omega]; rfl
          rw [e1, ihn (j + 1) (by omega)]
      rw [this _ _ (Nat.le_refl _), ih (k + 1)]
      cases r.findIdx? p <;> simp; omega
    · rw [if_pos rfl]; simp
theorem firstAt_idx (p : TS → Bool) (l : List TS) : firstAt (fun i => p (l.getD i noTS)) (l.length - 0) 0 = l.findIdx? p := by
  have := firstAt_list p l 0
  simpa using this
def idxI (o : Option Nat) : Int := match o with | some i => i | none => -1

set_option maxRecDepth 100000 in
set_option maxHeartbeats 1000000 in
theorem named_any (a : Option Addr) (l : List TS) (n c : Nat) (s : ByteArray) (w : World) (hn : n = l.length) (hF : SortsAt w a l) (hl : l.length ≤ maxLen) :
    Calls Tryz.prog 155 #[.slice a n c, .string s] w fun e w' => e = .returned (.int .i64 (idxI (l.findIdx? (sameName s)))) ∧ w' = w := by
  subst hn
  have HI := Lib.hid (firstAt_idx (sameName s) l)
  unfold maxLen at hl
  go_enter Tryz.func155, Tryz.ntmps155
  go_wp2
  go_loop [5] (fun i => ∃ k : Nat, k ≤ l.length ∧ i = .int .i64 k ∧ Hid (firstAt (fun i => sameName s (l.getD i noTS)) (l.length - 0) 0 = firstAt (fun i => sameName s (l.getD i noTS)) (l.length - k) k)) (fun i => l.length - (intOf i).toNat)
  case atStart => exact ⟨0, Nat.zero_le _, rfl, Lib.hid rfl⟩
  case round =>
    obtain ⟨k, hk, rfl, HR⟩ := hrel
    by_cases hlt : k < l.length
    · obtain ⟨ad, rfl, had, s0, s1, s2, s3⟩ := hF.at_ hlt
      clear s1 s2 s3
      obtain ⟨x, ex⟩ : ∃ x, x = l.getD k noTS := ⟨_, rfl⟩
      rw [← ex] at s0
      have EX := Lib.hid ex; clear ex
      cases hq : (x.name.toList == s.toList)
      · have HS := Lib.hid (firstAt_go (q := fun i => sameName s (l.getD i noTS)) hlt (by show (_ == _) = false; rw [← EX.out]; exact hq))
        go_wp2
        go_round
        case rel => exact ⟨k + 1, by omega, by go_num, Lib.hid (HR.out.trans HS.out)⟩
        case measure => simp [intOf]; omega
      · have HS := Lib.hid (firstAt_stop (q := fun i => sameName s (l.getD i noTS)) hlt (by show (_ == _) = true; rw [← EX.out]; exact hq))
        go_wp2
        go_ret
        exact ⟨ret_int (by rw [← HI.out, HR.out, HS.out]; rfl), rfl⟩
    · have HS := Lib.hid (firstAt_end (q := fun i => sameName s (l.getD i noTS)) hlt)
      go_wp2
      go_ret
      exact ⟨ret_int (by rw [← HI.out, HR.out, HS.out]; rfl), rfl⟩

theorem textErr_tail {l : List TS} {k : Int} {s : ByteArray} (h : textErr l k s = if badsB s.data.toList = true then 3 else if k ≠ 3 ∧ l.any (sameText s) = true then 13 else 0) (h2 : badsB s.data.toList = false) :
    textErr l k s = if k ≠ 3 ∧ l.any (sameText s) = true then 13 else 0 := by rw [h, if_neg (by simp [h2])]

set_option maxRecDepth 100000 in
set_option maxHeartbeats 4000000 in
theorem printsErr_any (a : Option Addr) (l : List TS) (n c : Nat) (kind : Int) (s : ByteArray) (w : World) (hn : n = l.length) (hF : SortsAt w a l) (hl : l.length ≤ maxLen) (hs : s.size ≤ maxLen) (hk : 1 ≤ kind ∧ kind ≤ 3) :
    Calls Tryz.prog 156 #[.slice a n c, .int .i64 kind, .string s] w fun e w' => e = .returned (.int .i64 (textErr l kind s)) ∧ w' = w := by
  subst hn
  have HI := Lib.hid (firstAt_idx (sameText s) l)
  unfold maxLen at hl hs
  have h3 : kind = 1 ∨ kind = 2 ∨ kind = 3 := by omega
  clear hk
  cases hlen : inB s.size (leastOf kind) (mostOf kind)
  · have HE := Lib.hid (textErr_len (l := l) (k := kind) (s := s) hlen)
    rcases h3 with rfl | rfl | rfl
    all_goals
      simp only [leastOf, mostOf] at hlen
      simp at hlen
      go_enter Tryz.func156, Tryz.ntmps156
      go_wp2_with (go_at_call 76; refine (within_any _ _ _ _).mono ?_; rintro e w' ⟨rfl, rfl⟩)
      go_ret
      exact ⟨ret_int HE.out.symm, rfl⟩
  have HE := Lib.hid (textErr_rest (l := l) (k := kind) (s := s) hlen)
  rcases h3 with rfl | rfl | rfl
  all_goals
    simp only [leastOf, mostOf] at hlen
    simp at hlen
    go_enter Tryz.func156, Tryz.ntmps156
    go_wp2_with (go_at_call 76; refine (within_any _ _ _ _).mono ?_; rintro e w' ⟨rfl, rfl⟩)
    go_loop [9] (fun i => ∃ k : Nat, k ≤ s.size ∧ i = .int .i64 k ∧ Hid (badsB s.data.toList = badsB (s.data.toList.drop k))) (fun i => s.size - (intOf i).toNat)
    case atStart => exact ⟨0, Nat.zero_le _, rfl, Lib.hid (by rw [List.drop_zero])⟩
    case round =>
      obtain ⟨k, hk, rfl, HR⟩ := hrel
      by_cases hlt : k < s.size
      · have hc := bads_cons s k hlt
        by_cases hb : (s[k].toNat : Int) < 33 ∨ 126 < (s[k].toNat : Int)
        · rw [bad_yes hb, Bool.true_or] at hc
          have HC := Lib.hid hc; clear hc
          go_wp2
          all_goals first | (exfalso; omega) | (exfalso; (simp at *) <;> omega) | skip
          all_goals go_ret
          all_goals exact ⟨ret_int (by rw [HE.out, HR.out, HC.out]; rfl), rfl⟩
        · rw [bad_no hb, Bool.false_or] at hc
          have HC := Lib.hid hc; clear hc
          have h33 : 33 ≤ (s[k].toNat : Int) := by omega
          have h126 : (s[k].toNat : Int) ≤ 126 := by omega
          clear hb
          go_wp2
          all_goals go_round
          all_goals first | exact ⟨k + 1, by omega, by go_num, Lib.hid (HR.out.trans HC.out)⟩ | (simp [intOf]; omega)
      · have HC := Lib.hid (bads_end s k hlt)
        have HZ := Lib.hid (textErr_tail (l := l) HE.out (HR.out.trans HC.out))
        first
        | (go_wp2
           go_loop [10] (fun i => ∃ j : Nat, j ≤ l.length ∧ i = .int .i64 j ∧ Hid (firstAt (fun i => sameText s (l.getD i noTS)) (l.length - 0) 0 = firstAt (fun i => sameText s (l.getD i noTS)) (l.length - j) j)) (fun i => l.length - (intOf i).toNat)
           case atStart => exact ⟨0, Nat.zero_le _, rfl, Lib.hid rfl⟩
           case round =>
             obtain ⟨j, hj, rfl, HS0⟩ := hrel
             by_cases hjl : j < l.length
             · obtain ⟨ad, rfl, had, s0, s1, s2, s3⟩ := hF.at_ hjl
               clear s0 s3
               obtain ⟨x, ex⟩ : ∃ x, x = l.getD j noTS := ⟨_, rfl⟩
               rw [← ex] at s1 s2
               have EX := Lib.hid ex; clear ex
               cases hk3 : (x.kind != 3)
               · have HS := Lib.hid (firstAt_go (q := fun i => sameText s (l.getD i noTS)) hjl (by show (_ && _) = false; rw [← EX.out, hk3]; rfl))
                 go_wp2
                 go_round
                 case rel => exact ⟨j + 1, by omega, by go_num, Lib.hid (HS0.out.trans HS.out)⟩
                 case measure => simp [intOf]; omega
               · cases ht : (x.text.toList == s.toList)
                 · have HS := Lib.hid (firstAt_go (q := fun i => sameText s (l.getD i noTS)) hjl (by show (_ && _) = false; rw [← EX.out, hk3, ht]; rfl))
                   go_wp2
                   go_round
                   case rel => exact ⟨j + 1, by omega, by go_num, Lib.hid (HS0.out.trans HS.out)⟩
                   case measure => simp [intOf]; omega
                 · have HS := Lib.hid (firstAt_stop (q := fun i => sameText s (l.getD i noTS)) hjl (by show (_ && _) = true; rw [← EX.out, hk3, ht]; rfl))
                   go_wp2
                   go_ret
                   exact ⟨ret_int (by rw [HZ.out, if_pos ⟨by decide, any_some (HI.out.symm.trans (HS0.out.trans HS.out))⟩]), rfl⟩
             · have HS := Lib.hid (firstAt_end (q := fun i => sameText s (l.getD i noTS)) hjl)
               go_wp2
               go_ret
               exact ⟨ret_int (by rw [HZ.out, any_none (HI.out.symm.trans (HS0.out.trans HS.out)), if_neg (by simp)]), rfl⟩)
        | (go_wp2
           go_loop [10] (fun i => ∃ j : Nat, j ≤ l.length ∧ i = .int .i64 j) (fun i => l.length - (intOf i).toNat)
           case atStart => exact ⟨0, Nat.zero_le _, rfl⟩
           case round =>
             obtain ⟨j, hj, rfl⟩ := hrel
             by_cases hjl : j < l.length
             all_goals
               go_wp2
               go_ret
               exact ⟨ret_int (by rw [HZ.out, if_neg (by simp)]), rfl⟩)
end Go.Proofs.YtlkkociijfdcgaaGreatDoor
/-
  The reference: the check of a fount, of a case.
-/
namespace Go.Proofs.YtlkkociijfdcgaaGreatDoor
open Go.RowKit Go.Maps

theorem quiet_more {P : Program} {f : FuncId} {args : Array Value} {w : World} {a n : Nat} {v : Value}
    (h : Calls P f args (w.drewN (a + n)) fun e w' => e = .returned v ∧ w' = w.drewN (a + n)) :
    Calls P f args (w.drewN (a + n)) fun e w'' => e = .returned v ∧ ∃ m, w'' = w.drewN (a + m) :=
  h.mono fun _ _ ⟨he, hm⟩ => ⟨he, n, hm⟩

theorem SortsAt.take {w : World} {a : Option Addr} {l : List TS} (h : SortsAt w a l) {k : Nat} (hk : k ≤ l.length) : SortsAt w a (l.take k) := fun j hj => by
  rw [List.length_take] at hj
  have e : (l.take k).getD j noTS = l.getD j noTS := by
    rw [List.getD_eq_getElem?_getD, List.getD_eq_getElem?_getD, List.getElem?_take_of_lt (by omega)]
  rw [e]; exact h j (by omega)
theorem SortsAt.drewN {w : World} {a : Option Addr} {l : List TS} (h : SortsAt w a l) (n : Nat) : SortsAt (w.drewN n) a l := h

theorem named_no {a : Option Addr} {l : List TS} {n c : Nat} {s : ByteArray} {w : World} (hn : n = l.length) (hF : SortsAt w a l) (hl : l.length ≤ maxLen) (h : l.any (sameName s) = false) :
    Calls Tryz.prog 155 #[.slice a n c, .string s] w fun e w' => e = .returned (.int .i64 (-1)) ∧ w' = w := by
  have := named_any a l n c s w hn hF hl
  rw [none_of_any h] at this
  exact this
theorem named_yes {a : Option Addr} {l : List TS} {n c : Nat} {s : ByteArray} {w : World} {i : Nat} (hn : n = l.length) (hF : SortsAt w a l) (hl : l.length ≤ maxLen) (h : l.findIdx? (sameName s) = some i) :
    Calls Tryz.prog 155 #[.slice a n c, .string s] w fun e w' => e = .returned (.int .i64 (i : Int)) ∧ w' = w := by
  have := named_any a l n c s w hn hF hl
  rw [h] at this
  exact this
theorem some_of_any {l : List TS} {p : TS → Bool} (h : l.any p = true) : ∃ i, l.findIdx? p = some i := by
  cases e : l.findIdx? p with
  | none => rw [any_none e] at h; cases h
  | some i => exact ⟨i, rfl⟩
theorem inB_cases (n lo hi : Int) : (inB n lo hi = true ∧ lo ≤ n ∧ n ≤ hi) ∨ (inB n lo hi = false ∧ ¬ (lo ≤ n ∧ n ≤ hi)) := by
  cases h : inB n lo hi
  · exact .inr ⟨rfl, of_decide_eq_false h⟩
  · exact .inl ⟨rfl, inB_iff.1 h⟩

structure RefRel (w : World) (f : FT) (a : Option Addr) (c k : Nat) (wr : World) : Prop where
  below : Below w.heap.size w wr
  err : firstErr f.sorts f.sorts.length 0 = firstErr f.sorts (f.sorts.length - k) k
  lt : w.heap.size < wr.heap.size
  c0 : wr.cell? ⟨w.heap.size, 2, none⟩ = some (.slice a f.sorts.length c)

set_option maxRecDepth 100000 in
set_option maxHeartbeats 4000000 in
theorem refCheckFount_any (f : FT) (a : Option Addr) (c : Nat) (w : World) (hc : f.sorts.length ≤ c) (hO : OkF f) (hF : SortsAt w a f.sorts) :
    Calls Tryz.prog 106 #[.agg #[.string f.name, .int .i64 f.body, .slice a f.sorts.length c]] w (Checked2 w f) := by
  have hO1 := hO.1
  have hO2 := hO.2.1
  have hB0 := (Below.refl w.heap.size w).alloc (Nat.le_refl _) (.cells #[.string f.name, .int .i64 f.body, .slice a f.sorts.length c] 59)
  by_cases h1 : frameErr f.name f.body f.sorts.length = 0
  · have HC := Lib.hid (checkF_of h1)
    have hle := frame_le h1
    have h1' := h1
    unfold frameErr at h1'
    split at h1'
    · cases h1'
    rename_i e1
    split at h1'
    · cases h1'
    rename_i e2
    split at h1'
    · cases h1'
    rename_i e3
    have e1 : isNameB f.name = true := by simpa using e1
    have e2 : inB f.body 1 144 = true := by simpa using e2
    have e3' : ((f.sorts.length : Int) == 0) = false := by simpa using e3
    have H1 := Lib.hid h1
    clear h1 h1' e3
    go_enter Tryz.func106, Tryz.ntmps106
    go_wp2_with (first | (go_at_call 154; refine (refIsName_any _ _ hO1).mono ?_; rintro e w' ⟨rfl, rfl⟩) | (go_at_call 76; refine (within_any _ _ _ _).mono ?_; rintro e w' ⟨rfl, rfl⟩))
    go_loopw [4] (fun i wr => ∃ k : Nat, k ≤ f.sorts.length ∧ i = .int .i64 k ∧ RefRel w f a c k wr) (fun i _ => f.sorts.length - (intOf i).toNat)
    case atStart => exact ⟨0, Nat.zero_le _, rfl, hB0, rfl, by simp, by simp⟩
    case round =>
      obtain ⟨k, hk, rfl, RB, RE, RL, r0⟩ := hrel
      have RE' := Lib.hid RE; clear RE
      by_cases hlt : k < f.sorts.length
      · have hFr := hF.below RB
        obtain ⟨ad, rfl, had, s0, s1, s2, s3⟩ := hFr.at_ hlt
        have hx := hO.at_ hlt
        obtain ⟨x, ex⟩ : ∃ x, x = f.sorts.getD k noTS := ⟨_, rfl⟩
        rw [← ex] at s0 s1 s2 s3 hx
        have EX := Lib.hid ex; clear ex
        have hadb : (ad.add (k * 4)).block < wr.heap.size := by rw [add_block]; exact had
        have htk : k = (f.sorts.take k).length := by rw [List.length_take]; omega
        have hFk := (hFr.alloc (.cells #[.string x.name, .string x.text, .int .i64 x.kind, .int .i64 x.width] 119)).take (k := k) (by omega)
        have hlk : (f.sorts.take k).length ≤ maxLen := by rw [← htk]; omega
        have HTK := Lib.hid htk; clear htk
        have hkc : k ≤ c := by omega
        cases hnm : isNameB x.name
        · have hfe : firstErr f.sorts (f.sorts.length - k) k = ((k : Int), 4) := by
            have e := firstErr_stop (l := f.sorts) hlt
            rw [← EX.out] at e
            have e4 : sortErr (f.sorts.take k) x = 4 := by rw [sortErr_name (by rw [nameErr_bad hnm]; decide), nameErr_bad hnm]
            rw [e (by rw [e4]; decide), e4]
          have HFE := Lib.hid hfe; clear hfe
          go_wp2_with (go_at_call 154; refine (refIsName_any _ _ hx.1).mono ?_; rintro e w' ⟨rfl, rfl⟩)
          go_ret2
          exact ⟨ret2_int (by rw [HC.out, RE'.out, HFE.out]) (by rw [HC.out, RE'.out, HFE.out]), RB.alloc (by omega) _⟩
        cases hdup : (f.sorts.take k).any (sameName x.name)
        · have hn0 := nameErr_ok hnm hdup
          cases hkd : inB x.kind 1 3
          · have HSE := Lib.hid (sortErr_kind (x := x) hn0 hkd)
            have HNZ := Lib.hid (show (15 : Int) ≠ 0 by decide)
            have HFE := Lib.hid (show firstErr f.sorts (f.sorts.length - k) k = ((k : Int), 15) by
              have e := firstErr_stop (l := f.sorts) hlt
              rw [← EX.out] at e
              rw [e (by rw [HSE.out]; exact HNZ.out), HSE.out])
            clear hn0
            go_wp2_with (go_at_call 154; refine (refIsName_any _ _ hx.1).mono ?_; rintro e w' ⟨rfl, rfl⟩)
            go_quiet ((go_at_call 155; exact Calls.quiet_of_same (named_no HTK.out (hFk.drewN _) hlk hdup)))
            go_wp2_with (go_at_call 76; refine (within_any _ _ _ _).mono ?_; rintro e w' ⟨rfl, rfl⟩)
            go_ret2
            exact ⟨ret2_int (by rw [HC.out, RE'.out, HFE.out]) (by rw [HC.out, RE'.out, HFE.out]), (below_drewN (RB.alloc (by omega) _) _)⟩
          have hkd2 := inB_iff.1 hkd
          by_cases hwd : widthErr x.width = 0
          · have hwd' : inB x.width 1 100000 = true := by
              cases e : inB x.width 1 100000
              · unfold widthErr at hwd; rw [e] at hwd; simp at hwd
              · rfl
            by_cases htx : textErr (f.sorts.take k) x.kind x.text = 0
            · have HFE := Lib.hid (show firstErr f.sorts (f.sorts.length - k) k = firstErr f.sorts (f.sorts.length - (k + 1)) (k + 1) from firstErr_go hlt (by rw [← EX.out, sortErr_text hn0 hkd hwd]; exact htx))
              have HTX := Lib.hid htx
              clear hn0 hwd htx
              have hpe := fun n => printsErr_any (some ad) (f.sorts.take k) k c x.kind x.text ((wr.alloc (.cells #[.string x.name, .string x.text, .int .i64 x.kind, .int .i64 x.width] 119)).drewN n) HTK.out (hFk.drewN _) hlk hx.2 hkd2
              rw [HTX.out] at hpe
              have HPE := Lib.hid hpe; clear hpe
              go_wp2_with (go_at_call 154; refine (refIsName_any _ _ hx.1).mono ?_; rintro e w' ⟨rfl, rfl⟩)
              go_quiet ((go_at_call 155; exact Calls.quiet_of_same (named_no HTK.out (hFk.drewN _) hlk hdup)))
              go_wp2_with (go_at_call 76; refine (within_any _ _ _ _).mono ?_; rintro e w' ⟨rfl, rfl⟩)
              go_quiet ((go_at_call 156; exact quiet_more (HPE.out _)))
              go_wp2
              go_roundw
              case rel => exact ⟨k + 1, by omega, by go_num, below_drewN (RB.alloc (by omega) _) _, RE'.out.trans HFE.out, by show w.heap.size < (wr.alloc _).heap.size; simp; omega, (World.cell?_alloc_past _ _ _ RL).trans r0⟩
              case measure => simp [intOf]; omega
            · have HFE := Lib.hid (show firstErr f.sorts (f.sorts.length - k) k = ((k : Int), textErr (f.sorts.take k) x.kind x.text) by
                have e := firstErr_stop (l := f.sorts) hlt
                rw [← EX.out, sortErr_text hn0 hkd hwd] at e
                exact e htx)
              have hpe := fun n => printsErr_any (some ad) (f.sorts.take k) k c x.kind x.text ((wr.alloc (.cells #[.string x.name, .string x.text, .int .i64 x.kind, .int .i64 x.width] 119)).drewN n) HTK.out (hFk.drewN _) hlk hx.2 hkd2
              have HPE := Lib.hid hpe
              have htb : (textErr (f.sorts.take k) x.kind x.text != 0) = true := by simpa using htx
              clear hn0 hwd htx hpe
              go_wp2_with (go_at_call 154; refine (refIsName_any _ _ hx.1).mono ?_; rintro e w' ⟨rfl, rfl⟩)
              go_quiet ((go_at_call 155; exact Calls.quiet_of_same (named_no HTK.out (hFk.drewN _) hlk hdup)))
              go_wp2_with (go_at_call 76; refine (within_any _ _ _ _).mono ?_; rintro e w' ⟨rfl, rfl⟩)
              go_quiet ((go_at_call 156; exact quiet_more (HPE.out _)))
              go_wp2
              go_ret2
              exact ⟨ret2_int (by rw [HC.out, RE'.out, HFE.out]) (by rw [HC.out, RE'.out, HFE.out]), below_drewN (RB.alloc (by omega) _) _⟩
          · have hwd' : inB x.width 1 100000 = false := by
              cases e : inB x.width 1 100000
              · rfl
              · unfold widthErr at hwd; rw [e] at hwd; simp at hwd
            have HFE := Lib.hid (show firstErr f.sorts (f.sorts.length - k) k = ((k : Int), 2) by
              have e := firstErr_stop (l := f.sorts) hlt
              have e2 : widthErr x.width = 2 := by unfold widthErr; rw [if_pos hwd']
              rw [← EX.out, sortErr_width hn0 hkd hwd, e2] at e
              exact e (by decide))
            clear hn0 hwd
            go_wp2_with (go_at_call 154; refine (refIsName_any _ _ hx.1).mono ?_; rintro e w' ⟨rfl, rfl⟩)
            go_quiet ((go_at_call 155; exact Calls.quiet_of_same (named_no HTK.out (hFk.drewN _) hlk hdup)))
            go_wp2_with (go_at_call 76; refine (within_any _ _ _ _).mono ?_; rintro e w' ⟨rfl, rfl⟩)
            go_ret2
            exact ⟨ret2_int (by rw [HC.out, RE'.out, HFE.out]) (by rw [HC.out, RE'.out, HFE.out]), below_drewN (RB.alloc (by omega) _) _⟩
        · have HFE := Lib.hid (show firstErr f.sorts (f.sorts.length - k) k = ((k : Int), 5) by
            have e := firstErr_stop (l := f.sorts) hlt
            rw [← EX.out] at e
            have e4 : sortErr (f.sorts.take k) x = 5 := by rw [sortErr_name (by rw [nameErr_dup hnm hdup]; decide), nameErr_dup hnm hdup]
            rw [e (by rw [e4]; decide), e4])
          obtain ⟨i, hi⟩ := some_of_any hdup
          have HI := Lib.hid hi
          have hi0 : (0 : Int) ≤ (i : Int) := by omega
          clear hi hdup
          go_wp2_with (go_at_call 154; refine (refIsName_any _ _ hx.1).mono ?_; rintro e w' ⟨rfl, rfl⟩)
          go_quiet ((go_at_call 155; exact Calls.quiet_of_same (named_yes HTK.out (hFk.drewN _) hlk HI.out)))
          go_wp2
          go_ret2
          exact ⟨ret2_int (by rw [HC.out, RE'.out, HFE.out]) (by rw [HC.out, RE'.out, HFE.out]), below_drewN (RB.alloc (by omega) _) _⟩
      · have HFE := Lib.hid (firstErr_end (l := f.sorts) hlt)
        go_wp2
        go_ret2
        exact ⟨ret2_int (by rw [HC.out, RE'.out, HFE.out]) (by rw [HC.out, RE'.out, HFE.out]), RB⟩
  · have HC := Lib.hid (checkF_frame h1)
    unfold maxLen at hO2
    have h1k := h1
    clear h1
    cases e1 : isNameB f.name
    · have HE := Lib.hid (frame_name (body := f.body) (n := f.sorts.length) e1)
      go_enter Tryz.func106, Tryz.ntmps106
      go_wp2_with (go_at_call 154; refine (refIsName_any _ _ hO1).mono ?_; rintro e w' ⟨rfl, rfl⟩)
      go_ret2
      exact ⟨ret2_int (by rw [HC.out]) (by rw [HC.out, HE.out]), hB0⟩
    cases e2 : inB f.body 1 144
    · have HE := Lib.hid (frame_body (body := f.body) (n := f.sorts.length) e1 (by unfold inB at e2; have := of_decide_eq_false e2; omega))
      go_enter Tryz.func106, Tryz.ntmps106
      go_wp2_with (first | (go_at_call 154; refine (refIsName_any _ _ hO1).mono ?_; rintro e w' ⟨rfl, rfl⟩) | (go_at_call 76; refine (within_any _ _ _ _).mono ?_; rintro e w' ⟨rfl, rfl⟩))
      go_ret2
      exact ⟨ret2_int (by rw [HC.out]) (by rw [HC.out, HE.out]), hB0⟩
    have HE := Lib.hid (frame_len (n := f.sorts.length) e1 (inB_iff.1 e2).1 (inB_iff.1 e2).2)
    by_cases e3 : f.sorts.length = 0
    · have H3 := Lib.hid e3
      have e3' : ((f.sorts.length : Int) == 0) = true := by simpa using e3
      clear e3
      go_enter Tryz.func106, Tryz.ntmps106
      go_wp2_with (first | (go_at_call 154; refine (refIsName_any _ _ hO1).mono ?_; rintro e w' ⟨rfl, rfl⟩) | (go_at_call 76; refine (within_any _ _ _ _).mono ?_; rintro e w' ⟨rfl, rfl⟩))
      go_ret2
      exact ⟨ret2_int (by rw [HC.out]) (by rw [HC.out, HE.out, if_pos H3.out]), hB0⟩
    · have H3 := Lib.hid e3
      have e3' : ((f.sorts.length : Int) == 0) = false := by simpa using e3
      by_cases e4 : 120 < f.sorts.length
      · clear e3
        go_enter Tryz.func106, Tryz.ntmps106
        go_wp2_with (first | (go_at_call 154; refine (refIsName_any _ _ hO1).mono ?_; rintro e w' ⟨rfl, rfl⟩) | (go_at_call 76; refine (within_any _ _ _ _).mono ?_; rintro e w' ⟨rfl, rfl⟩))
        go_ret2
        exact ⟨ret2_int (by rw [HC.out]) (by rw [HC.out, HE.out, if_neg H3.out, if_pos e4]), hB0⟩
      · exact absurd (by rw [HE.out, if_neg e3, if_neg e4]) h1k
theorem caseErr_fount {f : FT} {l : List Int} (h : (checkF f).2 ≠ 0) : caseErr f l = (checkF f).2 := by unfold caseErr; rw [if_pos h]
theorem caseErr_rest {f : FT} {l : List Int} (h : (checkF f).2 = 0) : caseErr f l = countErr f.sorts.length l := by unfold caseErr; rw [if_neg (by simp [h])]
end Go.Proofs.YtlkkociijfdcgaaGreatDoor

/-
  Copies of lists of numbers; equal lists; whether a fount is one that the statements look at.
-/
namespace Go.Proofs.YtlkkociijfdcgaaGreatDoor
open Go.RowKit Go.Maps

def vals (l : List Int) : List Value := l.map (Value.int .i64)
theorem vals_at {l : List Int} {k : Nat} (h : k < l.length) : (vals l)[k]? = some (.int .i64 (l.getD k 0)) := by
  unfold vals; rw [List.getElem?_map, List.getElem?_eq_getElem h, getI h]; rfl
theorem ints_of_row {w : World} {base g n cap : Nat} {l : List Int} (h : w.ownsRow base 3 1 (.slice (some ⟨g, 0, none⟩) n cap) n (vals l)) : IntsAt w (some ⟨g, 0, none⟩) l := fun k hk =>
  ⟨_, rfl, (h.lt g rfl).2, h.cells (g := g) rfl k _ (vals_at hk)⟩
def CopyPost (w : World) (l : List Int) (e : Ending) (w' : World) : Prop :=
  ∃ g cap, e = .returned (.slice (some ⟨g, 0, none⟩) l.length cap) ∧ w'.ownsRow w.heap.size 3 1 (.slice (some ⟨g, 0, none⟩) l.length cap) l.length (vals l) ∧ Below w.heap.size w w'

set_option maxRecDepth 100000 in
set_option maxHeartbeats 1000000 in
theorem copyInts_any (b : Option Addr) (l : List Int) (d : Nat) (w : World) (hX : IntsAt w b l) (hl : l.length ≤ 1000000) (hd : b = none → d = 0) :
    Calls Tryz.prog 48 #[.slice b l.length d] w (CopyPost w l) := by
  have hm := World.ownsRow_made (e := 3) (size := 1) (base := w.heap.size) w #[] 0 (Nat.le_refl _) (Nat.zero_le _) rfl
  have hB := (Below.refl w.heap.size w).alloc (Nat.le_refl _) (.cells #[] 3)
  obtain ⟨i0, hi, hz0, hz1, hz2⟩ := info_parts info3
  cases b with
  | none =>
    have hl0 : l = [] := by
      rcases l with _ | ⟨x, r⟩
      · rfl
      · obtain ⟨ad, h, _⟩ := hX 0 (by simp); cases h
    have hd0 : d = 0 := hd rfl
    subst hl0 hd0
    go_enter Tryz.func48, Tryz.ntmps48
    go_wp2_with (at_builtin; refine wpList_append_own_none rfl _ _ 63 rfl w.heap.size 3 i0 1 Tryz.underlying63 hi _ 0 [] rfl hm rfl ?_)
    go_ret
    exact ⟨_, _, rfl, hm, hB⟩
  | some ad =>
    have hnews : ∀ j u, (vals l)[j]? = some u → (w.alloc (.cells #[] 3)).cell? (ad.add j) = some u := by
      intro j u hj
      have hjl : j < l.length := by
        have := (List.getElem?_eq_some_iff.1 hj).1
        simpa [vals] using this
      obtain ⟨ad', e, _, hc⟩ := (hX.alloc (.cells #[] 3)) j hjl
      cases e
      rw [vals_at hjl] at hj
      rw [hc, hj]
    have hone : ∀ u ∈ vals l, u.oneCell' = true := by
      intro u hu
      obtain ⟨x, _, rfl⟩ := List.mem_map.1 hu
      rfl
    have hlen : (vals l).length = l.length * 1 := by simp [vals]
    have h63 : 0 + l.length ≤ maxLen := by unfold maxLen; omega
    have hby : (0 + l.length) * 8 ≤ 140737488355328 := by omega
    have HN := Lib.hid hnews; have HO := Lib.hid hone; have HL := Lib.hid hlen; have H63 := Lib.hid h63; have HB := Lib.hid hby
    clear hnews hone hlen h63 hby
    go_enter Tryz.func48, Tryz.ntmps48
    go_wp2_with (at_builtin; refine wpList_append_own _ rfl _ _ 63 rfl w.heap.size 3 i0 (.int .i64 0) 1 8 Tryz.underlying63 hi hz0 hz1 hz2 rfl (by decide) _ 0 [] rfl hm ad l.length d (vals l) rfl HL.out HN.out HO.out H63.out HB.out (by simp) ?_; intro v' w1 hown1 hgrow1 hnil1)
    go_ret
    have hnn : ¬ v' = .slice none 0 0 := fun e => by have := (hnil1.1 e).1; cases this
    have hB1 : Below w.heap.size w w1 := hB.grown hgrow1 (by simp) (fun k e => by cases e; exact Nat.le_refl _)
    rw [Nat.zero_add, List.nil_append] at hown1
    rcases hown1.2 with ⟨e, _⟩ | ⟨g, cap, cur, e, r⟩
    · exact absurd e hnn
    · subst e
      exact ⟨g, cap, rfl, hown1, hB1⟩

theorem firstAt_none {q : Nat → Bool} : ∀ {n k : Nat}, firstAt q n k = none → ∀ j, k ≤ j → j < k + n → q j = false := by
  intro n
  induction n with
  | zero => intro k _ j h1 h2; omega
  | succ n ih =>
    intro k h j h1 h2
    unfold firstAt at h
    split at h
    · cases h
    · rename_i hq
      by_cases e : j = k
      · subst e; simpa using hq
      · exact ih h j (by omega) (by omega)
theorem firstAt_some {q : Nat → Bool} : ∀ {n k i : Nat}, firstAt q n k = some i → q i = true ∧ k ≤ i ∧ i < k + n ∧ ∀ j, k ≤ j → j < i → q j = false := by
  intro n
  induction n with
  | zero => intro k i h; cases h
  | succ n ih =>
    intro k i h
    unfold firstAt at h
    split at h
    · rename_i hq
      cases h
      exact ⟨hq, Nat.le_refl _, by omega, fun j h1 h2 => by omega⟩
    · rename_i hq
      obtain ⟨a, b, c, d⟩ := ih h
      refine ⟨a, by omega, by omega, fun j h1 h2 => ?_⟩
      by_cases e : j = k
      · subst e; simpa using hq
      · exact d j (by omega) h2
theorem list_eq {l1 l2 : List Int} (h : l1.length = l2.length) (hj : ∀ j, j < l1.length → l1.getD j 0 = l2.getD j 0) : l1 = l2 := by
  apply List.ext_getElem h
  intro i h1 h2
  have := hj i h1
  rwa [getI h1, getI h2] at this

def diffAt (l1 l2 : List Int) (j : Nat) : Bool := l1.getD j 0 != l2.getD j 0
set_option maxRecDepth 100000 in
set_option maxHeartbeats 1000000 in
theorem ints_any (b1 : Option Addr) (l1 : List Int) (d1 : Nat) (b2 : Option Addr) (l2 : List Int) (d2 : Nat) (w : World) (hX1 : IntsAt w b1 l1) (hX2 : IntsAt w b2 l2) (hl1 : l1.length ≤ maxLen) (hl2 : l2.length ≤ maxLen) :
    Calls Tryz.prog 45 #[.slice b1 l1.length d1, .slice b2 l2.length d2] w fun e w' => e = .returned (.bool (decide (l1 = l2))) ∧ Drew w w' := by
  unfold maxLen at hl1 hl2
  by_cases hn : l1.length = l2.length
  · have hne : ((l1.length : Int) != (l2.length : Int)) = false := by simp [hn]
    have hle : l1.length ≤ l2.length := by omega
    have HN := Lib.hid hn; clear hn
    go_enter Tryz.func45, Tryz.ntmps45
    go_wp2
    go_loopw [5] (fun i wr => ∃ k : Nat, k ≤ l1.length ∧ i = .int .i64 k ∧ Hid (firstAt (diffAt l1 l2) (l1.length - 0) 0 = firstAt (diffAt l1 l2) (l1.length - k) k) ∧ Drew w wr) (fun i _ => l1.length - (intOf i).toNat)
    case atStart => exact ⟨0, Nat.zero_le _, rfl, Lib.hid rfl, Drew.refl _⟩
    case round =>
      obtain ⟨k, hk, rfl, HR, hD⟩ := hrel
      by_cases hlt : k < l1.length
      · obtain ⟨p1, rfl, hp1, hc1⟩ := (hD.ints hX1).at_ hlt
        obtain ⟨p2, rfl, hp2, hc2⟩ := (hD.ints hX2).at_ (k := k) (by omega)
        have hkl1 : (k : Int) < (l1.length : Int) := by omega
        have hkl2 : (k : Int) < (l2.length : Int) := by omega
        cases hq : diffAt l1 l2 k
        · have HS := Lib.hid (firstAt_go hlt hq)
          have hq' : (l1.getD k 0 != l2.getD k 0) = false := hq
          clear hq
          obtain ⟨x, ex⟩ : ∃ x, x = l1.getD k 0 := ⟨_, rfl⟩
          obtain ⟨y, ey⟩ : ∃ x, x = l2.getD k 0 := ⟨_, rfl⟩
          rw [← ex] at hc1 hq'
          rw [← ey] at hc2 hq'
          clear ex ey
          go_wp2_with fail
          go_quiet (fail)
          go_wp2
          go_roundw
          case rel => exact ⟨k + 1, by omega, by go_num, Lib.hid (HR.out.trans HS.out), hD.drewN _⟩
          case measure => simp [intOf]; omega
        · have HS := Lib.hid (firstAt_stop hlt hq)
          have hq' : (l1.getD k 0 != l2.getD k 0) = true := hq
          clear hq
          obtain ⟨x, ex⟩ : ∃ x, x = l1.getD k 0 := ⟨_, rfl⟩
          obtain ⟨y, ey⟩ : ∃ x, x = l2.getD k 0 := ⟨_, rfl⟩
          have HQ := Lib.hid hq'
          rw [← ex] at hc1 hq'
          rw [← ey] at hc2 hq'
          clear ex ey
          go_wp2_with fail
          go_quiet (fail)
          go_wp2
          go_ret
          exact ⟨ret_bool (decide_eq_false (fun e => by have := HQ.out; rw [e] at this; simp at this)).symm, hD.drewN _⟩
      · have HS := Lib.hid (firstAt_end (q := diffAt l1 l2) hlt)
        go_wp2
        go_ret
        exact ⟨ret_bool (decide_eq_true (list_eq HN.out (fun j hj => by
          have := firstAt_none (HR.out.trans HS.out) j (Nat.zero_le _) (by omega)
          unfold diffAt at this
          simpa using this))).symm, hD⟩
  · have hne : ((l1.length : Int) != (l2.length : Int)) = true := by simp; omega
    have HN := Lib.hid hn; clear hn
    go_enter Tryz.func45, Tryz.ntmps45
    go_wp2
    go_ret
    exact ⟨ret_bool (decide_eq_false (fun e => HN.out (by rw [e]))).symm, Drew.refl _⟩

/-- At most 10 sorts, or too many, with short names and texts. -/
def fewX (x : TS) : Bool := decide (20 < x.name.size ∨ 10 < x.text.size)
def fewB (f : FT) : Bool := !(decide (20 < f.name.size ∨ (10 < f.sorts.length ∧ f.sorts.length ≤ 120) ∨ 123 < f.sorts.length)) && !(f.sorts.any fewX)
theorem any_firstAt {p : TS → Bool} {l : List TS} {o : Option Nat} (h : firstAt (fun i => p (l.getD i noTS)) (l.length - 0) 0 = o) : l.any p = o.isSome := by
  rw [firstAt_idx] at h
  cases o with
  | none => rw [any_none h]; rfl
  | some i => rw [any_some h]; rfl
end Go.Proofs.YtlkkociijfdcgaaGreatDoor

/-
  The document's fount; its metal; what the statements over the chapter begin with.
-/
namespace Go.Proofs.YtlkkociijfdcgaaGreatDoor
open Go.RowKit Go.Maps

def romT : List TS := [⟨⟨#[97]⟩, ⟨#[97]⟩, 1, 300⟩, ⟨⟨#[98]⟩, ⟨#[98]⟩, 1, 330⟩, ⟨⟨#[102, 105]⟩, ⟨#[102, 105]⟩, 2, 360⟩, ⟨⟨#[116, 104, 105, 99, 107]⟩, ⟨#[]⟩, 3, 200⟩, ⟨⟨#[116, 104, 105, 110]⟩, ⟨#[]⟩, 3, 120⟩]
def romF : FT := ⟨⟨#[114, 111, 109]⟩, 10, romT⟩
theorem romCheck : checkF romF = (0, 0) := by decide +kernel
theorem romMetal : metalR romF [1, 1, 0, 0, 0] = (6300, 0) := by decide +kernel
theorem romCast : castR romF 20000 [1, 1, 0, 0, 0] = (3, 1100, 0) := by decide +kernel
theorem romOk : OkF romF := by
  refine ⟨by unfold maxLen; decide, by unfold maxLen; decide, fun x hx => ?_⟩
  simp only [romF, romT, List.mem_cons, List.not_mem_nil, or_false] at hx
  rcases hx with rfl | rfl | rfl | rfl | rfl
  all_goals unfold maxLen; decide

def RomanPost (w : World) (e : Ending) (w' : World) : Prop :=
  ∃ g, e = .returned (.agg #[.string romF.name, .int .i64 romF.body, .slice (some ⟨g, 0, none⟩) romF.sorts.length romF.sorts.length]) ∧ SortsAt w' (some ⟨g, 0, none⟩) romF.sorts ∧ Below w.heap.size w w'

theorem ints_lit {w : World} {l : List Int} : IntsAt (w.alloc (.cells (vals l).toArray 3)) (some ⟨w.heap.size, 0, none⟩) l := by
  intro k hk
  refine ⟨_, rfl, by simp, ?_⟩
  have : (⟨w.heap.size, 0, none⟩ : Addr).add k = ⟨w.heap.size, k, none⟩ := by
    unfold Addr.add; split
    · rename_i h0; rw [h0]
    · simp
  rw [this, World.cell?_alloc_new]
  rw [List.getElem?_toArray]
  exact vals_at hk

end Go.Proofs.YtlkkociijfdcgaaGreatDoor

/-
  Ahead of the law on parting: what stands in memory all along, rows of numbers, contracts in the cases that the law meets, sums.
-/
namespace Go.Proofs.YtlkkociijfdcgaaGreatDoor
open Go.RowKit Go.Maps

def boxF (f : FT) (a : Option Addr) (c : Nat) : Obj := .cells #[.string f.name, .int .i64 f.body, .slice a f.sorts.length c] 59
/-- What stands all along: the fount's box lies at w's end, all else lies below. -/
structure Env (w : World) (f : FT) (a : Option Addr) (c : Nat) (wr : World) : Prop where
  bel : Below (w.heap.size + 1) (w.alloc (boxF f a c)) wr
  fa : FAt wr a f
  c0 : wr.cell? ⟨w.heap.size, 0, none⟩ = some (.string f.name)
  c1 : wr.cell? ⟨w.heap.size, 1, none⟩ = some (.int .i64 f.body)
  c2 : wr.cell? ⟨w.heap.size, 2, none⟩ = some (.slice a f.sorts.length c)
  lt : w.heap.size < wr.heap.size
theorem Env.of {w wr : World} {f : FT} {a : Option Addr} {c : Nat} (hF : FAt w a f) (h : Below (w.heap.size + 1) (w.alloc (boxF f a c)) wr) : Env w f a c wr := by
  have h' : Below (w.alloc (boxF f a c)).heap.size (w.alloc (boxF f a c)) wr := by simpa using h
  refine ⟨h, (hF.alloc _).below h', ?_, ?_, ?_, ?_⟩
  · exact ((h.cell (p := ⟨w.heap.size, 0, none⟩) (Nat.lt_succ_self _)).trans (by simp [boxF]))
  · exact ((h.cell (p := ⟨w.heap.size, 1, none⟩) (Nat.lt_succ_self _)).trans (by simp [boxF]))
  · exact ((h.cell (p := ⟨w.heap.size, 2, none⟩) (Nat.lt_succ_self _)).trans (by simp [boxF]))
  · have := h.size; simp at this; omega
theorem Env.low {w wr : World} {f : FT} {a : Option Addr} {c : Nat} (h : Env w f a c wr) : Below w.heap.size w wr :=
  ((Below.refl w.heap.size w).alloc (Nat.le_refl _) _).trans (h.bel.mono (Nat.le_succ _))
theorem Env.step {w wr wr' : World} {f : FT} {a : Option Addr} {c : Nat} (hF : FAt w a f) (h : Env w f a c wr) (hb : Below wr.heap.size wr wr') : Env w f a c wr' := Env.of hF (h.bel.trans (hb.mono h.lt))
theorem Env.drew {w wr : World} {f : FT} {a : Option Addr} {c : Nat} (hF : FAt w a f) (h : Env w f a c wr) : Env w f a c wr.drew := Env.of hF h.bel.drew
theorem Env.drewN {w wr : World} {f : FT} {a : Option Addr} {c : Nat} (hF : FAt w a f) (h : Env w f a c wr) (n : Nat) : Env w f a c (wr.drewN n) := Env.of hF (below_drewN h.bel n)
theorem Env.alloc {w wr : World} {f : FT} {a : Option Addr} {c : Nat} (hF : FAt w a f) (h : Env w f a c wr) (o : Obj) : Env w f a c (wr.alloc o) := h.step hF ((Below.refl _ _).alloc (Nat.le_refl _) _)

/-- Block g is a row that begins with the numbers L. -/
def Row3 (w : World) (g : Nat) (L : List Int) : Prop := ∃ cs : Array Value, w.heap[g]? = some (.cells cs 3 (0, 0)) ∧ ∀ k, k < L.length → cs[k]? = some (.int .i64 (L.getD k 0))
theorem Row3.lt {w : World} {g : Nat} {L : List Int} (h : Row3 w g L) : g < w.heap.size := by
  obtain ⟨cs, h1, _⟩ := h
  rcases Nat.lt_or_ge g w.heap.size with hlt | hge
  · exact hlt
  · rw [Array.getElem?_eq_none hge] at h1; cases h1
theorem add0 (g k : Nat) : (⟨g, 0, none⟩ : Addr).add k = ⟨g, k, none⟩ := by
  unfold Addr.add; split
  · rename_i h0; rw [h0]
  · simp
theorem Row3.ints {w : World} {g : Nat} {L : List Int} (h : Row3 w g L) : IntsAt w (some ⟨g, 0, none⟩) L := by
  intro k hk
  have hlt := h.lt
  obtain ⟨cs, h1, h2⟩ := h
  refine ⟨_, rfl, hlt, ?_⟩
  rw [add0, cell_of_row w g k cs _ (0, 0) h1]
  exact h2 k hk
theorem Row3.below {w w' : World} {g : Nat} {L : List Int} (h : Row3 w g L) (hb : Below w.heap.size w w') : Row3 w' g L := by
  have hlt := h.lt
  obtain ⟨cs, h1, h2⟩ := h
  exact ⟨cs, (hb.block g hlt).trans h1, h2⟩
theorem Row3.drew {w : World} {g : Nat} {L : List Int} (h : Row3 w g L) : Row3 w.drew g L := h
theorem Row3.drewN {w : World} {g : Nat} {L : List Int} (h : Row3 w g L) (n : Nat) : Row3 (w.drewN n) g L := h
theorem Row3.of_own {w : World} {base g n cap : Nat} {l : List Int} (h : w.ownsRow base 3 1 (.slice (some ⟨g, 0, none⟩) n cap) n (vals l)) : Row3 w g l := by
  have hl := h.1
  rcases h.2 with ⟨e, _⟩ | ⟨g', cap', cur, e, _, hb, h1, h2, h3, h4⟩
  · cases e
  · obtain rfl : g = g' := by injection e with e1 _ _; injection e1 with e2; injection e2
    refine ⟨cur, hb, fun k hk => ?_⟩
    have hv := vals_at hk
    rw [← h4, List.getElem?_take] at hv
    split at hv
    · rw [← hv, Array.getElem?_toList]
    · cases hv
theorem Row3.of_tab {w : World} {g n : Nat} {fn : Nat → Int} (h : Own w g n fn n) : Row3 w g (tab n fn) := by
  obtain ⟨cs, h1, h2, h3⟩ := h
  refine ⟨cs, h1, fun k hk => ?_⟩
  rw [tab_len] at hk
  rw [tab_at hk]; exact h3 k hk
/-- An append to a row of slices leaves a row of numbers alone. -/
theorem Row3.kept {w w' : World} {g : Nat} {L : List Int} {base n : Nat} {v : Value} {xs : List Value} (h : Row3 w g L) (ho : w.ownsRow base 63 1 v n xs) (hg : w.grownBy w' v.ownBlock) : Row3 w' g L := by
  have hlt := h.lt
  obtain ⟨cs, h1, h2⟩ := h
  refine ⟨cs, (hg.block g hlt (fun e => ?_)).trans h1, h2⟩
  rcases ho.2 with ⟨e2, _⟩ | ⟨g', cap, cur, e2, _, hb, _⟩
  · rw [e2] at e; cases e
  · rw [e2] at e
    have e3 : g = g' := by simpa [Value.ownBlock] using e
    rw [← e3, h1] at hb
    have := (Option.some.inj hb)
    injection this with _ e4 _
    cases e4
theorem own_below {w w' : World} {base e n : Nat} {v : Value} {xs : List Value} (h : w.ownsRow base e 1 v n xs) (hb : Below w.heap.size w w') : w'.ownsRow base e 1 v n xs := by
  obtain ⟨h1, h2⟩ := h
  refine ⟨h1, ?_⟩
  rcases h2 with h2 | ⟨g, cap, cur, hv, hg, hh, r⟩
  · exact .inl h2
  · refine .inr ⟨g, cap, cur, hv, hg, ?_, r⟩
    rw [hb.block g]
    · exact hh
    · rcases Nat.lt_or_ge g w.heap.size with hlt | hge
      · exact hlt
      · rw [Array.getElem?_eq_none hge] at hh; cases hh

/-- A right case of n sorts. -/
def OkC (n : Nat) (l : List Int) : Prop := l.length = n ∧ ∀ k, k < n → 0 ≤ l.getD k 0 ∧ l.getD k 0 ≤ 1000000
theorem OkC.err {n : Nat} {l : List Int} (h : OkC n l) : countErr n l = 0 := by
  rw [countErr_rest h.1, if_neg]
  rw [List.any_eq_true]
  rintro ⟨x, hx, ho⟩
  obtain ⟨i, hi, rfl⟩ := List.getElem_of_mem hx
  have := h.2 i (by have := h.1; omega)
  rw [getI hi] at this
  unfold outB at ho
  have := of_decide_eq_true ho
  omega
theorem OkC.of {n : Nat} {l : List Int} (h : countErr n l = 0) : OkC n l := by
  obtain ⟨h1, h2⟩ := countErr_zero h
  exact ⟨h1, fun k hk => h2 k (by omega)⟩
theorem cases_ok {f : FT} (h : (checkF f).2 = 0) : ∀ {ls : List (List Int)}, (∀ l ∈ ls, OkC f.sorts.length l) → casesErr f ls = 0 := by
  intro ls hl
  rw [casesErr_rest h]
  induction ls with
  | nil => rfl
  | cons x r ih =>
    show (if _ then _ else _) = _
    rw [if_neg (by simp [(hl x (by simp)).err])]
    exact ih (fun l h => hl l (by simp [h]))
theorem case_ok {f : FT} {l : List Int} (h : caseErr f l = 0) : (checkF f).2 = 0 ∧ OkC f.sorts.length l := by
  unfold caseErr at h
  split at h
  · rename_i h1; exact absurd h h1
  · rename_i h1; exact ⟨Decidable.not_not.1 h1, OkC.of h⟩
theorem OkC.minus_ {n : Nat} {l1 l2 : List Int} (h1 : OkC n l1) (h2 : OkC n l2) (hs : short l1 l2 n 0 = none) : OkC n (tab n (minus l1 l2)) := by
  refine ⟨tab_len _ _, fun k hk => ?_⟩
  rw [tab_at hk]
  have a1 := h1.2 k hk
  have a2 := h2.2 k hk
  have hns : ∀ (m j : Nat), short l1 l2 m j = none → ∀ i, j ≤ i → i < j + m → ¬ l1.getD i 0 < l2.getD i 0 := by
    intro m
    induction m with
    | zero => intro j _ i h1 h2; omega
    | succ m ih =>
      intro j h i hi1 hi2
      unfold short at h
      split at h
      · cases h
      · rename_i hq
        by_cases e : i = j
        · subst e; exact hq
        · exact ih (j + 1) h i (by omega) (by omega)
  have := hns n 0 hs k (by omega) (by omega)
  unfold minus
  omega
theorem short_none {l1 l2 : List Int} {n : Nat} (h : ∀ j, j < n → l2.getD j 0 ≤ l1.getD j 0) : ∀ (m j : Nat), j + m = n → short l1 l2 m j = none := by
  intro m
  induction m with
  | zero => intro j _; rfl
  | succ m ih =>
    intro j hj
    unfold short
    rw [if_neg (by have := h j (by omega); omega)]
    exact ih (j + 1) (by omega)
theorem over_none {l1 l2 : List Int} : ∀ (m j : Nat), over l1 l2 m j = false → ∀ i, j ≤ i → i < j + m → plus l1 l2 i ≤ 1000000 := by
  intro m
  induction m with
  | zero => intro j _ i h1 h2; omega
  | succ m ih =>
    intro j h i hi1 hi2
    unfold over at h
    split at h
    · cases h
    · rename_i hq
      by_cases e : i = j
      · subst e; omega
      · exact ih (j + 1) h i (by omega) (by omega)
theorem over_ok {l1 l2 : List Int} {n : Nat} (h : ∀ j, j < n → plus l1 l2 j ≤ 1000000) : ∀ (m j : Nat), j + m = n → over l1 l2 m j = false := by
  intro m
  induction m with
  | zero => intro j _; rfl
  | succ m ih =>
    intro j hj
    unfold over
    rw [if_neg (by have := h j (by omega); omega)]
    exact ih (j + 1) (by omega)
theorem OkC.plus_ {n : Nat} {l1 l2 : List Int} (h1 : OkC n l1) (h2 : OkC n l2) (hs : over l1 l2 n 0 = false) : OkC n (tab n (plus l1 l2)) := by
  refine ⟨tab_len _ _, fun k hk => ?_⟩
  rw [tab_at hk]
  have a1 := h1.2 k hk
  have a2 := h2.2 k hk
  have := over_none n 0 hs k (by omega) (by omega)
  unfold plus at this ⊢
  omega
theorem OkC.lack_ {n : Nat} {l1 l2 : List Int} (h1 : OkC n l1) (h2 : OkC n l2) : OkC n (tab n (lack l1 l2)) := by
  refine ⟨tab_len _ _, fun k hk => ?_⟩
  rw [tab_at hk]
  have a1 := h1.2 k hk
  have a2 := h2.2 k hk
  unfold lack
  omega
theorem metalN_add {f : FT} {l1 l2 l3 : List Int} {n : Nat} (h : ∀ j, j < n → l1.getD j 0 + l2.getD j 0 = l3.getD j 0) : ∀ k, k ≤ n → metalN f l1 k + metalN f l2 k = metalN f l3 k := by
  intro k
  induction k with
  | zero => intro _; rfl
  | succ k ih =>
    intro hk
    have e := ih (by omega)
    have ej := h k (by omega)
    unfold metalN
    rw [← ej, ← e, Int.add_mul, Int.add_mul]
    omega
theorem metal_add {f : FT} {l1 l2 l3 : List Int} {n : Nat} (h1 : l1.length = n) (h2 : l2.length = n) (h3 : l3.length = n) (h : ∀ j, j < n → l1.getD j 0 + l2.getD j 0 = l3.getD j 0) : metal f l1 + metal f l2 = metal f l3 := by
  unfold metal; rw [h1, h2, h3]; exact metalN_add h n (Nat.le_refl _)
theorem metal_bd {f : FT} {l : List Int} (hf : RightF f) (h : OkC f.sorts.length l) : 0 ≤ metal f l ∧ metal f l ≤ 2000000000000000 := by
  have := metalN_bd hf h.1 (fun k hk => h.2 k (by have := h.1; omega)) l.length (Nat.le_refl _)
  have h2 := hf.2.2.2.1
  have h3 := h.1
  unfold metal
  omega
theorem metalR_ok {f : FT} {l : List Int} (h : (checkF f).2 = 0) (hl : OkC f.sorts.length l) : metalR f l = (metal f l, 0) := by
  unfold metalR; rw [if_neg (by simp [cases_ok h (ls := [l]) (by intro x hx; simp at hx; subst hx; exact hl)])]

section
variable {f : FT} {a : Option Addr} {c : Nat} {b1 : Option Addr} {l1 : List Int} {d1 : Nat} {b2 : Option Addr} {l2 : List Int} {d2 : Nat} {w : World}
theorem two_ok (h0 : (checkF f).2 = 0) (h1 : OkC f.sorts.length l1) (h2 : OkC f.sorts.length l2) : casesErr f [l1, l2] = 0 :=
  cases_ok h0 (by intro x hx; simp at hx; rcases hx with rfl | rfl <;> assumption)
theorem okc_len {n : Nat} {l : List Int} (h : OkC n l) (hn : n ≤ 120) : l.length ≤ maxLen := by unfold maxLen; have := h.1; omega
end
end Go.Proofs.YtlkkociijfdcgaaGreatDoor

/-
  The law on parting: its walk.
-/
namespace Go.Proofs.YtlkkociijfdcgaaGreatDoor
open Go.RowKit Go.Maps

theorem info31 : (Tryz.prog.info? 63).map (fun i => (i.zero, i.size, i.bytes)) = some (some (.slice none 0 0), 1, 24) := by kernel_rfl
def isVal (x : IS) : Value := .slice x.a x.l.length x.c
def sumAt (T : List IS) (j : Nat) : Int := (T.map fun x => x.l.getD j 0).sum
/-- What holds of the parts: the left one, the metal of the taken ones, the taken ones. -/
structure Part (w : World) (f : FT) (l : List Int) (wr : World) (g : Nat) (L : List Int) (M : Int) (v9 : Value) (T : List IS) : Prop where
  row : Row3 wr g L
  okL : OkC f.sorts.length L
  metal : metal f L + M = metal f l
  own : wr.ownsRow (w.heap.size + 1) 63 1 v9 T.length (T.map isVal)
  okT : ∀ x ∈ T, OkC f.sorts.length x.l ∧ IntsAt w x.a x.l
  sum : ∀ j, j < f.sorts.length → L.getD j 0 + sumAt T j = l.getD j 0

theorem own_shape {w : World} {base e n : Nat} {v : Value} {xs : List Value} (h : w.ownsRow base e 1 v n xs) : ∃ (A : Option Addr) (cap : Nat), v = .slice A n cap ∧ (0 < n → ∃ g, A = some ⟨g, 0, none⟩) := by
  rcases h.2 with ⟨e1, e2⟩ | ⟨g, cap, cur, e1, _⟩
  · subst e2; exact ⟨none, 0, e1, fun h => by omega⟩
  · exact ⟨_, cap, e1, fun _ => ⟨g, rfl⟩⟩
theorem sumAt_nonneg {T : List IS} {n : Nat} (h : ∀ x ∈ T, OkC n x.l) {j : Nat} (hj : j < n) : 0 ≤ sumAt T j := by
  induction T with
  | nil => simp [sumAt]
  | cons x r ih =>
    have h1 := (h x (by simp)).2 j hj
    have h2 := ih (fun y hy => h y (by simp [hy]))
    have h3 : sumAt (x :: r) j = x.l.getD j 0 + sumAt r j := by simp [sumAt]
    omega
theorem sumAt_snoc (T : List IS) (x : IS) (j : Nat) : sumAt (T ++ [x]) j = sumAt T j + x.l.getD j 0 := by simp [sumAt]
theorem sumAt_take {T : List IS} {m : Nat} (hm : m < T.length) (j : Nat) : sumAt (T.take (m + 1)) j = sumAt (T.take m) j + (T.getD m noIS).l.getD j 0 := by
  rw [List.take_succ_eq_append_getElem hm]
  have : T.getD m noIS = T[m] := by rw [List.getD_eq_getElem?_getD, List.getElem?_eq_getElem hm]; rfl
  rw [this]
  exact sumAt_snoc _ _ _
theorem ints_good {N1 N2 : Nat} {b1 b2 : Option Addr} {l1 l2 : List Int} {d1 d2 : Nat} {w : World} (hN1 : N1 = l1.length) (hN2 : N2 = l2.length) (hX1 : IntsAt w b1 l1) (hX2 : IntsAt w b2 l2) (hl1 : l1.length ≤ maxLen) (hl2 : l2.length ≤ maxLen) (h : l1 = l2) :
    Calls Tryz.prog 45 #[.slice b1 N1 d1, .slice b2 N2 d2] w fun e w' => e = .returned (.bool true) ∧ Drew w w' := by
  subst hN1 hN2
  have h1 := ints_any b1 l1 d1 b2 l2 d2 w hX1 hX2 hl1 hl2
  rw [decide_eq_true h] at h1
  exact h1

end Go.Proofs.YtlkkociijfdcgaaGreatDoor
