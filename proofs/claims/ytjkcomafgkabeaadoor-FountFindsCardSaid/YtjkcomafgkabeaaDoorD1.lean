/-
  The reference: a sort's number by its name, the error of what a sort prints.
-/
import Derived.Test.YtjkcomafgkabeaaDoorC2
namespace Go.Proofs.YtjkcomafgkabeaaDoor
open Go.RowKit Go.Maps

/-- The first place, from the k-th on, n places far, at which q holds. -/
def firstAt (q : Nat → Bool) : Nat → Nat → Option Nat
  | 0, _ => none
  | n + 1, k => if q k = true then some k else firstAt q n (k + 1)
theorem firstAt_stop {q : Nat → Bool} {n k : Nat} (h : k < n) (e : q k = true) : firstAt q (n - k) k = some k := by
  obtain ⟨m, hm⟩ : ∃ m, n - k = m + 1 := ⟨n - k - 1, by omega⟩
  rw [hm]; unfold firstAt; rw [if_pos e]
theorem firstAt_go {q : Nat → Bool} {n k : Nat} (h : k < n) (e : q k = false) : firstAt q (n - k) k = firstAt q (n - (k + 1)) (k + 1) := by
  obtain ⟨m, hm⟩ : ∃ m, n - k = m + 1 := ⟨n - k - 1, by omega⟩
  rw [hm, show n - (k + 1) = m by omega]
  show (if _ then _ else _) = _
  rw [if_neg (by simp [e])]
theorem firstAt_end {q : Nat → Bool} {n k : Nat} (h : ¬ k < n) : firstAt q (n - k) k = none := by rw [show n - k = 0 by omega]; rfl
theorem firstAt_list (p : TS → Bool) : ∀ (l : List TS) (k : Nat), firstAt (fun i => p (l.getD (i - k) noTS)) l.length k = (l.findIdx? p).map (· + k) := by
  intro l
  induction l with
  | nil => intro k; rfl
  | cons x r ih =>
    intro k
    show (if p ((x :: r).getD (k - k) noTS) = true then _ else _) = _
    rw [List.findIdx?_cons]
    have e0 : (x :: r).getD (k - k) noTS = x := by rw [Nat.sub_self]; rfl
    rw [e0]
    cases hx : p x
    · rw [if_neg (by simp)]
      have : ∀ n j, k + 1 ≤ j → firstAt (fun i => p ((x :: r).getD (i - k) noTS)) n j = firstAt (fun i => p (r.getD (i - (k + 1)) noTS)) n j := by
        intro n
        induction n with
        | zero => intro j _; rfl
        | succ n ihn =>
          intro j hj
          show (if p ((x :: r).getD (j - k) noTS) = true then _ else _) = (if p (r.getD (j - (k + 1)) noTS) = true then _ else _)
          have e1 : (x :: r).getD (j - k) noTS = r.getD (j - (k + 1)) noTS := by
            rw [show j - k = (j - (k + 1)) + 1 by omega]; rfl
          rw [e1, ihn (j + 1) (by omega)]
      rw [this _ _ (Nat.le_refl _), ih (k + 1)]
      cases r.findIdx? p <;> simp; omega
    · rw [if_pos rfl]; simp
theorem firstAt_idx (p : TS → Bool) (l : List TS) : firstAt (fun i => p (l.getD i noTS)) (l.length - 0) 0 = l.findIdx? p := by
  have := firstAt_list p l 0
  simpa using this
def idxI (o : Option Nat) : Int := match o with | some i => i | none => -1

set_option maxRecDepth 100000 in
set_option maxHeartbeats 1000000 in
theorem named_any (a : Option Addr) (l : List TS) (n c : Nat) (s : ByteArray) (w : World) (hn : n = l.length) (hF : SortsAt w a l) (hl : l.length ≤ maxLen) :
    Calls Tryd.prog 74 #[.slice a n c, .string s] w fun e w' => e = .returned (.int .i64 (idxI (l.findIdx? (sameName s)))) ∧ w' = w := by
  subst hn
  have HI := Lib.hid (firstAt_idx (sameName s) l)
  unfold maxLen at hl
  go_enter Tryd.func74, Tryd.ntmps74
  go_wp2
  go_loop [5] (fun i => ∃ k : Nat, k ≤ l.length ∧ i = .int .i64 k ∧ Hid (firstAt (fun i => sameName s (l.getD i noTS)) (l.length - 0) 0 = firstAt (fun i => sameName s (l.getD i noTS)) (l.length - k) k)) (fun i => l.length - (intOf i).toNat)
  case atStart => exact ⟨0, Nat.zero_le _, rfl, Lib.hid rfl⟩
  case round =>
    obtain ⟨k, hk, rfl, HR⟩ := hrel
    by_cases hlt : k < l.length
    · obtain ⟨ad, rfl, had, s0, s1, s2, s3⟩ := hF.at_ hlt
      clear s1 s2 s3
      obtain ⟨x, ex⟩ : ∃ x, x = l.getD k noTS := ⟨_, rfl⟩
      rw [← ex] at s0
      have EX := Lib.hid ex; clear ex
      cases hq : (x.name.toList == s.toList)
      · have HS := Lib.hid (firstAt_go (q := fun i => sameName s (l.getD i noTS)) hlt (by show (_ == _) = false; rw [← EX.out]; exact hq))
        go_wp2
        go_round
        case rel => exact ⟨k + 1, by omega, by go_num, Lib.hid (HR.out.trans HS.out)⟩
        case measure => simp [intOf]; omega
      · have HS := Lib.hid (firstAt_stop (q := fun i => sameName s (l.getD i noTS)) hlt (by show (_ == _) = true; rw [← EX.out]; exact hq))
        go_wp2
        go_ret
        exact ⟨ret_int (by rw [← HI.out, HR.out, HS.out]; rfl), rfl⟩
    · have HS := Lib.hid (firstAt_end (q := fun i => sameName s (l.getD i noTS)) hlt)
      go_wp2
      go_ret
      exact ⟨ret_int (by rw [← HI.out, HR.out, HS.out]; rfl), rfl⟩

theorem textErr_tail {l : List TS} {k : Int} {s : ByteArray} (h : textErr l k s = if badsB s.data.toList = true then 3 else if k ≠ 3 ∧ l.any (sameText s) = true then 13 else 0) (h2 : badsB s.data.toList = false) :
    textErr l k s = if k ≠ 3 ∧ l.any (sameText s) = true then 13 else 0 := by rw [h, if_neg (by simp [h2])]

set_option maxRecDepth 100000 in
set_option maxHeartbeats 4000000 in
theorem printsErr_any (a : Option Addr) (l : List TS) (n c : Nat) (kind : Int) (s : ByteArray) (w : World) (hn : n = l.length) (hF : SortsAt w a l) (hl : l.length ≤ maxLen) (hs : s.size ≤ maxLen) (hk : 1 ≤ kind ∧ kind ≤ 3) :
    Calls Tryd.prog 75 #[.slice a n c, .int .i64 kind, .string s] w fun e w' => e = .returned (.int .i64 (textErr l kind s)) ∧ w' = w := by
  subst hn
  have HI := Lib.hid (firstAt_idx (sameText s) l)
  unfold maxLen at hl hs
  have h3 : kind = 1 ∨ kind = 2 ∨ kind = 3 := by omega
  clear hk
  cases hlen : inB s.size (leastOf kind) (mostOf kind)
  · have HE := Lib.hid (textErr_len (l := l) (k := kind) (s := s) hlen)
    rcases h3 with rfl | rfl | rfl
    all_goals
      simp only [leastOf, mostOf] at hlen
      simp at hlen
      go_enter Tryd.func75, Tryd.ntmps75
      go_wp2_with (go_at_call 30; refine (within_any _ _ _ _).mono ?_; rintro e w' ⟨rfl, rfl⟩)
      go_ret
      exact ⟨ret_int HE.out.symm, rfl⟩
  have HE := Lib.hid (textErr_rest (l := l) (k := kind) (s := s) hlen)
  rcases h3 with rfl | rfl | rfl
  all_goals
    simp only [leastOf, mostOf] at hlen
    simp at hlen
    go_enter Tryd.func75, Tryd.ntmps75
    go_wp2_with (go_at_call 30; refine (within_any _ _ _ _).mono ?_; rintro e w' ⟨rfl, rfl⟩)
    go_loop [9] (fun i => ∃ k : Nat, k ≤ s.size ∧ i = .int .i64 k ∧ Hid (badsB s.data.toList = badsB (s.data.toList.drop k))) (fun i => s.size - (intOf i).toNat)
    case atStart => exact ⟨0, Nat.zero_le _, rfl, Lib.hid (by rw [List.drop_zero])⟩
    case round =>
      obtain ⟨k, hk, rfl, HR⟩ := hrel
      by_cases hlt : k < s.size
      · have hc := bads_cons s k hlt
        by_cases hb : (s[k].toNat : Int) < 33 ∨ 126 < (s[k].toNat : Int)
        · rw [bad_yes hb, Bool.true_or] at hc
          have HC := Lib.hid hc; clear hc
          go_wp2
          all_goals first | (exfalso; omega) | (exfalso; (simp at *) <;> omega) | skip
          all_goals go_ret
          all_goals exact ⟨ret_int (by rw [HE.out, HR.out, HC.out]; rfl), rfl⟩
        · rw [bad_no hb, Bool.false_or] at hc
          have HC := Lib.hid hc; clear hc
          have h33 : 33 ≤ (s[k].toNat : Int) := by omega
          have h126 : (s[k].toNat : Int) ≤ 126 := by omega
          clear hb
          go_wp2
          all_goals go_round
          all_goals first | exact ⟨k + 1, by omega, by go_num, Lib.hid (HR.out.trans HC.out)⟩ | (simp [intOf]; omega)
      · have HC := Lib.hid (bads_end s k hlt)
        have HZ := Lib.hid (textErr_tail (l := l) HE.out (HR.out.trans HC.out))
        first
        | (go_wp2
           go_loop [10] (fun i => ∃ j : Nat, j ≤ l.length ∧ i = .int .i64 j ∧ Hid (firstAt (fun i => sameText s (l.getD i noTS)) (l.length - 0) 0 = firstAt (fun i => sameText s (l.getD i noTS)) (l.length - j) j)) (fun i => l.length - (intOf i).toNat)
           case atStart => exact ⟨0, Nat.zero_le _, rfl, Lib.hid rfl⟩
           case round =>
             obtain ⟨j, hj, rfl, HS0⟩ := hrel
             by_cases hjl : j < l.length
             · obtain ⟨ad, rfl, had, s0, s1, s2, s3⟩ := hF.at_ hjl
               clear s0 s3
               obtain ⟨x, ex⟩ : ∃ x, x = l.getD j noTS := ⟨_, rfl⟩
               rw [← ex] at s1 s2
               have EX := Lib.hid ex; clear ex
               cases hk3 : (x.kind != 3)
               · have HS := Lib.hid (firstAt_go (q := fun i => sameText s (l.getD i noTS)) hjl (by show (_ && _) = false; rw [← EX.out, hk3]; rfl))
                 go_wp2
                 go_round
                 case rel => exact ⟨j + 1, by omega, by go_num, Lib.hid (HS0.out.trans HS.out)⟩
                 case measure => simp [intOf]; omega
               · cases ht : (x.text.toList == s.toList)
                 · have HS := Lib.hid (firstAt_go (q := fun i => sameText s (l.getD i noTS)) hjl (by show (_ && _) = false; rw [← EX.out, hk3, ht]; rfl))
                   go_wp2
                   go_round
                   case rel => exact ⟨j + 1, by omega, by go_num, Lib.hid (HS0.out.trans HS.out)⟩
                   case measure => simp [intOf]; omega
                 · have HS := Lib.hid (firstAt_stop (q := fun i => sameText s (l.getD i noTS)) hjl (by show (_ && _) = true; rw [← EX.out, hk3, ht]; rfl))
                   go_wp2
                   go_ret
                   exact ⟨ret_int (by rw [HZ.out, if_pos ⟨by decide, any_some (HI.out.symm.trans (HS0.out.trans HS.out))⟩]), rfl⟩
             · have HS := Lib.hid (firstAt_end (q := fun i => sameText s (l.getD i noTS)) hjl)
               go_wp2
               go_ret
               exact ⟨ret_int (by rw [HZ.out, any_none (HI.out.symm.trans (HS0.out.trans HS.out)), if_neg (by simp)]), rfl⟩)
        | (go_wp2
           go_loop [10] (fun i => ∃ j : Nat, j ≤ l.length ∧ i = .int .i64 j) (fun i => l.length - (intOf i).toNat)
           case atStart => exact ⟨0, Nat.zero_le _, rfl⟩
           case round =>
             obtain ⟨j, hj, rfl⟩ := hrel
             by_cases hjl : j < l.length
             all_goals
               go_wp2
               go_ret
               exact ⟨ret_int (by rw [HZ.out, if_neg (by simp)]), rfl⟩)
end Go.Proofs.YtjkcomafgkabeaaDoor
