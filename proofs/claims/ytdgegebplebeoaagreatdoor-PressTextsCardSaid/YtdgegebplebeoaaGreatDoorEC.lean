/-
  Package press: CheckRun, RunMinutes, Estimate.
-/
import Derived.Test.YtdgegebplebeoaaGreatDoorEB
namespace Go.Proofs.YtdgegebplebeoaaGreatDoor
open Go.RowKit

structure Run where
  job : ByteArray
  day : Int
  wanted : Int
  given : Int
  cols : List ByteArray
  ready : Int
  hour : Int
/-- The error of the names of a list, some of them looked at before. -/
def namesErr (before : List ByteArray) : List ByteArray → Int
  | [] => 0
  | s :: L => if nmErr before s ≠ 0 then nmErr before s else namesErr (before ++ [s]) L
def runErr (x : Run) : Int :=
  if isNameB x.job = false then 4 else if inB x.day 0 100000 = false then 2 else if inB x.wanted 1 2000 = false then 2 else if inB x.given x.wanted 2000 = false then 2
  else if x.cols.length = 0 then 10 else if 6 < x.cols.length then 8 else if namesErr [] x.cols ≠ 0 then namesErr [] x.cols else if inB x.ready 0 10000 = false then 2 else if inB x.hour 1 10000 = false then 2 else 0
theorem namesErr_stop {L : List ByteArray} {k : Nat} (hk : k < L.length) (h : nmErr (L.take k) L[k] ≠ 0) : namesErr (L.take k) (L.drop k) = nmErr (L.take k) L[k] := by
  rw [List.drop_eq_getElem_cons hk]; unfold namesErr; rw [if_pos h]
theorem namesErr_go {L : List ByteArray} {k : Nat} (hk : k < L.length) (h : nmErr (L.take k) L[k] = 0) : namesErr (L.take k) (L.drop k) = namesErr (L.take (k + 1)) (L.drop (k + 1)) := by
  rw [List.drop_eq_getElem_cons hk]
  show (if _ then _ else _) = _
  rw [if_neg (by simp [h]), List.take_succ_eq_append_getElem hk]
theorem namesErr_end {L : List ByteArray} {k : Nat} (hk : ¬ k < L.length) : namesErr (L.take k) (L.drop k) = 0 := by
  rw [List.drop_of_length_le (by omega)]; rfl
set_option maxHeartbeats 400000 in
theorem isRunMinutes_any (n : Int) (w : World) :
    Calls Tryz.prog 60 #[.int .i64 n] w fun e w' => e = .returned (.bool (inB n 0 10000)) ∧ w = w' := by
  go_enter Tryz.func60, Tryz.ntmps60
  go_wp2_with (go_at_call 35; refine (isFrom_any _ _ _ _).mono ?_; rintro e w' ⟨rfl, rfl⟩)
  go_ret
  exact ⟨rfl, rfl⟩
theorem in_ok {n lo hi : Int} (h : inB n lo hi = true) : lo ≤ n ∧ n ≤ hi := inB_iff.1 h
/-- What a right run is. -/
theorem run_ok {x : Run} (h : runErr x = 0) : isNameB x.job = true ∧ (0 ≤ x.day ∧ x.day ≤ 100000) ∧ (1 ≤ x.wanted ∧ x.wanted ≤ 2000) ∧ (x.wanted ≤ x.given ∧ x.given ≤ 2000) ∧ (1 ≤ x.cols.length ∧ x.cols.length ≤ 6) ∧ namesErr [] x.cols = 0 ∧ (0 ≤ x.ready ∧ x.ready ≤ 10000) ∧ (1 ≤ x.hour ∧ x.hour ≤ 10000) := by
  unfold runErr at h
  split at h
  · cases h
  rename_i h1
  split at h
  · cases h
  rename_i h2
  split at h
  · cases h
  rename_i h3
  split at h
  · cases h
  rename_i h4
  split at h
  · cases h
  rename_i h5
  split at h
  · cases h
  rename_i h6
  split at h
  · exact absurd h ‹_›
  rename_i h7
  split at h
  · cases h
  rename_i h8
  split at h
  · cases h
  rename_i h9
  exact ⟨by simpa using h1, in_ok (by simpa using h2), in_ok (by simpa using h3), in_ok (by simpa using h4), ⟨by omega, by omega⟩, by simpa using h7, in_ok (by simpa using h8), in_ok (by simpa using h9)⟩
set_option maxRecDepth 100000 in
set_option maxHeartbeats 2000000 in
theorem checkRun_any (x : Run) (a : Option Addr) (c : Nat) (w : World) (hj : x.job.size ≤ maxLen) (hr : RowsG 1 tx w a x.cols) (hl : x.cols.length ≤ maxLen) (hc : ∀ s ∈ x.cols, s.size ≤ maxLen) :
    Calls Tryz.prog 27 #[.agg #[.string x.job, .int .i64 x.day, .int .i64 x.wanted, .int .i64 x.given, .slice a x.cols.length c, .int .i64 x.ready, .int .i64 x.hour]] w (CheckPost (runErr x) w) := by
  obtain ⟨job, day, wanted, given, cols, ready, hour⟩ := x
  have hj : job.size ≤ maxLen := hj
  have hl : cols.length ≤ maxLen := hl
  unfold maxLen at hl
  have HCS : Hid (∀ s ∈ cols, s.size ≤ maxLen) := Lib.hid hc
  have HRR : RowsG 1 tx w a cols := hr
  clear hc hr
  have hmm := @run_makeMap Tryz.prog
  have bx := BoxAt.new w #[.string job, .int .i64 day, .int .i64 wanted, .int .i64 given, .slice a cols.length c, .int .i64 ready, .int .i64 hour] 24
  have hb := (Below.refl w.heap.size w).alloc (Nat.le_refl _) (.cells #[.string job, .int .i64 day, .int .i64 wanted, .int .i64 given, .slice a cols.length c, .int .i64 ready, .int .i64 hour] 24)
  cases h1 : isNameB job
  · have HE := Lib.hid (show runErr ⟨job, day, wanted, given, cols, ready, hour⟩ = 4 by unfold runErr; rw [if_pos h1])
    go_enter Tryz.func27, Tryz.ntmps27
    go_wp2_with (first | (go_at_call 58; refine (isName_any _ _ hj).mono ?_; rintro e w' ⟨rfl, rfl⟩) | (go_at_call 35; refine (isFrom_any _ _ _ _).mono ?_; rintro e w' ⟨rfl, rfl⟩) | (go_at_call 60; refine (isRunMinutes_any _ _).mono ?_; rintro e w' ⟨rfl, rfl⟩))
    go_ret
    exact ⟨ret_int HE.out.symm, hb⟩
  cases h2 : inB day 0 100000
  · have HE := Lib.hid (show runErr ⟨job, day, wanted, given, cols, ready, hour⟩ = 2 by unfold runErr; rw [if_neg (by simp [h1])]; rw [if_pos h2])
    go_enter Tryz.func27, Tryz.ntmps27
    go_wp2_with (first | (go_at_call 58; refine (isName_any _ _ hj).mono ?_; rintro e w' ⟨rfl, rfl⟩) | (go_at_call 35; refine (isFrom_any _ _ _ _).mono ?_; rintro e w' ⟨rfl, rfl⟩) | (go_at_call 60; refine (isRunMinutes_any _ _).mono ?_; rintro e w' ⟨rfl, rfl⟩))
    go_ret
    exact ⟨ret_int HE.out.symm, hb⟩
  cases h3 : inB wanted 1 2000
  · have HE := Lib.hid (show runErr ⟨job, day, wanted, given, cols, ready, hour⟩ = 2 by unfold runErr; rw [if_neg (by simp [h1])]; rw [if_neg (by simp [h2])]; rw [if_pos h3])
    go_enter Tryz.func27, Tryz.ntmps27
    go_wp2_with (first | (go_at_call 58; refine (isName_any _ _ hj).mono ?_; rintro e w' ⟨rfl, rfl⟩) | (go_at_call 35; refine (isFrom_any _ _ _ _).mono ?_; rintro e w' ⟨rfl, rfl⟩) | (go_at_call 60; refine (isRunMinutes_any _ _).mono ?_; rintro e w' ⟨rfl, rfl⟩))
    go_ret
    exact ⟨ret_int HE.out.symm, hb⟩
  cases h4 : inB given wanted 2000
  · have HE := Lib.hid (show runErr ⟨job, day, wanted, given, cols, ready, hour⟩ = 2 by unfold runErr; rw [if_neg (by simp [h1])]; rw [if_neg (by simp [h2])]; rw [if_neg (by simp [h3])]; rw [if_pos h4])
    go_enter Tryz.func27, Tryz.ntmps27
    go_wp2_with (first | (go_at_call 58; refine (isName_any _ _ hj).mono ?_; rintro e w' ⟨rfl, rfl⟩) | (go_at_call 35; refine (isFrom_any _ _ _ _).mono ?_; rintro e w' ⟨rfl, rfl⟩) | (go_at_call 60; refine (isRunMinutes_any _ _).mono ?_; rintro e w' ⟨rfl, rfl⟩))
    go_ret
    exact ⟨ret_int HE.out.symm, hb⟩
  by_cases h5 : cols.length = 0
  · have HE := Lib.hid (show runErr ⟨job, day, wanted, given, cols, ready, hour⟩ = 10 by unfold runErr; rw [if_neg (by simp [h1])]; rw [if_neg (by simp [h2])]; rw [if_neg (by simp [h3])]; rw [if_neg (by simp [h4])]; rw [if_pos h5])
    have h5' : ((cols.length : Int) == 0) = true := by simpa using h5
    clear h5
    go_enter Tryz.func27, Tryz.ntmps27
    go_wp2_with (first | (go_at_call 58; refine (isName_any _ _ hj).mono ?_; rintro e w' ⟨rfl, rfl⟩) | (go_at_call 35; refine (isFrom_any _ _ _ _).mono ?_; rintro e w' ⟨rfl, rfl⟩) | (go_at_call 60; refine (isRunMinutes_any _ _).mono ?_; rintro e w' ⟨rfl, rfl⟩))
    go_ret
    exact ⟨ret_int HE.out.symm, hb⟩
  have h5' : ((cols.length : Int) == 0) = false := by simpa using h5
  by_cases h6 : 6 < cols.length
  · have HE := Lib.hid (show runErr ⟨job, day, wanted, given, cols, ready, hour⟩ = 8 by unfold runErr; rw [if_neg (by simp [h1])]; rw [if_neg (by simp [h2])]; rw [if_neg (by simp [h3])]; rw [if_neg (by simp [h4])]; rw [if_neg h5, if_pos h6])
    clear h5
    go_enter Tryz.func27, Tryz.ntmps27
    go_wp2_with (first | (go_at_call 58; refine (isName_any _ _ hj).mono ?_; rintro e w' ⟨rfl, rfl⟩) | (go_at_call 35; refine (isFrom_any _ _ _ _).mono ?_; rintro e w' ⟨rfl, rfl⟩) | (go_at_call 60; refine (isRunMinutes_any _ _).mono ?_; rintro e w' ⟨rfl, rfl⟩))
    go_ret
    exact ⟨ret_int HE.out.symm, hb⟩
  have HE0 := Lib.hid (show runErr ⟨job, day, wanted, given, cols, ready, hour⟩ = if namesErr (cols.take 0) (cols.drop 0) ≠ 0 then namesErr (cols.take 0) (cols.drop 0) else if inB ready 0 10000 = false then 2 else if inB hour 1 10000 = false then 2 else 0 by unfold runErr; rw [if_neg (by simp [h1])]; rw [if_neg (by simp [h2])]; rw [if_neg (by simp [h3])]; rw [if_neg (by simp [h4])]; rw [if_neg h5, if_neg h6]; rfl)
  have h5n : 0 < cols.length := by omega
  clear h5
  have hnm : NamesAt (((w.alloc (.cells #[.string job, .int .i64 day, .int .i64 wanted, .int .i64 given, .slice a cols.length c, .int .i64 ready, .int .i64 hour] 24))).alloc (.map #[] 0)) (w.heap.size + 1) [] := by
    have h := MapAt.made (w.alloc (.cells #[.string job, .int .i64 day, .int .i64 wanted, .int .i64 given, .slice a cols.length c, .int .i64 ready, .int .i64 hour] 24)) Tryz.prog 9
    rw [World.size_alloc] at h
    exact h
  have hb2 := hb.alloc (by simp) (.map #[] 0)
  have bx2 := bx.alloc (.map #[] 0)
  go_enter Tryz.func27, Tryz.ntmps27
  go_wp2_with (first | (go_at_call 58; refine (isName_any _ _ hj).mono ?_; rintro e w' ⟨rfl, rfl⟩) | (go_at_call 35; refine (isFrom_any _ _ _ _).mono ?_; rintro e w' ⟨rfl, rfl⟩) | (go_at_call 60; refine (isRunMinutes_any _ _).mono ?_; rintro e w' ⟨rfl, rfl⟩))
  obtain ⟨w0, hw0⟩ : ∃ w0, w0 = (w.alloc (.cells #[.string job, .int .i64 day, .int .i64 wanted, .int .i64 given, .slice a cols.length c, .int .i64 ready, .int .i64 hour] 24)).alloc (.map #[] 0) := ⟨_, rfl⟩
  first | rw [← hw0] at hnm hb2 bx2 ⊢ | trace_state
  clear hw0 bx hb
  go_loopw [41] (fun i wr => ∃ k : Nat, k ≤ cols.length ∧ i = .int .i64 k ∧ NamesAt wr (w.heap.size + 1) (cols.take k) ∧ Hid (namesErr (cols.take 0) (cols.drop 0) = namesErr (cols.take k) (cols.drop k)) ∧ BoxAt wr w.heap.size #[.string job, .int .i64 day, .int .i64 wanted, .int .i64 given, .slice a cols.length c, .int .i64 ready, .int .i64 hour] 24 ∧ Below w.heap.size w wr) (fun i _ => cols.length - (intOf i).toNat)
  case atStart => exact ⟨0, Nat.zero_le _, rfl, by simpa using hnm, Lib.hid rfl, bx2, hb2⟩
  case round =>
    obtain ⟨k, hk, rfl, hN, HR, bx, hB⟩ := hrel
    clear hnm hb2 bx2
    have c5 := bx.cell 5; have c6 := bx.cell 6
    simp at c5 c6
    have hbl := bx.lt
    by_cases hlt : k < cols.length
    · obtain ⟨ad, rfl, had, s0⟩ := (HRR.below hB).txt hlt
      have hsz : cols[k].size ≤ maxLen := HCS.out _ (List.getElem_mem hlt)
      by_cases he : nmErr (cols.take k) cols[k] = 0
      · have HG := Lib.hid (namesErr_go hlt he)
        have HX := Lib.hid he
        have HT := Lib.hid (List.take_succ_eq_append_getElem hlt)
        obtain ⟨s, es⟩ : ∃ s, s = cols[k] := ⟨_, rfl⟩
        rw [← es] at s0 hsz HX HT
        clear es he
        go_wp2_with fail
        refine (add_any (w.heap.size + 1) (cols.take k) s _ hsz hN (by rw [List.length_take]; unfold maxLen; omega)).mono ?_
        rintro e w1 ⟨rfl, hg1, hn1⟩
        have hN1 := hn1 HX.out
        rw [← HT.out] at hN1
        have bx1 := bx.grown hg1 (by simp)
        have hB1 := hB.grown hg1 hB.size (fun q e => by injection e with e; omega)
        rw [HX.out]
        clear c5 c6 hbl hn1
        go_wp2_with fail
        go_roundw
        case rel => exact ⟨k + 1, by omega, by go_num, hN1, Lib.hid (HR.out.trans HG.out), bx1, hB1⟩
        case measure => simp [intOf]; omega
      · have HG := Lib.hid (namesErr_stop hlt he)
        have heb : (nmErr (cols.take k) cols[k] != 0) = true := by simpa using he
        have HX := Lib.hid (show runErr ⟨job, day, wanted, given, cols, ready, hour⟩ = nmErr (cols.take k) cols[k] by rw [HE0.out, HR.out, HG.out, if_pos he])
        obtain ⟨s, es⟩ : ∃ s, s = cols[k] := ⟨_, rfl⟩
        rw [← es] at s0 hsz HX heb
        clear es he
        go_wp2_with fail
        refine (add_any (w.heap.size + 1) (cols.take k) s _ hsz hN (by rw [List.length_take]; unfold maxLen; omega)).mono ?_
        rintro e w1 ⟨rfl, hg1, -⟩
        have hB1 := hB.grown hg1 hB.size (fun q e => by injection e with e; omega)
        go_wp2_with fail
        go_ret
        exact ⟨ret_int HX.out.symm, hB1⟩
    · have HG := Lib.hid (namesErr_end hlt)
      have HX := Lib.hid (show runErr ⟨job, day, wanted, given, cols, ready, hour⟩ = if inB ready 0 10000 = false then 2 else if inB hour 1 10000 = false then 2 else 0 by rw [HE0.out, HR.out, HG.out, if_neg (by simp)])
      cases h8 : inB ready 0 10000
      · have HY := Lib.hid (show runErr ⟨job, day, wanted, given, cols, ready, hour⟩ = 2 by rw [HX.out, if_pos h8])
        go_wp2_with (first | (go_at_call 58; refine (isName_any _ _ hj).mono ?_; rintro e w' ⟨rfl, rfl⟩) | (go_at_call 35; refine (isFrom_any _ _ _ _).mono ?_; rintro e w' ⟨rfl, rfl⟩) | (go_at_call 60; refine (isRunMinutes_any _ _).mono ?_; rintro e w' ⟨rfl, rfl⟩))
        go_ret
        exact ⟨ret_int HY.out.symm, hB⟩
      cases h9 : inB hour 1 10000
      · have HY := Lib.hid (show runErr ⟨job, day, wanted, given, cols, ready, hour⟩ = 2 by rw [HX.out, if_neg (by simp [h8]), if_pos h9])
        go_wp2_with (first | (go_at_call 58; refine (isName_any _ _ hj).mono ?_; rintro e w' ⟨rfl, rfl⟩) | (go_at_call 35; refine (isFrom_any _ _ _ _).mono ?_; rintro e w' ⟨rfl, rfl⟩) | (go_at_call 60; refine (isRunMinutes_any _ _).mono ?_; rintro e w' ⟨rfl, rfl⟩))
        go_ret
        exact ⟨ret_int HY.out.symm, hB⟩
      have HY := Lib.hid (show runErr ⟨job, day, wanted, given, cols, ready, hour⟩ = 0 by rw [HX.out, if_neg (by simp [h8]), if_neg (by simp [h9])])
      go_wp2_with (first | (go_at_call 58; refine (isName_any _ _ hj).mono ?_; rintro e w' ⟨rfl, rfl⟩) | (go_at_call 35; refine (isFrom_any _ _ _ _).mono ?_; rintro e w' ⟨rfl, rfl⟩) | (go_at_call 60; refine (isRunMinutes_any _ _).mono ?_; rintro e w' ⟨rfl, rfl⟩))
      go_ret
      exact ⟨ret_int HY.out.symm, hB⟩
end Go.Proofs.YtdgegebplebeoaaGreatDoor
