/-
  Package press: the reference's CheckRun.
-/
import Derived.Test.YtpplcbpnojggcaaGW
namespace Go.Proofs.Ytpplcbpnojggcaa
open Go.RowKit Go.Maps

theorem RowsG.take {α : Type} {n : Nat} {g : α → List Value} {w : World} {a : Option Addr} {L : List α} (h : RowsG n g w a L) (k : Nat) : RowsG n g w a (L.take k) := fun j hj => by
  have hj' : j < L.length := by rw [List.length_take] at hj; omega
  obtain ⟨ad, e, hlt, hs⟩ := h j hj'
  refine ⟨ad, e, hlt, fun i hi => ?_⟩
  rw [List.getElem_take]; exact hs i hi
theorem strsUnder : Try.prog.underlying 22 = some (.slice (Try.prog.elem 22)) := by kernel_rfl
theorem info_str : (Try.prog.info? 9).map (fun i => (i.zero, i.size, i.bytes)) = some (some (.string ⟨#[]⟩), 1, 16) := by kernel_rfl
theorem strSize (W : World) : (sizeOf (Try.prog.elem 22)).run Try.prog W = .ok 1 W := by
  obtain ⟨i0, hi0, hz0, hz1, hz2⟩ := info_parts info_str
  have e : Try.prog.elem 22 = 9 := by kernel_rfl
  rw [e]
  simp [sizeOf, typeInfo, hi0, hz1]
set_option maxRecDepth 100000 in
set_option maxHeartbeats 4000000 in
theorem refCheckRun_any (x : Run) (a : Option Addr) (c : Nat) (w : World) (hj : x.job.size ≤ maxLen) (hr : RowsG 1 tx w a x.cols) (hcap : x.cols.length ≤ c) (hl : x.cols.length ≤ 1000000) (hc : ∀ s ∈ x.cols, s.size ≤ maxLen) :
    Calls Try.prog 22 #[.agg #[.string x.job, .int .i64 x.day, .int .i64 x.wanted, .int .i64 x.given, .slice a x.cols.length c, .int .i64 x.ready, .int .i64 x.hour]] w (CheckPost (runErr x) w) := by
  obtain ⟨job, day, wanted, given, cols, ready, hour⟩ := x
  have hj : job.size ≤ maxLen := hj
  have hl : cols.length ≤ 1000000 := hl
  have HCAP : Hid (cols.length ≤ c) := Lib.hid hcap
  have HCS : Hid (∀ s ∈ cols, s.size ≤ maxLen) := Lib.hid hc
  have HRR : Hid (RowsG 1 tx w a cols) := Lib.hid hr
  clear hc hr hcap
  dsimp only
  have bx := BoxAt.new w #[.string job, .int .i64 day, .int .i64 wanted, .int .i64 given, .slice a cols.length c, .int .i64 ready, .int .i64 hour] 24
  have hb := (Below.refl w.heap.size w).alloc (Nat.le_refl _) (.cells #[.string job, .int .i64 day, .int .i64 wanted, .int .i64 given, .slice a cols.length c, .int .i64 ready, .int .i64 hour] 24)
  cases h1 : isNameB job
  · have HE := Lib.hid (show runErr ⟨job, day, wanted, given, cols, ready, hour⟩ = 4 by unfold runErr; rw [if_pos h1])
    go_enter Try.func22, Try.ntmps22
    go_wp2_with (first | (go_at_call 87; refine (refIsName_any _ _ hj).mono ?_; rintro e w' ⟨rfl, rfl⟩) | (go_at_call 30; refine (within_any _ _ _ _).mono ?_; rintro e w' ⟨rfl, rfl⟩))
    go_ret
    exact ⟨ret_int HE.out.symm, hb⟩
  cases h2 : inB day 0 100000
  · have HE := Lib.hid (show runErr ⟨job, day, wanted, given, cols, ready, hour⟩ = 2 by unfold runErr; rw [if_neg (by simp [h1])]; rw [if_pos h2])
    go_enter Try.func22, Try.ntmps22
    go_wp2_with (first | (go_at_call 87; refine (refIsName_any _ _ hj).mono ?_; rintro e w' ⟨rfl, rfl⟩) | (go_at_call 30; refine (within_any _ _ _ _).mono ?_; rintro e w' ⟨rfl, rfl⟩))
    go_ret
    exact ⟨ret_int HE.out.symm, hb⟩
  cases h3 : inB wanted 1 2000
  · have HE := Lib.hid (show runErr ⟨job, day, wanted, given, cols, ready, hour⟩ = 2 by unfold runErr; rw [if_neg (by simp [h1])]; rw [if_neg (by simp [h2])]; rw [if_pos h3])
    go_enter Try.func22, Try.ntmps22
    go_wp2_with (first | (go_at_call 87; refine (refIsName_any _ _ hj).mono ?_; rintro e w' ⟨rfl, rfl⟩) | (go_at_call 30; refine (within_any _ _ _ _).mono ?_; rintro e w' ⟨rfl, rfl⟩))
    go_ret
    exact ⟨ret_int HE.out.symm, hb⟩
  cases h4 : inB given wanted 2000
  · have HE := Lib.hid (show runErr ⟨job, day, wanted, given, cols, ready, hour⟩ = 2 by unfold runErr; rw [if_neg (by simp [h1])]; rw [if_neg (by simp [h2])]; rw [if_neg (by simp [h3])]; rw [if_pos h4])
    go_enter Try.func22, Try.ntmps22
    go_wp2_with (first | (go_at_call 87; refine (refIsName_any _ _ hj).mono ?_; rintro e w' ⟨rfl, rfl⟩) | (go_at_call 30; refine (within_any _ _ _ _).mono ?_; rintro e w' ⟨rfl, rfl⟩))
    go_ret
    exact ⟨ret_int HE.out.symm, hb⟩
  by_cases h5 : cols.length = 0
  · have HE := Lib.hid (show runErr ⟨job, day, wanted, given, cols, ready, hour⟩ = 10 by unfold runErr; rw [if_neg (by simp [h1])]; rw [if_neg (by simp [h2])]; rw [if_neg (by simp [h3])]; rw [if_neg (by simp [h4])]; rw [if_pos h5])
    have h5' : ((cols.length : Int) == 0) = true := by simpa using h5
    clear h5
    go_enter Try.func22, Try.ntmps22
    go_wp2_with (first | (go_at_call 87; refine (refIsName_any _ _ hj).mono ?_; rintro e w' ⟨rfl, rfl⟩) | (go_at_call 30; refine (within_any _ _ _ _).mono ?_; rintro e w' ⟨rfl, rfl⟩))
    go_ret
    exact ⟨ret_int HE.out.symm, hb⟩
  have h5' : ((cols.length : Int) == 0) = false := by simpa using h5
  by_cases h6 : 6 < cols.length
  · have HE := Lib.hid (show runErr ⟨job, day, wanted, given, cols, ready, hour⟩ = 8 by unfold runErr; rw [if_neg (by simp [h1])]; rw [if_neg (by simp [h2])]; rw [if_neg (by simp [h3])]; rw [if_neg (by simp [h4])]; rw [if_neg h5]; rw [if_pos h6])
    have h6' : decide ((cols.length : Int) > 6) = true := decide_eq_true (by omega)
    clear h5 h6
    go_enter Try.func22, Try.ntmps22
    go_wp2_with (first | (go_at_call 87; refine (refIsName_any _ _ hj).mono ?_; rintro e w' ⟨rfl, rfl⟩) | (go_at_call 30; refine (within_any _ _ _ _).mono ?_; rintro e w' ⟨rfl, rfl⟩))
    go_ret
    exact ⟨ret_int HE.out.symm, hb⟩
  have h6' : decide ((cols.length : Int) > 6) = false := decide_eq_false (by omega)
  have HE0 := Lib.hid (show runErr ⟨job, day, wanted, given, cols, ready, hour⟩ = if namesErr (cols.take 0) (cols.drop 0) ≠ 0 then namesErr (cols.take 0) (cols.drop 0) else if inB ready 0 10000 = false then 2 else if inB hour 1 10000 = false then 2 else 0 by unfold runErr; rw [if_neg (by simp [h1])]; rw [if_neg (by simp [h2])]; rw [if_neg (by simp [h3])]; rw [if_neg (by simp [h4])]; rw [if_neg h5]; rw [if_neg h6]; rfl)
  have h56 : 0 < cols.length ∧ cols.length ≤ 6 := by omega
  obtain ⟨h5n, h6n⟩ := h56
  clear h5 h6
  go_enter Try.func22, Try.ntmps22
  go_wp2_with (first | (go_at_call 87; refine (refIsName_any _ _ hj).mono ?_; rintro e w' ⟨rfl, rfl⟩) | (go_at_call 30; refine (within_any _ _ _ _).mono ?_; rintro e w' ⟨rfl, rfl⟩))
  obtain ⟨w0, hw0⟩ : ∃ w0, w0 = w.alloc (.cells #[.string job, .int .i64 day, .int .i64 wanted, .int .i64 given, .slice a cols.length c, .int .i64 ready, .int .i64 hour] 24) := ⟨_, rfl⟩
  rw [← hw0] at hb bx ⊢
  clear hw0
  go_loopw [3] (fun i wr => ∃ k : Nat, k ≤ cols.length ∧ i = .int .i64 k ∧ Hid (namesErr (cols.take 0) (cols.drop 0) = namesErr (cols.take k) (cols.drop k)) ∧ BoxAt wr w.heap.size #[.string job, .int .i64 day, .int .i64 wanted, .int .i64 given, .slice a cols.length c, .int .i64 ready, .int .i64 hour] 24 ∧ Below w.heap.size w wr) (fun i _ => cols.length - (intOf i).toNat)
  case atStart => exact ⟨0, Nat.zero_le _, rfl, Lib.hid rfl, bx, hb⟩
  case round =>
    obtain ⟨k, hk, rfl, HR, bx1, hB⟩ := hrel
    clear hb bx
    have HB := Lib.hid hB
    have HBX := Lib.hid bx1
    have c4 : wr.cell? ⟨w.heap.size, 4, none⟩ = some (.slice a cols.length c) := bx1.cell 4
    have c5 : wr.cell? ⟨w.heap.size, 5, none⟩ = some (.int .i64 ready) := bx1.cell 5
    have c6 : wr.cell? ⟨w.heap.size, 6, none⟩ = some (.int .i64 hour) := bx1.cell 6
    have hbl := bx1.lt
    by_cases hlt : k < cols.length
    · have hlt' : (k : Int) < (cols.length : Int) := by omega
      obtain ⟨ad, rfl, had, s0⟩ := (HRR.out.below hB).txt hlt
      have hsz : cols[k].size ≤ maxLen := HCS.out _ (List.getElem_mem hlt)
      have hcut : ∀ W, (Instr.sliceAt 22 (.slice (some ad) cols.length c) none (some (.int .i64 (k : Int))) none).run Try.prog W = .ok (.slice (some ad) k c) W := fun W => cut_low (P := Try.prog) 22 ad cols.length c k strsUnder 1 strSize (by have := HCAP.out; omega) W
      have HT := Lib.hid (fun W (h : RowsG 1 tx W (some ad) cols) => hasText_any (some ad) (cols.take k) k c cols[k] W (by rw [List.length_take]; omega) (h.take k) (by omega))
      have HRW := Lib.hid (HRR.out.below hB)
      have HNE := Lib.hid (show nmErr (cols.take k) cols[k] = if isNameB cols[k] = false then 4 else if ((cols.take k).any fun x => decide (x = cols[k])) = true then 5 else 0 from rfl)
      have HGO := Lib.hid (fun he => namesErr_go hlt he)
      have HST := Lib.hid (fun he => namesErr_stop hlt he)
      obtain ⟨q, hq⟩ : ∃ q, q = nmErr (cols.take k) cols[k] := ⟨_, rfl⟩
      rw [← hq] at HNE HGO HST
      obtain ⟨bb, hbb⟩ : ∃ bb, bb = (cols.take k).any fun x => decide (x = cols[k]) := ⟨_, rfl⟩
      rw [← hbb] at HNE HT
      obtain ⟨s, es⟩ : ∃ s, s = cols[k] := ⟨_, rfl⟩
      rw [← es] at s0 hsz HNE HT
      clear es hq hbb bx1 hB
      have HX := Lib.hid (fun (he : q ≠ 0) => (show runErr ⟨job, day, wanted, given, cols, ready, hour⟩ = q by rw [HE0.out, HR.out, HST.out he, if_pos he]))
      cases h7 : isNameB s
      · have HQ := Lib.hid (show q = 4 by rw [HNE.out, if_pos h7])
        go_wp2_with (go_at_call 87; refine (refIsName_any _ _ hsz).mono ?_; rintro e w' ⟨rfl, rfl⟩)
        go_ret
        exact ⟨ret_int (by rw [HX.out (by rw [HQ.out]; decide), HQ.out]), HB.out⟩
      cases bb
      · have HQ := Lib.hid (show q = 0 by rw [HNE.out, if_neg (by simp [h7]), if_neg (by decide)])
        go_wp2_with (go_at_call 87; refine (refIsName_any _ _ hsz).mono ?_; rintro e w' ⟨rfl, rfl⟩)
        go_quiet ((go_at_call 79; exact Calls.quiet_of_same (flip_same (HT.out _ HRW.out))))
        go_wp2
        go_roundw
        case rel => exact ⟨k + 1, by omega, by go_num, Lib.hid (HR.out.trans (HGO.out HQ.out)), HBX.out.drewN _, below_drewN HB.out _⟩
        case measure => simp [intOf]; omega
      · have HQ := Lib.hid (show q = 5 by rw [HNE.out, if_neg (by simp [h7]), if_pos rfl])
        go_wp2_with (go_at_call 87; refine (refIsName_any _ _ hsz).mono ?_; rintro e w' ⟨rfl, rfl⟩)
        go_quiet ((go_at_call 79; exact Calls.quiet_of_same (flip_same (HT.out _ HRW.out))))
        go_wp2
        go_ret
        exact ⟨ret_int (by rw [HX.out (by rw [HQ.out]; decide), HQ.out]), below_drewN HB.out _⟩
    · have HX := Lib.hid (show runErr ⟨job, day, wanted, given, cols, ready, hour⟩ = if inB ready 0 10000 = false then 2 else if inB hour 1 10000 = false then 2 else 0 by rw [HE0.out, HR.out, namesErr_end hlt, if_neg (by simp)])
      obtain rfl : k = cols.length := by omega
      clear bx1 hB
      cases h8 : inB ready 0 10000
      · have HY := Lib.hid (show runErr ⟨job, day, wanted, given, cols, ready, hour⟩ = 2 by rw [HX.out, if_pos h8])
        go_wp2_with (first | (go_at_call 87; refine (refIsName_any _ _ hj).mono ?_; rintro e w' ⟨rfl, rfl⟩) | (go_at_call 30; refine (within_any _ _ _ _).mono ?_; rintro e w' ⟨rfl, rfl⟩))
        go_ret
        exact ⟨ret_int HY.out.symm, HB.out⟩
      cases h9 : inB hour 1 10000
      · have HY := Lib.hid (show runErr ⟨job, day, wanted, given, cols, ready, hour⟩ = 2 by rw [HX.out, if_neg (by simp [h8]), if_pos h9])
        go_wp2_with (first | (go_at_call 87; refine (refIsName_any _ _ hj).mono ?_; rintro e w' ⟨rfl, rfl⟩) | (go_at_call 30; refine (within_any _ _ _ _).mono ?_; rintro e w' ⟨rfl, rfl⟩))
        go_ret
        exact ⟨ret_int HY.out.symm, HB.out⟩
      have HY := Lib.hid (show runErr ⟨job, day, wanted, given, cols, ready, hour⟩ = 0 by rw [HX.out, if_neg (by simp [h8]), if_neg (by simp [h9])])
      go_wp2_with (first | (go_at_call 87; refine (refIsName_any _ _ hj).mono ?_; rintro e w' ⟨rfl, rfl⟩) | (go_at_call 30; refine (within_any _ _ _ _).mono ?_; rintro e w' ⟨rfl, rfl⟩))
      go_ret
      exact ⟨ret_int HY.out.symm, HB.out⟩
end Go.Proofs.Ytpplcbpnojggcaa
