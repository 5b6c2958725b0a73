/-
  Package press: CheckJobs.
-/
import Derived.Test.YtdgegebplebeoaaGreatDoorEC
namespace Go.Proofs.YtdgegebplebeoaaGreatDoor
open Go.RowKit

structure Job where
  name : ByteArray
  ready : Int
  mins : Int
  due : Int
def jobV (x : Job) : List Value := [.string x.name, .int .i64 x.ready, .int .i64 x.mins, .int .i64 x.due]
theorem job_l : ∀ x : Job, (jobV x).length = 4 := fun _ => rfl
theorem job_one : ∀ x : Job, ∀ u ∈ jobV x, u.oneCell' = true := fun x u hu => by
  simp [jobV] at hu; rcases hu with rfl | rfl | rfl | rfl <;> rfl
theorem tJob : ElG 4 40 60 99 (.agg #[.string ⟨#[]⟩, .int .i64 0, .int .i64 0, .int .i64 0]) := ⟨Tryz.underlying60, by kernel_rfl, rfl, by decide, by decide⟩
theorem RowsG.job {w : World} {a : Option Addr} {L : List Job} (h : RowsG 4 jobV w a L) {k : Nat} (hk : k < L.length) : ∃ ad, a = some ad ∧ (ad.add (k * 4)).block < w.heap.size ∧
    w.cell? (ad.add (k * 4)) = some (.string L[k].name) ∧ w.cell? ⟨(ad.add (k * 4)).block, (ad.add (k * 4)).off + 1, none⟩ = some (.int .i64 L[k].ready) ∧ w.cell? ⟨(ad.add (k * 4)).block, (ad.add (k * 4)).off + 2, none⟩ = some (.int .i64 L[k].mins) ∧ w.cell? ⟨(ad.add (k * 4)).block, (ad.add (k * 4)).off + 3, none⟩ = some (.int .i64 L[k].due) := by
  obtain ⟨ad, e, hlt, hs⟩ := h k hk
  exact ⟨ad, e, by rw [add_block]; exact hlt, hs 0 (by decide), hs 1 (by decide), hs 2 (by decide), hs 3 (by decide)⟩
def okMin (n : Int) : Bool := inB n 0 10000000
def okJobMin (n : Int) : Bool := inB n 1 10000
set_option maxHeartbeats 400000 in
theorem isMinute_any (n : Int) (w : World) : Calls Tryz.prog 70 #[.int .i64 n] w fun e w' => e = .returned (.bool (okMin n)) ∧ w = w' := by
  go_enter Tryz.func70, Tryz.ntmps70
  go_wp2_with (go_at_call 35; refine (isFrom_any _ _ _ _).mono ?_; rintro e w' ⟨rfl, rfl⟩)
  go_ret
  exact ⟨rfl, rfl⟩
set_option maxHeartbeats 400000 in
theorem isJobMinutes_any (n : Int) (w : World) : Calls Tryz.prog 71 #[.int .i64 n] w fun e w' => e = .returned (.bool (okJobMin n)) ∧ w = w' := by
  go_enter Tryz.func71, Tryz.ntmps71
  go_wp2_with (go_at_call 35; refine (isFrom_any _ _ _ _).mono ?_; rintro e w' ⟨rfl, rfl⟩)
  go_ret
  exact ⟨rfl, rfl⟩
def rngErr (x : Job) : Int := if okMin x.ready = false then 2 else if okMin x.due = false then 2 else if okJobMin x.mins = false then 2 else 0
def jobErr (before : List ByteArray) (x : Job) : Int := if nmErr before x.name ≠ 0 then nmErr before x.name else rngErr x
def jobsE (before : List ByteArray) : List Job → Int
  | [] => 0
  | x :: L => if jobErr before x ≠ 0 then jobErr before x else jobsE (before ++ [x.name]) L
def jobsErr (L : List Job) : Int := if L.length = 0 then 10 else if 20 < L.length then 8 else jobsE [] L
def names (L : List Job) : List ByteArray := L.map (·.name)
theorem names_take {L : List Job} {k : Nat} (hk : k < L.length) : (names L).take (k + 1) = (names L).take k ++ [L[k].name] := by
  unfold names; rw [List.take_succ_eq_append_getElem (by simpa using hk)]; simp
theorem jobsE_stop {L : List Job} {k : Nat} (hk : k < L.length) (h : jobErr ((names L).take k) L[k] ≠ 0) : jobsE ((names L).take k) (L.drop k) = jobErr ((names L).take k) L[k] := by
  rw [List.drop_eq_getElem_cons hk]; unfold jobsE; rw [if_pos h]
theorem jobsE_go {L : List Job} {k : Nat} (hk : k < L.length) (h : jobErr ((names L).take k) L[k] = 0) : jobsE ((names L).take k) (L.drop k) = jobsE ((names L).take (k + 1)) (L.drop (k + 1)) := by
  rw [List.drop_eq_getElem_cons hk]
  show (if _ then _ else _) = _
  rw [if_neg (by simp [h]), names_take hk]
theorem jobsE_end {L : List Job} {k : Nat} (hk : ¬ k < L.length) : jobsE ((names L).take k) (L.drop k) = 0 := by
  rw [List.drop_of_length_le (by omega)]; rfl
theorem jobErr_ok {B : List ByteArray} {x : Job} (h : jobErr B x = 0) : nmErr B x.name = 0 ∧ (0 ≤ x.ready ∧ x.ready ≤ 10000000) ∧ (0 ≤ x.due ∧ x.due ≤ 10000000) ∧ (1 ≤ x.mins ∧ x.mins ≤ 10000) := by
  unfold jobErr at h
  split at h
  · exact absurd h ‹_›
  rename_i h1
  unfold rngErr at h
  split at h
  · cases h
  rename_i h2
  split at h
  · cases h
  rename_i h3
  split at h
  · cases h
  rename_i h4
  exact ⟨by simpa using h1, inB_iff.1 (by simpa [okMin] using h2), inB_iff.1 (by simpa [okMin] using h3), inB_iff.1 (by simpa [okJobMin] using h4)⟩
theorem jobsE_ok : ∀ {L : List Job} {B : List ByteArray}, jobsE B L = 0 → ∀ x ∈ L, (0 ≤ x.ready ∧ x.ready ≤ 10000000) ∧ (0 ≤ x.due ∧ x.due ≤ 10000000) ∧ (1 ≤ x.mins ∧ x.mins ≤ 10000)
  | [], _, _, x, hx => by cases hx
  | y :: L, B, h, x, hx => by
    unfold jobsE at h
    split at h
    · exact absurd h ‹_›
    · rename_i h1
      rcases List.mem_cons.1 hx with rfl | hx
      · have := jobErr_ok (by simpa using h1); exact this.2
      · exact jobsE_ok h x hx
theorem jobs_ok {L : List Job} (h : jobsErr L = 0) : (1 ≤ L.length ∧ L.length ≤ 20) ∧ ∀ x ∈ L, (0 ≤ x.ready ∧ x.ready ≤ 10000000) ∧ (0 ≤ x.due ∧ x.due ≤ 10000000) ∧ (1 ≤ x.mins ∧ x.mins ≤ 10000) := by
  unfold jobsErr at h
  split at h
  · cases h
  split at h
  · cases h
  exact ⟨⟨by omega, by omega⟩, jobsE_ok h⟩
set_option maxRecDepth 100000 in
set_option maxHeartbeats 4000000 in
theorem checkJobs_any (L : List Job) (a : Option Addr) (c : Nat) (w : World) (hr : RowsG 4 jobV w a L) (hl : L.length ≤ maxLen) (hc : ∀ x ∈ L, x.name.size ≤ maxLen) :
    Calls Tryz.prog 47 #[.slice a L.length c] w (CheckPost (jobsErr L) w) := by
  unfold maxLen at hl
  have hmm := @run_makeMap Tryz.prog
  have HCS := Lib.hid hc; clear hc
  by_cases h5 : L.length = 0
  · have HE := Lib.hid (show jobsErr L = 10 by unfold jobsErr; rw [if_pos h5])
    have h5' : ((L.length : Int) == 0) = true := by simpa using h5
    clear h5
    go_enter Tryz.func47, Tryz.ntmps47
    go_wp2_with fail
    go_ret
    exact ⟨ret_int HE.out.symm, Below.refl _ _⟩
  have h5' : ((L.length : Int) == 0) = false := by simpa using h5
  by_cases h6 : 20 < L.length
  · have HE := Lib.hid (show jobsErr L = 8 by unfold jobsErr; rw [if_neg h5, if_pos h6])
    clear h5
    go_enter Tryz.func47, Tryz.ntmps47
    go_wp2_with fail
    go_ret
    exact ⟨ret_int HE.out.symm, Below.refl _ _⟩
  have HE0 := Lib.hid (show jobsErr L = jobsE ((names L).take 0) (L.drop 0) by unfold jobsErr; rw [if_neg h5, if_neg h6]; rfl)
  have h5n : 0 < L.length := by omega
  clear h5
  have hnm : NamesAt (w.alloc (.map #[] 0)) w.heap.size ((names L).take 0) := by
    have h := MapAt.made w Tryz.prog 9
    exact h
  have hb2 := (Below.refl w.heap.size w).alloc (Nat.le_refl _) (.map #[] 0)
  go_enter Tryz.func47, Tryz.ntmps47
  go_wp2_with fail
  go_loopw [16] (fun i wr => ∃ k : Nat, k ≤ L.length ∧ i = .int .i64 k ∧ NamesAt wr w.heap.size ((names L).take k) ∧ Hid (jobsE ((names L).take 0) (L.drop 0) = jobsE ((names L).take k) (L.drop k)) ∧ Below w.heap.size w wr) (fun i _ => L.length - (intOf i).toNat)
  case atStart => exact ⟨0, Nat.zero_le _, rfl, hnm, Lib.hid rfl, hb2⟩
  case round =>
    obtain ⟨k, hk, rfl, hN, HR, hB⟩ := hrel
    clear hnm hb2
    have hNl := hN.lt
    by_cases hlt : k < L.length
    · obtain ⟨ad, rfl, had, s0, s1, s2, s3⟩ := (hr.below hB).job hlt
      have hsz : L[k].name.size ≤ maxLen := HCS.out _ (List.getElem_mem hlt)
      have HST := Lib.hid (fun h => jobsE_stop (L := L) hlt h)
      have HGO := Lib.hid (fun h => jobsE_go (L := L) hlt h)
      have HT := Lib.hid (names_take hlt)
      have HBN : Hid (((names L).take k).length < maxLen) := Lib.hid (by rw [List.length_take]; unfold names maxLen; simp; omega)
      obtain ⟨x, ex⟩ : ∃ x, x = L[k] := ⟨_, rfl⟩
      obtain ⟨B, eB⟩ : ∃ B, B = (names L).take k := ⟨_, rfl⟩
      rw [← ex] at s0 s1 s2 s3 hsz HST HGO HT
      rw [← eB] at hN HST HGO HT HBN HR
      obtain ⟨nm, rd, mn, du⟩ := x
      have hsz : nm.size ≤ maxLen := hsz
      have s0 : wr.cell? (ad.add (k * 4)) = some (.string nm) := s0
      have s1 : wr.cell? ⟨(ad.add (k * 4)).block, (ad.add (k * 4)).off + 1, none⟩ = some (.int .i64 rd) := s1
      have s2 : wr.cell? ⟨(ad.add (k * 4)).block, (ad.add (k * 4)).off + 2, none⟩ = some (.int .i64 mn) := s2
      have s3 : wr.cell? ⟨(ad.add (k * 4)).block, (ad.add (k * 4)).off + 3, none⟩ = some (.int .i64 du) := s3
      clear ex eB
      have bj := BoxAt.new wr #[.string nm, .int .i64 rd, .int .i64 mn, .int .i64 du] 99
      have hBj := hB.alloc hB.size (.cells #[.string nm, .int .i64 rd, .int .i64 mn, .int .i64 du] 99)
      have hNj := hN.alloc (.cells #[.string nm, .int .i64 rd, .int .i64 mn, .int .i64 du] 99)
      obtain ⟨en, hen⟩ : ∃ en, en = nmErr B nm := ⟨_, rfl⟩
      have HEN := Lib.hid hen
      clear hen
      by_cases he : en = 0
      · have HJ : Hid (jobErr B ⟨nm, rd, mn, du⟩ = rngErr ⟨nm, rd, mn, du⟩) := Lib.hid (by unfold jobErr; rw [if_neg (by rw [← HEN.out]; simp [he])])
        go_wp2_with fail
        refine (add_any w.heap.size B nm _ hsz hNj HBN.out).mono ?_
        rintro e w1 ⟨rfl, hg1, hn1⟩
        rw [← HEN.out] at hn1 ⊢
        have hN1 := hn1 he
        rw [← HT.out] at hN1
        have hne : some wr.heap.size ≠ some w.heap.size := by simp; omega
        have bj1 := bj.grown hg1 hne
        have hB1 := hBj.grown hg1 hBj.size (fun q e => by injection e with e; omega)
        subst he
        have c0 := bj1.cell 0; have c1 := bj1.cell 1; have c2 := bj1.cell 2; have c3 := bj1.cell 3
        simp at c0 c1 c2 c3
        have hjl := bj1.lt
        clear hn1 bj hBj hNj hg1
        cases h1 : okMin rd
        · have HX := Lib.hid (show jobsErr L = 2 by rw [HE0.out, HR.out, HST.out (by rw [HJ.out]; unfold rngErr; rw [if_pos h1]; decide), HJ.out]; unfold rngErr; rw [if_pos h1])
          go_wp2_with (first | (go_at_call 70; refine (isMinute_any _ _).mono ?_; rintro e w' ⟨rfl, rfl⟩) | (go_at_call 71; refine (isJobMinutes_any _ _).mono ?_; rintro e w' ⟨rfl, rfl⟩))
          go_ret
          exact ⟨ret_int HX.out.symm, hB1⟩
        cases h2 : okMin du
        · have HX := Lib.hid (show jobsErr L = 2 by rw [HE0.out, HR.out, HST.out (by rw [HJ.out]; unfold rngErr; rw [if_neg (by simp [h1]), if_pos h2]; decide), HJ.out]; unfold rngErr; rw [if_neg (by simp [h1]), if_pos h2])
          go_wp2_with (first | (go_at_call 70; refine (isMinute_any _ _).mono ?_; rintro e w' ⟨rfl, rfl⟩) | (go_at_call 71; refine (isJobMinutes_any _ _).mono ?_; rintro e w' ⟨rfl, rfl⟩))
          go_ret
          exact ⟨ret_int HX.out.symm, hB1⟩
        cases h3 : okJobMin mn
        · have HX := Lib.hid (show jobsErr L = 2 by rw [HE0.out, HR.out, HST.out (by rw [HJ.out]; unfold rngErr; rw [if_neg (by simp [h1]), if_neg (by simp [h2]), if_pos h3]; decide), HJ.out]; unfold rngErr; rw [if_neg (by simp [h1]), if_neg (by simp [h2]), if_pos h3])
          go_wp2_with (first | (go_at_call 70; refine (isMinute_any _ _).mono ?_; rintro e w' ⟨rfl, rfl⟩) | (go_at_call 71; refine (isJobMinutes_any _ _).mono ?_; rintro e w' ⟨rfl, rfl⟩))
          go_ret
          exact ⟨ret_int HX.out.symm, hB1⟩
        have HX := Lib.hid (HGO.out (by rw [HJ.out]; unfold rngErr; rw [if_neg (by simp [h1]), if_neg (by simp [h2]), if_neg (by simp [h3])]))
        go_wp2_with (first | (go_at_call 70; refine (isMinute_any _ _).mono ?_; rintro e w' ⟨rfl, rfl⟩) | (go_at_call 71; refine (isJobMinutes_any _ _).mono ?_; rintro e w' ⟨rfl, rfl⟩))
        go_roundw
        case rel => exact ⟨k + 1, by omega, by go_num, hN1, Lib.hid (HR.out.trans HX.out), hB1⟩
        case measure => simp [intOf]; omega
      · have heb : (en != 0) = true := by simpa using he
        have HJ : Hid (jobErr B ⟨nm, rd, mn, du⟩ = en) := Lib.hid (by unfold jobErr; rw [if_pos (by rw [← HEN.out]; exact he)]; exact HEN.out.symm)
        have HX := Lib.hid (show jobsErr L = en by rw [HE0.out, HR.out, HST.out (by rw [HJ.out]; exact he), HJ.out])
        clear he
        go_wp2_with fail
        refine (add_any w.heap.size B nm _ hsz hNj HBN.out).mono ?_
        rintro e w1 ⟨rfl, hg1, -⟩
        rw [← HEN.out]
        have hB1 := hBj.grown hg1 hBj.size (fun q e => by injection e with e; omega)
        go_wp2_with fail
        go_ret
        exact ⟨ret_int HX.out.symm, hB1⟩
    · have HX := Lib.hid (show jobsErr L = 0 by rw [HE0.out, HR.out, jobsE_end hlt])
      go_wp2_with fail
      go_ret
      exact ⟨ret_int HX.out.symm, hB⟩
end Go.Proofs.YtdgegebplebeoaaGreatDoor
