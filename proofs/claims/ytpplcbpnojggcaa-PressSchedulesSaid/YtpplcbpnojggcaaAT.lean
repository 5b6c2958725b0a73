/-
  Package press: jobs and sets by the reference; light lists of jobs, copies.
-/
import Derived.Test.YtpplcbpnojggcaaAR
import Derived.Test.YtpplcbpnojggcaaGW
namespace Go.Proofs.Ytpplcbpnojggcaa
open Go.RowKit Go.Maps

theorem eq_bytes (x s : ByteArray) : (x.toList == s.toList) = decide (x = s) := eq_tx x s
set_option maxRecDepth 100000 in
set_option maxHeartbeats 8000000 in
theorem refCheckJobs_any (L : List Job) (a : Option Addr) (n c : Nat) (w : World) (hn : n = L.length) (hr : RowsG 4 jobV w a L) (hl : L.length ≤ maxLen) (hsz : ∀ x ∈ L, x.name.size ≤ maxLen) :
    Calls Try.prog 62 #[.slice a n c] w (CheckPost (jobsErr L) w) := by
  unfold maxLen at hl
  subst hn
  have HR := Lib.hid hr; have HSZ := Lib.hid hsz
  clear hr hsz
  go_enter Try.func62, Try.ntmps62
  by_cases h5 : L.length = 0
  · have HE := Lib.hid (show jobsErr L = 10 by unfold jobsErr; rw [if_pos h5])
    have h5' : ((L.length : Int) == 0) = true := by simpa using h5
    clear h5
    go_wp2_with fail
    go_ret
    exact ⟨ret_int HE.out.symm, Below.refl _ _⟩
  have h5' : ((L.length : Int) == 0) = false := by simpa using h5
  by_cases h6 : 20 < L.length
  · have HE := Lib.hid (show jobsErr L = 8 by unfold jobsErr; rw [if_neg h5, if_pos h6])
    have h6' : (20 : Int) < (L.length : Int) := by omega
    clear h5 h6
    go_wp2_with fail
    go_ret
    exact ⟨ret_int HE.out.symm, Below.refl _ _⟩
  have HE0 := Lib.hid (show jobsErr L = jobsE ((names L).take 0) (L.drop 0) by unfold jobsErr; rw [if_neg h5, if_neg h6]; rfl)
  have h6' : ¬ (20 : Int) < (L.length : Int) := by omega
  clear h5 h6
  go_wp2_with fail
  clear h5' h6'
  go_loopw [3] (fun i wr => ∃ k : Nat, k ≤ L.length ∧ i = .int .i64 k ∧ Hid (jobsErr L = jobsE ((names L).take k) (L.drop k)) ∧ Drew w wr) (fun i _ => L.length - (intOf i).toNat)
  case atStart => exact ⟨0, Nat.zero_le _, rfl, HE0, Drew.refl _⟩
  case round =>
    obtain ⟨k, hk, rfl, HC, hdr⟩ := hrel
    have HBW := Lib.hid (hdr.below (Below.refl w.heap.size w))
    by_cases hlt : k < L.length
    · have HRW := Lib.hid (hdr.rowsG HR.out)
      obtain ⟨ad, rfl, hau, s0, s1, s2, s3⟩ := HRW.out.job hlt
      have HST := Lib.hid (fun h => jobsE_stop (L := L) hlt h)
      have HGO := Lib.hid (fun h => jobsE_go (L := L) hlt h)
      have hnz : L[k].name.size ≤ maxLen := HSZ.out _ (List.getElem_mem hlt)
      have hkl : (k : Int) < (L.length : Int) := by omega
      obtain ⟨x, ex⟩ : ∃ x, x = L[k] := ⟨_, rfl⟩
      rw [← ex] at s0 s1 s2 s3 hnz HST HGO
      obtain ⟨nm, rd, mn, du⟩ := x
      dsimp only at s0 s1 s2 s3 hnz
      have HJE := Lib.hid (show jobErr ((names L).take k) ⟨nm, rd, mn, du⟩ = if nmErr ((names L).take k) nm ≠ 0 then nmErr ((names L).take k) nm else rngErr ⟨nm, rd, mn, du⟩ from rfl)
      have HNE := Lib.hid (show nmErr ((names L).take k) nm = if isNameB nm = false then 4 else if (((names L).take k).any fun x => decide (x = nm)) = true then 5 else 0 from rfl)
      have HRG := Lib.hid (show rngErr ⟨nm, rd, mn, du⟩ = if okMin rd = false then 2 else if okMin du = false then 2 else if okJobMin mn = false then 2 else 0 from rfl)
      have HSN := Lib.hid s0; have HS1 := Lib.hid s1; have HS2 := Lib.hid s2; have HS3 := Lib.hid s3
      clear ex
      cases hnb : isNameB nm
      · have HE := Lib.hid (show jobsErr L = 4 by
          have h9 : nmErr ((names L).take k) nm = 4 := by rw [HNE.out, if_pos hnb]
          have h10 : jobErr ((names L).take k) ⟨nm, rd, mn, du⟩ = 4 := by rw [HJE.out, h9, if_pos (by decide)]
          rw [HC.out, HST.out (by rw [h10]; decide), h10])
        go_wp2_with (go_at_call 87; refine (refIsName_any _ _ hnz).mono ?_; rintro e w' ⟨rfl, rfl⟩)
        go_ret
        exact ⟨ret_int HE.out.symm, HBW.out⟩
      have HNB := Lib.hid hnb
      go_wp2_with (go_at_call 87; refine (refIsName_any _ _ hnz).mono ?_; rintro e w' ⟨rfl, rfl⟩; rw [HNB.out])
      clear hnb
      obtain ⟨wo, rfl⟩ : ∃ wo : World, wo = wr := ⟨_, rfl⟩
      go_loopw [4] (fun i wr => ∃ q : Nat, q ≤ k ∧ i = .int .i64 q ∧ Hid ((((names L).take k).any fun x => decide (x = nm)) = ((((names L).take k).drop q).any fun x => decide (x = nm))) ∧ Drew wo wr) (fun i _ => k - (intOf i).toNat)
      case atStart => exact ⟨0, Nat.zero_le _, rfl, Lib.hid rfl, Drew.refl _⟩
      case round =>
        obtain ⟨q, hq, rfl, HA, hdr2⟩ := hrel
        have HBW2 := Lib.hid (hdr2.below HBW.out)
        by_cases hqk : q < k
        · have hql : q < L.length := by omega
          obtain ⟨ad', ea, hau2, u0, -, -, -⟩ := (hdr2.rowsG HRW.out).job hql
          injection ea with ea
          subst ea
          have hqn : q < ((names L).take k).length := by rw [List.length_take]; unfold names; simp; omega
          have HAS := Lib.hid (any_step (p := fun x => decide (x = nm)) hqn)
          have HQN := Lib.hid (show ((names L).take k)[q] = L[q].name by rw [List.getElem_take]; exact List.getElem_map (fun x : Job => x.name))
          rw [HQN.out] at HAS
          obtain ⟨z, ez⟩ : ∃ z, z = L[q].name := ⟨_, rfl⟩
          rw [← ez] at u0 HAS
          have hz := eq_bytes z nm
          have v0 : wr.cell? (ad.add (k * 4)) = some (.string nm) := hdr2.cell HSN.out
          have hql' : (q : Int) < (L.length : Int) := by omega
          have hqk' : (q : Int) < (k : Int) := by omega
          clear ez HQN s0 s1 s2 s3
          by_cases e : z = nm
          · have hz' : (z.toList == nm.toList) = true := by rw [hz]; exact decide_eq_true e
            have HE := Lib.hid (show jobsErr L = 5 by
              have h9 : nmErr ((names L).take k) nm = 5 := by rw [HNE.out, if_neg (by rw [HNB.out]; decide), if_pos (by rw [HA.out, HAS.out]; simp [e])]
              have h10 : jobErr ((names L).take k) ⟨nm, rd, mn, du⟩ = 5 := by rw [HJE.out, h9, if_pos (by decide)]
              rw [HC.out, HST.out (by rw [h10]; decide), h10])
            clear e hz
            go_wp2_with fail
            go_quiet (fail)
            go_wp2
            go_ret
            exact ⟨ret_int HE.out.symm, below_drewN HBW2.out _⟩
          · have hz' : (z.toList == nm.toList) = false := by rw [hz]; exact decide_eq_false e
            have HAN := Lib.hid (show (((names L).take k).any fun x => decide (x = nm)) = ((((names L).take k).drop (q + 1)).any fun x => decide (x = nm)) by rw [HA.out, HAS.out]; simp [e])
            clear e hz
            go_wp2_with fail
            go_quiet (fail)
            go_wp2
            go_roundw
            case rel => exact ⟨q + 1, by omega, by go_num, HAN, hdr2.drewN _⟩
            case measure => simp [intOf]; omega
        · obtain rfl : q = k := by omega
          have HN0 := Lib.hid (show nmErr ((names L).take q) nm = 0 by
            have h9 : (((names L).take q).any fun x => decide (x = nm)) = false := by rw [HA.out]; exact any_stop (by rw [List.length_take]; omega)
            rw [HNE.out, if_neg (by rw [HNB.out]; decide), if_neg (by rw [h9]; decide)])
          have HJ2 := Lib.hid (show jobErr ((names L).take q) ⟨nm, rd, mn, du⟩ = rngErr ⟨nm, rd, mn, du⟩ by rw [HJE.out, HN0.out, if_neg (by decide)])
          have v1 : wr.cell? ⟨(ad.add (q * 4)).block, (ad.add (q * 4)).off + 1, none⟩ = some (.int .i64 rd) := hdr2.cell HS1.out
          have v2 : wr.cell? ⟨(ad.add (q * 4)).block, (ad.add (q * 4)).off + 2, none⟩ = some (.int .i64 mn) := hdr2.cell HS2.out
          have v3 : wr.cell? ⟨(ad.add (q * 4)).block, (ad.add (q * 4)).off + 3, none⟩ = some (.int .i64 du) := hdr2.cell HS3.out
          have hdr3 := Lib.hid (show Drew w wr by obtain ⟨m1, e1⟩ := hdr; obtain ⟨m2, e2⟩ := hdr2; exact ⟨m1 + m2, by rw [e2, e1, World.drewN_drewN]⟩)
          clear s0 s1 s2 s3 hdr2
          have HERR := Lib.hid (show ∀ v, rngErr ⟨nm, rd, mn, du⟩ = v → v ≠ 0 → jobsErr L = v from fun v hv h0 => by rw [HC.out, HST.out (by rw [HJ2.out, hv]; exact h0), HJ2.out, hv])
          cases h1 : okMin rd
          · have HE := Lib.hid (HERR.out 2 (by rw [HRG.out, if_pos h1]) (by decide))
            have h1x : inB rd 0 10000000 = false := h1
            have H1 := Lib.hid h1x
            clear h1 h1x
            go_wp2_with (go_at_call 30; refine (within_any _ _ _ _).mono ?_; rintro e w' ⟨rfl, rfl⟩; rw [H1.out])
            go_ret
            exact ⟨ret_int HE.out.symm, HBW2.out⟩
          have H1 : Hid (inB rd 0 10000000 = true) := Lib.hid h1
          cases h2 : okMin du
          · have HE := Lib.hid (HERR.out 2 (by rw [HRG.out, if_neg (by rw [h1]; decide), if_pos h2]) (by decide))
            have H2 : Hid (inB du 0 10000000 = false) := Lib.hid h2
            clear h1 h2
            go_wp2_with (go_at_call 30; refine (within_any _ _ _ _).mono ?_; rintro e w' ⟨rfl, rfl⟩; (first | rw [H1.out] | rw [H2.out]))
            go_ret
            exact ⟨ret_int HE.out.symm, HBW2.out⟩
          have H2 : Hid (inB du 0 10000000 = true) := Lib.hid h2
          cases h3 : okJobMin mn
          · have HE := Lib.hid (HERR.out 2 (by rw [HRG.out, if_neg (by rw [h1]; decide), if_neg (by rw [h2]; decide), if_pos h3]) (by decide))
            have H3 : Hid (inB mn 1 10000 = false) := Lib.hid h3
            clear h1 h2 h3
            go_wp2_with (go_at_call 30; refine (within_any _ _ _ _).mono ?_; rintro e w' ⟨rfl, rfl⟩; (first | rw [H1.out] | rw [H2.out] | rw [H3.out]))
            go_ret
            exact ⟨ret_int HE.out.symm, HBW2.out⟩
          have H3 : Hid (inB mn 1 10000 = true) := Lib.hid h3
          have HN := Lib.hid (show jobsErr L = jobsE ((names L).take (q + 1)) (L.drop (q + 1)) by
            rw [HC.out, HGO.out (by rw [HJ2.out, HRG.out, if_neg (by rw [h1]; decide), if_neg (by rw [h2]; decide), if_neg (by rw [h3]; decide)])])
          clear h1 h2 h3
          go_wp2_with (go_at_call 30; refine (within_any _ _ _ _).mono ?_; rintro e w' ⟨rfl, rfl⟩; (first | rw [H1.out] | rw [H2.out] | rw [H3.out]))
          go_roundw
          case rel => exact ⟨q + 1, by omega, by go_num, HN, hdr3.out⟩
          case measure => simp [intOf]; omega
    · have HE := Lib.hid (show jobsErr L = 0 by rw [HC.out, jobsE_end hlt])
      go_wp2
      go_ret
      exact ⟨ret_int HE.out.symm, HBW.out⟩
def LightPost (P : Prop) (w : World) (e : Ending) (w' : World) : Prop := (∃ b, e = .returned (.bool b) ∧ (b = true → P)) ∧ w = w'
set_option maxRecDepth 100000 in
set_option maxHeartbeats 2000000 in
theorem light_any (L : List Job) (a : Option Addr) (n c : Nat) (w : World) (hn : n = L.length) (hr : RowsG 4 jobV w a L) (hl : L.length ≤ maxLen) (hsz : ∀ x ∈ L, x.name.size ≤ maxLen) :
    Calls Try.prog 59 #[.slice a n c] w (LightPost (L.length ≤ 22) w) := by
  unfold maxLen at hl
  subst hn
  have HR := Lib.hid hr; have HSZ := Lib.hid hsz
  clear hr hsz
  go_enter Try.func59, Try.ntmps59
  have HCASE : (6 < L.length ∧ L.length ≤ 20) ∨ 22 < L.length ∨ L.length ≤ 6 ∨ (20 < L.length ∧ L.length ≤ 22) := by omega
  rcases HCASE with ⟨h1, h2⟩ | h1 | h1 | ⟨h1, h2⟩
  · have g1 : (6 : Int) < (L.length : Int) := by omega
    have g2 : (L.length : Int) ≤ 20 := by omega
    clear h1 h2
    go_wp2_with fail
    go_ret
    exact ⟨⟨_, rfl, fun h => by cases h⟩, rfl⟩
  · have g1 : (6 : Int) < (L.length : Int) := by omega
    have g2 := decide_eq_false (show ¬ (L.length : Int) ≤ 20 by omega)
    have g2' : ¬ (L.length : Int) ≤ 20 := by omega
    have g3 : (22 : Int) < (L.length : Int) := by omega
    clear h1
    go_wp2_with fail
    go_ret
    exact ⟨⟨_, rfl, fun h => by cases h⟩, rfl⟩
  · have H22 := Lib.hid (show L.length ≤ 22 by omega)
    have g1 := decide_eq_false (show ¬ (6 : Int) < (L.length : Int) by omega)
    have g1' : ¬ (6 : Int) < (L.length : Int) := by omega
    have g3 := decide_eq_false (show ¬ (22 : Int) < (L.length : Int) by omega)
    have g3' : ¬ (22 : Int) < (L.length : Int) := by omega
    clear h1
    go_wp2_with fail
    go_loop [3] (fun i => ∃ k : Nat, k ≤ L.length ∧ i = .int .i64 k) (fun i => L.length - (intOf i).toNat)
    case atStart => exact ⟨0, Nat.zero_le _, rfl⟩
    case round =>
      obtain ⟨k, hk, rfl⟩ := hrel
      by_cases hlt : k < L.length
      · obtain ⟨ad, rfl, hau, s0, -, -, -⟩ := HR.out.job hlt
        have hnz : L[k].name.size ≤ maxLen := HSZ.out _ (List.getElem_mem hlt)
        have hkl : (k : Int) < (L.length : Int) := by omega
        obtain ⟨nm, en⟩ : ∃ nm, nm = L[k].name := ⟨_, rfl⟩
        rw [← en] at s0 hnz
        unfold maxLen at hnz
        clear en
        by_cases h30 : (30 : Int) < (nm.size : Int)
        · go_wp2_with fail
          go_ret
          exact ⟨⟨_, rfl, fun h => by cases h⟩, rfl⟩
        · have h30' := decide_eq_false h30
          clear h30
          go_wp2_with fail
          go_round
          case rel => exact ⟨k + 1, by omega, by go_num⟩
          case measure => simp [intOf]; omega
      · go_wp2
        go_ret
        exact ⟨⟨_, rfl, fun _ => H22.out⟩, rfl⟩
  · have H22 := Lib.hid (show L.length ≤ 22 by omega)
    have g1 : (6 : Int) < (L.length : Int) := by omega
    have g2 := decide_eq_false (show ¬ (L.length : Int) ≤ 20 by omega)
    have g2' : ¬ (L.length : Int) ≤ 20 := by omega
    have g3 := decide_eq_false (show ¬ (22 : Int) < (L.length : Int) by omega)
    have g3' : ¬ (22 : Int) < (L.length : Int) := by omega
    clear h1 h2
    go_wp2_with fail
    go_loop [3] (fun i => ∃ k : Nat, k ≤ L.length ∧ i = .int .i64 k) (fun i => L.length - (intOf i).toNat)
    case atStart => exact ⟨0, Nat.zero_le _, rfl⟩
    case round =>
      obtain ⟨k, hk, rfl⟩ := hrel
      by_cases hlt : k < L.length
      · obtain ⟨ad, rfl, hau, s0, -, -, -⟩ := HR.out.job hlt
        have hnz : L[k].name.size ≤ maxLen := HSZ.out _ (List.getElem_mem hlt)
        have hkl : (k : Int) < (L.length : Int) := by omega
        obtain ⟨nm, en⟩ : ∃ nm, nm = L[k].name := ⟨_, rfl⟩
        rw [← en] at s0 hnz
        unfold maxLen at hnz
        clear en
        by_cases h30 : (30 : Int) < (nm.size : Int)
        · go_wp2_with fail
          go_ret
          exact ⟨⟨_, rfl, fun h => by cases h⟩, rfl⟩
        · have h30' := decide_eq_false h30
          clear h30
          go_wp2_with fail
          go_round
          case rel => exact ⟨k + 1, by omega, by go_num⟩
          case measure => simp [intOf]; omega
      · go_wp2
        go_ret
        exact ⟨⟨_, rfl, fun _ => H22.out⟩, rfl⟩
set_option maxHeartbeats 1000000 in
theorem jobs_any (L : List Job) (a : Option Addr) (n c : Nat) (w : World) (hn : n = L.length) (hX : RowsG 4 jobV w a L) (hl : L.length ≤ 1000000) (hd : a = none → c = 0) :
    Calls Try.prog 61 #[.slice a n c] w fun e w' => ∃ a' c', e = .returned (.slice a' L.length c') ∧ RowsG 4 jobV w' a' L ∧ (a' = none → c' = 0) ∧ Below w.heap.size w w' := by
  have hown : OwnG 4 136 jobV (w.alloc (.cells #[] 136)) w.heap.size (.slice (some ⟨w.heap.size, 0, none⟩) 0 0) [] :=
    World.ownsRow_made (e := 136) (size := 4) (base := w.heap.size) w #[] 0 (Nat.le_refl _) (Nat.zero_le _) rfl
  have hB := (Below.refl w.heap.size w).alloc (Nat.le_refl _) (.cells #[] 136)
  have HX := Lib.hid (hX.alloc (.cells #[] 136))
  have HN := Lib.hid hn; have HL := Lib.hid hl
  clear hX hn hl
  go_enter Try.func61, Try.ntmps61
  go_wp2_with (at_builtin; refine wpList_appG tJob job_l job_one _ rfl _ _ rfl w.heap.size _ [] rfl hown a L n c HN.out rfl HX.out hd (by simp) HL.out (by simp) ?_; intro v2 w2 hO2 hg2 hb2 ho2; obtain ⟨a2, c2, e2, hr2, hn2, -⟩ := hO2.rows job_l; rw [List.nil_append] at e2 hr2; subst e2)
  go_ret
  exact ⟨a2, c2, rfl, hr2, hn2, hB.trans hb2⟩
set_option maxHeartbeats 1000000 in
theorem slices_any (S : List Sl) (a : Option Addr) (n c : Nat) (w : World) (hn : n = S.length) (hX : RowsAt 3 Sl.l w a S) (hl : S.length ≤ 1000000) (hd : a = none → c = 0) :
    Calls Try.prog 69 #[.slice a n c] w fun e w' => ∃ a' c', e = .returned (.slice a' S.length c') ∧ RowsAt 3 Sl.l w' a' S ∧ (a' = none → c' = 0) ∧ Below w.heap.size w w' := by
  subst hn
  have hown : OwnR 3 113 Sl.l (w.alloc (.cells #[] 113)) w.heap.size (.slice (some ⟨w.heap.size, 0, none⟩) 0 0) [] :=
    World.ownsRow_made (e := 113) (size := 3) (base := w.heap.size) w #[] 0 (Nat.le_refl _) (Nat.zero_le _) rfl
  have hB := (Below.refl w.heap.size w).alloc (Nat.le_refl _) (.cells #[] 113)
  have HX := Lib.hid (hX.alloc (.cells #[] 113))
  clear hX
  go_enter Try.func69, Try.ntmps69
  go_wp2_with (at_builtin; refine wpList_appL tSl sl_l _ rfl _ _ rfl w.heap.size _ [] rfl hown a S c rfl HX.out hd (by simp) hl (by simp) ?_; intro v2 w2 hO2 hg2 hb2 ho2; obtain ⟨a2, c2, e2, hr2, -, -, hn2, -⟩ := hO2.rows sl_l; rw [List.nil_append] at e2 hr2; subst e2)
  go_ret
  exact ⟨a2, c2, rfl, hr2, hn2, hB.trans hb2⟩
end Go.Proofs.Ytpplcbpnojggcaa
