/-
  Package press: the schedule by dues, by the reference.
-/
import Derived.Test.YtpplcbpnojggcaaBA
import Derived.Deep.CutRange
namespace Go.Proofs.Ytpplcbpnojggcaa
open Go.RowKit

/-- The index of the most urgent job, -1 where none is ready. -/
def BsR (ut : Nat × Bool) (bv : Int) : Prop := (ut.2 = false ∧ bv = -1) ∨ (ut.2 = true ∧ bv = (ut.1 : Int))
theorem bs_hit {L : List Job} {F : List Int} {m : Int} {k : Nat} (h : 0 < F.getD k 0 ∧ (L.getD k noJob).ready ≤ m ∧ ((urgTo L F m k).2 = false ∨ (L.getD k noJob).due < (L.getD (urgTo L F m k).1 noJob).due)) : BsR (urgTo L F m (k + 1)) (k : Int) := by
  rw [urgTo]; unfold urgP; rw [if_pos h]; exact Or.inr ⟨rfl, rfl⟩
theorem bs_keep {L : List Job} {F : List Int} {m : Int} {k : Nat} {bv : Int} (h : ¬ (0 < F.getD k 0 ∧ (L.getD k noJob).ready ≤ m ∧ ((urgTo L F m k).2 = false ∨ (L.getD k noJob).due < (L.getD (urgTo L F m k).1 noJob).due))) (hb : BsR (urgTo L F m k) bv) : BsR (urgTo L F m (k + 1)) bv := by
  rw [urgTo]; unfold urgP; rw [if_neg h]; exact hb
/-- The next ready minute, -1 where there is none. -/
def NxR (Q nv : Int) : Prop := (nv = -1 ∧ Q = 9223372036854775807) ∨ (nv = Q ∧ 0 ≤ Q ∧ Q ≤ 10000000)
def nxK (L : List Job) (m : Int) (k : Nat) : Int := (L.take k).foldl (nextP m) 9223372036854775807
theorem nx_keep {L : List Job} {m nv : Int} {k : Nat} (hk : k < L.length) (h : ¬ m < L[k].ready ∨ (0 ≤ nv ∧ ¬ L[k].ready < nv)) (hn : NxR (nxK L m k) nv) : NxR (nxK L m (k + 1)) nv := by
  unfold nxK at hn ⊢
  rw [fold_step hk]
  obtain ⟨Q, hQ⟩ : ∃ Q, Q = (L.take k).foldl (nextP m) 9223372036854775807 := ⟨_, rfl⟩
  rw [← hQ] at hn ⊢
  unfold nextP
  split
  · rename_i h1
    rcases h with h | h
    · exact absurd h1 h
    · rcases hn with ⟨h2, h3⟩ | ⟨h2, h3, h4⟩
      · omega
      · right
        rw [Int.min_eq_left (by omega)]; exact ⟨h2, h3, h4⟩
  · exact hn
theorem nx_hit {L : List Job} {m nv : Int} {k : Nat} (hk : k < L.length) (h : m < L[k].ready) (hr : 0 ≤ L[k].ready ∧ L[k].ready ≤ 10000000) (hc : nv < 0 ∨ L[k].ready < nv) (hn : NxR (nxK L m k) nv) : NxR (nxK L m (k + 1)) L[k].ready := by
  unfold nxK at hn ⊢
  rw [fold_step hk]
  obtain ⟨Q, hQ⟩ : ∃ Q, Q = (L.take k).foldl (nextP m) 9223372036854775807 := ⟨_, rfl⟩
  rw [← hQ] at hn ⊢
  unfold nextP
  rw [if_pos h]
  rcases hn with ⟨h2, h3⟩ | ⟨h2, h3, h4⟩
  · right; rw [h3, Int.min_eq_right (by omega)]; exact ⟨rfl, hr⟩
  · right; rw [Int.min_eq_right (by omega)]; exact ⟨rfl, hr⟩
/-- A job that is not ready is not begun. -/
def NI (L : List Job) (s : SSt) : Prop := ∀ k, k < L.length → s.now < (L.getD k noJob).ready → 0 < s.left.getD k 0
theorem start_ni {L : List Job} (hok : JobsOk L) : NI L (startS L) := fun k hk _ => by
  have := (hok _ (List.getElem_mem hk)).2.2.1
  show 0 < (L.map (·.mins)).getD k 0
  rw [List.getD_eq_getElem?_getD, List.getElem?_map, List.getElem?_eq_getElem hk]
  show 0 < L[k].mins
  omega
theorem step_ni {L : List Job} {s : SSt} (hl : 0 < L.length) (hlen : s.left.length = L.length) (h0 : ∀ x ∈ s.left, 0 ≤ x) (hgt : s.now < nextI s.now L) (h : NI L s) : NI L (stepS L s) := by
  intro k hk hr
  have hul := urg_lt L s.left s.now L.length (Nat.le_refl _) hl
  rcases Bool.eq_false_or_eq_true (urgI L s.left s.now).2 with hu | hu
  rotate_left
  · have hst : stepS L s = ⟨s.left, s.sch, nextI s.now L⟩ := by unfold stepS; rw [if_pos hu]
    rw [hst] at hr ⊢
    exact h k hk (by dsimp only at hr; omega)
  · unfold stepS at hr ⊢
    rw [if_neg (by simp [hu])] at hr ⊢
    obtain ⟨hpos, hrd⟩ := urg_is L.length (Nat.le_refl _) hu
    change (urgI L s.left s.now).1 < L.length at hul
    change (L.getD (urgI L s.left s.now).1 noJob).ready ≤ s.now at hrd
    have h2 := getD_nonneg h0 (urgI L s.left s.now).1
    dsimp only at hr ⊢
    rw [set_getD (by omega)]
    split
    · rename_i e
      rw [e] at hr hrd h2; omega
    · exact h k hk (by omega)
theorem stop_bs {L : List Job} {s : SSt} (h0 : ∀ x ∈ s.left, 0 ≤ x) (hs : ¬ 0 < sumI s.left) : (urgI L s.left s.now).2 = false := by
  cases hu : (urgI L s.left s.now).2
  · rfl
  · obtain ⟨hpos, -⟩ := urg_is L.length (Nat.le_refl _) hu
    have := sumI_ge h0 (urgTo L s.left s.now L.length).1
    omega
theorem stop_nx {L : List Job} {s : SSt} (h0 : ∀ x ∈ s.left, 0 ≤ x) (hs : ¬ 0 < sumI s.left) (h : NI L s) : nextI s.now L = 9223372036854775807 := by
  rcases nextF_or s.now L 9223372036854775807 with h1 | ⟨x, hx, h1, -⟩
  · exact h1
  · obtain ⟨k, hk, rfl⟩ := List.getElem_of_mem hx
    have h2 := h k hk (by rw [job_getD hk]; exact h1)
    have := sumI_ge h0 k
    omega
set_option maxRecDepth 100000 in
set_option maxHeartbeats 16000000 in
theorem refSchedule_any (L : List Job) (a : Option Addr) (n c : Nat) (w : World) (hn : n = L.length) (hr : RowsG 4 jobV w a L) (hl1 : 1 ≤ L.length) (hl : L.length ≤ 20) (hok : JobsOk L) :
    Calls Try.prog 64 #[.slice a n c] w (SchPost (schedI L) w) := by
  subst hn
  have HOK : Hid (JobsOk L) := Lib.hid hok
  have HST := Lib.hid (start_ok hl (fun x hx => (hok x hx).2.2))
  have HSN := Lib.hid (start_ni hok)
  clear hok
  have hmk := fun W => make_int L.length (by omega) W
  have im := IBox.made w L.length
  rw [← leftTo_zero] at im
  have hB0 := (Below.refl w.heap.size w).alloc (Nat.le_refl _) (.cells (madeCells #[.int .i64 0] L.length) 3)
  go_enter Try.func64, Try.ntmps64
  go_wp2_with fail
  obtain ⟨w0, hw0⟩ : ∃ w0, w0 = w.alloc (.cells (madeCells #[.int .i64 0] L.length) 3) := ⟨_, rfl⟩
  rw [← hw0] at im hB0 ⊢
  clear hw0
  go_loopw [4] (fun i wr => ∃ k : Nat, k ≤ L.length ∧ i = .int .i64 k ∧ IBox wr w.heap.size (leftTo L k) ∧ Below w.heap.size w wr) (fun i _ => L.length - (intOf i).toNat)
  case atStart => exact ⟨0, Nat.zero_le _, rfl, im, hB0⟩
  case round =>
    obtain ⟨k, hk, rfl, ib, hB⟩ := hrel
    clear im hB0 hmk
    by_cases hlt : k < L.length
    · obtain ⟨ad, rfl, had, s0, s1, s2, s3⟩ := (hr.below hB).job hlt
      have HSET := Lib.hid (leftTo_set hlt)
      have hlen := leftTo_len L (Nat.le_of_lt hlt)
      have hc := ib.cell (k := k) (by omega)
      have hf := ib.free k
      have hil := ib.lt
      obtain ⟨y, hy⟩ : ∃ y, y = (leftTo L k)[k]'(by omega) := ⟨_, rfl⟩
      rw [← hy] at hc
      obtain ⟨x, ex⟩ : ∃ x, x = L[k] := ⟨_, rfl⟩
      rw [← ex] at s0 s1 s2 s3 HSET
      clear ex hy hlen
      have ib1 := (ib.set k x.mins)
      rw [HSET.out] at ib1
      have hB1 := hB.setCell (p := ⟨w.heap.size, k, none⟩) (Nat.le_refl _) (.int .i64 x.mins)
      go_wp2_with fail
      go_roundw
      case rel => exact ⟨k + 1, by omega, by go_num, ib1, hB1⟩
      case measure => simp [intOf]; omega
    · obtain rfl : k = L.length := by omega
      rw [leftTo_all] at ib
      go_wp2_with fail
      obtain ⟨w2, hw2⟩ : ∃ w2, w2 = wr := ⟨_, rfl⟩
      rw [← hw2] at ib hB ⊢
      clear hw2 hlt hk
      go_loopg [5, 6] 300000 (fun gk v t wr => ∃ s : SSt, t = .int .i64 s.now ∧ OwnR 3 113 Sl.l wr (w.heap.size + 1) v s.sch ∧ IBox wr w.heap.size s.left ∧ Hid (SOk L 200000 s) ∧ Hid (runS L 300000 (startS L) = runS L gk s) ∧ Hid (measS L s ≤ gk) ∧ Hid (NI L s) ∧ Below w.heap.size w wr)
      case atStart => exact ⟨startS L, rfl, OwnR.nil _ _, ib, Lib.hid HST.out.1, Lib.hid rfl, Lib.hid HST.out.2, HSN, hB⟩
      case round =>
        obtain ⟨s, rfl, hO, ib, HS, HR, HM, HNI, hB⟩ := hrel
        clear HST HSN
        rename World => wo
        have hso := HS.out
        obtain ⟨left, sch, now⟩ := s
        have hnow0 : 0 ≤ now := hso.now0
        have hnowb : now ≤ 10200000 := by have h1 := hso.bd; have h2 := sumI_nonneg hso.left0; dsimp only at h1 h2; omega
        have HGT := Lib.hid (next_gt (m := now) (L := L) (by omega))
        have HLEN : Hid (left.length = L.length) := Lib.hid hso.len
        have HLN := Lib.hid (show ∀ i, 0 ≤ left.getD i 0 from fun i => getD_nonneg hso.left0 i)
        have HLL := Lib.hid (show ∀ i, left.getD i 0 ≤ 200000 from fun i => Int.le_trans (sumI_ge (L := left) hso.left0 i) hso.tot)
        have hil := ib.lt
        have HRW := Lib.hid (hr.below hB); have IB := Lib.hid ib; have HO := Lib.hid hO; have HBW := Lib.hid hB
        clear hso ib hO hB
        dsimp only
        go_wp2_with fail
        go_loopw [7, 8, 9] (fun b x i wr => ∃ (k : Nat) (bv nv : Int), k ≤ L.length ∧ i = .int .i64 k ∧ b = .int .i64 bv ∧ x = .int .i64 nv ∧ Hid (BsR (urgTo L left now k) bv) ∧ Hid (NxR (nxK L now k) nv) ∧ Drew wo wr) (fun _ _ i _ => L.length - (intOf i).toNat)
        case atStart => exact ⟨0, -1, -1, Nat.zero_le _, rfl, rfl, rfl, Lib.hid (Or.inl ⟨rfl, rfl⟩), Lib.hid (Or.inl ⟨rfl, rfl⟩), Drew.refl _⟩
        case round =>
          obtain ⟨k, bv, nv, hk, rfl, rfl, rfl, HBS, HNX, hdr⟩ := hrel
          by_cases hlt : k < L.length
          · obtain ⟨ad, rfl, had, s0, s1, s2, s3⟩ := (hdr.rowsG HRW.out).job hlt
            have hkl : k < left.length := by have := HLEN.out; omega
            have hkL : (k : Int) < (L.length : Int) := by omega
            have hk0 : 0 ≤ (k : Int) := by omega
            have HGL := Lib.hid (job_getD hlt)
            have HYD := Lib.hid (show left.getD k 0 = left[k] from getD_eqI hkl)
            have HRB := Lib.hid ((HOK.out _ (List.getElem_mem hlt)).1)
            have HKP := Lib.hid (fun h => nx_keep (m := now) (nv := nv) hlt h HNX.out)
            have HHT := Lib.hid (fun h1 h2 => nx_hit (m := now) (nv := nv) hlt h1 HRB.out h2 HNX.out)
            have HN9 := Lib.hid (show now < L[k].ready → 0 < left[k] from fun h => by have := HNI.out k hlt (by rw [HGL.out]; exact h); dsimp only at this; rw [HYD.out] at this; exact this)
            have p0 := hdr.cell (IB.out.cell hkl)
            have P0 : Hid (wo.cell? ⟨w.heap.size, k, none⟩ = some (.int .i64 left[k])) := Lib.hid (IB.out.cell hkl)
            have P1 : Hid (wo.cell? ⟨(ad.add (k * 4)).block, (ad.add (k * 4)).off + 1, none⟩ = some (.int .i64 L[k].ready)) := Lib.hid (by obtain ⟨ad9, e9, -, -, u1, -, -⟩ := HRW.out.job hlt; injection e9 with e9; subst e9; exact u1)
            have P3 : Hid (wo.cell? ⟨(ad.add (k * 4)).block, (ad.add (k * 4)).off + 3, none⟩ = some (.int .i64 L[k].due)) := Lib.hid (by obtain ⟨ad9, e9, -, -, -, -, u3⟩ := HRW.out.job hlt; injection e9 with e9; subst e9; exact u3)
            obtain ⟨y, hy⟩ : ∃ y, y = left[k] := ⟨_, rfl⟩
            rw [← hy] at p0 P0 HYD HN9
            obtain ⟨x, ex⟩ : ∃ x, x = L[k] := ⟨_, rfl⟩
            rw [← ex] at s0 s1 s2 s3 P1 P3 HGL HRB HN9
            simp only [← ex] at HKP HHT
            obtain ⟨xnm, rd, xm, du⟩ := x
            dsimp only at s0 s1 s2 s3 P1 P3 HRB HN9 HKP HHT
            clear hy ex
            by_cases hy : 0 < y
            · have hy9 := decide_eq_true hy
              by_cases hrd : rd ≤ now
              · have hrd9 := decide_eq_true hrd
                have hrd7 : ¬ now < rd := by omega
                have hrd8 := decide_eq_false hrd7
                rcases HBS.out with ⟨ht, rfl⟩ | ⟨ht, rfl⟩
                · have HB9 := Lib.hid (bs_hit (L := L) (F := left) (m := now) (k := k) ⟨by rw [HYD.out]; exact hy, by rw [HGL.out]; exact hrd, Or.inl ht⟩)
                  have HN8 := Lib.hid (HKP.out (Or.inl hrd7))
                  go_wp2_with fail
                  go_quiet (fail)
                  obtain ⟨X1, hX1⟩ : ∃ X1, X1 = wr.drewN nq := ⟨_, rfl⟩
                  have hdX := hdr.drewN nq
                  rw [← hX1] at hdX
                  rw [← hX1]
                  have p0 : X1.cell? ⟨w.heap.size, k, none⟩ = some (.int .i64 y) := hdX.cell P0.out
                  have p1 : X1.cell? ⟨(ad.add (k * 4)).block, (ad.add (k * 4)).off + 1, none⟩ = some (.int .i64 rd) := hdX.cell P1.out
                  clear hX1 s0 s1 s2 s3
                  go_wp2_with fail
                  (try go_quiet (fail))
                  (try go_wp2)
                  go_roundw
                  case rel => exact ⟨k + 1, (k : Int), nv, by omega, by go_num, rfl, rfl, HB9, HN8, by first | exact hdX | exact hdX.drewN _ | exact (hdX.drewN _).drewN _⟩
                  case measure => simp [intOf]; omega
                · have hul := urg_lt L left now k (by omega) hl1
                  obtain ⟨ad9, e9, -, -, -, -, u3⟩ := (hdr.rowsG HRW.out).job hul
                  injection e9 with e9
                  subst e9
                  have HUD := Lib.hid (job_getD hul)
                  have HIT := Lib.hid (fun (h : du < (L[(urgTo L left now k).1]'hul).due) => bs_hit (L := L) (F := left) (m := now) (k := k) ⟨by rw [HYD.out]; exact hy, by rw [HGL.out]; exact hrd, Or.inr (by rw [HGL.out, HUD.out]; exact h)⟩)
                  have HKB := Lib.hid (fun (h9 : ¬ du < (L[(urgTo L left now k).1]'hul).due) => bs_keep (L := L) (F := left) (m := now) (k := k) (bv := ((urgTo L left now k).1 : Int)) (fun h => h9 (by have h8 := h.2.2; rw [ht, HGL.out, HUD.out] at h8; rcases h8 with h8 | h8; cases h8; exact h8)) HBS.out)
                  obtain ⟨du2, hdu2⟩ : ∃ du2, du2 = (L[(urgTo L left now k).1]'hul).due := ⟨_, rfl⟩
                  rw [← hdu2] at HIT HKB u3
                  obtain ⟨u, hu⟩ : ∃ u, u = (urgTo L left now k).1 := ⟨_, rfl⟩
                  rw [← hu] at u3 hul HKB ⊢
                  (try dsimp only at HIT HKB)
                  have huL : (u : Int) < (L.length : Int) := by omega
                  have hu0 : ¬ (u : Int) < 0 := by omega
                  have hu0' := decide_eq_false hu0
                  clear HUD HBS hdu2 hu
                  by_cases hdd : du < du2
                  · have hdd9 := decide_eq_true hdd
                    have HB9 := Lib.hid (HIT.out hdd)
                    have HN8 := Lib.hid (HKP.out (Or.inl hrd7))
                    go_wp2_with fail
                    go_quiet (fail)
                    obtain ⟨X1, hX1⟩ : ∃ X1, X1 = wr.drewN nq := ⟨_, rfl⟩
                    have hdX := hdr.drewN nq
                    rw [← hX1] at hdX
                    rw [← hX1]
                    have p0 : X1.cell? ⟨w.heap.size, k, none⟩ = some (.int .i64 y) := hdX.cell P0.out
                    have p1 : X1.cell? ⟨(ad.add (k * 4)).block, (ad.add (k * 4)).off + 1, none⟩ = some (.int .i64 rd) := hdX.cell P1.out
                    clear hX1 s0 s1 s2 s3
                    go_wp2_with fail
                    (try go_quiet (fail))
                    (try go_wp2)
                    go_roundw
                    case rel => exact ⟨k + 1, (k : Int), nv, by omega, by go_num, rfl, rfl, HB9, HN8, by first | exact hdX | exact hdX.drewN _ | exact (hdX.drewN _).drewN _⟩
                    case measure => simp [intOf]; omega
                  · have hdd9 := decide_eq_false hdd
                    have HB9 := Lib.hid (HKB.out hdd)
                    have HN8 := Lib.hid (HKP.out (Or.inl hrd7))
                    go_wp2_with fail
                    go_quiet (fail)
                    obtain ⟨X1, hX1⟩ : ∃ X1, X1 = wr.drewN nq := ⟨_, rfl⟩
                    have hdX := hdr.drewN nq
                    rw [← hX1] at hdX
                    rw [← hX1]
                    have p0 : X1.cell? ⟨w.heap.size, k, none⟩ = some (.int .i64 y) := hdX.cell P0.out
                    have p1 : X1.cell? ⟨(ad.add (k * 4)).block, (ad.add (k * 4)).off + 1, none⟩ = some (.int .i64 rd) := hdX.cell P1.out
                    clear hX1 s0 s1 s2 s3
                    go_wp2_with fail
                    (try go_quiet (fail))
                    (try go_wp2)
                    go_roundw
                    case rel => exact ⟨k + 1, (u : Int), nv, by omega, by go_num, rfl, rfl, HB9, HN8, by first | exact hdX | exact hdX.drewN _ | exact (hdX.drewN _).drewN _⟩
                    case measure => simp [intOf]; omega
              · have hrd9 := decide_eq_false hrd
                have hrd7 : now < rd := by omega
                have hrd8 := decide_eq_true hrd7
                by_cases c1 : nv < 0
                · have c9 := decide_eq_true c1
                  have HB9 := Lib.hid (bs_keep (L := L) (F := left) (m := now) (k := k) (bv := bv) (fun h => hrd (by have h8 := h.2.1; rw [HGL.out] at h8; exact h8)) HBS.out)
                  have HN8 := Lib.hid (HHT.out hrd7 (Or.inl c1))
                  go_wp2_with fail
                  go_quiet (fail)
                  obtain ⟨X1, hX1⟩ : ∃ X1, X1 = wr.drewN nq := ⟨_, rfl⟩
                  have hdX := hdr.drewN nq
                  rw [← hX1] at hdX
                  rw [← hX1]
                  have p0 : X1.cell? ⟨w.heap.size, k, none⟩ = some (.int .i64 y) := hdX.cell P0.out
                  have p1 : X1.cell? ⟨(ad.add (k * 4)).block, (ad.add (k * 4)).off + 1, none⟩ = some (.int .i64 rd) := hdX.cell P1.out
                  clear hX1 s0 s1 s2 s3
                  go_wp2_with fail
                  (try go_quiet (fail))
                  (try go_wp2)
                  go_roundw
                  case rel => exact ⟨k + 1, bv, rd, by omega, by go_num, rfl, rfl, HB9, HN8, by first | exact hdX | exact hdX.drewN _ | exact (hdX.drewN _).drewN _⟩
                  case measure => simp [intOf]; omega
                · have c9 := decide_eq_false c1
                  by_cases c2 : rd < nv
                  · have c8 := decide_eq_true c2
                    have HB9 := Lib.hid (bs_keep (L := L) (F := left) (m := now) (k := k) (bv := bv) (fun h => hrd (by have h8 := h.2.1; rw [HGL.out] at h8; exact h8)) HBS.out)
                    have HN8 := Lib.hid (HHT.out hrd7 (Or.inr c2))
                    go_wp2_with fail
                    go_quiet (fail)
                    obtain ⟨X1, hX1⟩ : ∃ X1, X1 = wr.drewN nq := ⟨_, rfl⟩
                    have hdX := hdr.drewN nq
                    rw [← hX1] at hdX
                    rw [← hX1]
                    have p0 : X1.cell? ⟨w.heap.size, k, none⟩ = some (.int .i64 y) := hdX.cell P0.out
                    have p1 : X1.cell? ⟨(ad.add (k * 4)).block, (ad.add (k * 4)).off + 1, none⟩ = some (.int .i64 rd) := hdX.cell P1.out
                    clear hX1 s0 s1 s2 s3
                    go_wp2_with fail
                    (try go_quiet (fail))
                    (try go_wp2)
                    go_roundw
                    case rel => exact ⟨k + 1, bv, rd, by omega, by go_num, rfl, rfl, HB9, HN8, by first | exact hdX | exact hdX.drewN _ | exact (hdX.drewN _).drewN _⟩
                    case measure => simp [intOf]; omega
                  · have c8 := decide_eq_false c2
                    have HB9 := Lib.hid (bs_keep (L := L) (F := left) (m := now) (k := k) (bv := bv) (fun h => hrd (by have h8 := h.2.1; rw [HGL.out] at h8; exact h8)) HBS.out)
                    have HN8 := Lib.hid (HKP.out (Or.inr ⟨by omega, c2⟩))
                    go_wp2_with fail
                    go_quiet (fail)
                    obtain ⟨X1, hX1⟩ : ∃ X1, X1 = wr.drewN nq := ⟨_, rfl⟩
                    have hdX := hdr.drewN nq
                    rw [← hX1] at hdX
                    rw [← hX1]
                    have p0 : X1.cell? ⟨w.heap.size, k, none⟩ = some (.int .i64 y) := hdX.cell P0.out
                    have p1 : X1.cell? ⟨(ad.add (k * 4)).block, (ad.add (k * 4)).off + 1, none⟩ = some (.int .i64 rd) := hdX.cell P1.out
                    clear hX1 s0 s1 s2 s3
                    go_wp2_with fail
                    (try go_quiet (fail))
                    (try go_wp2)
                    go_roundw
                    case rel => exact ⟨k + 1, bv, nv, by omega, by go_num, rfl, rfl, HB9, HN8, by first | exact hdX | exact hdX.drewN _ | exact (hdX.drewN _).drewN _⟩
                    case measure => simp [intOf]; omega
            · have hy9 := decide_eq_false hy
              have HB9 := Lib.hid (bs_keep (L := L) (F := left) (m := now) (k := k) (bv := bv) (fun h => hy (by have h8 := h.1; rw [HYD.out] at h8; exact h8)) HBS.out)
              have HN8 := Lib.hid (HKP.out (Or.inl (fun h => hy (HN9.out h))))
              go_wp2_with fail
              go_quiet (fail)
              obtain ⟨X1, hX1⟩ : ∃ X1, X1 = wr.drewN nq := ⟨_, rfl⟩
              have hdX := hdr.drewN nq
              rw [← hX1] at hdX
              rw [← hX1]
              have p0 : X1.cell? ⟨w.heap.size, k, none⟩ = some (.int .i64 y) := hdX.cell P0.out
              have p1 : X1.cell? ⟨(ad.add (k * 4)).block, (ad.add (k * 4)).off + 1, none⟩ = some (.int .i64 rd) := hdX.cell P1.out
              clear hX1 s0 s1 s2 s3
              go_wp2_with fail
              (try go_quiet (fail))
              (try go_wp2)
              go_roundw
              case rel => exact ⟨k + 1, bv, nv, by omega, by go_num, rfl, rfl, HB9, HN8, by first | exact hdX | exact hdX.drewN _ | exact (hdX.drewN _).drewN _⟩
              case measure => simp [intOf]; omega
          · obtain rfl : k = L.length := by omega
            have HNX2 : Hid (NxR (nextI now L) nv) := Lib.hid (by have h := HNX.out; unfold nxK at h; rw [List.take_length] at h; exact h)
            have HBS2 : Hid (BsR (urgI L left now) bv) := HBS
            clear HBS HNX hlt hk
            by_cases hpos : 0 < sumI left
            · have HNX3 := Lib.hid (step_ok HS.out (by omega) hl1 (fun x hx => (HOK.out x hx).1) hpos)
              obtain ⟨f, hf⟩ : ∃ f, gk = f + 1 := ⟨gk - 1, by have := HM.out; have := HNX3.out.2; omega⟩
              have HRS := Lib.hid (show runS L gk ⟨left, sch, now⟩ = runS L f (stepS L ⟨left, sch, now⟩) by rw [hf]; exact runS_go hpos)
              have HF := Lib.hid hf
              have HN3 := Lib.hid (step_ni (s := ⟨left, sch, now⟩) hl1 HLEN.out HS.out.left0 HGT.out HNI.out)
              have hul := urg_lt L left now L.length (Nat.le_refl _) hl1
              change (urgI L left now).1 < L.length at hul
              have HSTP := Lib.hid (show stepS L ⟨left, sch, now⟩ = if (urgI L left now).2 = false then ⟨left, sch, nextI now L⟩ else ⟨left.set (urgI L left now).1 (left.getD (urgI L left now).1 0 - min (left.getD (urgI L left now).1 0) (nextI now L - now)), wsl sch ⟨(urgI L left now).1, now, min (left.getD (urgI L left now).1 0) (nextI now L - now)⟩, now + min (left.getD (urgI L left now).1 0) (nextI now L - now)⟩ from rfl)
              obtain ⟨nx, hnx⟩ : ∃ nx, nx = nextI now L := ⟨_, rfl⟩
              rw [← hnx] at HGT HSTP HNX2
              obtain ⟨⟨u, t⟩, hut⟩ : ∃ ut, ut = urgI L left now := ⟨_, rfl⟩
              rw [← hut] at HSTP HBS2 hul
              have hut9 := Lib.hid hut
              clear hnx hut hf hpos
              rcases HBS2.out with ⟨ht, rfl⟩ | ⟨ht, rfl⟩
              · have ht : t = false := ht
                subst ht
                have HX := Lib.hid (show stepS L ⟨left, sch, now⟩ = ⟨left, sch, nx⟩ by rw [HSTP.out, if_pos rfl])
                rw [HX.out] at HNX3 HRS HN3
                rcases HNX2.out with ⟨-, hmx⟩ | ⟨rfl, hx0, hx1⟩
                · exfalso
                  have h1 := HNX3.out.1.bd
                  have h2 := sumI_nonneg HS.out.left0
                  dsimp only at h1 h2
                  omega
                · have hx2 := decide_eq_false (show ¬ nv < 0 by omega)
                  have hx3 : ¬ nv < 0 := by omega
                  go_wp2_with fail
                  go_roundg f
                  case measure => have := HF.out; omega
                  case rel => exact ⟨⟨left, sch, nv⟩, rfl, by obtain ⟨m9, rfl⟩ := hdr; exact HO.out.drewN _, by obtain ⟨m9, rfl⟩ := hdr; exact IB.out.drewN _, Lib.hid HNX3.out.1, Lib.hid (HR.out.trans HRS.out), Lib.hid (by have h1 := HNX3.out.2; have h2 := HM.out; have h3 := HF.out; omega), HN3, hdr.below HBW.out⟩
              · have ht : t = true := ht
                subst ht
                have hul : u < L.length := hul
                have HUT : Hid ((urgTo L left now L.length).2 = true ∧ (urgTo L left now L.length).1 = u) := Lib.hid (by have h9 : (u, true) = urgTo L left now L.length := hut9.out; rw [← h9]; exact ⟨rfl, rfl⟩)
                have hll : u < left.length := by have := HLEN.out; omega
                have HCU := Lib.hid (IB.out.cell hll)
                rw [← getD_eqI (d := 0) hll] at HCU
                have hy0 := HLN.out u; have hy1 := HLL.out u
                have HSTP2 := Lib.hid (show stepS L ⟨left, sch, now⟩ = ⟨left.set u (left.getD u 0 - min (left.getD u 0) (nx - now)), wsl sch ⟨u, now, min (left.getD u 0) (nx - now)⟩, now + min (left.getD u 0) (nx - now)⟩ from HSTP.out.trans (if_neg (by simp)))
                obtain ⟨y, hy⟩ : ∃ y, y = left.getD u 0 := ⟨_, rfl⟩
                rw [← hy] at hy0 hy1 HCU HSTP2
                have hu0 : ¬ (u : Int) < 0 := by omega
                have hu0' := decide_eq_false hu0
                have huL : (u : Int) < (L.length : Int) := by omega
                have hgt := HGT.out
                have HSB := Lib.hid HS.out.sch
                have HNUM := Lib.hid HS.out.num
                obtain ⟨wq, hwq⟩ : ∃ wq, wq = wr := ⟨_, rfl⟩
                have IBq : Hid (IBox wr w.heap.size left) := Lib.hid (by obtain ⟨m9, rfl⟩ := hdr; exact IB.out.drewN _)
                have HOq : ∃ m9, wr = wo.drewN m9 := hdr
                obtain ⟨m9, hm9⟩ := HOq
                have HOq := Lib.hid (HO.out.drewN m9)
                rw [← hm9] at HOq
                have HBq := Lib.hid (hdr.below HBW.out)
                have hcu := hdr.cell HCU.out
                have HCq := Lib.hid hcu
                have hiq := IBq.out.lt
                have HYU := Lib.hid hy
                clear hy hwq hm9 hdr HSTP HBS2 HO IB HBW
                obtain ⟨n, hn⟩ : ∃ n, n = min y (nx - now) := ⟨_, rfl⟩
                rw [← hn] at HSTP2
                have hn0 : 0 ≤ n ∧ n ≤ y := by
                  have h1 : 0 < y := by
                    have h2 := urg_is (L := L) (F := left) (m := now) L.length (Nat.le_refl _) HUT.out.1
                    have h3 := h2.1
                    rw [HUT.out.2, ← HYU.out] at h3; exact h3
                  omega
                have HN := Lib.hid hn
                clear hn
                go_upto_if 114 with fail
                go_cut [10] from 29 to 178 (fun v10 wx => v10 = .int .i64 n ∧ wr = wx)
                case first =>
                  rcases HNX2.out with ⟨rfl, hmx⟩ | ⟨rfl, hx0, hx1⟩
                  · have HY := Lib.hid (show y = n by have := HN.out; omega)
                    clear hmx
                    go_wp2_with fail
                    go_meet
                    exact ⟨by rw [HY.out], rfl⟩
                  · have hx2 : ¬ nv < 0 := by omega
                    have hx3 : 0 ≤ nv := by omega
                    have hx3' := decide_eq_true hx3
                    have hw1 : IntKind.i64.wrap (nv - now) = nv - now := IntWalk.i64_in _ (by omega)
                    go_wp2_with fail
                    go_meet
                    exact ⟨by rw [HN.out], rfl⟩
                case rest =>
                  obtain ⟨rfl, rfl⟩ := hcut
                  have HX := Lib.hid (show stepS L ⟨left, sch, now⟩ = ⟨left.set u (y - n), wsl sch ⟨u, now, n⟩, now + n⟩ from HSTP2.out)
                  rw [HX.out] at HNX3 HRS HN3
                  have hq1 : 0 ≤ (n) ∧ (n) ≤ 1000000000 := ⟨by omega, by omega⟩
                  have hwn : IntKind.i64.wrap (now + (n)) = now + (n) := IntWalk.i64_in _ (by omega)
                  have hwy : IntKind.i64.wrap (y - (n)) = y - (n) := IntWalk.i64_in _ (by omega)
                  by_cases hz : sch.length = 0
                  · have HE := Lib.hid (show wsl sch ⟨u, now, n⟩ = sch ++ [⟨u, now, n⟩] by unfold wsl; rw [if_neg (by omega)])
                    obtain ⟨aS, cS, ev, -, -, -, -, -⟩ := HOq.out.rows sl_l
                    subst ev
                    rw [hz] at HOq ⊢
                    go_wp2_with fail
                    go_quiet (fail)
                    obtain ⟨X9, hX9⟩ : ∃ X9, X9 = wr.drewN nq := ⟨_, rfl⟩
                    have ox : OwnR 3 113 Sl.l X9 (w.heap.size + 1) (.slice aS 0 cS) sch := by rw [hX9]; exact HOq.out.drewN _
                    have ix : IBox X9 w.heap.size left := by rw [hX9]; exact IBq.out.drewN _
                    have bx : Below w.heap.size w X9 := by rw [hX9]; exact below_drewN HBq.out _
                    have cx : X9.cell? ⟨w.heap.size, u, none⟩ = some (.int .i64 y) := by rw [hX9]; exact HCq.out
                    rw [← hX9]
                    clear hX9
                    have hix := ix.lt
                    go_wp2_with (at_builtin; refine wpList_appX tSl sl_l _ ⟨u, now, n⟩ _ rfl rfl _ _ rfl (w.heap.size + 1) _ sch rfl ox (by first | rfl | simp) (by have h : sch.length + measS L ⟨left, sch, now⟩ ≤ 300000 := HNUM.out; omega) (by omega) ?_; intro gg cg wg hOg hgg hBg; have ib5 : IBox wg w.heap.size left := IBoxBelow ix hBg (by omega); have hB5 := bx.trans (hBg.mono (B' := w.heap.size) (by omega)); have hc5 := (hBg.cell (p := ⟨w.heap.size, u, none⟩) (by show w.heap.size < w.heap.size + 1; omega)).trans cx; have hf5 := ib5.free u; have hl5 := ib5.lt; have hne : (Value.slice (some ⟨gg, 0, none⟩) (sch.length + 1) cg).ownBlock ≠ some w.heap.size := (fun e => by have := (hOg.lt _ e).1; omega); have hO6 := hOg.set (p := ⟨w.heap.size, u, none⟩) hne (.int .i64 (y - (n))); have ib6 := ib5.set u (y - (n)); have hB6 := hB5.setCell (p := ⟨w.heap.size, u, none⟩) (Nat.le_refl _) (.int .i64 (y - (n))); clear hOg ib5 hB5 hgg hBg hne ox ix bx cx)
                    go_roundg f
                    case measure => have := HF.out; omega
                    case rel => exact ⟨⟨left.set u (y - (n)), wsl sch ⟨u, now, n⟩, now + (n)⟩, by go_num, by rw [HE.out]; have h9 := hO6; rw [hz] at h9; exact h9, ib6, Lib.hid HNX3.out.1, Lib.hid (HR.out.trans HRS.out), Lib.hid (by have h1 := HNX3.out.2; have h2 := HM.out; have h3 := HF.out; omega), HN3, hB6⟩
                  · obtain ⟨q, hq⟩ : ∃ q, sch.length = q + 1 := ⟨sch.length - 1, by omega⟩
                    obtain ⟨g, cS, ev, hgB, hgl⟩ := HOq.out.form (by omega)
                    have hql : q < sch.length := by omega
                    obtain ⟨l0, l1, l2⟩ := (show OwnR 3 113 Sl.l wr (w.heap.size + 1) (.slice (some ⟨g, 0, none⟩) sch.length cS) sch by rw [← ev]; exact HOq.out).sl hql
                    have HL := Lib.hid (show sch.getD (sch.length - 1) noSl = sch[q] by rw [show sch.length - 1 = q by omega, sl_getD hql])
                    obtain ⟨⟨y1, y2⟩, y3, y4⟩ := HSB.out _ (List.getElem_mem hql)
                    obtain ⟨z, ez⟩ : ∃ z, z = sch[q] := ⟨_, rfl⟩
                    have HEZ := Lib.hid (show sch.getD q noSl = z by rw [sl_getD hql]; exact ez.symm)
                    rw [← ez] at l0 l1 l2 HL y1 y2 y3 y4
                    obtain ⟨yj, yf, yn⟩ := z
                    have l0 : wr.cell? ⟨g, q * 3, none⟩ = some (.int .i64 yj) := l0
                    have l1 : wr.cell? ⟨g, q * 3 + 1, none⟩ = some (.int .i64 yf) := l1
                    have l2 : wr.cell? ⟨g, q * 3 + 2, none⟩ = some (.int .i64 yn) := l2
                    have L2 := Lib.hid l2
                    dsimp only at y1 y2 y3 y4
                    subst ev
                    have HQ := Lib.hid hq
                    rw [hq] at HOq ⊢
                    have hq6 : q ≤ 300000 := by have h : sch.length + measS L ⟨left, sch, now⟩ ≤ 300000 := HNUM.out; omega
                    have hwq : IntKind.i64.wrap (((q + 1 : Nat) : Int) - 1) = (q : Int) := by rw [IntWalk.i64_in _ (by omega)]; omega
                    have hwq2 : IntKind.i64.wrap ((q : Int) + 1 - 1) = (q : Int) := by rw [IntWalk.i64_in _ (by omega)]; omega
                    have hwe : IntKind.i64.wrap (yf + yn) = yf + yn := IntWalk.i64_in _ (by omega)
                    have hq0 : 0 ≤ (q : Int) := by omega
                    have hq0' := decide_eq_true hq0
                    have hqn : ((q : Int)).toNat = q := by omega
                    clear hz hq hql ez
                    by_cases e1 : yj = (u : Int)
                    · have e1' : (yj == (u : Int)) = true := by simpa using e1
                      by_cases e2 : yf + yn = now
                      · have HE := Lib.hid (show wsl sch ⟨u, now, n⟩ = sch.set q ⟨yj, yf, yn + (n)⟩ by unfold wsl; rw [HL.out, if_pos ⟨by have := HQ.out; omega, e1, e2⟩, show sch.length - 1 = q by have := HQ.out; omega])
                        have e2' : (yf + yn == now) = true := by simpa using e2
                        have hw9 : IntKind.i64.wrap (yn + (n)) = yn + (n) := IntWalk.i64_in _ (by omega)
                        have hql : q < sch.length := by rw [HQ.out]; omega
                        clear e1 e2
                        go_wp2_with fail
                        go_quiet (fail)
                        obtain ⟨X9, hX9⟩ : ∃ X9, X9 = wr.drewN nq := ⟨_, rfl⟩
                        have ox : OwnR 3 113 Sl.l X9 (w.heap.size + 1) (.slice (some ⟨g, 0, none⟩) (q + 1) cS) sch := by rw [hX9]; exact HOq.out.drewN _
                        have ix : IBox X9 w.heap.size left := by rw [hX9]; exact IBq.out.drewN _
                        have bx : Below w.heap.size w X9 := by rw [hX9]; exact below_drewN HBq.out _
                        have cx : X9.cell? ⟨w.heap.size, u, none⟩ = some (.int .i64 y) := by rw [hX9]; exact HCq.out
                        have c2 : X9.cell? ⟨g, q * 3 + 2, none⟩ = some (.int .i64 yn) := by rw [hX9]; exact L2.out
                        have hgx : g < X9.heap.size := by rw [hX9]; exact hgl
                        rw [← hX9]
                        clear hX9 l0 l1 l2
                        have hix := ix.lt
                        have f2 := ox.free (q * 3 + 2)
                        have hne : ¬ g = w.heap.size := by omega
                        have hne2 : ¬ w.heap.size = g := by omega
                        have oy := ox.put sl_l HQ.out.symm hql (j := 2) (by decide) ⟨yj, yf, yn + (n)⟩ (yn + (n)) (by rw [← sl_getD hql, HEZ.out]; rfl)
                        have iy := ix.set_other (p := ⟨g, q * 3 + 2, none⟩) hne2 (.int .i64 (yn + (n)))
                        have by_ := bx.setCell (p := ⟨g, q * 3 + 2, none⟩) (show w.heap.size ≤ g by omega) (.int .i64 (yn + (n)))
                        have cy : (X9.setCell ⟨g, q * 3 + 2, none⟩ (.int .i64 (yn + (n)))).cell? ⟨w.heap.size, u, none⟩ = some (.int .i64 y) := by
                          have h := iy.cell (k := u) (by have := HLEN.out; omega)
                          rw [h]
                          have h2 := ix.cell (k := u) (by have := HLEN.out; omega)
                          rw [cx] at h2; exact h2.symm
                        have fy := iy.free u
                        have ly := iy.lt
                        have hO6 := oy.set (p := ⟨w.heap.size, u, none⟩) (fun e => by have : w.heap.size + 1 ≤ w.heap.size := (oy.lt _ e).1; omega) (.int .i64 (y - (n)))
                        have ib6 := iy.set u (y - (n))
                        have hB6 := by_.setCell (p := ⟨w.heap.size, u, none⟩) (Nat.le_refl _) (.int .i64 (y - (n)))
                        have HLE := Lib.hid (show (wsl sch ⟨u, now, n⟩).length = q + 1 by rw [HE.out, List.length_set, HQ.out])
                        have O6 := Lib.hid hO6; have I6 := Lib.hid ib6; have B6 := Lib.hid hB6
                        clear ox ix bx oy iy by_ hO6 ib6 hB6 hql
                        go_wp2_with fail
                        go_roundg f
                        case measure => have := HF.out; omega
                        case rel => exact ⟨⟨left.set u (y - (n)), wsl sch ⟨u, now, n⟩, now + (n)⟩, by go_num, by rw [HE.out]; exact O6.out, I6.out, Lib.hid HNX3.out.1, Lib.hid (HR.out.trans HRS.out), Lib.hid (by have h1 := HNX3.out.2; have h2 := HM.out; have h3 := HF.out; omega), HN3, B6.out⟩
                      · have HE := Lib.hid (show wsl sch ⟨u, now, n⟩ = sch ++ [⟨u, now, n⟩] by unfold wsl; rw [HL.out, if_neg (fun h => e2 h.2.2)])
                        have e2' : (yf + yn == now) = false := by simpa using e2
                        clear e1 e2
                        go_wp2_with fail
                        go_quiet (fail)
                        obtain ⟨X9, hX9⟩ : ∃ X9, X9 = wr.drewN nq := ⟨_, rfl⟩
                        have ox : OwnR 3 113 Sl.l X9 (w.heap.size + 1) (.slice (some ⟨g, 0, none⟩) (q + 1) cS) sch := by rw [hX9]; exact HOq.out.drewN _
                        have ix : IBox X9 w.heap.size left := by rw [hX9]; exact IBq.out.drewN _
                        have bx : Below w.heap.size w X9 := by rw [hX9]; exact below_drewN HBq.out _
                        have cx : X9.cell? ⟨w.heap.size, u, none⟩ = some (.int .i64 y) := by rw [hX9]; exact HCq.out
                        rw [← hX9]
                        clear hX9
                        have hix := ix.lt
                        go_wp2_with (at_builtin; refine wpList_appX tSl sl_l _ ⟨u, now, n⟩ _ rfl rfl _ _ rfl (w.heap.size + 1) _ sch rfl ox (by first | rfl | simp) (by have h : sch.length + measS L ⟨left, sch, now⟩ ≤ 300000 := HNUM.out; omega) (by omega) ?_; intro gg cg wg hOg hgg hBg; have ib5 : IBox wg w.heap.size left := IBoxBelow ix hBg (by omega); have hB5 := bx.trans (hBg.mono (B' := w.heap.size) (by omega)); have hc5 := (hBg.cell (p := ⟨w.heap.size, u, none⟩) (by show w.heap.size < w.heap.size + 1; omega)).trans cx; have hf5 := ib5.free u; have hl5 := ib5.lt; have hne : (Value.slice (some ⟨gg, 0, none⟩) (sch.length + 1) cg).ownBlock ≠ some w.heap.size := (fun e => by have := (hOg.lt _ e).1; omega); have hO6 := hOg.set (p := ⟨w.heap.size, u, none⟩) hne (.int .i64 (y - (n))); have ib6 := ib5.set u (y - (n)); have hB6 := hB5.setCell (p := ⟨w.heap.size, u, none⟩) (Nat.le_refl _) (.int .i64 (y - (n))); clear hOg ib5 hB5 hgg hBg hne ox ix bx cx)
                        go_roundg f
                        case measure => have := HF.out; omega
                        case rel => exact ⟨⟨left.set u (y - (n)), wsl sch ⟨u, now, n⟩, now + (n)⟩, by go_num, by rw [HE.out]; exact hO6, ib6, Lib.hid HNX3.out.1, Lib.hid (HR.out.trans HRS.out), Lib.hid (by have h1 := HNX3.out.2; have h2 := HM.out; have h3 := HF.out; omega), HN3, hB6⟩
                    · have HE := Lib.hid (show wsl sch ⟨u, now, n⟩ = sch ++ [⟨u, now, n⟩] by unfold wsl; rw [HL.out, if_neg (fun h => e1 h.2.1)])
                      have e1' : (yj == (u : Int)) = false := by simpa using e1
                      clear e1
                      go_wp2_with fail
                      go_quiet (fail)
                      obtain ⟨X9, hX9⟩ : ∃ X9, X9 = wr.drewN nq := ⟨_, rfl⟩
                      have ox : OwnR 3 113 Sl.l X9 (w.heap.size + 1) (.slice (some ⟨g, 0, none⟩) (q + 1) cS) sch := by rw [hX9]; exact HOq.out.drewN _
                      have ix : IBox X9 w.heap.size left := by rw [hX9]; exact IBq.out.drewN _
                      have bx : Below w.heap.size w X9 := by rw [hX9]; exact below_drewN HBq.out _
                      have cx : X9.cell? ⟨w.heap.size, u, none⟩ = some (.int .i64 y) := by rw [hX9]; exact HCq.out
                      rw [← hX9]
                      clear hX9
                      have hix := ix.lt
                      go_wp2_with (at_builtin; refine wpList_appX tSl sl_l _ ⟨u, now, n⟩ _ rfl rfl _ _ rfl (w.heap.size + 1) _ sch rfl ox (by first | rfl | simp) (by have h : sch.length + measS L ⟨left, sch, now⟩ ≤ 300000 := HNUM.out; omega) (by omega) ?_; intro gg cg wg hOg hgg hBg; have ib5 : IBox wg w.heap.size left := IBoxBelow ix hBg (by omega); have hB5 := bx.trans (hBg.mono (B' := w.heap.size) (by omega)); have hc5 := (hBg.cell (p := ⟨w.heap.size, u, none⟩) (by show w.heap.size < w.heap.size + 1; omega)).trans cx; have hf5 := ib5.free u; have hl5 := ib5.lt; have hne : (Value.slice (some ⟨gg, 0, none⟩) (sch.length + 1) cg).ownBlock ≠ some w.heap.size := (fun e => by have := (hOg.lt _ e).1; omega); have hO6 := hOg.set (p := ⟨w.heap.size, u, none⟩) hne (.int .i64 (y - (n))); have ib6 := ib5.set u (y - (n)); have hB6 := hB5.setCell (p := ⟨w.heap.size, u, none⟩) (Nat.le_refl _) (.int .i64 (y - (n))); clear hOg ib5 hB5 hgg hBg hne ox ix bx cx)
                      go_roundg f
                      case measure => have := HF.out; omega
                      case rel => exact ⟨⟨left.set u (y - (n)), wsl sch ⟨u, now, n⟩, now + (n)⟩, by go_num, by rw [HE.out]; exact hO6, ib6, Lib.hid HNX3.out.1, Lib.hid (HR.out.trans HRS.out), Lib.hid (by have h1 := HNX3.out.2; have h2 := HM.out; have h3 := HF.out; omega), HN3, hB6⟩
            · have hb : bv = -1 := by
                have h1 := stop_bs (L := L) (s := ⟨left, sch, now⟩) HS.out.left0 hpos
                rcases HBS2.out with ⟨-, h2⟩ | ⟨h2, -⟩
                · exact h2
                · have h1 : (urgI L left now).2 = false := h1
                  rw [h1] at h2; cases h2
              have hv : nv = -1 := by
                have h1 := stop_nx (L := L) (s := ⟨left, sch, now⟩) HS.out.left0 hpos HNI.out
                have h1 : nextI now L = 9223372036854775807 := h1
                rcases HNX2.out with ⟨h2, -⟩ | ⟨-, -, h2⟩
                · exact h2
                · rw [h1] at h2; omega
              subst hb hv
              have HX := Lib.hid (show schedI L = sch by unfold schedI; rw [HR.out, runS_stop hpos])
              go_wp2_with fail
              go_ret
              exact ⟨_, rfl, by rw [HX.out]; obtain ⟨m9, rfl⟩ := hdr; exact (HO.out.drewN _).mono (B' := w.heap.size) (by omega), hdr.below HBW.out⟩
end Go.Proofs.Ytpplcbpnojggcaa
