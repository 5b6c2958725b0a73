/-
  Package press: the schedule by dues.
-/
import Derived.Test.YtdgegebplebeoaaGreatDoorEQ
import Derived.Test.YtdgegebplebeoaaGreatDoorEF
import Derived.Deep.LoopGhost
namespace Go.Proofs.YtdgegebplebeoaaGreatDoor
open Go.RowKit

def JobsOk (L : List Job) : Prop := ∀ x ∈ L, (0 ≤ x.ready ∧ x.ready ≤ 10000000) ∧ (0 ≤ x.due ∧ x.due ≤ 10000000) ∧ (1 ≤ x.mins ∧ x.mins ≤ 10000)
def leftTo (L : List Job) (k : Nat) : List Int := (L.take k).map (·.mins) ++ List.replicate (L.length - k) 0
theorem leftTo_len (L : List Job) {k : Nat} (h : k ≤ L.length) : (leftTo L k).length = L.length := by
  unfold leftTo; simp; omega
theorem leftTo_set {L : List Job} {k : Nat} (h : k < L.length) : (leftTo L k).set k L[k].mins = leftTo L (k + 1) := by
  unfold leftTo
  rw [List.take_succ_eq_append_getElem h, List.map_append, List.set_append_right _ _ (by simp; omega)]
  rw [show k - (List.map (·.mins) (L.take k)).length = 0 by simp; omega]
  rw [show L.length - k = (L.length - (k + 1)) + 1 by omega, List.replicate_succ, List.set_cons_zero]
  simp
theorem leftTo_all (L : List Job) : leftTo L L.length = L.map (·.mins) := by unfold leftTo; simp
theorem leftTo_zero (L : List Job) : leftTo L 0 = List.replicate L.length 0 := by unfold leftTo; simp
def SchPost (S : List Sl) (w : World) (e : Ending) (w' : World) : Prop :=
  ∃ v, e = .returned v ∧ OwnR 3 134 Sl.l w' w.heap.size v S ∧ Below w.heap.size w w'
set_option maxRecDepth 100000 in
set_option maxHeartbeats 8000000 in
theorem schedule_any (L : List Job) (a : Option Addr) (n c : Nat) (w : World) (hn : n = L.length) (hr : RowsG 4 jobV w a L) (hl1 : 1 ≤ L.length) (hl : L.length ≤ 20) (hok : JobsOk L) :
    Calls Tryz.prog 48 #[.slice a n c] w (SchPost (schedI L) w) := by
  subst hn
  have HOK : Hid (JobsOk L) := Lib.hid hok
  have HST := Lib.hid (start_ok hl (fun x hx => (hok x hx).2.2))
  clear hok
  have hmk := fun W => make_int L.length (by omega) W
  have im := IBox.made w L.length
  rw [← leftTo_zero] at im
  have hB0 := (Below.refl w.heap.size w).alloc (Nat.le_refl _) (.cells (madeCells #[.int .i64 0] L.length) 3)
  go_enter Tryz.func48, Tryz.ntmps48
  go_wp2_with fail
  obtain ⟨w0, hw0⟩ : ∃ w0, w0 = w.alloc (.cells (madeCells #[.int .i64 0] L.length) 3) := ⟨_, rfl⟩
  rw [← hw0] at im hB0 ⊢
  clear hw0
  go_loopw [17] (fun i wr => ∃ k : Nat, k ≤ L.length ∧ i = .int .i64 k ∧ IBox wr w.heap.size (leftTo L k) ∧ Below w.heap.size w wr) (fun i _ => L.length - (intOf i).toNat)
  case atStart => exact ⟨0, Nat.zero_le _, rfl, im, hB0⟩
  case round =>
    obtain ⟨k, hk, rfl, ib, hB⟩ := hrel
    clear im hB0 hmk
    by_cases hlt : k < L.length
    · obtain ⟨ad, rfl, had, s0, s1, s2, s3⟩ := (hr.below hB).job hlt
      have HSET := Lib.hid (leftTo_set hlt)
      have hlen := leftTo_len L (Nat.le_of_lt hlt)
      have hc := ib.cell (k := k) (by omega)
      have hf := ib.free k
      have hil := ib.lt
      obtain ⟨y, hy⟩ : ∃ y, y = (leftTo L k)[k]'(by omega) := ⟨_, rfl⟩
      rw [← hy] at hc
      obtain ⟨x, ex⟩ : ∃ x, x = L[k] := ⟨_, rfl⟩
      rw [← ex] at s0 s1 s2 s3 HSET
      clear ex hy hlen
      have ib1 := (ib.set k x.mins)
      rw [HSET.out] at ib1
      have hB1 := hB.setCell (p := ⟨w.heap.size, k, none⟩) (Nat.le_refl _) (.int .i64 x.mins)
      go_wp2_with fail
      go_roundw
      case rel => exact ⟨k + 1, by omega, by go_num, ib1.alloc _, hB1.alloc (by rw [World.size_setCell]; exact hB.size) _⟩
      case measure => simp [intOf]; omega
    · obtain rfl : k = L.length := by omega
      rw [leftTo_all] at ib
      go_wp2_with fail
      obtain ⟨w2, hw2⟩ : ∃ w2, w2 = wr := ⟨_, rfl⟩
      rw [← hw2] at ib hB ⊢
      clear hw2 hlt hk
      go_loopg [6, 7] 300000 (fun gk v t wr => ∃ s : SSt, t = .int .i64 s.now ∧ OwnR 3 134 Sl.l wr (w.heap.size + 1) v s.sch ∧ IBox wr w.heap.size s.left ∧ Hid (SOk L 200000 s) ∧ Hid (runS L 300000 (startS L) = runS L gk s) ∧ Hid (measS L s ≤ gk) ∧ Below w.heap.size w wr)
      case atStart => exact ⟨startS L, rfl, OwnR.nil _ _, ib, Lib.hid HST.out.1, Lib.hid rfl, Lib.hid HST.out.2, hB⟩
      case round =>
        obtain ⟨s, rfl, hO, ib, HS, HR, HM, hB⟩ := hrel
        clear HST
        have hso := HS.out
        have hir := ib.rows
        have hsum : Hid (sumI s.left ≤ 200000) := Lib.hid hso.tot
        obtain ⟨S, hS⟩ : ∃ S, S = sumI s.left := ⟨_, rfl⟩
        have HSE := Lib.hid hS
        have HSM := Lib.hid (fun W hW => sumOf_any (some ⟨w.heap.size, 0, none⟩) s.left L.length L.length W hso.len.symm hW (by rw [hso.len]; omega) hso.left0 (by have := hsum.out; omega))
        rw [← hS] at HSM
        clear hS hsum
        by_cases hpos : 0 < S
        · have HNX := Lib.hid (step_ok hso (by omega) hl1 (fun x hx => (HOK.out x hx).1) (by rw [← HSE.out]; exact hpos))
          obtain ⟨f, hf⟩ : ∃ f, gk = f + 1 := ⟨gk - 1, by have := HM.out; have := HNX.out.2; omega⟩
          have HRS := Lib.hid (show runS L gk s = runS L f (stepS L s) by rw [hf]; exact runS_go (by rw [← HSE.out]; exact hpos))
          have HF := Lib.hid hf
          obtain ⟨left, sch, now⟩ := s
          have hnow0 : 0 ≤ now := hso.now0
          have hnowb : now ≤ 10200000 := by have h1 := hso.bd; have h2 := sumI_nonneg hso.left0; dsimp only at h1 h2; omega
          have hgt := next_gt (m := now) (L := L) (by omega)
          have hnle : nextI now L ≤ 9223372036854775807 := nextF_le now L _
          have hlen : left.length = L.length := hso.len
          have hnn := fun i => getD_nonneg (L := left) hso.left0 i
          have hle := fun i => Int.le_trans (sumI_ge (L := left) hso.left0 i) hso.tot
          have hschB := Lib.hid hso.sch
          have hnum := hso.num
          have hul := urg_lt L left now L.length (Nat.le_refl _) hl1
          have HSTP := Lib.hid (show stepS L ⟨left, sch, now⟩ = if (urgI L left now).2 = false then ⟨left, sch, nextI now L⟩ else ⟨left.set (urgI L left now).1 (left.getD (urgI L left now).1 0 - min (left.getD (urgI L left now).1 0) (nextI now L - now)), wsl sch ⟨(urgI L left now).1, now, min (left.getD (urgI L left now).1 0) (nextI now L - now)⟩, now + min (left.getD (urgI L left now).1 0) (nextI now L - now)⟩ from rfl)
          have HNR := Lib.hid (fun W hW => nextReady_any L a L.length c now W rfl hW (by omega))
          have HMU := Lib.hid (fun W h1 h2 => mostUrgent_any L left a L.length c w.heap.size L.length L.length now W rfl rfl hlen h1 (by omega) hl1 h2)
          obtain ⟨nx, hnx⟩ : ∃ nx, nx = nextI now L := ⟨_, rfl⟩
          rw [← hnx] at hgt hnle HSTP HNR
          obtain ⟨⟨u, t⟩, hut⟩ : ∃ ut, ut = urgI L left now := ⟨_, rfl⟩
          rw [← hut] at HSTP HMU
          have hul : u < L.length := by have h : (urgI L left now).1 < L.length := hul; rw [← hut] at h; exact h
          have hlu := hnn u
          have hlu2 := hle u
          have hcu := ib.cell (k := u) (by show u < left.length; omega)
          rw [← getD_eqI (d := 0) (by show u < left.length; omega)] at hcu
          obtain ⟨y, hy⟩ : ∃ y, y = left.getD u 0 := ⟨_, rfl⟩
          have hcu : wr.cell? ⟨w.heap.size, u, none⟩ = some (.int .i64 (left.getD u 0)) := hcu
          rw [← hy] at hlu hlu2 hcu
          have HSTP2 := Lib.hid (show stepS L ⟨left, sch, now⟩ = if t = false then ⟨left, sch, nx⟩ else ⟨left.set u (y - min y (nx - now)), wsl sch ⟨u, now, min y (nx - now)⟩, now + min y (nx - now)⟩ by rw [hy]; exact HSTP.out)
          have HLEN := Lib.hid hlen
          clear hso hnn hle hy hut hnx hf hlen HSTP
          have hil := ib.lt
          go_wp2_with fail
          refine (HSM.out _ hir).mono ?_
          rintro e w' ⟨rfl, rfl⟩
          go_wp2_with fail
          refine (HNR.out _ (hr.below hB)).mono ?_
          rintro e w3 ⟨rfl, hb3⟩
          have hO3 := hO.below hb3
          have ib3 := ib.below hb3
          have hB3 := hB.trans (hb3.mono (B' := w.heap.size) hB.size)
          have hc3 := (hb3.cell (p := ⟨w.heap.size, u, none⟩) hil).trans hcu
          clear hcu hO ib hB hb3 hir hil
          have hil := ib3.lt
          go_wp2_with fail
          refine (HMU.out _ (hr.below hB3) ib3).mono ?_
          rintro e w4 ⟨rfl, hb4⟩
          have hO4 := hO3.below hb4
          have ib4 := ib3.below hb4
          have hB4 := hB3.trans (hb4.mono (B' := w.heap.size) hB3.size)
          have hc4 := (hb4.cell (p := ⟨w.heap.size, u, none⟩) hil).trans hc3
          clear hc3 hO3 ib3 hB3 hb4 hil
          have hil := ib4.lt
          cases t
          · have HX := Lib.hid (show stepS L ⟨left, sch, now⟩ = ⟨left, sch, nx⟩ by rw [HSTP2.out, if_pos rfl])
            rw [HX.out] at HNX HRS
            go_wp2_with fail
            go_roundg f
            case measure => have := HF.out; omega
            case rel => exact ⟨⟨left, sch, nx⟩, rfl, hO4, ib4, Lib.hid HNX.out.1, Lib.hid (HR.out.trans HRS.out), Lib.hid (by have h1 := HNX.out.2; have h2 := HM.out; have h3 := HF.out; omega), hB4⟩
          · have hw1 : IntKind.i64.wrap (nx - now) = nx - now := IntWalk.i64_in _ (by omega)
            by_cases hd : nx - now < y
            · have hmin : min y (nx - now) = nx - now := by omega
              have HX := Lib.hid (show stepS L ⟨left, sch, now⟩ = ⟨left.set u (y - (nx - now)), wsl sch ⟨u, now, nx - now⟩, now + (nx - now)⟩ by rw [HSTP2.out, if_neg (by decide), hmin])
              rw [HX.out] at HNX HRS
              have HBD := Lib.hid HNX.out.1.now0
              have hq1 : 0 ≤ nx - now := by omega
              have hq2 : nx - now ≤ 1000000000 := by omega
              clear hmin
              go_wp2_with fail
              refine (withSlice_any (w.heap.size + 1) _ sch u now (nx - now) _ hO4 (by omega) (by have h : sch.length + measS L ⟨left, sch, now⟩ ≤ 300000 := hnum; omega) hschB.out ⟨hq1, hq2⟩).mono ?_
              rintro e w5 ⟨gg, cc, rfl, hO5, hg5, hb5⟩
              have ib5 : IBox w5 w.heap.size left := IBoxBelow ib4 hb5 (by omega)
              have hB5 := hB4.trans (hb5.mono (B' := w.heap.size) (by omega))
              have hc5 := (hb5.cell (p := ⟨w.heap.size, u, none⟩) (by show w.heap.size < w.heap.size + 1; omega)).trans hc4
              have hf5 := ib5.free u
              have hl5 := ib5.lt
              have hne : (Value.slice (some ⟨gg, 0, none⟩) (wsl sch ⟨u, now, nx - now⟩).length cc).ownBlock ≠ some w.heap.size := fun e => by have := (hO5.lt _ e).1; omega
              have hO6 := hO5.set (p := ⟨w.heap.size, u, none⟩) hne (.int .i64 (y - (nx - now)))
              have ib6 := ib5.set u (y - (nx - now))
              have hB6 := hB5.setCell (p := ⟨w.heap.size, u, none⟩) (Nat.le_refl _) (.int .i64 (y - (nx - now)))
              have hwy : IntKind.i64.wrap (y - (nx - now)) = y - (nx - now) := IntWalk.i64_in _ (by omega)
              have hwn : IntKind.i64.wrap (now + (nx - now)) = now + (nx - now) := IntWalk.i64_in _ (by omega)
              clear hO4 ib4 hB4 hO5 ib5 hB5 hg5 hb5 hne hc4
              go_wp2_with fail
              go_roundg f
              case measure => have := HF.out; omega
              case rel => exact ⟨⟨left.set u (y - (nx - now)), wsl sch ⟨u, now, nx - now⟩, now + (nx - now)⟩, by go_num, hO6, ib6, Lib.hid HNX.out.1, Lib.hid (HR.out.trans HRS.out), Lib.hid (by have h1 := HNX.out.2; have h2 := HM.out; have h3 := HF.out; omega), hB6⟩
            · have hmin : min y (nx - now) = y := by omega
              have HX := Lib.hid (show stepS L ⟨left, sch, now⟩ = ⟨left.set u 0, wsl sch ⟨u, now, y⟩, now + y⟩ by rw [HSTP2.out, if_neg (by decide), hmin, Int.sub_self])
              rw [HX.out] at HNX HRS
              have HBD := Lib.hid HNX.out.1.now0
              have hq1 : 0 ≤ y := by omega
              have hq2 : y ≤ 1000000000 := by omega
              clear hmin
              go_wp2_with fail
              refine (withSlice_any (w.heap.size + 1) _ sch u now (y) _ hO4 (by omega) (by have h : sch.length + measS L ⟨left, sch, now⟩ ≤ 300000 := hnum; omega) hschB.out ⟨hq1, hq2⟩).mono ?_
              rintro e w5 ⟨gg, cc, rfl, hO5, hg5, hb5⟩
              have ib5 : IBox w5 w.heap.size left := IBoxBelow ib4 hb5 (by omega)
              have hB5 := hB4.trans (hb5.mono (B' := w.heap.size) (by omega))
              have hc5 := (hb5.cell (p := ⟨w.heap.size, u, none⟩) (by show w.heap.size < w.heap.size + 1; omega)).trans hc4
              have hf5 := ib5.free u
              have hl5 := ib5.lt
              have hne : (Value.slice (some ⟨gg, 0, none⟩) (wsl sch ⟨u, now, y⟩).length cc).ownBlock ≠ some w.heap.size := fun e => by have := (hO5.lt _ e).1; omega
              have hO6 := hO5.set (p := ⟨w.heap.size, u, none⟩) hne (.int .i64 0)
              have ib6 := ib5.set u 0
              have hB6 := hB5.setCell (p := ⟨w.heap.size, u, none⟩) (Nat.le_refl _) (.int .i64 0)
              have hwn : IntKind.i64.wrap (now + y) = now + y := IntWalk.i64_in _ (by omega)
              clear hO4 ib4 hB4 hO5 ib5 hB5 hg5 hb5 hne hc4
              go_wp2_with fail
              go_roundg f
              case measure => have := HF.out; omega
              case rel => exact ⟨⟨left.set u 0, wsl sch ⟨u, now, y⟩, now + y⟩, by go_num, hO6, ib6, Lib.hid HNX.out.1, Lib.hid (HR.out.trans HRS.out), Lib.hid (by have h1 := HNX.out.2; have h2 := HM.out; have h3 := HF.out; omega), hB6⟩
        · have HX := Lib.hid (show schedI L = s.sch by unfold schedI; rw [HR.out, runS_stop (by rw [← HSE.out]; exact hpos)])
          go_wp2_with fail
          refine (HSM.out _ hir).mono ?_
          rintro e w' ⟨rfl, rfl⟩
          go_wp2_with fail
          go_ret
          exact ⟨_, rfl, by rw [HX.out]; exact hO.mono (B' := w.heap.size) (by omega), hB⟩
end Go.Proofs.YtdgegebplebeoaaGreatDoor
