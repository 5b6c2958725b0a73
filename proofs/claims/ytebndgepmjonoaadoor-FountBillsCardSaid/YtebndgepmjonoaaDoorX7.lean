/-
  The reference's least case for several needs.
-/
import Derived.Test.YtebndgepmjonoaaDoorX6
namespace Go.Proofs.YtebndgepmjonoaaDoor
open Go.RowKit Go.Maps

set_option maxRecDepth 100000 in
set_option maxHeartbeats 8000000 in
theorem refEnough_any (f : FT) (a : Option Addr) (c : Nat) (A : Option Addr) (ls : List IS) (C : Nat) (w : World) (hc : f.sorts.length ≤ c) (hF : FAt w a f) (hL : ListsAt w A ls) (hls : ls.length ≤ 1000) (h0 : (checkF f).2 = 0) :
    Calls Tryd.prog 22 #[.agg #[.string f.name, .int .i64 f.body, .slice a f.sorts.length c], .slice A ls.length C] w (EnoughPost w f (ls.map (·.l))) := by
  have hB0 : Below (w.heap.size + 1) (w.alloc (boxF f a c)) (w.alloc (boxF f a c)) := Below.refl _ _
  have E0 := Env.of hF hB0
  have hlm : (ls.map (·.l)).length = ls.length := List.length_map _
  have hE0 : enE f (ls.map (·.l)) = if 100 < ls.length then 8 else listsErr f.sorts.length (ls.map (·.l)) := by unfold enE; rw [if_neg (by simp [h0]), hlm]
  obtain ⟨_, hR, _⟩ := checkF_right h0
  have hn120 := hR.2.2.2.1
  clear hR
  have HLM := Lib.hid hlm
  clear hlm
  by_cases h100 : 100 < ls.length
  · rw [if_pos h100] at hE0
    have HE := Lib.hid hE0
    have h100' : (100 : Int) < (ls.length : Int) := by omega
    have hlow := E0.low
    clear hE0 E0 h0
    go_enter Tryd.func22, Tryd.ntmps22
    go_wp2
    go_ret2
    exact ⟨hlow, .inl ⟨by rw [HE.out]; decide, by rw [HE.out]; rfl⟩⟩
  · rw [if_neg h100] at hE0
    have HE := Lib.hid hE0
    have h100' : (ls.length : Int) ≤ 100 := by omega
    have hmk := fun W => run_make_row' (P := Tryd.prog) 31 3 (.int .i64 0) 8 Tryd.underlying31 info3 rfl .i64 .i64 f.sorts.length (by omega) (by omega) W
    have H0 := Lib.hid h0
    have q0 := E0.c0; have q1 := E0.c1; have q2 := E0.c2
    have E1 := E0.alloc hF (.cells (madeCells #[.int .i64 0] f.sorts.length) 3)
    have hst0 : RowX ((w.alloc (boxF f a c)).alloc (.cells (madeCells #[.int .i64 0] f.sorts.length) 3)) (w.heap.size + 1) (enoughTo f.sorts.length (ls.map (·.l)) 0) := by
      have := (Own.made (w.alloc (boxF f a c)) f.sorts.length (fun _ => 0) f.sorts.length (Nat.le_refl _) (fun j _ => rfl)).rowX
      have e : w.heap.size + 1 = (w.alloc (boxF f a c)).heap.size := by simp
      rw [e]; exact this
    unfold boxF at E1 hst0
    clear hE0 E0 h0
    go_enter Tryd.func22, Tryd.ntmps22
    go_wp2_with fail
    go_loopw [7] (fun i wr => ∃ k : Nat, k ≤ ls.length ∧ i = .int .i64 k ∧ RowX wr (w.heap.size + 1) (enoughTo f.sorts.length (ls.map (·.l)) k) ∧ Env w f a c wr ∧ Hid (listsErr f.sorts.length ((ls.map (·.l)).drop 0) = listsErr f.sorts.length ((ls.map (·.l)).drop k))) (fun i _ => ls.length - (intOf i).toNat)
    case atStart => exact ⟨0, Nat.zero_le _, rfl, hst0, E1, Lib.hid rfl⟩
    case round =>
      obtain ⟨k, hk, rfl, hrow, E, HLE⟩ := hrel
      clear q0 q1 q2 E1 hst0
      have q0 := E.c0; have q1 := E.c1; have q2 := E.c2
      by_cases hlt : k < ls.length
      · obtain ⟨ad, rfl, hadw, hcellw, hiw, hil⟩ := hL.at_ hlt
        have hi := hiw.below E.low
        have hcell := (E.low.cell (p := ad.add k) (by rw [add_block]; exact hadw)).trans hcellw
        have had : ad.block < wr.heap.size := Nat.lt_of_lt_of_le hadw E.low.size
        have hgo := Lib.hid (listsErr_go (n := f.sorts.length) (ls := ls.map (·.l)) (k := k) (by rw [HLM.out]; exact hlt))
        have hstp := Lib.hid (listsErr_stop (n := f.sorts.length) (ls := ls.map (·.l)) (k := k) (by rw [HLM.out]; exact hlt))
        have hce := Lib.hid (caseErr_rest (l := (ls.getD k noIS).l) H0.out)
        have hst := Lib.hid (show enoughTo f.sorts.length (ls.map (·.l)) (k + 1) = maxL (enoughTo f.sorts.length (ls.map (·.l)) k) (ls.getD k noIS).l f.sorts.length by rw [← map_getD]; rfl)
        have hlen := enough_len f.sorts.length (ls.map (·.l)) k
        rw [map_getD] at hgo hstp
        generalize enoughTo f.sorts.length (ls.map (·.l)) k = L at hrow hst hlen
        generalize ls.getD k noIS = x at hcellw hiw hcell hi hil hst hgo hstp hce
        have hkl : (k : Int) < (ls.length : Int) := by omega
        have hadr : (ad.add k).block < wr.heap.size := by rw [add_block]; exact had
        have HIW := Lib.hid hiw; have HCW := Lib.hid hcellw
        clear hiw hcellw
        have hxl := Lib.hid hil
        have HLEN := Lib.hid hlen
        clear hlen hil
        go_wp2_with fail
        go_region_held3 (fun w' => w'.cell? ⟨w.heap.size, 0, none⟩ = some (.string f.name) ∧ w'.cell? ⟨w.heap.size, 1, none⟩ = some (.int .i64 f.body) ∧ w'.cell? ⟨w.heap.size, 2, none⟩ = some (.slice a f.sorts.length c) ∧ w'.cell? (ad.add k) = some (.slice x.a x.l.length x.c)) (go_keep)
          (first | (go_at_call 21; refine (refCheckCase_any f a c x.a x.l x.c _ hc E.fa.ok (by exact E.fa.at_) (by exact hi) hxl.out).mono ?_; rintro e w6 ⟨rfl, hb6⟩; have k0 := (hb6.cell (p := ⟨w.heap.size, 0, none⟩) E.lt).trans E.c0; have k1 := (hb6.cell (p := ⟨w.heap.size, 1, none⟩) E.lt).trans E.c1; have k2 := (hb6.cell (p := ⟨w.heap.size, 2, none⟩) E.lt).trans E.c2; have k3 := (hb6.cell (p := ad.add k) hadr).trans hcell))
        have E6 := (E.drew hF).step hF hb6
        have hb6' : Below wr.heap.size wr w6 := (Below.refl _ wr).drew.trans hb6
        have hi6 := hi.below hb6'
        have hcell6 := k3
        have hrow6 := hrow.below hb6'
        clear hb6 hb6' hcell hadr had q0 q1 q2 k0 k1 k2 hi hrow E
        rename_i hH6
        clear hH6
        have q0 := E6.c0; have q1 := E6.c1; have q2 := E6.c2; have hlow6 := E6.low; have hlt6 := E6.lt
        by_cases hcx : caseErr f x.l = 0
        · have hok : OkC f.sorts.length x.l := (case_ok hcx).2
          have HXN := Lib.hid hok.1
          have HGO := Lib.hid (hgo.out (hce.out.symm.trans hcx))
          rw [hcx]
          clear hcx hok hcell6 hi6 k3
          go_wp2_with fail
          go_loopw [9] (fun i wr => ∃ j : Nat, j ≤ f.sorts.length ∧ i = .int .i64 j ∧ RowX wr (w.heap.size + 1) (maxL L x.l j) ∧ Env w f a c wr) (fun i _ => f.sorts.length - (intOf i).toNat)
          case atStart => exact ⟨0, Nat.zero_le _, rfl, hrow6, E6⟩
          case round =>
            obtain ⟨j, hj, rfl, hrow7, E7⟩ := hrel
            clear hrow6 E6 q0 q1 q2
            have q0 := E7.c0; have q1 := E7.c1; have q2 := E7.c2
            by_cases hjl : j < f.sorts.length
            · obtain ⟨px, hpx, hpxl, hcx⟩ := (HIW.out.below E7.low).at_ (k := j) (by rw [HXN.out]; exact hjl)
              have hcl := (E7.low.cell (p := ad.add k) (by rw [add_block]; exact hadw)).trans HCW.out
              rw [HXN.out, hpx] at hcl
              have hcj := hrow7.cell (j := j) (by rw [maxL_len, HLEN.out]; exact hjl)
              have hfz := hrow7.frozen j
              have hset := fun v => hrow7.set_ j v
              have hst3 := Lib.hid (show maxL L x.l (j + 1) = (maxL L x.l j).set j (max ((maxL L x.l j).getD j 0) (x.l.getD j 0)) from rfl)
              generalize (maxL L x.l j).getD j 0 = u at hcj hst3
              generalize x.l.getD j 0 = v at hcx hst3
              have hjn : (j : Int) < (f.sorts.length : Int) := by omega
              have hbel := E7.bel
              clear hrow7 E7 hpx
              go_wp2_with fail
              go_region
              go_wp2
              go_roundw
              case rel => exact ⟨j + 1, by omega, by go_num, by rw [hst3.out]; exact (hset _).drew, Env.of hF (hbel.setCell (Nat.le_refl _) _).drew⟩
              case measure => simp [intOf]; omega
            · have hj2 : j = f.sorts.length := by omega
              subst hj2
              go_wp2
              go_roundw
              case rel => exact ⟨k + 1, by omega, by go_num, by rw [hst.out]; exact hrow7, E7, Lib.hid (HLE.out.trans HGO.out)⟩
              case measure => simp [intOf]; omega
        · have hcb : (caseErr f x.l != 0) = true := by simpa using hcx
          have HNZ := Lib.hid hcx
          have HC := Lib.hid (show listsErr f.sorts.length (ls.map (·.l)) = caseErr f x.l from HLE.out.trans ((hstp.out (by rw [← hce.out]; exact hcx)).trans hce.out.symm))
          clear hcx
          go_wp2
          go_ret2
          exact ⟨hlow6, .inl ⟨by rw [HE.out, HC.out]; exact HNZ.out, by rw [HE.out, HC.out]; rfl⟩⟩
      · have HZ := Lib.hid (show listsErr f.sorts.length (ls.map (·.l)) = 0 from HLE.out.trans (listsErr_end (by rw [HLM.out]; exact hlt)))
        have hk2 : k = ls.length := by omega
        subst hk2
        have hlow := E.low
        go_wp2
        go_ret2
        exact ⟨hlow, .inr ⟨by rw [HE.out, HZ.out], w.heap.size + 1, rfl, by rw [HLM.out]; exact hrow⟩⟩
end Go.Proofs.YtebndgepmjonoaaDoor
