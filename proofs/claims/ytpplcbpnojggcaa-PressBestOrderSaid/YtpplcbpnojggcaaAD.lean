/-
  Package press: what an order of colours takes, by the reference.
-/
import Derived.BigQuiet
import Derived.Test.YtpplcbpnojggcaaAM
namespace Go.Proofs.Ytpplcbpnojggcaa
open Go.RowKit Go.Maps Go.Shelf

/-- Where the reference keeps the ends: by colour. -/
def EndsAs (x : Cols) (O F : List Int) (k : Nat) : Prop := F.length = x.m.length ∧ ∀ j, j < k → F.getD (O.getD j 0).toNat 0 = (ordK x O k).1.getD j 0
theorem ord_at_set {x : Cols} {O : List Int} {k j : Nat} (hj : j < k) : (ordK x O (k + 1)).1.getD j 0 = (ordK x O k).1.getD j 0 := by
  show ((ordK x O k).1.set k _).getD j 0 = _
  rw [List.getD_eq_getElem?_getD, List.getElem?_set, if_neg (by omega), ← List.getD_eq_getElem?_getD]
theorem ord_at_new {x : Cols} {O : List Int} {k : Nat} (hk : k < O.length) : (ordK x O (k + 1)).1.getD k 0 = (ordK x O (k + 1)).2 := by
  show ((ordK x O k).1.set k _).getD k 0 = _
  rw [List.getD_eq_getElem?_getD, List.getElem?_set, if_pos rfl, if_pos (by rw [ord_len]; exact hk)]; rfl
theorem ends_next {x : Cols} {O F : List Int} {k : Nat} (h : EndsAs x O F k) (hnd : O.Nodup) (hin : ∀ y ∈ O, 0 ≤ y ∧ y < x.m.length) (hk : k < O.length) : EndsAs x O (F.set (O.getD k 0).toNat (ordK x O (k + 1)).2) (k + 1) := by
  refine ⟨by rw [List.length_set]; exact h.1, fun j hj => ?_⟩
  have gk : O.getD k 0 = O[k] := getD_eqI hk
  rcases Nat.lt_or_ge j k with hjk | hjk
  · have hjl : j < O.length := by omega
    have gj : O.getD j 0 = O[j] := getD_eqI hjl
    have hne : O[k].toNat ≠ O[j].toNat := fun e => by
      have h1 := hin _ (List.getElem_mem hk)
      have h2 := hin _ (List.getElem_mem hjl)
      have h3 : O[k] = O[j] := by omega
      have := (List.getElem_inj hnd).1 h3
      omega
    rw [ord_at_set hjk, ← h.2 j hjk, List.getD_eq_getElem?_getD, List.getElem?_set, gk, gj, if_neg hne, ← List.getD_eq_getElem?_getD]
  · obtain rfl : j = k := by omega
    have h1 := hin _ (List.getElem_mem hk)
    rw [ord_at_new hk, List.getD_eq_getElem?_getD, List.getElem?_set, if_pos rfl, if_pos (by rw [h.1, gk]; omega)]; rfl
def RMPost (p : Int × Int) (w : World) (e : Ending) (w' : World) : Prop := e = .returned (.tuple #[.int .i64 p.1, .bool (p.2 == 0)]) ∧ Below w.heap.size w w'
theorem rm_to {p : Int × Int} {x y : Int} {b : Bool} (h : p = (x, y)) (hb : (y == 0) = b) : Ending.returned (.tuple #[.int .i64 x, .bool b]) = .returned (.tuple #[.int .i64 p.1, .bool (p.2 == 0)]) := by rw [h]; dsimp only; rw [hb]
set_option maxRecDepth 100000 in
set_option maxHeartbeats 8000000 in
theorem refOrderMinutes_any (x : Cols) (O : List Int) (a : Option Addr) (n oc : Nat) (w : World) (hn : n = O.length) (hx : ColsAt w x) (hok : ColsOk x) (hO : RowsAt 1 intL w a O) (hol : O.length ≤ 6) (hin : ∀ y ∈ O, 0 ≤ y ∧ y < x.m.length) (hnd : O.Nodup) :
    Calls Try.prog 51 #[x.v, .slice a n oc] w (RMPost (minsE x O) w) := by
  subst hn
  have HOK := Lib.hid hok; have HIN := Lib.hid hin; have HND := Lib.hid hnd
  obtain ⟨ma, m, mc, da, T, dc⟩ := x
  show Calls _ _ #[.agg #[.slice ma m.length mc, .slice da T.length dc], .slice a O.length oc] _ _
  obtain ⟨x, hxe⟩ : ∃ x : Cols, x = ⟨ma, m, mc, da, T, dc⟩ := ⟨_, rfl⟩
  have HXE := Lib.hid hxe
  have hm6 : m.length ≤ 6 := hok.le
  rw [← hxe] at HOK HIN hx ⊢
  have HX := Lib.hid hx
  clear hok hin hxe hx hnd
  have hmk := fun W => make_int m.length (by omega) W
  have bx := (BoxAt.new w #[.slice ma m.length mc, .slice da T.length dc] 78).alloc (.cells (madeCells #[.int .i64 0] m.length) 3)
  have im := IBox.made (w.alloc (.cells #[.slice ma m.length mc, .slice da T.length dc] 78)) m.length
  rw [show (w.alloc (.cells #[.slice ma m.length mc, .slice da T.length dc] 78)).heap.size = w.heap.size + 1 by simp] at im
  have hB0 := ((Below.refl w.heap.size w).alloc (Nat.le_refl _) (.cells #[.slice ma m.length mc, .slice da T.length dc] 78)).alloc (by simp) (.cells (madeCells #[.int .i64 0] m.length) 3)
  go_enter Try.func51, Try.ntmps51
  go_wp2_with fail
  obtain ⟨w0, hw0⟩ : ∃ w0, w0 = ((w.alloc (.cells #[.slice ma m.length mc, .slice da T.length dc] 78)).alloc (.cells (madeCells #[.int .i64 0] m.length) 3)) := ⟨_, rfl⟩
  rw [← hw0] at bx im hB0 ⊢
  clear hw0 hmk
  go_loopw [7, 8] (fun e i wr => ∃ (k : Nat) (F : List Int), k ≤ O.length ∧ i = .int .i64 k ∧ e = .int .i64 (ordK x O k).2 ∧ Hid (clashO x O k = false) ∧ BoxAt wr w.heap.size #[.slice ma m.length mc, .slice da T.length dc] 78 ∧ IBox wr (w.heap.size + 1) F ∧ Hid (EndsAs x O F k) ∧ Below w.heap.size w wr) (fun _ i _ => O.length - (intOf i).toNat)
  case atStart => exact ⟨0, _, Nat.zero_le _, rfl, rfl, Lib.hid rfl, bx, im, Lib.hid ⟨by rw [HXE.out]; simp, fun j hj => by omega⟩, hB0⟩
  case round =>
    obtain ⟨k, F, hk, rfl, rfl, HCL, bx, im, HF, hB⟩ := hrel
    by_cases hlt : k < O.length
    · obtain ⟨ad, rfl, had, s0⟩ := (hO.below hB).int hlt
      have hci := HIN.out _ (List.getElem_mem hlt)
      have HGK := Lib.hid (getD_eqI (d := 0) hlt)
      have HNX0 := Lib.hid (ends_next HF.out HND.out HIN.out hlt)
      obtain ⟨y, ey⟩ : ∃ y, y = O[k] := ⟨_, rfl⟩
      rw [← ey] at s0 hci HGK
      obtain ⟨cN, rfl⟩ : ∃ cN : Nat, y = cN := ⟨y.toNat, by omega⟩
      have HXW := HX.out.below hB
      have hcm : cN < m.length := by have := hci.2; rw [HXE.out] at this; exact Int.ofNat_lt.1 this
      rw [HXE.out] at HXW
      obtain ⟨mad, hma, hmad, s1⟩ := HXW.mins.int hcm
      have hma : ma = some mad := hma
      replace s1 : wr.cell? (mad.add cN) = some (.int .i64 m[cN]) := s1
      subst hma
      have hmb := HOK.out.mins m[cN] (by rw [HXE.out]; exact List.getElem_mem hcm)
      have HMC := Lib.hid (show x.m.getD (O.getD k 0).toNat 0 = m[cN] by rw [HGK.out, HXE.out]; show m.getD ((cN : Int)).toNat 0 = _; rw [show ((cN : Int)).toNat = cN by omega, getD_eqI hcm])
      have HST := Lib.hid (show (ordK x O (k + 1)).2 = begK x O (ordK x O k).1 (O.getD k 0).toNat (ordK x O k).2 k + x.m.getD (O.getD k 0).toNat 0 from rfl)
      rw [HMC.out, HGK.out, show ((cN : Int)).toNat = cN by omega] at HST
      rw [HGK.out, show ((cN : Int)).toNat = cN by omega] at HNX0
      have HCS := Lib.hid (show clashO x O (k + 1) = (clashO x O k || clashK x O (O.getD k 0).toNat k) from rfl)
      rw [HGK.out, show ((cN : Int)).toNat = cN by omega, HCL.out, Bool.false_or] at HCS
      have hbd := ord_bd HOK.out O k
      obtain ⟨E, hE⟩ : ∃ E, E = (ordK x O k).1 := ⟨_, rfl⟩
      obtain ⟨e0, he0⟩ : ∃ e0, e0 = (ordK x O k).2 := ⟨_, rfl⟩
      have HFE := Lib.hid (show ∀ j, j < k → F.getD (O.getD j 0).toNat 0 = E.getD j 0 from fun j hj => by rw [hE]; exact HF.out.2 j hj)
      have HFL := Lib.hid (show F.length = m.length by have := HF.out.1; rw [HXE.out] at this; exact this)
      rw [← hE, ← he0] at HST hbd
      rw [← he0]
      obtain ⟨mv, hmv⟩ : ∃ mv, mv = m[cN] := ⟨_, rfl⟩
      rw [← hmv] at s1 hmb HST
      have HBG := Lib.hid (fun j => beg_bd HOK.out O E cN e0 (20000 * k) hbd.2 hbd.1 j)
      have HEB := Lib.hid hbd.1
      have b0 : wr.cell? ⟨w.heap.size, 0, none⟩ = some (.slice (some mad) m.length mc) := bx.cell 0
      have b1 : wr.cell? ⟨w.heap.size, 1, none⟩ = some (.slice da T.length dc) := bx.cell 1
      have hcm' : (cN : Int) < (m.length : Int) := by omega
      have HTW := Lib.hid HXW.tab
      have HTL := Lib.hid (show T.length = m.length by have := HOK.out.len; rw [HXE.out] at this; exact this)
      have HOW := Lib.hid (hO.below hB)
      have HIM := Lib.hid im; have HB := Lib.hid hB
      clear ey hci HXW hE he0 hmv hbd HMC HGK HF im hB
      have HBX := Lib.hid bx
      clear bx
      have hkO : (k : Int) < (O.length : Int) := by omega
      go_wp2_with fail
      obtain ⟨wo, rfl⟩ : ∃ wo : World, wo = wr := ⟨_, rfl⟩
      go_loopw [7, 10] (fun b i ww => ∃ j : Nat, j ≤ k ∧ i = .int .i64 j ∧ b = .int .i64 (begK x O E cN e0 j) ∧ Hid (clashK x O cN j = false) ∧ Drew wo ww) (fun _ i _ => k - (intOf i).toNat)
      case atStart => exact ⟨0, Nat.zero_le _, rfl, rfl, Lib.hid rfl, Drew.refl _⟩
      case round =>
        obtain ⟨j, hj, rfl, rfl, HCK, hdr⟩ := hrel
        have im2 : IBox wr (w.heap.size + 1) F := hdr.box HIM.out
        have t1 : wr.cell? ⟨w.heap.size, 1, none⟩ = some (.slice da T.length dc) := hdr.cell b1
        by_cases hjk : j < k
        · have hjl : j < O.length := by omega
          obtain ⟨ad2, ea2, had2, s2⟩ := HOW.out.int hjl
          injection ea2 with ea2
          subst ea2
          have hei := HIN.out _ (List.getElem_mem hjl)
          have HGJ := Lib.hid (getD_eqI (d := 0) hjl)
          have HFJ := Lib.hid (HFE.out j hjk)
          obtain ⟨y, ey⟩ : ∃ y, y = O[j] := ⟨_, rfl⟩
          rw [← ey] at s2 hei HGJ
          obtain ⟨eN, rfl⟩ : ∃ eN : Nat, y = eN := ⟨y.toNat, by omega⟩
          have heM : eN < m.length := by have := hei.2; rw [HXE.out] at this; exact Int.ofNat_lt.1 this
          have heT : eN < T.length := by rw [HTL.out]; exact heM
          have heF : eN < F.length := by rw [HFL.out]; exact heM
          obtain ⟨dad, ra, rl, rc, hda, hdad, s3, hrow, hrr⟩ := HTW.out.pick heT
          have hda : da = some dad := hda
          subst hda
          obtain ⟨d, ⟨hcr, ed⟩, hdrr, hdb⟩ := dry_row HOK.out (T := T) (e := eN) (c := cN) (by rw [HXE.out]) heT hrr (by rw [HXE.out]; exact hcm)
          obtain ⟨rad, hra, hrad, s4⟩ := hrow.int hcr
          subst hra
          rw [ed] at s4
          have HDR := Lib.hid hdrr
          have t2 : wr.cell? (ad.add j) = some (.int .i64 (eN : Int)) := hdr.cell s2
          have t3 : wr.cell? (dad.add eN) = some (.slice (some rad) rl.length rc) := hdr.cell s3
          have t4 : wr.cell? (rad.add cN) = some (.int .i64 d) := hdr.cell s4
          have hcr' : (cN : Int) < (rl.length : Int) := by omega
          have heT' : (eN : Int) < (T.length : Int) := by omega
          have heF' : (eN : Int) < (m.length : Int) := by omega
          have hjO' : (j : Int) < (O.length : Int) := by omega
          have hjk' : (j : Int) < (k : Int) := by omega
          have HCJ := Lib.hid (show clashK x O cN (j + 1) = (clashK x O cN j || (dryI x (O.getD j 0).toNat cN == -1)) from rfl)
          rw [HGJ.out, show ((eN : Int)).toNat = eN by omega, HDR.out, HCK.out, Bool.false_or] at HCJ
          have cE := im2.cell heF
          have HGE := Lib.hid (show E.getD j 0 = F[eN] by have h := HFJ.out; rw [HGJ.out, show ((eN : Int)).toNat = eN by omega, getD_eqI heF] at h; exact h.symm)
          have hgb := getD_bd HEB.out (by omega) j
          have HBS := Lib.hid (show begK x O E cN e0 (j + 1) = max (begK x O E cN e0 j) (E.getD j 0 + dryI x (O.getD j 0).toNat cN) from rfl)
          rw [HGJ.out, show ((eN : Int)).toNat = eN by omega, HDR.out, HGE.out] at HBS
          rw [HGE.out] at hgb
          obtain ⟨g, hg⟩ : ∃ g, g = F[eN] := ⟨_, rfl⟩
          rw [← hg] at cE hgb HBS
          have hbj := HBG.out j
          obtain ⟨bj, hbje⟩ : ∃ bj, bj = begK x O E cN e0 j := ⟨_, rfl⟩
          rw [← hbje] at HBS hbj ⊢
          have hw1 : IntKind.i64.wrap (g + d) = g + d := IntWalk.i64_in _ (by omega)
          have him := im2.lt
          clear ed hrow ey hei hrr hdrr s2 s3 s4 hg hbje HFJ HGE im2
          by_cases hd : d = -1
          · have hd' : d < 0 := by omega
            have HE := Lib.hid (show minsE x O = (0, 13) by
              unfold minsE
              rw [if_pos (clashO_mono (k := k + 1) (by rw [HCS.out]; exact clashK_mono (k := j + 1) (by rw [HCJ.out, hd]; rfl) k (by omega)) _ (by omega))])
            have HBD := Lib.hid (hdr.below HB.out)
            clear hd
            go_wp2_with fail
            go_quiet (fail)
            go_wp2
            go_ret2
            exact ⟨rm_to HE.out rfl, below_drewN HBD.out _⟩
          · have hd' : decide (d < 0) = false := decide_eq_false (by omega)
            have HCJ2 := Lib.hid (show clashK x O cN (j + 1) = false by rw [HCJ.out]; simpa using hd)
            clear hd
            go_wp2_with fail
            go_quiet (fail)
            go_wp2
            go_roundw
            case rel => exact ⟨j + 1, by omega, by go_num, by rw [HBS.out], HCJ2, hdr.drewN _⟩
            case measure => simp [intOf]; omega
        · obtain rfl : j = k := by omega
          have him := im2.lt
          have fz := im2.free cN
          have t0 : wr.cell? ⟨w.heap.size, 0, none⟩ = some (.slice (some mad) m.length mc) := hdr.cell b0
          have u1 : wr.cell? (mad.add cN) = some (.int .i64 mv) := hdr.cell s1
          have hcF : cN < F.length := by rw [HFL.out]; exact hcm
          have cE := im2.cell hcF
          have hbj := HBG.out j
          obtain ⟨g, hg⟩ : ∃ g, g = F[cN] := ⟨_, rfl⟩
          rw [← hg] at cE
          obtain ⟨bj, hbje⟩ : ∃ bj, bj = begK x O E cN e0 j := ⟨_, rfl⟩
          rw [← hbje] at HST hbj ⊢
          have hw1 : IntKind.i64.wrap (bj + mv) = bj + mv := IntWalk.i64_in _ (by omega)
          have HIM2 := Lib.hid (im2.set cN (bj + mv))
          have HBB := Lib.hid ((hdr.below HB.out).setCell (p := ⟨w.heap.size + 1, cN, none⟩) (by show w.heap.size ≤ w.heap.size + 1; omega) (.int .i64 (bj + mv)))
          have HBXS := Lib.hid ((hdr.box HBX.out).set_other (p := ⟨w.heap.size + 1, cN, none⟩) (by show w.heap.size ≠ w.heap.size + 1; omega) (.int .i64 (bj + mv)))
          have HEA := Lib.hid (show EndsAs x O (F.set cN (bj + mv)) (j + 1) by have h := HNX0.out; rw [HST.out] at h; exact h)
          clear hg hbje im2 HNX0
          go_wp2
          go_roundw
          case rel => exact ⟨j + 1, F.set cN (bj + mv), by omega, by go_num, by rw [HST.out], Lib.hid (by rw [HCS.out]; exact HCK.out), HBXS.out, HIM2.out, HEA, HBB.out⟩
          case measure => simp [intOf]; omega
    · have HE := Lib.hid (show minsE x O = ((ordK x O k).2, 0) by
        obtain rfl : k = O.length := by omega
        unfold minsE
        rw [HCL.out]; rfl)
      go_wp2
      go_ret2
      exact ⟨rm_to HE.out rfl, hB⟩
end Go.Proofs.Ytpplcbpnojggcaa
