/-
  Package impose: the reference's scheme printed on both halves of a sheet.
-/
import Derived.Test.YtjkjfmahcjcniaaTW
import Derived.Test.YtjkjfmahcjcniaaI9
namespace Go.Proofs.Ytjkjfmahcjcniaa
open Go.RowKit

def cbRow (C R : Nat) (b : Bool) (L : List Cell) (y x : Nat) : List Page := (List.range (y * cC C b + x)).map (cbPage C R b L)
theorem cbRow_len (C R : Nat) (b : Bool) (L : List Cell) (y x : Nat) : (cbRow C R b L y x).length = y * cC C b + x := by simp [cbRow]
theorem cbRow_succ {C R : Nat} {b : Bool} {L : List Cell} {y x : Nat} : cbRow C R b L y x ++ [cbPage C R b L (y * cC C b + x)] = cbRow C R b L y (x + 1) := by
  unfold cbRow; rw [← Nat.add_assoc, List.range_succ, List.map_append]; rfl
theorem cbRow_row (C R : Nat) (b : Bool) (L : List Cell) (y : Nat) : cbRow C R b L y (cC C b) = cbRow C R b L (y + 1) 0 := by unfold cbRow; rw [Nat.succ_mul, Nat.add_zero]
theorem cbRow_end (C R : Nat) (b : Bool) (L : List Cell) : cbRow C R b L (cR R b) 0 = cbAll C R b L := by unfold cbRow cbAll; rw [Nat.add_zero, Nat.mul_comm]
theorem cbPage_down {C R y x : Nat} {L : List Cell} (hR : R ≤ y) (hx : x < C) (_hy : y < 2 * R) (_h0 : 1 ≤ C) : cbPage C R true L (y * cC C true + x) = ⟨(L.getD ((2 * R - 1 - y) * C + x) default).b, xr (L.getD ((2 * R - 1 - y) * C + x) default).bt (roundB true)⟩ := by
  have e2 : cC C true = C := rfl
  have e3 : cR R true = 2 * R := rfl
  rw [e2]
  have h1 := divmod_at (w := C) (y := y) (x := x) hx
  have h2 := divmod_at (w := C) (y := 2 * R - 1 - y) (x := x) hx
  have h3 := (opp_at (C := C) (R := 2 * R) (y := y) (x := x) hx).2
  unfold cbPage
  rw [e2, e3, if_neg (by unfold cbPrim; rw [h1.1, h1.2]; simp; omega), h3]
  unfold cbSrc
  rw [h2.1, h2.2]
theorem cbPage_side {C R y x : Nat} {L : List Cell} (_h0 : 1 ≤ C) (hC : C ≤ x) (hx : x < 2 * C) (_hy : y < R) : cbPage C R false L (y * cC C false + x) = ⟨(L.getD (y * C + (2 * C - 1 - x)) default).b, xr (L.getD (y * C + (2 * C - 1 - x)) default).bt (roundB false)⟩ := by
  have e2 : cC C false = 2 * C := rfl
  have e3 : cR R false = R := rfl
  rw [e2]
  have h1 := divmod_at (w := 2 * C) (y := y) (x := x) hx
  have h2 := divmod_at (w := 2 * C) (y := y) (x := 2 * C - 1 - x) (by omega)
  have h3 := (opp_at (C := 2 * C) (R := R) (y := y) (x := x) hx).1
  unfold cbPage
  rw [e2, e3, if_neg (by unfold cbPrim; rw [h1.1, h1.2]; simp; omega), h3]
  unfold cbSrc
  rw [h2.1, h2.2]
structure RbEnv (w : World) (C R : Nat) (C2 R2 : Int) (a : Option Addr) (L : List Cell) (c : Nat) (v : Value) (M : List Page) (wr : World) : Prop where
  bs : BoxAt wr w.heap.size #[.int .i64 C, .int .i64 R, .slice a L.length c] 43
  br : BoxAt wr (w.heap.size + 1) #[.int .i64 0, .int .i64 0, .slice none 0 0] 56
  bv : BoxAt wr (w.heap.size + 1 + 1) #[.int .i64 C2, .int .i64 R2, v] 56
  own : OwnR 2 119 Page.l wr (w.heap.size + 1 + 1 + 1) v M
  low : Below w.heap.size w wr
section
variable {w wr wm wg : World} {C R : Nat} {C2 R2 : Int} {a : Option Addr} {L : List Cell} {c : Nat} {v v' : Value} {M M' : List Page}
theorem RbEnv.below (E : RbEnv w C R C2 R2 a L c v M wr) (hb : Below wr.heap.size wr wm) : RbEnv w C R C2 R2 a L c v M wm :=
  ⟨E.bs.below hb, E.br.below hb, E.bv.below hb, E.own.below hb, E.low.trans (hb.mono E.low.size)⟩
theorem RbEnv.app (E : RbEnv w C R C2 R2 a L c v M wm) (hO : OwnR 2 119 Page.l wg (w.heap.size + 1 + 1 + 1) v' M') (hg : wm.grownBy wg v.ownBlock) (hb : Below (w.heap.size + 1 + 1 + 1) wm wg) :
    RbEnv w C R C2 R2 a L c v' M' (wg.setCell ⟨w.heap.size + 1 + 1, 2, none⟩ v') := by
  have hne : ∀ q, q < w.heap.size + 1 + 1 + 1 → some q ≠ v.ownBlock := fun q hq e => by have := (E.own.lt q e.symm).1; omega
  refine ⟨?_, ?_, ?_, ?_, ?_⟩
  · exact (E.bs.grown hg (hne _ (by omega))).set_other (p := ⟨w.heap.size + 1 + 1, 2, none⟩) (by show w.heap.size ≠ w.heap.size + 1 + 1; omega) _
  · exact (E.br.grown hg (hne _ (by omega))).set_other (p := ⟨w.heap.size + 1 + 1, 2, none⟩) (by show w.heap.size + 1 ≠ w.heap.size + 1 + 1; omega) _
  · exact (E.bv.grown hg (hne _ (by omega))).set 2 v'
  · exact hO.set (p := ⟨w.heap.size + 1 + 1, 2, none⟩) (fun e => by have := (hO.lt _ e).1; simp at this; omega) _
  · exact (E.low.trans (hb.mono (by omega))).setCell (p := ⟨w.heap.size + 1 + 1, 2, none⟩) (by show w.heap.size ≤ w.heap.size + 1 + 1; omega) _
end
set_option maxRecDepth 100000 in
set_option maxHeartbeats 60000000 in
theorem refCombined_any (cn rn : Nat) (a : Option Addr) (L : List Cell) (c : Nat) (b : Bool) (w : World) (hL : RowsAt 4 Cell.l w a L) (_hl : L.length ≤ 1000000) (hsc : (checkSc cn rn L).2 = 0) (hbits : ∀ x ∈ L, Bit x.ft ∧ Bit x.bt) :
    Calls Try.prog 49 #[.agg #[.int .i64 cn, .int .i64 rn, .slice a L.length c], .bool b] w (CombPost w (.bool (cbErr cn rn L b == 0)) (cbD cn rn L b) (cbL cn rn L b)) := by
  have hce : cellsErr cn rn L.length = 0 := by
    have h := hsc
    unfold checkSc at h
    by_cases h1 : cellsErr cn rn L.length = 0
    · exact h1
    · rw [if_pos h1] at h; exact absurd h h1
  obtain ⟨hs, hn⟩ := cells_ok hce
  obtain ⟨sC, sR, sm⟩ := side_ok hs
  have HQ := Lib.hid hsc; have HBT := Lib.hid hbits
  have HN : Hid (L.length = cn * rn) := Lib.hid (by have : (L.length : Int) = ((cn * rn : Nat) : Int) := by rw [hn, Int.natCast_mul]
                                                    omega)
  have hc8 : cn ≤ 8 := by omega
  have hr8 : rn ≤ 8 := by omega
  have hc1 : 1 ≤ cn := by omega
  have hr1 : 1 ≤ rn := by omega
  clear hsc hbits hce hs hn sC sR sm _hl
  cases b
  · obtain ⟨w3, hw3⟩ : ∃ w3, w3 = ((w.alloc (.cells #[.int .i64 cn, .int .i64 rn, .slice a L.length c] 43)).alloc (.cells #[.int .i64 0, .int .i64 0, .slice none 0 0] 56)).alloc (.cells #[.int .i64 (2 * (cn : Int)), .int .i64 rn, .slice none 0 0] 56) := ⟨_, rfl⟩
    have bx3 : BoxAt w3 w.heap.size #[.int .i64 cn, .int .i64 rn, .slice a L.length c] 43 := by rw [hw3]; exact ((BoxAt.new w _ _).alloc _).alloc _
    have br3 : BoxAt w3 (w.heap.size + 1) #[.int .i64 0, .int .i64 0, .slice none 0 0] 56 := by
      rw [hw3]
      have := (BoxAt.new (w.alloc (.cells #[.int .i64 cn, .int .i64 rn, .slice a L.length c] 43)) #[.int .i64 0, .int .i64 0, .slice none 0 0] 56).alloc (.cells #[.int .i64 (2 * (cn : Int)), .int .i64 rn, .slice none 0 0] 56)
      simpa using this
    have bv3 : BoxAt w3 (w.heap.size + 1 + 1) #[.int .i64 (2 * (cn : Int)), .int .i64 rn, .slice none 0 0] 56 := by
      rw [hw3]
      have := BoxAt.new ((w.alloc (.cells #[.int .i64 cn, .int .i64 rn, .slice a L.length c] 43)).alloc (.cells #[.int .i64 0, .int .i64 0, .slice none 0 0] 56)) #[.int .i64 (2 * (cn : Int)), .int .i64 rn, .slice none 0 0] 56
      simpa using this
    have hB3 : Below w.heap.size w w3 := by rw [hw3]; exact (((Below.refl w.heap.size w).alloc (Nat.le_refl _) _).alloc (by simp) _).alloc (by simp; omega) _
    have W3 := Lib.hid hw3
    clear hw3
    go_enter Try.func49, Try.ntmps49
    go_upto_region 4 with fail
    rw [← W3.out]
    have c0 := bx3.cell 0; have c1 := bx3.cell 1
    have w0 := bv3.cell 0; have w1 := bv3.cell 1
    simp at c0 c1 w0 w1
    go_wp2_with fail
    refine (checkSheet_any _ _ _).mono ?_
    rintro e w' ⟨rfl, rfl⟩
    have hcc : ((cC cn false : Nat) : Int) = (2 * (cn : Int)) := by show ((2 * cn : Nat) : Int) = _; push_cast; rfl
    have hrr : ((cR rn false : Nat) : Int) = (rn : Int) := by show ((rn : Nat) : Int) = _; push_cast; rfl
    by_cases hse : sideErr (2 * (cn : Int)) (rn : Int) = 0
    case neg =>
      have HE : Hid (cbErr cn rn L false = 8) := Lib.hid (by unfold cbErr; rw [HQ.out, if_neg (by simp), Int.toNat_natCast, Int.toNat_natCast, hcc, hrr, if_pos hse])
      have HEB : Hid ((cbErr cn rn L false == 0) = false) := Lib.hid (by rw [HE.out]; rfl)
      have HD : Hid (cbD cn rn L false = (0, 0) ∧ cbL cn rn L false = []) := Lib.hid (by unfold cbD cbL; rw [HE.out]; exact ⟨rfl, rfl⟩)
      have heb : (sideErr (2 * (cn : Int)) (rn : Int) != 0) = true := by simpa using hse
      clear hse
      have r0 := br3.cell 0; have r1 := br3.cell 1; have r2 := br3.cell 2
      have z := fun j => br3.free j
      have hrl := br3.lt
      simp at r0 r1 r2
      go_wp2_with fail
      refine bodyPost_ret (v := .tuple #[.agg #[.int .i64 0, .int .i64 0, .slice none 0 0], .bool false]) ?_ rfl (by rw [HEB.out]; exact cb_fail (below_set3 hB3 (Nat.le_succ _) _ _ _) HD.out.1 HD.out.2)
      simp [results, Try.results49, go_sem, r0, r1, r2]
    have HE : Hid (cbErr cn rn L false = 0) := Lib.hid (by unfold cbErr; rw [HQ.out, if_neg (by simp), Int.toNat_natCast, Int.toNat_natCast, hcc, hrr, if_neg (by simp [hse])])
    have HEB : Hid ((cbErr cn rn L false == 0) = true) := Lib.hid (by rw [HE.out]; rfl)
    have HD : Hid (cbD cn rn L false = ((2 * (cn : Int)), (rn : Int)) ∧ cbL cn rn L false = cbAll cn rn false L) := Lib.hid (by unfold cbD cbL; rw [HE.out, Int.toNat_natCast, Int.toNat_natCast, hcc, hrr]; exact ⟨rfl, rfl⟩)
    rw [hse]
    have E0 : RbEnv w cn rn (2 * (cn : Int)) (rn : Int) a L c (.slice none 0 0) (cbRow cn rn false L 0 0) w3 := by
      rw [show cbRow cn rn false L 0 0 = [] by simp [cbRow]]
      exact ⟨bx3, br3, bv3, OwnR.nil _ _, hB3⟩
    clear hse hcc hrr bx3 br3 bv3 hB3 c0 c1 w0 w1
    go_wp2_with fail
    go_loopw [7] (fun i wq => ∃ (y : Nat) (v : Value), y ≤ rn ∧ i = .int .i64 y ∧ RbEnv w cn rn (2 * (cn : Int)) (rn : Int) a L c v (cbRow cn rn false L y 0) wq) (fun i _ => rn - (intOf i).toNat)
    case atStart => exact ⟨0, _, Nat.zero_le _, rfl, E0⟩
    case round =>
      obtain ⟨y, v, hy, rfl, E⟩ := hrel
      clear E0
      have w1 := E.bv.cell 1
      simp at w1
      by_cases hyl : y < rn
      · have hyI : (y : Int) < (rn : Int) := by omega
        go_wp2_with fail
        go_loopw [8] (fun i wq => ∃ (x : Nat) (v : Value), x ≤ 2 * cn ∧ i = .int .i64 x ∧ RbEnv w cn rn (2 * (cn : Int)) (rn : Int) a L c v (cbRow cn rn false L y x) wq) (fun i _ => 2 * cn - (intOf i).toNat)
        case atStart => exact ⟨0, v, Nat.zero_le _, rfl, E⟩
        case round =>
          obtain ⟨x, v, hx, rfl, E⟩ := hrel
          clear w1
          have c0 := E.bs.cell 0; have c1 := E.bs.cell 1; have c2 := E.bs.cell 2
          have w0 := E.bv.cell 0; have w1 := E.bv.cell 1
          simp at c0 c1 c2 w0 w1
          by_cases hxl : x < 2 * cn
          · have hxI : (x : Int) < (2 * (cn : Int)) := by omega
            have hyc0 : 0 ≤ (y : Int) * (cn : Int) := Int.mul_nonneg (by omega) (by omega)
            have hyc1 : (y : Int) * (cn : Int) ≤ 128 := by have := Int.mul_le_mul (show (y : Int) ≤ 16 by omega) (show (cn : Int) ≤ 8 by omega) (by omega) (by omega); omega
            have HLT : Hid ((cbRow cn rn false L y x).length ≤ 1000) := Lib.hid (by
              rw [cbRow_len]; have h1 : y * cC cn false ≤ 16 * 16 := Nat.mul_le_mul (by omega) (by show 2 * cn ≤ 16; omega); have : x ≤ 16 := by omega
              omega)
            by_cases hpr : x < cn ∧ y < rn
            · obtain ⟨hxc, hyr⟩ := hpr
              have hxcI : (x : Int) < (cn : Int) := by omega
              have hyrI : (y : Int) < (rn : Int) := by omega
              obtain ⟨n, hn⟩ : ∃ n, y * cn + x = n := ⟨_, rfl⟩
              have hnl : n < L.length := by rw [← hn, HN.out]; exact mul_lt (hyr) (hxc)
              have hnI : (y : Int) * (cn : Int) + (x : Int) = (n : Int) := by rw [← hn, Int.natCast_add, Int.natCast_mul]
              have hn64 : (n : Int) ≤ 200 := by omega
              have q1 : IntKind.i64.wrap ((y : Int) * (cn : Int)) = (y : Int) * (cn : Int) := IntWalk.i64_in _ (by omega)
              have q2 : IntKind.i64.wrap ((y : Int) * (cn : Int) + (x : Int)) = (n : Int) := by rw [← hnI]; exact IntWalk.i64_in _ (by omega)
              have hnlI : (n : Int) < (L.length : Int) := by omega
              obtain ⟨ad, rfl, had, s0, s1, s2, s3⟩ := (hL.below E.low).cell hnl
              obtain ⟨u, eu⟩ : ∃ u, u = L[n] := ⟨_, rfl⟩
              rw [← eu] at s0 s1 s2 s3
              have HPU : Hid (Bit u.ft ∧ Bit u.bt) := Lib.hid (HBT.out _ (by rw [eu]; exact List.getElem_mem hnl))
              have HX : Hid (cbRow cn rn false L y x ++ [Page.mk u.f u.ft] = cbRow cn rn false L y (x + 1)) := Lib.hid (by
                rw [← cbRow_succ]
                congr 2
                rw [cbPage_front hxc hyr, hn, getD_in default hnl, ← eu])
              obtain ⟨wu, hwu⟩ : ∃ wu, wu = wr.alloc (.cells #[.int .i64 u.f, .int .i64 u.ft, .int .i64 u.b, .int .i64 u.bt] 91) := ⟨_, rfl⟩
              obtain ⟨gu, hgu⟩ : ∃ g, g = wr.heap.size := ⟨_, rfl⟩
              have hA : Below wr.heap.size wr wu := by rw [hwu]; exact (Below.refl _ _).alloc (Nat.le_refl _) _
              have bu : BoxAt wu gu #[.int .i64 u.f, .int .i64 u.ft, .int .i64 u.b, .int .i64 u.bt] 91 := by rw [hwu, hgu]; exact BoxAt.new wr _ _
              have HWU := Lib.hid hwu; have HGU := Lib.hid hgu
              have hgv : w.heap.size + 1 + 1 < gu := by rw [hgu]; exact E.bv.lt
              have EU := Lib.hid eu
              clear hwu hgu eu hn
              go_upto_region 16 with fail
              rw [← HWU.out, ← HGU.out]
              have Eu := E.below hA
              clear c0 c1 c2 s0 s1 s2 s3 w0 w1
              have p0 := bu.cell 0; have p1 := bu.cell 1; have p2 := bu.cell 2; have p3 := bu.cell 3
              have v2 := Eu.bv.cell 2
              have hpl := bu.lt; have hgl := Eu.bv.lt
              simp at p0 p1 p2 p3 v2
              obtain ⟨va, vc, ev, -, -, -, -, -⟩ := Eu.own.rows page_l
              have HEV := Lib.hid ev; clear ev
              go_wp2_with (at_builtin; refine wpList_appX tPage page_l _ (Page.mk u.f u.ft) _ rfl rfl _ _ rfl (w.heap.size + 1 + 1 + 1) _ (cbRow cn rn false L y x) rfl Eu.own rfl (by have := HLT.out; omega) (by omega) ?_; intro gg cg wg hOg hgg hBg; have bvg := Eu.bv.grown hgg (fun e => by have := (Eu.own.lt _ e.symm).1; omega); have fz := bvg.free 2; have hvg := bvg.lt; have cvg := bvg.cell 2; simp at cvg)
              rw [HX.out] at hOg
              have hEg := Eu.app hOg hgg hBg
              go_wp2_with fail
              go_roundw
              case rel => exact ⟨x + 1, _, by omega, by go_num, hEg⟩
              case measure => simp [intOf]; omega
            · have hyr : y < rn := hyl
              have hxc : ¬ x < cn := fun h => hpr ⟨h, hyr⟩
              have hxcI : ¬ (x : Int) < (cn : Int) := by omega
              obtain ⟨n, hn⟩ : ∃ n, y * cn + (2 * cn - 1 - x) = n := ⟨_, rfl⟩
              have hnl : n < L.length := by rw [← hn, HN.out]; exact mul_lt (hyr) (by omega)
              have hnI : (y : Int) * (cn : Int) + 2 * (cn : Int) - 1 - (x : Int) = (n : Int) := by rw [← hn, Int.natCast_add, Int.natCast_mul]; omega
              have hn64 : (n : Int) ≤ 200 := by omega
              have q1 : IntKind.i64.wrap ((y : Int) * (cn : Int)) = (y : Int) * (cn : Int) := IntWalk.i64_in _ (by omega)
              have q3 : IntKind.i64.wrap ((y : Int) * (cn : Int) + 2 * (cn : Int)) = (y : Int) * (cn : Int) + 2 * (cn : Int) := IntWalk.i64_in _ (by omega)
              have q4 : IntKind.i64.wrap ((y : Int) * (cn : Int) + 2 * (cn : Int) - 1) = (y : Int) * (cn : Int) + 2 * (cn : Int) - 1 := IntWalk.i64_in _ (by omega)
              have q5 : IntKind.i64.wrap ((y : Int) * (cn : Int) + 2 * (cn : Int) - 1 - (x : Int)) = (n : Int) := by rw [← hnI]; exact IntWalk.i64_in _ (by omega)
              have hnlI : (n : Int) < (L.length : Int) := by omega
              obtain ⟨ad, rfl, had, s0, s1, s2, s3⟩ := (hL.below E.low).cell hnl
              obtain ⟨u, eu⟩ : ∃ u, u = L[n] := ⟨_, rfl⟩
              rw [← eu] at s0 s1 s2 s3
              have HPU : Hid (Bit u.ft ∧ Bit u.bt) := Lib.hid (HBT.out _ (by rw [eu]; exact List.getElem_mem hnl))
              have HX : Hid (cbRow cn rn false L y x ++ [Page.mk u.b u.bt] = cbRow cn rn false L y (x + 1)) := Lib.hid (by
                rw [← cbRow_succ]
                congr 2
                have e1 : xr u.bt (roundB false) = u.bt := xr_zero HPU.out.2
                rw [cbPage_side (by omega) (by omega) hxl hyr, hn, getD_in default hnl, ← eu, e1])
              obtain ⟨wu, hwu⟩ : ∃ wu, wu = wr.alloc (.cells #[.int .i64 u.f, .int .i64 u.ft, .int .i64 u.b, .int .i64 u.bt] 91) := ⟨_, rfl⟩
              obtain ⟨gu, hgu⟩ : ∃ g, g = wr.heap.size := ⟨_, rfl⟩
              have hA : Below wr.heap.size wr wu := by rw [hwu]; exact (Below.refl _ _).alloc (Nat.le_refl _) _
              have bu : BoxAt wu gu #[.int .i64 u.f, .int .i64 u.ft, .int .i64 u.b, .int .i64 u.bt] 91 := by rw [hwu, hgu]; exact BoxAt.new wr _ _
              have HWU := Lib.hid hwu; have HGU := Lib.hid hgu
              have hgv : w.heap.size + 1 + 1 < gu := by rw [hgu]; exact E.bv.lt
              have EU := Lib.hid eu
              clear hwu hgu eu hn
              go_upto_region 13 with fail
              rw [← HWU.out, ← HGU.out]
              have Eu := E.below hA
              clear c0 c1 c2 s0 s1 s2 s3 w0 w1
              have p0 := bu.cell 0; have p1 := bu.cell 1; have p2 := bu.cell 2; have p3 := bu.cell 3
              have v2 := Eu.bv.cell 2
              have hpl := bu.lt; have hgl := Eu.bv.lt
              simp at p0 p1 p2 p3 v2
              obtain ⟨va, vc, ev, -, -, -, -, -⟩ := Eu.own.rows page_l
              have HEV := Lib.hid ev; clear ev
              go_wp2_with (at_builtin; refine wpList_appX tPage page_l _ (Page.mk u.b u.bt) _ rfl rfl _ _ rfl (w.heap.size + 1 + 1 + 1) _ (cbRow cn rn false L y x) rfl Eu.own rfl (by have := HLT.out; omega) (by omega) ?_; intro gg cg wg hOg hgg hBg; have bvg := Eu.bv.grown hgg (fun e => by have := (Eu.own.lt _ e.symm).1; omega); have fz := bvg.free 2; have hvg := bvg.lt; have cvg := bvg.cell 2; simp at cvg)
              rw [HX.out] at hOg
              have hEg := Eu.app hOg hgg hBg
              go_wp2_with fail
              go_roundw
              case rel => exact ⟨x + 1, _, by omega, by go_num, hEg⟩
              case measure => simp [intOf]; omega

          · have hxC : x = 2 * cn := by omega
            have hxI : ¬ (x : Int) < (2 * (cn : Int)) := by omega
            have hrow : cbRow cn rn false L y (2 * cn) = cbRow cn rn false L (y + 1) 0 := cbRow_row cn rn false L y
            rw [hxC, hrow] at E
            clear hxC
            go_wp2_with fail
            go_roundw
            case rel => exact ⟨y + 1, v, by omega, by go_num, E⟩
            case measure => simp [intOf]; omega
      · have hyR : y = rn := by omega
        have hyI : ¬ (y : Int) < (rn : Int) := by omega
        have hend : cbRow cn rn false L (rn) 0 = cbAll cn rn false L := cbRow_end cn rn false L
        rw [hyR, hend] at E
        clear hyR
        have r0 := E.br.cell 0; have r1 := E.br.cell 1; have r2 := E.br.cell 2
        have z := fun j => E.br.free j
        have hrl := E.br.lt
        have w0 := E.bv.cell 0; have w2 := E.bv.cell 2
        simp at r0 r1 r2 w0 w2
        obtain ⟨va, vc, ev, -, -, -, -, -⟩ := E.own.rows page_l
        obtain ⟨m, hm⟩ : ∃ n, n = (cbAll cn rn false L).length := ⟨_, rfl⟩
        rw [← hm] at ev
        subst ev
        have HM := Lib.hid hm
        clear hm
        go_wp2_with fail
        rw [HEB.out, HD.out.1, HD.out.2]
        refine bodyPost_ret (v := .tuple #[.agg #[.int .i64 (2 * (cn : Int)), .int .i64 (rn : Int), .slice va m vc], .bool true]) ?_ rfl (cb_rows E.own (by omega) E.low _ _ _ HM.out _ _ _)
        simp [results, Try.results49, go_sem, r0, r1, r2]
  · obtain ⟨w3, hw3⟩ : ∃ w3, w3 = ((w.alloc (.cells #[.int .i64 cn, .int .i64 rn, .slice a L.length c] 43)).alloc (.cells #[.int .i64 0, .int .i64 0, .slice none 0 0] 56)).alloc (.cells #[.int .i64 (2 * (cn : Int)), .int .i64 rn, .slice none 0 0] 56) := ⟨_, rfl⟩
    have bx3 : BoxAt w3 w.heap.size #[.int .i64 cn, .int .i64 rn, .slice a L.length c] 43 := by rw [hw3]; exact ((BoxAt.new w _ _).alloc _).alloc _
    have br3 : BoxAt w3 (w.heap.size + 1) #[.int .i64 0, .int .i64 0, .slice none 0 0] 56 := by
      rw [hw3]
      have := (BoxAt.new (w.alloc (.cells #[.int .i64 cn, .int .i64 rn, .slice a L.length c] 43)) #[.int .i64 0, .int .i64 0, .slice none 0 0] 56).alloc (.cells #[.int .i64 (2 * (cn : Int)), .int .i64 rn, .slice none 0 0] 56)
      simpa using this
    have bv3 : BoxAt w3 (w.heap.size + 1 + 1) #[.int .i64 (2 * (cn : Int)), .int .i64 rn, .slice none 0 0] 56 := by
      rw [hw3]
      have := BoxAt.new ((w.alloc (.cells #[.int .i64 cn, .int .i64 rn, .slice a L.length c] 43)).alloc (.cells #[.int .i64 0, .int .i64 0, .slice none 0 0] 56)) #[.int .i64 (2 * (cn : Int)), .int .i64 rn, .slice none 0 0] 56
      simpa using this
    have hB3 : Below w.heap.size w w3 := by rw [hw3]; exact (((Below.refl w.heap.size w).alloc (Nat.le_refl _) _).alloc (by simp) _).alloc (by simp; omega) _
    have W3 := Lib.hid hw3
    clear hw3
    go_enter Try.func49, Try.ntmps49
    go_upto_if 18 with fail
    rw [← W3.out]
    have c0 := bx3.cell 0; have c1 := bx3.cell 1
    have g0 := bv3.cell 0; have g1 := bv3.cell 1
    have zf := fun j => bv3.free j
    have hvl := bv3.lt
    simp at c0 c1 g0 g1
    go_cut [6] from 19 to 25 (fun v6 wx => v6 = .pointer (some ⟨w.heap.size + 1 + 1, 0, none⟩) ∧ BoxAt wx w.heap.size #[.int .i64 cn, .int .i64 rn, .slice a L.length c] 43 ∧ BoxAt wx (w.heap.size + 1) #[.int .i64 0, .int .i64 0, .slice none 0 0] 56 ∧ BoxAt wx (w.heap.size + 1 + 1) #[.int .i64 cn, .int .i64 (2 * (rn : Int)), .slice none 0 0] 56 ∧ Below w.heap.size w wx)
    case first =>
      have k0 : w.heap.size ≠ w.heap.size + 1 + 1 := by omega
      have k1 : w.heap.size + 1 ≠ w.heap.size + 1 + 1 := by omega
      have kl : w.heap.size ≤ w.heap.size + 1 + 1 := by omega
      go_wp2_with fail
      go_region
      all_goals
        go_wp2_with fail
        go_meet
        exact ⟨rfl, (bx3.drew.set_other (p := ⟨w.heap.size + 1 + 1, 0, none⟩) k0 _).set_other (p := ⟨w.heap.size + 1 + 1, 1, none⟩) k0 _, (br3.drew.set_other (p := ⟨w.heap.size + 1 + 1, 0, none⟩) k1 _).set_other (p := ⟨w.heap.size + 1 + 1, 1, none⟩) k1 _, (bv3.drew.set 0 _).set 1 _, (hB3.drew.setCell (p := ⟨w.heap.size + 1 + 1, 0, none⟩) kl _).setCell (p := ⟨w.heap.size + 1 + 1, 1, none⟩) kl _⟩
    case rest =>
    clear bx3 br3 bv3 hB3 c0 c1 g0 g1 zf hvl
    obtain ⟨rfl, bx3, br3, bv3, hB3⟩ := hcut
    rename World => w3
    have c0 := bx3.cell 0; have c1 := bx3.cell 1
    have w0 := bv3.cell 0; have w1 := bv3.cell 1
    simp at c0 c1 w0 w1
    go_wp2_with fail
    refine (checkSheet_any _ _ _).mono ?_
    rintro e w' ⟨rfl, rfl⟩
    have hcc : ((cC cn true : Nat) : Int) = (cn : Int) := by show ((cn : Nat) : Int) = _; push_cast; rfl
    have hrr : ((cR rn true : Nat) : Int) = (2 * (rn : Int)) := by show ((2 * rn : Nat) : Int) = _; push_cast; rfl
    by_cases hse : sideErr (cn : Int) (2 * (rn : Int)) = 0
    case neg =>
      have HE : Hid (cbErr cn rn L true = 8) := Lib.hid (by unfold cbErr; rw [HQ.out, if_neg (by simp), Int.toNat_natCast, Int.toNat_natCast, hcc, hrr, if_pos hse])
      have HEB : Hid ((cbErr cn rn L true == 0) = false) := Lib.hid (by rw [HE.out]; rfl)
      have HD : Hid (cbD cn rn L true = (0, 0) ∧ cbL cn rn L true = []) := Lib.hid (by unfold cbD cbL; rw [HE.out]; exact ⟨rfl, rfl⟩)
      have heb : (sideErr (cn : Int) (2 * (rn : Int)) != 0) = true := by simpa using hse
      clear hse
      have r0 := br3.cell 0; have r1 := br3.cell 1; have r2 := br3.cell 2
      have z := fun j => br3.free j
      have hrl := br3.lt
      simp at r0 r1 r2
      go_wp2_with fail
      refine bodyPost_ret (v := .tuple #[.agg #[.int .i64 0, .int .i64 0, .slice none 0 0], .bool false]) ?_ rfl (by rw [HEB.out]; exact cb_fail (below_set3 hB3 (Nat.le_succ _) _ _ _) HD.out.1 HD.out.2)
      simp [results, Try.results49, go_sem, r0, r1, r2]
    have HE : Hid (cbErr cn rn L true = 0) := Lib.hid (by unfold cbErr; rw [HQ.out, if_neg (by simp), Int.toNat_natCast, Int.toNat_natCast, hcc, hrr, if_neg (by simp [hse])])
    have HEB : Hid ((cbErr cn rn L true == 0) = true) := Lib.hid (by rw [HE.out]; rfl)
    have HD : Hid (cbD cn rn L true = ((cn : Int), (2 * (rn : Int))) ∧ cbL cn rn L true = cbAll cn rn true L) := Lib.hid (by unfold cbD cbL; rw [HE.out, Int.toNat_natCast, Int.toNat_natCast, hcc, hrr]; exact ⟨rfl, rfl⟩)
    rw [hse]
    have E0 : RbEnv w cn rn (cn : Int) (2 * (rn : Int)) a L c (.slice none 0 0) (cbRow cn rn true L 0 0) w3 := by
      rw [show cbRow cn rn true L 0 0 = [] by simp [cbRow]]
      exact ⟨bx3, br3, bv3, OwnR.nil _ _, hB3⟩
    clear hse hcc hrr bx3 br3 bv3 hB3 c0 c1 w0 w1
    go_wp2_with fail
    go_loopw [7] (fun i wq => ∃ (y : Nat) (v : Value), y ≤ 2 * rn ∧ i = .int .i64 y ∧ RbEnv w cn rn (cn : Int) (2 * (rn : Int)) a L c v (cbRow cn rn true L y 0) wq) (fun i _ => 2 * rn - (intOf i).toNat)
    case atStart => exact ⟨0, _, Nat.zero_le _, rfl, E0⟩
    case round =>
      obtain ⟨y, v, hy, rfl, E⟩ := hrel
      clear E0
      have w1 := E.bv.cell 1
      simp at w1
      by_cases hyl : y < 2 * rn
      · have hyI : (y : Int) < (2 * (rn : Int)) := by omega
        go_wp2_with fail
        go_loopw [8] (fun i wq => ∃ (x : Nat) (v : Value), x ≤ cn ∧ i = .int .i64 x ∧ RbEnv w cn rn (cn : Int) (2 * (rn : Int)) a L c v (cbRow cn rn true L y x) wq) (fun i _ => cn - (intOf i).toNat)
        case atStart => exact ⟨0, v, Nat.zero_le _, rfl, E⟩
        case round =>
          obtain ⟨x, v, hx, rfl, E⟩ := hrel
          clear w1
          have c0 := E.bs.cell 0; have c1 := E.bs.cell 1; have c2 := E.bs.cell 2
          have w0 := E.bv.cell 0; have w1 := E.bv.cell 1
          simp at c0 c1 c2 w0 w1
          by_cases hxl : x < cn
          · have hxI : (x : Int) < (cn : Int) := by omega
            have hyc0 : 0 ≤ (y : Int) * (cn : Int) := Int.mul_nonneg (by omega) (by omega)
            have hyc1 : (y : Int) * (cn : Int) ≤ 128 := by have := Int.mul_le_mul (show (y : Int) ≤ 16 by omega) (show (cn : Int) ≤ 8 by omega) (by omega) (by omega); omega
            have HLT : Hid ((cbRow cn rn true L y x).length ≤ 1000) := Lib.hid (by
              rw [cbRow_len]; have h1 : y * cC cn true ≤ 16 * 16 := Nat.mul_le_mul (by omega) (by show cn ≤ 16; omega); have : x ≤ 16 := by omega
              omega)
            by_cases hpr : x < cn ∧ y < rn
            · obtain ⟨hxc, hyr⟩ := hpr
              have hxcI : (x : Int) < (cn : Int) := by omega
              have hyrI : (y : Int) < (rn : Int) := by omega
              obtain ⟨n, hn⟩ : ∃ n, y * cn + x = n := ⟨_, rfl⟩
              have hnl : n < L.length := by rw [← hn, HN.out]; exact mul_lt (hyr) (hxc)
              have hnI : (y : Int) * (cn : Int) + (x : Int) = (n : Int) := by rw [← hn, Int.natCast_add, Int.natCast_mul]
              have hn64 : (n : Int) ≤ 200 := by omega
              have q1 : IntKind.i64.wrap ((y : Int) * (cn : Int)) = (y : Int) * (cn : Int) := IntWalk.i64_in _ (by omega)
              have q2 : IntKind.i64.wrap ((y : Int) * (cn : Int) + (x : Int)) = (n : Int) := by rw [← hnI]; exact IntWalk.i64_in _ (by omega)
              have hnlI : (n : Int) < (L.length : Int) := by omega
              obtain ⟨ad, rfl, had, s0, s1, s2, s3⟩ := (hL.below E.low).cell hnl
              obtain ⟨u, eu⟩ : ∃ u, u = L[n] := ⟨_, rfl⟩
              rw [← eu] at s0 s1 s2 s3
              have HPU : Hid (Bit u.ft ∧ Bit u.bt) := Lib.hid (HBT.out _ (by rw [eu]; exact List.getElem_mem hnl))
              have HX : Hid (cbRow cn rn true L y x ++ [Page.mk u.f u.ft] = cbRow cn rn true L y (x + 1)) := Lib.hid (by
                rw [← cbRow_succ]
                congr 2
                rw [cbPage_front hxc hyr, hn, getD_in default hnl, ← eu])
              obtain ⟨wu, hwu⟩ : ∃ wu, wu = wr.alloc (.cells #[.int .i64 u.f, .int .i64 u.ft, .int .i64 u.b, .int .i64 u.bt] 91) := ⟨_, rfl⟩
              obtain ⟨gu, hgu⟩ : ∃ g, g = wr.heap.size := ⟨_, rfl⟩
              have hA : Below wr.heap.size wr wu := by rw [hwu]; exact (Below.refl _ _).alloc (Nat.le_refl _) _
              have bu : BoxAt wu gu #[.int .i64 u.f, .int .i64 u.ft, .int .i64 u.b, .int .i64 u.bt] 91 := by rw [hwu, hgu]; exact BoxAt.new wr _ _
              have HWU := Lib.hid hwu; have HGU := Lib.hid hgu
              have hgv : w.heap.size + 1 + 1 < gu := by rw [hgu]; exact E.bv.lt
              have EU := Lib.hid eu
              clear hwu hgu eu hn
              go_upto_region 16 with fail
              rw [← HWU.out, ← HGU.out]
              have Eu := E.below hA
              clear c0 c1 c2 s0 s1 s2 s3 w0 w1
              have p0 := bu.cell 0; have p1 := bu.cell 1; have p2 := bu.cell 2; have p3 := bu.cell 3
              have v2 := Eu.bv.cell 2
              have hpl := bu.lt; have hgl := Eu.bv.lt
              simp at p0 p1 p2 p3 v2
              obtain ⟨va, vc, ev, -, -, -, -, -⟩ := Eu.own.rows page_l
              have HEV := Lib.hid ev; clear ev
              go_wp2_with (at_builtin; refine wpList_appX tPage page_l _ (Page.mk u.f u.ft) _ rfl rfl _ _ rfl (w.heap.size + 1 + 1 + 1) _ (cbRow cn rn true L y x) rfl Eu.own rfl (by have := HLT.out; omega) (by omega) ?_; intro gg cg wg hOg hgg hBg; have bvg := Eu.bv.grown hgg (fun e => by have := (Eu.own.lt _ e.symm).1; omega); have fz := bvg.free 2; have hvg := bvg.lt; have cvg := bvg.cell 2; simp at cvg)
              rw [HX.out] at hOg
              have hEg := Eu.app hOg hgg hBg
              go_wp2_with fail
              go_roundw
              case rel => exact ⟨x + 1, _, by omega, by go_num, hEg⟩
              case measure => simp [intOf]; omega
            · have hxc : x < cn := hxl
              have hyr : ¬ y < rn := fun h => hpr ⟨hxc, h⟩
              have hxcI : (x : Int) < (cn : Int) := by omega
              have hyrI : ¬ (y : Int) < (rn : Int) := by omega
              obtain ⟨n, hn⟩ : ∃ n, (2 * rn - 1 - y) * cn + x = n := ⟨_, rfl⟩
              have hnl : n < L.length := by rw [← hn, HN.out]; exact mul_lt (by omega) (hxc)
              have hmI : (2 * (rn : Int) - 1 - (y : Int)) * (cn : Int) = (((2 * rn - 1 - y) * cn : Nat) : Int) := by
                rw [Int.natCast_mul, Int.natCast_sub (by omega), Int.natCast_sub (by omega)]; push_cast; rfl
              have hm64 : (2 * rn - 1 - y) * cn ≤ 16 * 8 := Nat.mul_le_mul (by omega) hc8
              have hnI : (2 * (rn : Int) - 1 - (y : Int)) * (cn : Int) + (x : Int) = (n : Int) := by rw [hmI, ← hn]; push_cast; rfl
              have hm0 : 0 ≤ (2 * (rn : Int) - 1 - (y : Int)) * (cn : Int) := by rw [hmI]; omega
              have hm1 : (2 * (rn : Int) - 1 - (y : Int)) * (cn : Int) ≤ 128 := by rw [hmI]; omega
              clear hmI hm64
              have hnlI : (n : Int) < (L.length : Int) := by omega
              obtain ⟨ad, rfl, had, s0, s1, s2, s3⟩ := (hL.below E.low).cell hnl
              obtain ⟨u, eu⟩ : ∃ u, u = L[n] := ⟨_, rfl⟩
              rw [← eu] at s0 s1 s2 s3
              have HPU : Hid (Bit u.ft ∧ Bit u.bt) := Lib.hid (HBT.out _ (by rw [eu]; exact List.getElem_mem hnl))
              have t0 : 0 ≤ u.bt := by rcases HPU.out.2 with h | h <;> omega
              have t1 : u.bt ≤ 1 := by rcases HPU.out.2 with h | h <;> omega
              have HX : Hid (cbRow cn rn true L y x ++ [Page.mk u.b (1 - u.bt)] = cbRow cn rn true L y (x + 1)) := Lib.hid (by
                rw [← cbRow_succ]
                congr 2
                have e1 : xr u.bt (roundB true) = 1 - u.bt := by rcases HPU.out.2 with h | h <;> rw [h] <;> rfl
                rw [cbPage_down (by omega) hxc hyl (by omega), hn, getD_in default hnl, ← eu, e1])
              obtain ⟨wu, hwu⟩ : ∃ wu, wu = wr.alloc (.cells #[.int .i64 u.f, .int .i64 u.ft, .int .i64 u.b, .int .i64 u.bt] 91) := ⟨_, rfl⟩
              obtain ⟨gu, hgu⟩ : ∃ g, g = wr.heap.size := ⟨_, rfl⟩
              have hA : Below wr.heap.size wr wu := by rw [hwu]; exact (Below.refl _ _).alloc (Nat.le_refl _) _
              have bu : BoxAt wu gu #[.int .i64 u.f, .int .i64 u.ft, .int .i64 u.b, .int .i64 u.bt] 91 := by rw [hwu, hgu]; exact BoxAt.new wr _ _
              have HWU := Lib.hid hwu; have HGU := Lib.hid hgu
              have hgv : w.heap.size + 1 + 1 < gu := by rw [hgu]; exact E.bv.lt
              have EU := Lib.hid eu
              clear hwu hgu eu hn
              go_upto_region 19 with fail
              rw [← HWU.out, ← HGU.out]
              have Eu := E.below hA
              clear c0 c1 c2 s0 s1 s2 s3 w0 w1
              have p0 := bu.cell 0; have p1 := bu.cell 1; have p2 := bu.cell 2; have p3 := bu.cell 3
              have v2 := Eu.bv.cell 2
              have hpl := bu.lt; have hgl := Eu.bv.lt
              simp at p0 p1 p2 p3 v2
              obtain ⟨va, vc, ev, -, -, -, -, -⟩ := Eu.own.rows page_l
              have HEV := Lib.hid ev; clear ev
              go_wp2_with (at_builtin; refine wpList_appX tPage page_l _ (Page.mk u.b (1 - u.bt)) _ rfl rfl _ _ rfl (w.heap.size + 1 + 1 + 1) _ (cbRow cn rn true L y x) rfl Eu.own rfl (by have := HLT.out; omega) (by omega) ?_; intro gg cg wg hOg hgg hBg; have bvg := Eu.bv.grown hgg (fun e => by have := (Eu.own.lt _ e.symm).1; omega); have fz := bvg.free 2; have hvg := bvg.lt; have cvg := bvg.cell 2; simp at cvg)
              rw [HX.out] at hOg
              have hEg := Eu.app hOg hgg hBg
              go_wp2_with fail
              go_roundw
              case rel => exact ⟨x + 1, _, by omega, by go_num, hEg⟩
              case measure => simp [intOf]; omega

          · have hxC : x = cn := by omega
            have hxI : ¬ (x : Int) < (cn : Int) := by omega
            have hrow : cbRow cn rn true L y (cn) = cbRow cn rn true L (y + 1) 0 := cbRow_row cn rn true L y
            rw [hxC, hrow] at E
            clear hxC
            go_wp2_with fail
            go_roundw
            case rel => exact ⟨y + 1, v, by omega, by go_num, E⟩
            case measure => simp [intOf]; omega
      · have hyR : y = 2 * rn := by omega
        have hyI : ¬ (y : Int) < (2 * (rn : Int)) := by omega
        have hend : cbRow cn rn true L (2 * rn) 0 = cbAll cn rn true L := cbRow_end cn rn true L
        rw [hyR, hend] at E
        clear hyR
        have r0 := E.br.cell 0; have r1 := E.br.cell 1; have r2 := E.br.cell 2
        have z := fun j => E.br.free j
        have hrl := E.br.lt
        have w0 := E.bv.cell 0; have w2 := E.bv.cell 2
        simp at r0 r1 r2 w0 w2
        obtain ⟨va, vc, ev, -, -, -, -, -⟩ := E.own.rows page_l
        obtain ⟨m, hm⟩ : ∃ n, n = (cbAll cn rn true L).length := ⟨_, rfl⟩
        rw [← hm] at ev
        subst ev
        have HM := Lib.hid hm
        clear hm
        go_wp2_with fail
        rw [HEB.out, HD.out.1, HD.out.2]
        refine bodyPost_ret (v := .tuple #[.agg #[.int .i64 (cn : Int), .int .i64 (2 * (rn : Int)), .slice va m vc], .bool true]) ?_ rfl (cb_rows E.own (by omega) E.low _ _ _ HM.out _ _ _)
        simp [results, Try.results49, go_sem, r0, r1, r2]
end Go.Proofs.Ytjkjfmahcjcniaa
