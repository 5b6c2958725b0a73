/-
  Package impose: what is bound of a right book, by the program.
-/
import Derived.Test.YtjkjfmahcjcniaaT6
import Derived.Test.YtjkjfmahcjcniaaT7
namespace Go.Proofs.Ytjkjfmahcjcniaa
open Go.RowKit Go.Maps Go.WideMaps

theorem zInt (w : World) : (zeroValue 3).run Try.prog w = .ok (.int .i64 0) w := by kernel_rfl
theorem zBool (w : World) : (zeroValue 4).run Try.prog w = .ok (.bool false) w := by kernel_rfl
/-- The plates' map, k of them counted. -/
def plM (pl : List Int) : Nat → List (Int × Value)
  | 0 => []
  | k + 1 => plM pl k ++ [(pl.getD k 0, .int .i64 ((pl.take (k + 1)).count (pl.getD k 0) : Nat))]
theorem imapGet_snoc (L : List (Int × Value)) (p : Int × Value) (key : Int) (z : Value) : imapGet (L ++ [p]) key z = if p.1 = key then p.2 else imapGet L key z := by
  unfold imapGet; rw [List.foldl_append]; rfl
theorem plM_len (pl : List Int) (k : Nat) : (plM pl k).length = k := by
  induction k with
  | zero => rfl
  | succ k ih => unfold plM; rw [List.length_append, ih]; rfl
theorem plM_get {pl : List Int} (key : Int) : ∀ {k : Nat}, k ≤ pl.length → imapGet (plM pl k) key (.int .i64 0) = .int .i64 ((pl.take k).count key : Nat) := by
  intro k
  induction k with
  | zero => intro _; rfl
  | succ k ih =>
    intro hk
    have hkl : k < pl.length := by omega
    unfold plM
    rw [imapGet_snoc]
    by_cases e : pl.getD k 0 = key
    · rw [if_pos e, e]
    · rw [if_neg e, ih (by omega), List.take_succ_eq_append_getElem hkl, List.count_append, List.count_singleton, if_neg (by rw [getD_in 0 hkl] at e; simpa using e), Nat.add_zero]
def clM (cl : List Int) (k : Nat) : List (Int × Value) := (cl.take k).map fun c => (c, .bool true)
theorem clM_succ {cl : List Int} {k : Nat} (hk : k < cl.length) : clM cl k ++ [(cl[k], .bool true)] = clM cl (k + 1) := by
  unfold clM; rw [List.take_succ_eq_append_getElem hk, List.map_append]; rfl
theorem clM_len {cl : List Int} {k : Nat} (hk : k ≤ cl.length) : (clM cl k).length = k := by unfold clM; rw [List.length_map, List.length_take]; omega
theorem clM_get {cl : List Int} (key : Int) : ∀ {k : Nat}, k ≤ cl.length → imapGet (clM cl k) key (.bool false) = .bool (hasB (cl.take k) key) := by
  intro k
  induction k with
  | zero => intro _; rfl
  | succ k ih =>
    intro hk
    have hkl : k < cl.length := by omega
    rw [← clM_succ hkl, imapGet_snoc]
    by_cases e : cl[k] = key
    · rw [if_pos e]; unfold hasB; rw [List.take_succ_eq_append_getElem hkl]; simp [e]
    · rw [if_neg e, ih (by omega)]
      have e' : ¬ key = cl[k] := fun h => e h.symm
      have h2 : cl.take (k + 1) = cl.take k ++ [cl[k]] := List.take_succ_eq_append_getElem hkl
      rw [h2]
      generalize cl.take k = T at *
      unfold hasB
      congr 1
      rw [Bool.eq_iff_iff]; simp [e']
set_option maxRecDepth 100000 in
set_option maxHeartbeats 4000000 in
theorem addPlates_any (v : Value) (M : List Int) (n B : Nat) (w : World) (hO : OwnR 1 3 intL w B v M) (hM : M.length ≤ 400000) (hn : n ≤ 1000) (hB : B ≤ w.heap.size) :
    Calls Try.prog 104 #[v, .int .i64 n] w fun e w' => ∃ v', e = .returned v' ∧ OwnR 1 3 intL w' B v' (M ++ List.replicate n (-1)) ∧ Below B w w' := by
  obtain ⟨a0, c0, e0, -, -, -, -, -⟩ := hO.rows int_l
  subst e0
  go_enter Try.func104, Try.ntmps104
  go_wp2_with fail
  go_loopw [0, 6] (fun v i wr => ∃ k : Nat, k ≤ n ∧ i = .int .i64 k ∧ OwnR 1 3 intL wr B v (M ++ List.replicate k (-1)) ∧ Below B w wr) (fun _ i _ => n - (intOf i).toNat)
  case atStart => exact ⟨0, Nat.zero_le _, rfl, by simpa using hO, Below.refl _ _⟩
  case round =>
    obtain ⟨k, hk, rfl, hOk, hBk⟩ := hrel
    obtain ⟨X, hX⟩ : ∃ X, M ++ List.replicate k (-1) = X := ⟨_, rfl⟩
    have hXl : Hid (X.length ≤ 500000) := Lib.hid (by rw [← hX]; simp; omega)
    have hXs : Hid (X ++ [(-1 : Int)] = M ++ List.replicate (k + 1) (-1)) := Lib.hid (by rw [← hX, List.append_assoc, List.replicate_succ'])
    rw [hX] at hOk
    have HX := Lib.hid hX
    clear hX
    have hsz := hBk.size
    obtain ⟨va, vc, ev, -, -, -, -, -⟩ := hOk.rows int_l
    have HEV := Lib.hid ev; clear ev
    by_cases hkn : k < n
    · have hkI : (k : Int) < (n : Int) := by omega
      go_wp2_with (at_builtin; refine wpList_appX tInt int_l _ (-1 : Int) _ rfl rfl _ _ rfl B _ X rfl hOk rfl (by have := hXl.out; omega) (by omega) ?_; intro gg cg wg hOg hgg hBg)
      rw [hXs.out] at hOg
      go_wp2_with fail
      go_roundw
      case rel => exact ⟨k + 1, by omega, by go_num, hOg, hBk.trans hBg⟩
      case measure => simp [intOf]; omega
    · have hkE : k = n := by omega
      have hkI : ¬ (k : Int) < (n : Int) := by omega
      have HK := Lib.hid hkE
      clear hkE
      go_wp2_with fail
      go_ret
      exact ⟨_, rfl, by rw [← HK.out, HX.out]; exact hOk, hBk⟩
structure PbEnv (w : World) (P S : Int) (pa : Option Addr) (pl : List Int) (pc : Nat) (ca : Option Addr) (cl : List Int) (cc B : Nat) (wr : World) : Prop where
  bx : BoxAt wr w.heap.size #[.int .i64 P, .int .i64 S, .slice pa pl.length pc, .slice ca cl.length cc] 93
  low : Below w.heap.size w wr
  le : B ≤ wr.heap.size
def BdPost (w : World) (q : Int) (V : List Int) (e : Ending) (w' : World) : Prop :=
  ∃ (a : Option Addr) (n c : Nat), e = .returned (.tuple #[.slice a n c, .int .i64 q]) ∧ n = V.length ∧ RowsAt 1 intL w' a V ∧ Below w.heap.size w w'
def bdV (P S : Int) (pl cl : List Int) : List Int := if (bookE P S pl cl).2 = 0 then bdTo pl cl (P.toNat + 1) else []
set_option maxRecDepth 100000 in
set_option maxHeartbeats 16000000 in
theorem bound_any (P S : Int) (pa : Option Addr) (pl : List Int) (pc : Nat) (ca : Option Addr) (cl : List Int) (cc : Nat) (w : World) (hp : RowsAt 1 intL w pa pl) (hpl : pl.length ≤ 45) (hc : RowsAt 1 intL w ca cl) (hcl : cl.length ≤ 45)
    (hwp : ∀ x ∈ pl, OkI x) (hwc : ∀ x ∈ cl, OkI x) :
    Calls Try.prog 58 #[.agg #[.int .i64 P, .int .i64 S, .slice pa pl.length pc, .slice ca cl.length cc]] w (BdPost w (bookE P S pl cl).2 (bdV P S pl cl)) := by
  have hmm := @run_makeMap Try.prog
  have HMM := Lib.hid hmm
  have HPL : Hid (pl.length ≤ maxLen) := Lib.hid (by unfold maxLen; omega)
  have HCL : Hid (cl.length ≤ maxLen) := Lib.hid (by unfold maxLen; omega)
  obtain ⟨q1, hq1⟩ : ∃ x, (bookE P S pl cl).1 = x := ⟨_, rfl⟩
  obtain ⟨q, hq⟩ : ∃ x, (bookE P S pl cl).2 = x := ⟨_, rfl⟩
  have HQ := Lib.hid hq
  have HCK := Lib.hid (fun W h1 h2 => checkBook_any P S pa pl pc ca cl cc W h1 HPL.out h2 HCL.out)
  rw [hq1, hq] at HCK
  have HWP := Lib.hid hwp; have HWC := Lib.hid hwc
  rw [hq]
  clear hq1 hq hwp hwc hmm
  go_enter Try.func58, Try.ntmps58
  go_wp2_with fail
  refine (HCK.out _ (hp.alloc _) (hc.alloc _)).mono ?_
  rintro e w1 ⟨rfl, hb1⟩
  have hB1 := ((Below.refl w.heap.size w).alloc (Nat.le_refl _) (.cells #[.int .i64 P, .int .i64 S, .slice pa pl.length pc, .slice ca cl.length cc] 93)).trans (hb1.mono (B' := w.heap.size) (by simp))
  have bx1 := (BoxAt.new w #[.int .i64 P, .int .i64 S, .slice pa pl.length pc, .slice ca cl.length cc] 93).below hb1
  clear hb1
  by_cases hq0 : q = 0
  case neg =>
    have HV : Hid (bdV P S pl cl = []) := Lib.hid (by unfold bdV; rw [HQ.out, if_neg hq0])
    have heb : (q != 0) = true := by simpa using hq0
    clear hq0
    go_wp2_with fail
    go_ret2
    exact ⟨none, 0, 0, rfl, by rw [HV.out]; rfl, by rw [HV.out]; exact RowsAt.nil _ _, hB1⟩
  subst hq0
  obtain ⟨⟨g1, g2⟩, -, -⟩ := book_ok HQ.out
  obtain ⟨Pn, rfl⟩ : ∃ n : Nat, P = n := ⟨P.toNat, by omega⟩
  have hP4 : Pn ≤ 4000 := by omega
  have hP1 : 1 ≤ Pn := by omega
  have HV : Hid (bdV Pn S pl cl = bdTo pl cl (Pn + 1)) := Lib.hid (by unfold bdV; rw [HQ.out, if_pos rfl, Int.toNat_natCast])
  clear g1 g2
  obtain ⟨m1, hm1⟩ : ∃ m, m = w1.heap.size := ⟨_, rfl⟩
  have hM0 : IMapAt Try.prog 3 (w1.alloc (.map #[] 0)) m1 (plM pl 0) := by rw [hm1]; exact IMapAt.made w1 _ _
  have c2 := bx1.cell 2
  have hbl := bx1.lt
  simp at c2
  have hwm : w.heap.size < m1 := by rw [hm1]; exact hbl
  have HM1 := Lib.hid hm1
  have bx2 := bx1.alloc (.map #[] 0)
  have hB2 := hB1.alloc hB1.size (.map #[] 0)
  have q1 : ¬ w.heap.size = w1.heap.size := by omega
  have q2 : ¬ w1.heap.size = w.heap.size := by omega
  clear hm1
  have hmm := HMM.out
  go_wp2_with fail
  rw [← HM1.out]
  clear c2 hbl q1 q2 bx1 hB1
  go_loopw [27] (fun i wr => ∃ k : Nat, k ≤ pl.length ∧ i = .int .i64 k ∧ BoxAt wr w.heap.size #[.int .i64 Pn, .int .i64 S, .slice pa pl.length pc, .slice ca cl.length cc] 93 ∧ IMapAt Try.prog 3 wr m1 (plM pl k) ∧ Below w.heap.size w wr) (fun i _ => pl.length - (intOf i).toNat)
  case atStart => exact ⟨0, Nat.zero_le _, rfl, bx2, hM0, hB2⟩
  case round =>
    obtain ⟨k, hk, rfl, bx, hM, hB⟩ := hrel
    clear bx2 hM0 hB2
    by_cases hkl : k < pl.length
    · have hkI : (k : Int) < (pl.length : Int) := by omega
      obtain ⟨ad, rfl, had, s0⟩ := (hp.below hB).int hkl
      obtain ⟨x, ex⟩ : ∃ x, x = pl[k] := ⟨_, rfl⟩
      rw [← ex] at s0
      have HWX : Hid (OkI x) := Lib.hid (HWP.out x (by rw [ex]; exact List.getElem_mem hkl))
      obtain ⟨cn, hcn⟩ : ∃ c : Nat, (pl.take k).count x = c := ⟨_, rfl⟩
      have hcn45 : cn ≤ 45 := by rw [← hcn]; exact Nat.le_trans List.count_le_length (by rw [List.length_take]; omega)
      have HCN := Lib.hid hcn
      have HPX : Hid (plM pl k ++ [(x, .int .i64 ((cn : Int) + 1))] = plM pl (k + 1)) := Lib.hid (by
        have h1 : pl.getD k 0 = x := by rw [getD_in 0 hkl, ← ex]
        have h2 : (pl.take (k + 1)).count x = cn + 1 := by rw [List.take_succ_eq_append_getElem hkl, List.count_append, ← ex, List.count_singleton_self, hcn]
        show _ = plM pl k ++ [(pl.getD k 0, .int .i64 ((pl.take (k + 1)).count (pl.getD k 0) : Nat))]
        rw [h1, h2]; push_cast; rfl)
      clear ex hcn
      go_wp2_with (first | (at_lookup; refine wpList_imapAt _ rfl _ _ 160 rfl 3 3 Try.underlying3 Try.underlying160 (.int .i64 0) zInt m1 (plM pl k) rfl hM (x) rfl HWX.out ?_; rw [plM_get x (Nat.le_of_lt hkl), HCN.out]) | (at_mapUpdate; refine wpList_imapPut _ rfl _ _ _ 160 rfl 3 3 Try.underlying3 Try.underlying160 m1 (plM pl k) rfl hM (by rw [plM_len]; unfold maxLen; omega) (x) (.int .i64 ((cn : Int) + 1)) rfl rfl HWX.out ?_; intro wq hMq hgq))
      rw [HPX.out] at hMq
      have bxq := bx.grown hgq (fun e => by have := Option.some.inj e; omega)
      have hBq := hB.grown hgq hB.size (fun q e => by have := Option.some.inj e; omega)
      go_wp2_with fail
      go_roundw
      case rel => exact ⟨k + 1, by omega, by go_num, bxq, hMq, hBq⟩
      case measure => simp [intOf]; omega
    · have hkL : k = pl.length := by omega
      have hkI : ¬ (k : Int) < (pl.length : Int) := by omega
      rw [hkL] at hM
      clear hkL
      obtain ⟨m2, hm2⟩ : ∃ m, m = wr.heap.size := ⟨_, rfl⟩
      have hN0 : IMapAt Try.prog 3 (wr.alloc (.map #[] 0)) m2 (clM cl 0) := by rw [hm2]; exact IMapAt.made wr _ _
      have hM2 := hM.alloc (.map #[] 0)
      have bx2 := bx.alloc (.map #[] 0)
      have hB2 := hB.alloc hB.size (.map #[] 0)
      have hm12 : m1 < m2 := by rw [hm2]; exact hM.lt
      have c3 := bx.cell 3
      have hbl := bx.lt
      simp at c3
      have q1 : ¬ w.heap.size = wr.heap.size := by omega
      have q2 : ¬ wr.heap.size = w.heap.size := by omega
      have HM2 := Lib.hid hm2
      clear hm2
      go_wp2_with fail
      rw [← HM2.out]
      clear c3 hbl q1 q2 bx hM hB
      go_loopw [40] (fun i wr => ∃ k : Nat, k ≤ cl.length ∧ i = .int .i64 k ∧ BoxAt wr w.heap.size #[.int .i64 Pn, .int .i64 S, .slice pa pl.length pc, .slice ca cl.length cc] 93 ∧ IMapAt Try.prog 3 wr m1 (plM pl pl.length) ∧ IMapAt Try.prog 3 wr m2 (clM cl k) ∧ Below w.heap.size w wr) (fun i _ => cl.length - (intOf i).toNat)
      case atStart => exact ⟨0, Nat.zero_le _, rfl, bx2, hM2, hN0, hB2⟩
      case round =>
        obtain ⟨k, hk, rfl, bx, hM, hN, hB⟩ := hrel
        clear bx2 hM2 hN0 hB2
        by_cases hkl : k < cl.length
        · have hkI : (k : Int) < (cl.length : Int) := by omega
          obtain ⟨ad, rfl, had, s0⟩ := (hc.below hB).int hkl
          obtain ⟨x, ex⟩ : ∃ x, x = cl[k] := ⟨_, rfl⟩
          rw [← ex] at s0
          have HWX : Hid (OkI x) := Lib.hid (HWC.out x (by rw [ex]; exact List.getElem_mem hkl))
          have HPX : Hid (clM cl k ++ [(x, .bool true)] = clM cl (k + 1)) := Lib.hid (by rw [ex]; exact clM_succ hkl)
          clear ex
          go_wp2_with (first | (at_mapUpdate; refine wpList_imapPut _ rfl _ _ _ 161 rfl 3 4 Try.underlying3 Try.underlying161 m2 (clM cl k) rfl hN (by rw [clM_len hk]; unfold maxLen; omega) (x) (.bool true) rfl rfl HWX.out ?_; intro wq hMq hgq))
          rw [HPX.out] at hMq
          have bxq := bx.grown hgq (fun e => by have := Option.some.inj e; omega)
          have hBq := hB.grown hgq hB.size (fun q e => by have := Option.some.inj e; omega)
          have hM1q := hM.kept hgq (fun e => by have := Option.some.inj e; omega)
          go_wp2_with fail
          go_roundw
          case rel => exact ⟨k + 1, by omega, by go_num, bxq, hM1q, hMq, hBq⟩
          case measure => simp [intOf]; omega
        · have hkL : k = cl.length := by omega
          have hkI : ¬ (k : Int) < (cl.length : Int) := by omega
          rw [hkL] at hN
          clear hkL
          obtain ⟨w5, hw5⟩ : ∃ w5, w5 = wr := ⟨_, rfl⟩
          rw [← hw5] at bx hM hN hB
          rw [← hw5]
          clear hw5
          obtain ⟨c0n, hc0⟩ : ∃ c : Nat, (pl.take pl.length).count 0 = c := ⟨_, rfl⟩
          have hc045 : c0n ≤ 45 := by rw [← hc0]; exact Nat.le_trans List.count_le_length (by rw [List.length_take]; omega)
          have HC0 := Lib.hid hc0
          have HW0 : Hid (OkI 0) := Lib.hid (by decide : (Lit.int .i64 0).wf = true)
          have H1T : Hid ([] ++ List.replicate c0n (-1) = bdTo pl cl (0 + 1)) := Lib.hid (by
            rw [← bdTo_succ, ← hc0]; simp [bdTo, bdHd, bdPl])
          clear hc0
          go_wp2_with (first | (at_lookup; refine wpList_imapAt _ rfl _ _ 160 rfl 3 3 Try.underlying3 Try.underlying160 (.int .i64 0) zInt m1 (plM pl pl.length) rfl hM (0) rfl HW0.out ?_; rw [plM_get _ (Nat.le_refl _), HC0.out]))
          refine (addPlates_any (.slice none 0 0) [] c0n w5.heap.size _ (OwnR.nil _ _) (by simp) (by omega) (Nat.le_refl _)).mono ?_
          rintro e w6 ⟨v6, rfl, hO6, hb6⟩
          rw [H1T.out] at hO6
          have bx6 := bx.below hb6
          have c0 := bx6.cell 0
          simp at c0
          have hm1l := hM.lt; have hm2l := hN.lt
          go_wp2_with fail
          go_loopw [12, 52] (fun v i wq => ∃ k : Nat, k ≤ Pn ∧ i = .int .i64 k ∧ OwnR 1 3 intL wq w5.heap.size v (bdTo pl cl (k + 1)) ∧ Below w5.heap.size w5 wq) (fun _ i _ => Pn - (intOf i).toNat)
          case atStart => exact ⟨0, Nat.zero_le _, rfl, hO6, hb6⟩
          case round =>
            obtain ⟨k, hk, rfl, hO, hBk⟩ := hrel
            clear hO6 hb6 bx6 c0
            have hsz := hBk.size
            obtain ⟨X, hX⟩ : ∃ X, bdTo pl cl (k + 1) = X := ⟨_, rfl⟩
            have HXL : Hid (X.length ≤ 300000) := Lib.hid (by
              rw [← hX]; have h1 := bdTo_len pl cl (k + 1)
              have h2 : (k + 1) * (1 + pl.length) ≤ 4001 * 46 := Nat.mul_le_mul (by omega) (by omega)
              omega)
            rw [hX] at hO
            have HXX := Lib.hid hX
            clear hX
            obtain ⟨va, vc, ev, hrow, -, -, -, -⟩ := hO.rows int_l
            have HEV := Lib.hid ev; clear ev
            by_cases hkl : k < Pn
            · have hkI : (k : Int) < (Pn : Int) := by omega
              obtain ⟨y, hy⟩ : ∃ y : Int, (k : Int) + 1 = y := ⟨_, rfl⟩
              have hMr := hM.below hBk; have hNr := hN.below hBk
              obtain ⟨cn, hcn⟩ : ∃ c : Nat, (pl.take pl.length).count y = c := ⟨_, rfl⟩
              have hcn45 : cn ≤ 45 := by rw [← hcn]; exact Nat.le_trans List.count_le_length (by rw [List.length_take]; omega)
              have HCN := Lib.hid hcn
              have HWK : Hid (OkI y) := Lib.hid (by rw [← hy]; exact WalkArith.wf_i64 (by omega))
              have hpc : (((k + 1 : Nat)) : Int) = y := by rw [← hy]; push_cast; rfl
              have HY := Lib.hid hy
              clear hy
              cases hh : hasB (cl.take cl.length) y
              · have HXS : Hid (X ++ [y] ++ List.replicate cn (-1) = bdTo pl cl (k + 1 + 1)) := Lib.hid (by
                  rw [← bdTo_succ, HXX.out]
                  unfold bdHd bdPl
                  rw [List.take_length] at hh
                  rw [if_neg (by omega), hpc, hh, hcn, List.append_assoc]; rfl)
                clear hcn hpc
                clear hmm hrow hB bx hM hN
                go_upto_region 21 with fail
                rw [HY.out]
                go_wp2_with (first | (at_lookup; refine wpList_imapAt _ rfl _ _ 161 rfl 3 4 Try.underlying3 Try.underlying161 (.bool false) zBool m2 (clM cl cl.length) rfl hNr (y) rfl HWK.out ?_; rw [clM_get _ (Nat.le_refl _), hh]) | (at_builtin; refine wpList_appX tInt int_l _ (y) _ rfl rfl _ _ rfl w5.heap.size _ X rfl hO rfl (by have := HXL.out; omega) (by omega) ?_; intro gg cg wg hOg hgg hBg; have hMg := hMr.kept hgg (fun e => by have := (hO.lt m1 e.symm).1; omega)) | (at_lookup; refine wpList_imapAt _ rfl _ _ 160 rfl 3 3 Try.underlying3 Try.underlying160 (.int .i64 0) zInt m1 (plM pl pl.length) rfl hMg (y) rfl HWK.out ?_; rw [plM_get _ (Nat.le_refl _), HCN.out]))
                refine (addPlates_any _ _ cn w5.heap.size _ hOg (by rw [List.length_append]; have := HXL.out; simp; omega) (by omega) (by have := hBg.size; omega)).mono ?_
                rintro e wz ⟨vz, rfl, hOz, hbz⟩
                rw [HXS.out] at hOz
                go_wp2_with fail
                go_roundw
                case rel => exact ⟨k + 1, by omega, by go_num, hOz, (hBk.trans hBg).trans hbz⟩
                case measure => simp [intOf]; omega
              · have HXS : Hid (X ++ [(0 : Int)] ++ List.replicate cn (-1) = bdTo pl cl (k + 1 + 1)) := Lib.hid (by
                  rw [← bdTo_succ, HXX.out]
                  unfold bdHd bdPl
                  rw [List.take_length] at hh
                  rw [if_neg (by omega), hpc, hh, hcn, List.append_assoc]; rfl)
                clear hcn hpc
                clear hmm hrow hB bx hM hN
                go_upto_region 21 with fail
                rw [HY.out]
                go_wp2_with (first | (at_lookup; refine wpList_imapAt _ rfl _ _ 161 rfl 3 4 Try.underlying3 Try.underlying161 (.bool false) zBool m2 (clM cl cl.length) rfl hNr (y) rfl HWK.out ?_; rw [clM_get _ (Nat.le_refl _), hh]) | (at_builtin; refine wpList_appX tInt int_l _ (0) _ rfl rfl _ _ rfl w5.heap.size _ X rfl hO rfl (by have := HXL.out; omega) (by omega) ?_; intro gg cg wg hOg hgg hBg; have hMg := hMr.kept hgg (fun e => by have := (hO.lt m1 e.symm).1; omega)) | (at_lookup; refine wpList_imapAt _ rfl _ _ 160 rfl 3 3 Try.underlying3 Try.underlying160 (.int .i64 0) zInt m1 (plM pl pl.length) rfl hMg (y) rfl HWK.out ?_; rw [plM_get _ (Nat.le_refl _), HCN.out]))
                refine (addPlates_any _ _ cn w5.heap.size _ hOg (by rw [List.length_append]; have := HXL.out; simp; omega) (by omega) (by have := hBg.size; omega)).mono ?_
                rintro e wz ⟨vz, rfl, hOz, hbz⟩
                rw [HXS.out] at hOz
                go_wp2_with fail
                go_roundw
                case rel => exact ⟨k + 1, by omega, by go_num, hOz, (hBk.trans hBg).trans hbz⟩
                case measure => simp [intOf]; omega
            · have hkE : k = Pn := by omega
              have hkI : ¬ (k : Int) < (Pn : Int) := by omega
              have HXE : Hid (X = bdV Pn S pl cl) := Lib.hid (by rw [HV.out, ← HXX.out, hkE])
              obtain ⟨m, hm⟩ : ∃ n, n = X.length := ⟨_, rfl⟩
              have HEV2 := HEV.out
              rw [← hm] at HEV2
              subst HEV2
              have HM := Lib.hid hm
              clear hm hkE HEV
              go_wp2_with fail
              go_ret2
              exact ⟨va, m, vc, rfl, by rw [← HXE.out]; exact HM.out, by rw [← HXE.out]; exact hrow, hB.trans (hBk.mono (B' := w.heap.size) hB.size)⟩
end Go.Proofs.Ytjkjfmahcjcniaa
