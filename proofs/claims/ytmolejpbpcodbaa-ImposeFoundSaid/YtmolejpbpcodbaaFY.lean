/-
  Package impose: mayBeRead.
-/
import Derived.Test.YtmolejpbpcodbaaFX
import Derived.Test.YtmolejpbpcodbaaRM
namespace Go.Proofs.Ytmolejpbpcodbaa
open Go.RowKit

theorem pg_getD {c0 : Int} {S : List Cell} {l : List Leaf} {M : List Page} (h : M = rdTo c0 S l l.length) {i : Nat} (hi : i < M.length) : (pgs c0 S l).getD i 0 = M[i].p := by
  have e : pgs c0 S l = M.map (·.p) := by rw [h, rdTo_all]; try rfl
  rw [e, getD_in 0 (by rw [List.length_map]; exact hi), List.getElem_map]
theorem mayL_iff {l : List Int} : mayL l = true ↔ (l.getD 1 0 - l.getD 0 0 = 1 ∨ l.getD 1 0 - l.getD 0 0 = -1) ∧ ∀ i, i < l.length → l.getD i 0 = l.getD 0 0 + (i : Int) * (l.getD 1 0 - l.getD 0 0) := by
  unfold mayL; rw [decide_eq_true_eq]
theorem all_split {P : List (List Leaf)} {q : List Leaf → Bool} {k : Nat} (hk : k < P.length) (h2 : q P[k] = false) : P.all q = false := by
  rw [List.all_eq_false]; exact ⟨_, List.getElem_mem hk, by rw [h2]; simp⟩
theorem all_end {P : List (List Leaf)} {q : List Leaf → Bool} (h1 : ∀ j, (hj : j < P.length) → q P[j] = true) : P.all q = true := by
  rw [List.all_eq_true]; intro l hl
  obtain ⟨j, hj, rfl⟩ := List.getElem_of_mem hl
  exact h1 j hj
/-- What stays throughout. -/
structure MyEnv (w : World) (C R : Nat) (A : Option Addr) (pn cA : Nat) (b : Option Addr) (m d : Nat) (c0 r0 : Nat) (a : Option Addr) (n c : Nat) (wr : World) : Prop where
  bx : BoxAt wr w.heap.size #[.int .i64 C, .int .i64 R, .slice A pn cA, .slice b m d] 74
  bs : BoxAt wr (w.heap.size + 1) #[.int .i64 c0, .int .i64 r0, .slice a n c] 24
  low : Below w.heap.size w wr
theorem MyEnv.below {w : World} {C R : Nat} {A : Option Addr} {pn cA : Nat} {b : Option Addr} {m d c0 r0 : Nat} {a : Option Addr} {n c : Nat} {wr w1 : World} (h : MyEnv w C R A pn cA b m d c0 r0 a n c wr) (hb : Below wr.heap.size wr w1) : MyEnv w C R A pn cA b m d c0 r0 a n c w1 :=
  ⟨h.bx.below hb, h.bs.below hb, h.low.trans (hb.mono h.low.size)⟩
theorem MyEnv.drewN {w : World} {C R : Nat} {A : Option Addr} {pn cA : Nat} {b : Option Addr} {m d c0 r0 : Nat} {a : Option Addr} {n c : Nat} {wr : World} (h : MyEnv w C R A pn cA b m d c0 r0 a n c wr) (q : Nat) : MyEnv w C R A pn cA b m d c0 r0 a n c (wr.drewN q) := h.below (below_drewN (Below.refl _ _) q)
theorem pg_two {c0 : Int} {S : List Cell} {l : List Leaf} (hl : 0 < l.length) : 2 ≤ (rdTo c0 S l l.length).length := by rw [rdTo_len (Nat.le_refl _)]; omega
theorem rd_page {c0 : Nat} {S : List Cell} (hS : ∀ x ∈ S, -1000 ≤ x.f ∧ x.f ≤ 1000 ∧ -1000 ≤ x.b ∧ x.b ≤ 1000) {l : List Leaf} {y : Page} (hy : y ∈ rdTo c0 S l l.length) : -1000 ≤ y.p ∧ y.p ≤ 1000 := by
  rw [rdTo_all] at hy
  obtain ⟨z, _, hz⟩ := List.mem_flatMap.1 hy
  have hc : -1000 ≤ (cellAt c0 S z).f ∧ (cellAt c0 S z).f ≤ 1000 ∧ -1000 ≤ (cellAt c0 S z).b ∧ (cellAt c0 S z).b ≤ 1000 := by
    unfold cellAt
    rw [List.getD_eq_getElem?_getD]
    cases e : S[(z.r * (c0 : Int) + z.c).toNat]? with
    | none => exact ⟨by decide, by decide, by decide, by decide⟩
    | some q => exact hS q (List.mem_of_getElem? e)
  unfold rdP at hz
  split at hz
  · simp at hz; rcases hz with rfl | rfl <;> simp only <;> omega
  · simp at hz; rcases hz with rfl | rfl <;> simp only <;> omega
set_option maxRecDepth 100000 in
set_option maxHeartbeats 8000000 in
theorem mayBe_fs (C R : Nat) (A : Option Addr) (pn cA : Nat) (Ps : List PS) (b : Option Addr) (m d : Nat) (L : List Fold) (c0 r0 : Nat) (a : Option Addr) (S : List Cell) (n c : Nat) (w : World) (hx : FRow w ⟨C, R, A, pn, cA, Ps, b, m, d, L⟩) (hok : NOk c0 r0 ⟨C, R, Ps.map (·.l), L⟩) (hS : ScR c0 r0 S n) (hSp : ∀ x ∈ S, -1000 ≤ x.f ∧ x.f ≤ 1000 ∧ -1000 ≤ x.b ∧ x.b ≤ 1000) (ha : RowsAt 4 Cell.l w a S) :
    Calls Try.prog 27 #[.agg #[.int .i64 C, .int .i64 R, .slice A pn cA, .slice b m d], .agg #[.int .i64 c0, .int .i64 r0, .slice a n c]] w fun e w' => e = .returned (.bool (mayN c0 S ⟨C, R, Ps.map (·.l), L⟩)) ∧ Below w.heap.size w w' := by
  obtain ⟨w0, hw0⟩ : ∃ w0, w0 = (w.alloc (.cells #[.int .i64 C, .int .i64 R, .slice A pn cA, .slice b m d] 74)).alloc (.cells #[.int .i64 c0, .int .i64 r0, .slice a n c] 24) := ⟨_, rfl⟩
  have E0 : MyEnv w C R A pn cA b m d c0 r0 a n c w0 := by
    rw [hw0]
    exact ⟨(BoxAt.new w _ _).alloc _, box_at (by simp), ((Below.refl w.heap.size w).alloc (Nat.le_refl _) _).alloc (by simp) _⟩
  have W0 := Lib.hid hw0; have HOK := Lib.hid hok; have HS := Lib.hid hS; have HSP := Lib.hid hSp
  have hpl := hx.pl
  have HN : Hid (pn = Ps.length) := Lib.hid hx.n
  have hpl : PlacesAt w A Ps := hpl
  have hpn : pn ≤ 64 := by
    have h1 : Ps.length = C * R := by have := hok.pile.len; rw [List.length_map] at this; exact this
    have h2 : C * R ≤ 8 * 8 := Nat.mul_le_mul hok.hC.2 hok.hR.2
    have h3 : pn = Ps.length := hx.n
    omega
  obtain ⟨bC, hbC⟩ : ∃ v, v = mayN c0 S ⟨C, R, Ps.map (·.l), L⟩ := ⟨_, rfl⟩
  have HB := Lib.hid hbC
  rw [← hbC]
  clear hw0 hx hok hS hSp hbC
  go_enter Try.func27, Try.ntmps27
  go_wp2
  rw [← W0.out]
  have c2 := E0.bx.cell 2
  simp at c2
  go_wp2_with fail
  clear c2
  go_loopw [15] (fun i wr => ∃ k : Nat, k ≤ pn ∧ i = .int .i64 k ∧ MyEnv w C R A pn cA b m d c0 r0 a n c wr ∧ Hid (∀ j, (hj : j < (Ps.map (·.l)).length) → j < k → mayL (pgs c0 S (Ps.map (·.l))[j]) = true)) (fun i _ => pn - (intOf i).toNat)
  case atStart => exact ⟨0, Nat.zero_le _, rfl, E0, Lib.hid (fun j _ h => by omega)⟩
  case round =>
    obtain ⟨k, hk, rfl, E, HA⟩ := hrel
    clear E0
    by_cases hlt : k < pn
    · have hkI : (k : Int) < (pn : Int) := by omega
      have hkP : k < Ps.length := by rw [← HN.out]; exact hlt
      obtain ⟨ad, rfl, had, hcell, hrow, hnil⟩ := (hpl.below E.low) k hkP
      obtain ⟨y, ey⟩ : ∃ y, y = Ps[k] := ⟨_, rfl⟩
      have hkm : k < (Ps.map (·.l)).length := by rw [List.length_map]; exact hkP
      have hyl : (Ps.map (·.l))[k] = y.l := by rw [List.getElem_map, ey]
      have hmem : y.l ∈ Ps.map (·.l) := by rw [← hyl]; exact List.getElem_mem hkm
      have HIN : Hid (∀ z ∈ y.l, LeafIn c0 r0 z) := Lib.hid (fun z hz => HOK.out.inn _ hmem z hz)
      have HLEN : Hid (0 < y.l.length ∧ y.l.length ≤ 1000) := Lib.hid ⟨HOK.out.pile.pos _ hmem, Nat.le_trans (sumL_mem hmem) HOK.out.pile.sum⟩
      rw [← ey] at hcell hrow hnil
      obtain ⟨ya, yc, yl⟩ := y
      unfold PS.sl at hcell
      simp only at hcell hrow
      have HYL : Hid ((Ps.map (·.l))[k] = yl) := Lib.hid hyl
      obtain ⟨yn, hyn⟩ : ∃ yn, yn = yl.length := ⟨_, rfl⟩
      rw [← hyn] at hcell
      have HYN := Lib.hid hyn
      simp only at HIN HLEN
      have s0 := E.bs.cell 0; have s1 := E.bs.cell 1; have s2 := E.bs.cell 2
      have hal := ha.below E.low
      simp at s0 s1 s2
      clear ey hyl hmem hyn hnil
      go_wp2_with fail
      refine (pagesOf_any c0 r0 a S n c ya yl yn yc _ HS.out.hC HS.out.hR HS.out.hn HS.out.hl hal HS.out.hb HYN.out hrow HIN.out HLEN.out.2).mono ?_
      rintro e w3 ⟨ra, rn, rc, rfl, hrn, hrr, -, hb3⟩
      obtain ⟨M, hM⟩ : ∃ M, M = rdTo c0 S yl yl.length := ⟨_, rfl⟩
      have HM := Lib.hid hM
      rw [← hM] at hrn hrr
      have hM2 : 2 ≤ M.length ∧ M.length ≤ 2000 := by rw [hM, rdTo_len (Nat.le_refl _)]; have := HLEN.out; omega
      have E3 := E.below hb3
      have HRN := Lib.hid hrn
      have hrn2 : 2 ≤ rn ∧ rn ≤ 2000 := by omega
      have HPB : Hid (∀ y ∈ M, -1000 ≤ y.p ∧ y.p ≤ 1000) := Lib.hid (fun y hy => rd_page HSP.out (by rw [← HM.out]; exact hy))
      obtain ⟨pd, rfl, hpd, x0, -⟩ := hrr.page (k := 0) (by omega)
      obtain ⟨_, e1, -, y0, -⟩ := hrr.page (k := 1) (by omega)
      cases e1
      obtain ⟨p0, hp0⟩ : ∃ p, p = M[0].p := ⟨_, rfl⟩
      obtain ⟨p1, hp1⟩ : ∃ p, p = M[1].p := ⟨_, rfl⟩
      rw [← hp0] at x0; rw [← hp1] at y0
      have hpb0 : -1000 ≤ p0 ∧ p0 ≤ 1000 := by rw [hp0]; exact HPB.out _ (List.getElem_mem (by omega))
      have hpb1 : -1000 ≤ p1 ∧ p1 ≤ 1000 := by rw [hp1]; exact HPB.out _ (List.getElem_mem (by omega))
      have HP0 : Hid ((pgs c0 S yl).getD 0 0 = p0) := Lib.hid (by rw [hp0]; exact pg_getD hM _)
      have HP1 : Hid ((pgs c0 S yl).getD 1 0 = p1) := Lib.hid (by rw [hp1]; exact pg_getD hM _)
      obtain ⟨l1, l2⟩ := hpb0; obtain ⟨l3, l4⟩ := hpb1
      obtain ⟨r1, r2⟩ := hrn2
      have i0 : (0 : Int) < (rn : Int) := by omega
      have i1 : (1 : Int) < (rn : Int) := by omega
      rw [Nat.zero_mul, show pd.add 0 = pd by unfold Addr.add; rw [if_pos rfl]] at x0
      rw [Nat.one_mul, show pd.add 2 = ⟨pd.block, pd.off + 2, none⟩ by unfold Addr.add; rw [if_neg (by decide)]] at y0
      clear hM hrn hM2 hb3 E s0 s1 s2 hcell hrow hal hp0 hp1 had
      go_wp2_with fail
      go_quiet (fail)
      have E5 := E3.drewN nq
      have hrr5 := hrr.drewN nq
      have hpd5 : pd.block < (w3.drewN nq).heap.size := hpd
      have x5 : (w3.drewN nq).cell? pd = some (.int .i64 p0) := x0
      obtain ⟨w5, hw5⟩ : ∃ w5, w5 = w3.drewN nq := ⟨_, rfl⟩
      rw [← hw5] at E5 hrr5 hpd5 x5 ⊢
      obtain ⟨st, hst⟩ : ∃ st, st = p1 - p0 := ⟨_, rfl⟩
      have hsb : -2000 ≤ st ∧ st ≤ 2000 := by omega
      have HST : Hid ((pgs c0 S yl).getD 1 0 - (pgs c0 S yl).getD 0 0 = st) := Lib.hid (by rw [HP0.out, HP1.out, hst])
      rw [← hst]
      obtain ⟨l5, l6⟩ := hsb
      clear hw5 hst E3 hrr hpd x0 y0 i1 l3 l4
      by_cases hs : st = 1 ∨ st = -1
      · have hrr6 := hrr5
        obtain ⟨PG, hPG⟩ : ∃ l, l = pgs c0 S yl := ⟨_, rfl⟩
        have HPG := Lib.hid hPG
        rw [← hPG] at HST HP0 HP1
        have HPI : Hid (∀ i, (hi : i < M.length) → PG.getD i 0 = M[i].p) := Lib.hid (fun i hi => by rw [HPG.out]; exact pg_getD HM.out hi)
        have HPL : Hid (PG.length = rn) := Lib.hid (by
          rw [HPG.out, HRN.out, HM.out, rdTo_all]; unfold pgs; rw [List.length_map])
        clear hPG hrr6
        rcases hs with rfl | rfl
        · go_wp2_with fail
          go_loopw [39] (fun i wr => ∃ i' : Nat, i' ≤ rn ∧ i = .int .i64 i' ∧ MyEnv w C R (some ad) pn cA b m d c0 r0 a n c wr ∧ Below w5.heap.size w5 wr ∧ Hid (∀ j, j < i' → PG.getD j 0 = p0 + (j : Int) * (1))) (fun i _ => rn - (intOf i).toNat)
          case atStart => exact ⟨0, Nat.zero_le _, rfl, E5, Below.refl _ _, Lib.hid (fun j h => by omega)⟩
          case round =>
            obtain ⟨i', hi', rfl, E6, hb6, HI⟩ := hrel
            clear E5 x5
            by_cases hil : i' < rn
            · have hiI : (i' : Int) < (rn : Int) := by omega
              have hiM : i' < M.length := by rw [← HRN.out]; exact hil
              obtain ⟨_, e1, hpd6, z0, z1⟩ := (hrr5.below hb6).page hiM
              cases e1
              obtain ⟨z, hz⟩ : ∃ z, z = M[i'] := ⟨_, rfl⟩
              rw [← hz] at z0 z1
              have HZ : Hid (PG.getD i' 0 = z.p) := Lib.hid (by rw [HPI.out i' hiM, hz])
              obtain ⟨zp, zt⟩ := z
              simp only at z0 z1 HZ
              obtain ⟨_, e1, -, x6, -⟩ := (hrr5.below hb6).page (k := 0) (by omega)
              cases e1
              have HX6 : M[0].p = p0 := by rw [← HPI.out 0 (by omega)]; exact HP0.out
              rw [HX6, Nat.zero_mul, show pd.add 0 = pd by unfold Addr.add; rw [if_pos rfl]] at x6
              clear HX6 hz
              have hi2 : i' ≤ 2000 := by omega
              by_cases hv : zp = p0 + (i' : Int)
              · have HV := Lib.hid hv
                subst hv
                go_wp2_with fail
                go_quiet (fail)
                go_wp2_with fail
                go_roundw
                case rel =>
                  refine ⟨i' + 1, by omega, by go_num, (E6.below ((Below.refl _ _).alloc (Nat.le_refl _) _)).drewN _, below_drewN (hb6.alloc hb6.size _) _, Lib.hid (fun j hj => ?_)⟩
                  by_cases hj2 : j = i'
                  · subst hj2; rw [HZ.out]; show _ = p0 + (j : Int) * (1); omega
                  · exact HI.out j (by omega)
                case measure => simp [intOf]; omega
              · have HF : Hid (bC = false) := Lib.hid (by
                  rw [HB.out]
                  refine all_split (P := Ps.map (·.l)) (k := k) (by rw [List.length_map]; exact hkP) ?_
                  rw [HYL.out, Bool.eq_false_iff]
                  intro h
                  have h2 := (mayL_iff.1 h).2 i' (by rw [← HPG.out, HPL.out]; exact hil)
                  rw [← HPG.out, HST.out, HP0.out, HZ.out] at h2
                  omega)
                have d1 : (zp == p0 + (i' : Int)) = false := by simp; omega
                have d2 : (zp != p0 + (i' : Int)) = true := by simp; omega
                go_wp2_with fail
                go_quiet (fail)
                go_wp2_with fail
                go_ret
                exact ⟨ret_bool HF.out.symm, below_drewN (E6.low.alloc E6.low.size _) _⟩
            · have HF : Hid (mayL (pgs c0 S yl) = true) := Lib.hid (by
                rw [← HPG.out]
                refine mayL_iff.2 ⟨by rw [HST.out]; decide, fun j hj => ?_⟩
                rw [HST.out, HP0.out]
                exact HI.out j (by have := HPL.out; omega))
              have hiI : ¬ (i' : Int) < (rn : Int) := by omega
              go_wp2_with fail
              go_roundw
              case rel =>
                refine ⟨k + 1, by omega, by go_num, E6, Lib.hid (fun j hj hjk => ?_)⟩
                by_cases hjk2 : j = k
                · subst hjk2; rw [HYL.out]; exact HF.out
                · exact HA.out j hj (by omega)
              case measure => simp [intOf]; omega
        · go_wp2_with fail
          go_loopw [39] (fun i wr => ∃ i' : Nat, i' ≤ rn ∧ i = .int .i64 i' ∧ MyEnv w C R (some ad) pn cA b m d c0 r0 a n c wr ∧ Below w5.heap.size w5 wr ∧ Hid (∀ j, j < i' → PG.getD j 0 = p0 + (j : Int) * (-1))) (fun i _ => rn - (intOf i).toNat)
          case atStart => exact ⟨0, Nat.zero_le _, rfl, E5, Below.refl _ _, Lib.hid (fun j h => by omega)⟩
          case round =>
            obtain ⟨i', hi', rfl, E6, hb6, HI⟩ := hrel
            clear E5 x5
            by_cases hil : i' < rn
            · have hiI : (i' : Int) < (rn : Int) := by omega
              have hiM : i' < M.length := by rw [← HRN.out]; exact hil
              obtain ⟨_, e1, hpd6, z0, z1⟩ := (hrr5.below hb6).page hiM
              cases e1
              obtain ⟨z, hz⟩ : ∃ z, z = M[i'] := ⟨_, rfl⟩
              rw [← hz] at z0 z1
              have HZ : Hid (PG.getD i' 0 = z.p) := Lib.hid (by rw [HPI.out i' hiM, hz])
              obtain ⟨zp, zt⟩ := z
              simp only at z0 z1 HZ
              obtain ⟨_, e1, -, x6, -⟩ := (hrr5.below hb6).page (k := 0) (by omega)
              cases e1
              have HX6 : M[0].p = p0 := by rw [← HPI.out 0 (by omega)]; exact HP0.out
              rw [HX6, Nat.zero_mul, show pd.add 0 = pd by unfold Addr.add; rw [if_pos rfl]] at x6
              clear HX6 hz
              have hi2 : i' ≤ 2000 := by omega
              by_cases hv : zp = p0 + -(i' : Int)
              · have HV := Lib.hid hv
                subst hv
                go_wp2_with fail
                go_quiet (fail)
                go_wp2_with fail
                go_roundw
                case rel =>
                  refine ⟨i' + 1, by omega, by go_num, (E6.below ((Below.refl _ _).alloc (Nat.le_refl _) _)).drewN _, below_drewN (hb6.alloc hb6.size _) _, Lib.hid (fun j hj => ?_)⟩
                  by_cases hj2 : j = i'
                  · subst hj2; rw [HZ.out]; show _ = p0 + (j : Int) * (-1); omega
                  · exact HI.out j (by omega)
                case measure => simp [intOf]; omega
              · have HF : Hid (bC = false) := Lib.hid (by
                  rw [HB.out]
                  refine all_split (P := Ps.map (·.l)) (k := k) (by rw [List.length_map]; exact hkP) ?_
                  rw [HYL.out, Bool.eq_false_iff]
                  intro h
                  have h2 := (mayL_iff.1 h).2 i' (by rw [← HPG.out, HPL.out]; exact hil)
                  rw [← HPG.out, HST.out, HP0.out, HZ.out] at h2
                  omega)
                have d1 : (zp == p0 + -(i' : Int)) = false := by simp; omega
                have d2 : (zp != p0 + -(i' : Int)) = true := by simp; omega
                have d3 : (zp == p0 - ↑i') = false := by simp; omega
                have d4 : (zp != p0 - ↑i') = true := by simp; omega
                go_wp2_with fail
                go_quiet (fail)
                go_wp2_with fail
                go_ret
                exact ⟨ret_bool HF.out.symm, below_drewN (E6.low.alloc E6.low.size _) _⟩
            · have HF : Hid (mayL (pgs c0 S yl) = true) := Lib.hid (by
                rw [← HPG.out]
                refine mayL_iff.2 ⟨by rw [HST.out]; decide, fun j hj => ?_⟩
                rw [HST.out, HP0.out]
                exact HI.out j (by have := HPL.out; omega))
              have hiI : ¬ (i' : Int) < (rn : Int) := by omega
              go_wp2_with fail
              go_roundw
              case rel =>
                refine ⟨k + 1, by omega, by go_num, E6, Lib.hid (fun j hj hjk => ?_)⟩
                by_cases hjk2 : j = k
                · subst hjk2; rw [HYL.out]; exact HF.out
                · exact HA.out j hj (by omega)
              case measure => simp [intOf]; omega
      · have h1 : (st == 1) = false := by simp; omega
        have h2 : (st == -1) = false := by simp; omega
        have h3 : (st != 1) = true := by simp; omega
        have h4 : (st != -1) = true := by simp; omega
        have HF : Hid (bC = false) := Lib.hid (by
          rw [HB.out]
          refine all_split (P := Ps.map (·.l)) (k := k) (by rw [List.length_map]; exact hkP) ?_
          rw [HYL.out, Bool.eq_false_iff]
          intro h
          have := (mayL_iff.1 h).1
          rw [HST.out] at this
          exact hs this)
        go_wp2_with fail
        go_ret
        exact ⟨ret_bool HF.out.symm, E5.low⟩
    · have HF : Hid (bC = true) := Lib.hid (by
        rw [HB.out]
        exact all_end (P := Ps.map (·.l)) (q := fun l => mayL (pgs c0 S l)) (fun j hj => HA.out j hj (by have := HN.out; rw [List.length_map] at hj; omega)))
      have hkI : ¬ (k : Int) < (pn : Int) := by omega
      go_wp2_with fail
      go_ret
      exact ⟨ret_bool HF.out.symm, E.low⟩
theorem mayBe_any (x : FS) (c0 r0 : Nat) (a : Option Addr) (S : List Cell) (n c : Nat) (w : World) (hx : FRow w x) (hok : NOk c0 r0 x.node) (hS : ScR c0 r0 S n) (hSp : ∀ x ∈ S, -1000 ≤ x.f ∧ x.f ≤ 1000 ∧ -1000 ≤ x.b ∧ x.b ≤ 1000) (ha : RowsAt 4 Cell.l w a S) :
    Calls Try.prog 27 #[.agg #[.int .i64 x.C, .int .i64 x.R, .slice x.A x.n x.c, .slice x.b x.m x.d], .agg #[.int .i64 c0, .int .i64 r0, .slice a n c]] w fun e w' => e = .returned (.bool (mayN c0 S x.node)) ∧ Below w.heap.size w w' := by
  obtain ⟨C, R, A, pn, cA, Ps, b, m, d, L⟩ := x
  exact mayBe_fs C R A pn cA Ps b m d L c0 r0 a S n c w hx hok hS hSp ha
end Go.Proofs.Ytmolejpbpcodbaa

namespace Go.Proofs.Ytmolejpbpcodbaa
open Go.RowKit

theorem inOrd_no {M : List Page} {k : Nat} (hk : k < M.length) (h : M[k] ≠ ⟨(k : Int) + 1, 0⟩) : inOrd M = false := by
  unfold inOrd
  refine decide_eq_false fun e => h ?_
  have e2 : M[k] = (ordP M.length)[k]'(by rw [ordP_len]; exact hk) := by congr 1
  rw [e2]; unfold ordP; rw [List.getElem_map, List.getElem_range]
theorem inOrd_yes {M : List Page} (h : ∀ j, (hj : j < M.length) → M[j] = ⟨(j : Int) + 1, 0⟩) : inOrd M = true := by
  unfold inOrd
  refine decide_eq_true (List.ext_getElem (by rw [ordP_len]) fun j h1 h2 => ?_)
  rw [h j h1]; simp [ordP]
set_option maxRecDepth 100000 in
set_option maxHeartbeats 8000000 in
theorem isRead_fs (C R : Nat) (A : Option Addr) (pn cA : Nat) (Ps : List PS) (b : Option Addr) (m d : Nat) (L : List Fold) (c0 r0 : Nat) (a : Option Addr) (S : List Cell) (n c : Nat) (w : World) (hx : FRow w ⟨C, R, A, pn, cA, Ps, b, m, d, L⟩) (hok : NOk c0 r0 ⟨C, R, Ps.map (·.l), L⟩) (hS : ScR c0 r0 S n) (ha : RowsAt 4 Cell.l w a S) :
    Calls Try.prog 28 #[.agg #[.int .i64 C, .int .i64 R, .slice A pn cA, .slice b m d], .agg #[.int .i64 c0, .int .i64 r0, .slice a n c]] w fun e w' => e = .returned (.bool (readB c0 S ⟨C, R, Ps.map (·.l), L⟩)) ∧ Below w.heap.size w w' := by
  obtain ⟨w0, hw0⟩ : ∃ w0, w0 = (w.alloc (.cells #[.int .i64 C, .int .i64 R, .slice A pn cA, .slice b m d] 74)).alloc (.cells #[.int .i64 c0, .int .i64 r0, .slice a n c] 24) := ⟨_, rfl⟩
  have E0 : MyEnv w C R A pn cA b m d c0 r0 a n c w0 := by
    rw [hw0]
    exact ⟨(BoxAt.new w _ _).alloc _, box_at (by simp), ((Below.refl w.heap.size w).alloc (Nat.le_refl _) _).alloc (by simp) _⟩
  have W0 := Lib.hid hw0; have HOK := Lib.hid hok; have HS := Lib.hid hS
  have hpl : PlacesAt w A Ps := hx.pl
  have HN : Hid (pn = Ps.length) := Lib.hid hx.n
  have hm : C * R ≤ 8 * 8 := Nat.mul_le_mul hok.hC.2 hok.hR.2
  have hq1 : 1 * 1 ≤ C * R := Nat.mul_le_mul hok.hC.1 hok.hR.1
  have h8 : C ≤ 8 ∧ R ≤ 8 := ⟨hok.hC.2, hok.hR.2⟩
  have HPL : Hid (Ps.length = C * R) := Lib.hid (by have := hok.pile.len; rw [List.length_map] at this; exact this)
  obtain ⟨q, hq⟩ : ∃ q, C * R = q := ⟨_, rfl⟩
  have HQ := Lib.hid hq
  rw [hq] at hm hq1
  have HQI : Hid ((C : Int) * (R : Int) = (q : Int)) := Lib.hid (by rw [← hq, Int.natCast_mul])
  obtain ⟨bC, hbC⟩ : ∃ v, v = readB c0 S ⟨C, R, Ps.map (·.l), L⟩ := ⟨_, rfl⟩
  have HB := Lib.hid hbC
  rw [← hbC]
  clear hw0 hx hok hS hbC hq
  go_enter Try.func28, Try.ntmps28
  go_wp2_with fail
  rw [← W0.out]
  have c0' := E0.bx.cell 0; have c1' := E0.bx.cell 1
  simp at c0' c1'
  have HCB : Hid (-1000000 ≤ (C : Int) * (R : Int) ∧ (C : Int) * (R : Int) ≤ 1000000) := Lib.hid (by rw [HQI.out]; omega)
  clear h8
  by_cases h1 : 1 < q
  · have hBf : Hid (bC = false) := Lib.hid (by
      rw [HB.out]; unfold readB
      show (decide (C * R = 1) && _) = false
      rw [HQ.out, decide_eq_false (by omega)]; try rfl)
    refine (cells_any _ _ (q : Int) _ HQI.out HCB.out.1 HCB.out.2).mono ?_
    rintro e w1 ⟨rfl, hb1⟩
    have E1 := E0.below hb1
    go_wp2_with fail
    go_ret
    exact ⟨ret_bool hBf.out.symm, E1.low⟩
  · have hq0 : q = 1 := by omega
    subst hq0
    have hp1 : pn = 1 := by rw [HN.out, HPL.out, HQ.out]
    subst hp1
    refine (cells_any _ _ ((1 : Nat) : Int) _ HQI.out HCB.out.1 HCB.out.2).mono ?_
    rintro e w1 ⟨rfl, hb1⟩
    have E1 := E0.below hb1
    clear hb1 E0 c0' c1'
    go_wp2_with fail
    obtain ⟨ad, rfl, had, hcell, hrow, hnil⟩ := (hpl.below E1.low) 0 (by rw [← HN.out]; decide)
    obtain ⟨y, ey⟩ : ∃ y, y = Ps[0]'(by rw [← HN.out]; decide) := ⟨_, rfl⟩
    have hPs : Ps = [y] := by
      obtain ⟨z, hz⟩ := List.length_eq_one_iff.1 HN.out.symm
      subst hz; rw [ey]; try rfl
    rw [← ey] at hcell hrow hnil
    rw [show ad.add 0 = ad by unfold Addr.add; rw [if_pos rfl]] at hcell
    unfold PS.sl at hcell
    have hmem : y.l ∈ Ps.map (·.l) := by rw [hPs]; simp
    have HIN : Hid (∀ z ∈ y.l, LeafIn c0 r0 z) := Lib.hid (fun z hz => HOK.out.inn _ hmem z hz)
    have HLEN : Hid (0 < y.l.length ∧ y.l.length ≤ 1000) := Lib.hid ⟨HOK.out.pile.pos _ hmem, Nat.le_trans (sumL_mem hmem) HOK.out.pile.sum⟩
    have HBE : Hid (bC = inOrd (rdTo c0 S y.l y.l.length)) := Lib.hid (by
      rw [HB.out, rdTo_all]; unfold readB
      show (decide (C * R = 1) && inOrd (((Ps.map (·.l)).getD 0 []).flatMap (rdP c0 S))) = _
      rw [HQ.out, hPs]; simp)
    obtain ⟨ya, yc, yl⟩ := y
    simp only at hcell hrow HIN HLEN HBE
    obtain ⟨yn, hyn⟩ : ∃ yn, yn = yl.length := ⟨_, rfl⟩
    rw [← hyn] at hcell
    have HYN := Lib.hid hyn
    obtain ⟨M, hM⟩ : ∃ M, M = rdTo c0 S yl yl.length := ⟨_, rfl⟩
    have HMD := Lib.hid hM
    rw [← hM] at HBE
    have HML : Hid (M.length ≤ 2000) := Lib.hid (by rw [hM, rdTo_len (Nat.le_refl _)]; have := HLEN.out; omega)
    have hal := ha.below E1.low
    clear hmem hPs ey hM hyn hnil h1
    have b2 := E1.bx.cell 2
    have s0 := E1.bs.cell 0; have s1 := E1.bs.cell 1; have s2 := E1.bs.cell 2
    have hbl := E1.bx.lt; have hsl := E1.bs.lt
    simp at b2 s0 s1 s2
    have hq := (Below.refl w1.heap.size w1).drew
    have j0 := s0; have j1 := s1; have j2 := s2; have j3 := b2; have j4 := hcell
    go_region_held3 (fun w' => w'.cell? ⟨w.heap.size + 1, 0, none⟩ = some (.int .i64 c0) ∧ w'.cell? ⟨w.heap.size + 1, 1, none⟩ = some (.int .i64 r0) ∧ w'.cell? ⟨w.heap.size + 1, 2, none⟩ = some (.slice a n c) ∧ w'.cell? ⟨w.heap.size, 2, none⟩ = some (.slice (some ad) 1 cA) ∧ w'.cell? ad = some (.slice ya yn yc)) (first | exact ⟨j0, j1, j2, j3, j4⟩ | go_keep)
      (first
        | (go_at_call 39; refine (pagesOf_any c0 r0 a S n c ya yl yn yc _ HS.out.hC HS.out.hR HS.out.hn HS.out.hl (hal.below hq) HS.out.hb HYN.out (hrow.below hq) HIN.out HLEN.out.2).mono ?_; rintro e v ⟨ra, rn, rc, rfl, hrn, hrr, -, hbv⟩; rw [← HMD.out] at hrn hrr; have HRN := Lib.hid hrn; clear hrn; have hq := hq.trans (hbv.mono (B' := w1.heap.size) hq.size); have j0 := (hq.cell (p := ⟨w.heap.size + 1, 0, none⟩) hsl).trans s0; have j1 := (hq.cell (p := ⟨w.heap.size + 1, 1, none⟩) hsl).trans s1; have j2 := (hq.cell (p := ⟨w.heap.size + 1, 2, none⟩) hsl).trans s2; have j3 := (hq.cell (p := ⟨w.heap.size, 2, none⟩) hbl).trans b2; have j4 := (hq.cell (p := ad) had).trans hcell))
    have Ev : MyEnv w C R (some ad) 1 cA b m d c0 r0 a n c v := E1.below hq
    have hrn1 : rn ≤ 2000 := by have := HRN.out; have := HML.out; omega
    obtain ⟨vv, hvv⟩ : ∃ vv, vv = v := ⟨_, rfl⟩
    rw [← hvv] at Ev hrr ⊢
    clear hvv hq hbv j0 j1 j2 j3 j4 s0 s1 s2 b2 E1 hcell hrow hal hbl hsl had
    go_wp2_with fail
    go_loopw [20] (fun i wr => ∃ i' : Nat, i' ≤ rn ∧ i = .int .i64 i' ∧ Below w.heap.size w wr ∧ Below vv.heap.size vv wr ∧ Hid (∀ j, (hj : j < M.length) → j < i' → M[j] = ⟨(j : Int) + 1, 0⟩)) (fun i _ => rn - (intOf i).toNat)
    case atStart => exact ⟨0, Nat.zero_le _, rfl, Ev.low, Below.refl _ _, Lib.hid (fun j _ h => by omega)⟩
    case round =>
      obtain ⟨i', hi', rfl, hB6, hb6, HI⟩ := hrel
      clear Ev
      by_cases hil : i' < rn
      · have hiI : (i' : Int) < (rn : Int) := by omega
        have hiM : i' < M.length := by rw [← HRN.out]; exact hil
        obtain ⟨pd, rfl, hpd6, z0, z1⟩ := (hrr.below hb6).page hiM
        obtain ⟨z, hz⟩ : ∃ z, z = M[i'] := ⟨_, rfl⟩
        rw [← hz] at z0 z1
        have HZ := Lib.hid hz
        obtain ⟨zp, zt⟩ := z
        simp only at z0 z1
        clear hz
        by_cases h1 : zp = (i' : Int) + 1
        · subst h1
          by_cases h2 : zt = 0
          · subst h2
            go_wp2_with fail
            go_roundw
            case rel =>
              refine ⟨i' + 1, by omega, by go_num, hB6.alloc hB6.size _, hb6.alloc hb6.size _, Lib.hid (fun j hj hjk => ?_)⟩
              by_cases hjk2 : j = i'
              · subst hjk2; exact HZ.out.symm
              · exact HI.out j hj (by omega)
            case measure => simp [intOf]; omega
          · have HF : Hid (bC = false) := Lib.hid (by rw [HBE.out]; exact inOrd_no hiM (by rw [← HZ.out]; intro e; injection e with _ e; exact h2 e))
            have hd : (zt == 0) = false := by simpa using h2
            have hd2 : (zt != 0) = true := by simpa using h2
            go_wp2_with fail
            go_ret
            exact ⟨ret_bool HF.out.symm, hB6.alloc hB6.size _⟩
        · have HF : Hid (bC = false) := Lib.hid (by rw [HBE.out]; exact inOrd_no hiM (by rw [← HZ.out]; intro e; injection e with e _; exact h1 e))
          have hd : (zp == (i' : Int) + 1) = false := by simpa using h1
          have hd2 : (zp != (i' : Int) + 1) = true := by simpa using h1
          go_wp2_with fail
          go_ret
          exact ⟨ret_bool HF.out.symm, hB6.alloc hB6.size _⟩
      · have hkI : ¬ (i' : Int) < (rn : Int) := by omega
        have HF : Hid (bC = true) := Lib.hid (by
          rw [HBE.out]; exact inOrd_yes fun j hj => HI.out j hj (by have := HRN.out; omega))
        go_wp2_with fail
        go_ret
        exact ⟨ret_bool HF.out.symm, hB6⟩
theorem isRead_any (x : FS) (c0 r0 : Nat) (a : Option Addr) (S : List Cell) (n c : Nat) (w : World) (hx : FRow w x) (hok : NOk c0 r0 x.node) (hS : ScR c0 r0 S n) (ha : RowsAt 4 Cell.l w a S) :
    Calls Try.prog 28 #[.agg #[.int .i64 x.C, .int .i64 x.R, .slice x.A x.n x.c, .slice x.b x.m x.d], .agg #[.int .i64 c0, .int .i64 r0, .slice a n c]] w fun e w' => e = .returned (.bool (readB c0 S x.node)) ∧ Below w.heap.size w w' := by
  obtain ⟨C, R, A, pn, cA, Ps, b, m, d, L⟩ := x
  exact isRead_fs C R A pn cA Ps b m d L c0 r0 a S n c w hx hok hS ha
end Go.Proofs.Ytmolejpbpcodbaa
