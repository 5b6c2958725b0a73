/-
  Package press: pins: InRegister.
-/
import Derived.Test.YtpplcbpnojggcaaGM
import Derived.Test.YtpplcbpnojggcaaGL
namespace Go.Proofs.Ytpplcbpnojggcaa
open Go.RowKit

def agP (d : Pin) (most : Int) : Int := min (agr d.c0 d.c1 most) (min (agr d.r0 d.r1 most) (agr d.t0 d.t1 most))
def rowM (a : Pin) (most : Int) : List Pin → Int
  | [] => 2
  | b :: L => min (agP (offP a b) most) (rowM a most L)
def totM (most : Int) : List Pin → Int
  | [] => 2
  | a :: L => min (rowM a most L) (totM most L)
theorem agP_bd (d : Pin) (most : Int) : 0 ≤ agP d most ∧ agP d most ≤ 2 := by
  have h1 := agr_bd d.c0 d.c1 most; have h2 := agr_bd d.r0 d.r1 most; have h3 := agr_bd d.t0 d.t1 most
  unfold agP; omega
theorem rowM_bd (a : Pin) (most : Int) : ∀ L, 0 ≤ rowM a most L ∧ rowM a most L ≤ 2
  | [] => by unfold rowM; omega
  | b :: L => by
    have h1 := rowM_bd a most L; have h2 := agP_bd (offP a b) most
    unfold rowM; omega
theorem totM_bd (most : Int) : ∀ L, 0 ≤ totM most L ∧ totM most L ≤ 2
  | [] => by unfold totM; omega
  | a :: L => by
    have h1 := totM_bd most L; have h2 := rowM_bd a most L
    unfold totM; omega
theorem rowM_step {a : Pin} {most : Int} {L : List Pin} {k : Nat} (hk : k < L.length) : rowM a most (L.drop k) = min (agP (offP a L[k]) most) (rowM a most (L.drop (k + 1))) := by
  rw [List.drop_eq_getElem_cons hk]; rfl
theorem totM_step {most : Int} {L : List Pin} {k : Nat} (hk : k < L.length) : totM most (L.drop k) = min (rowM L[k] most (L.drop (k + 1))) (totM most (L.drop (k + 1))) := by
  rw [List.drop_eq_getElem_cons hk]; rfl
/-- What was found so far and what is to come. -/
def RegI (ans rest T : Int) : Prop := min ans rest = T ∧ 0 ≤ ans ∧ ans ≤ 2
theorem RegI.low {ans x r T : Int} (h : RegI ans (min x r) T) (h0 : 0 ≤ x) (hx : x < ans) : RegI x r T := by unfold RegI at h ⊢; omega
theorem RegI.high {ans x r T : Int} (h : RegI ans (min x r) T) (hx : ¬ x < ans) : RegI ans r T := by unfold RegI at h ⊢; omega
theorem cut_pins {w : World} {ad : Addr} {L : List Pin} {n c k : Nat} (hr : RowsAt 6 Pin.l w (some ad) L) (hn : n = L.length) (hc : n ≤ c) (hk : k ≤ n) : RowsAt 6 Pin.l w (some (if c = k then ad else ad.add (k * 6))) (L.drop k) := by
  split
  · rw [List.drop_of_length_le (by omega)]; exact RowsAt.nil _ _
  · exact hr.drop k
theorem pinsUnder : Try.prog.underlying 60 = some (.slice (Try.prog.elem 60)) := by kernel_rfl
theorem info_pin : (Try.prog.info? 70).map (fun i => (i.zero, i.size, i.bytes)) = some (some (.agg #[.int .i64 0, .int .i64 0, .int .i64 0, .int .i64 0, .int .i64 0, .int .i64 0]), 6, 48) := by kernel_rfl
theorem pinSize (W : World) : (sizeOf (Try.prog.elem 60)).run Try.prog W = .ok 6 W := by
  obtain ⟨i0, hi0, hz0, hz1, hz2⟩ := info_parts info_pin
  have e : Try.prog.elem 60 = 70 := by kernel_rfl
  rw [e]
  simp [sizeOf, typeInfo, hi0, hz1]
def regErr (L : List Pin) (most : Int) : Int := if pinsErr L ≠ 0 then pinsErr L else if inB most 0 1000000 = false then 2 else 0
def regV (L : List Pin) (most : Int) : Int := if regErr L most = 0 then totM most L else 0
def PairPost2 (x y : Int) (w : World) (e : Ending) (w' : World) : Prop := e = .returned (.tuple #[.int .i64 x, .int .i64 y]) ∧ Below w.heap.size w w'
set_option maxRecDepth 100000 in
set_option maxHeartbeats 4000000 in
theorem inRegister_any (L : List Pin) (a : Option Addr) (n c : Nat) (most : Int) (w : World) (hn : n = L.length) (hnc : n ≤ c) (hr : RowsAt 6 Pin.l w a L) (hl : n ≤ 1000000) :
    Calls Try.prog 42 #[.slice a n c, .int .i64 most] w (PairPost2 (regV L most) (regErr L most) w) := by
  have HCP := Lib.hid (fun W (h : RowsAt 6 Pin.l W a L) => checkPins_any L a n c W hn h hl)
  have HN := Lib.hid hn; have HNC := Lib.hid hnc
  have HR := Lib.hid hr
  have HER := Lib.hid (show regErr L most = if pinsErr L ≠ 0 then pinsErr L else if inB most 0 1000000 = false then 2 else 0 from rfl)
  have HV := Lib.hid (show regV L most = if regErr L most = 0 then totM most L else 0 from rfl)
  have HPO := Lib.hid (fun h => pins_ok (L := L) h)
  have HTB := Lib.hid (totM_bd most)
  have HRB := Lib.hid (fun x => rowM_bd x most)
  obtain ⟨E, hE⟩ : ∃ E, E = regErr L most := ⟨_, rfl⟩
  rw [← hE] at HER HV ⊢
  obtain ⟨X, hX⟩ : ∃ X, X = regV L most := ⟨_, rfl⟩
  rw [← hX] at HV ⊢
  obtain ⟨e0, he0⟩ : ∃ e0, e0 = pinsErr L := ⟨_, rfl⟩
  rw [← he0] at HCP HER HPO
  clear hE hX he0 hr hn hnc
  by_cases h0 : e0 = 0
  · have h0' : (e0 != 0) = false := by simpa using h0
    have HE0 := Lib.hid h0
    obtain ⟨⟨hl1, hl2⟩, hok⟩ := HPO.out h0
    rw [← HN.out] at hl1 hl2
    have HOK := Lib.hid hok
    clear h0 hok
    cases h1 : inB most 0 1000000
    · have HEE : Hid (E = 2) := Lib.hid (by rw [HER.out, if_neg (by rw [HE0.out]; simp), if_pos h1])
      have HXX : Hid (X = 0) := Lib.hid (by rw [HV.out, if_neg (by rw [HEE.out]; decide)])
      go_enter Try.func42, Try.ntmps42
      go_wp2_with (first | (go_at_call 40; refine (HCP.out _ HR.out).mono ?_; rintro e w1 ⟨rfl, hb1⟩; have HB1 := Lib.hid hb1; clear hb1) | (go_at_call 85; refine (isFrom_any _ _ _ _).mono ?_; rintro e w4 ⟨rfl, rfl⟩))
      go_ret2
      exact ⟨two_eq HXX.out.symm HEE.out.symm, HB1.out⟩
    · have HEE : Hid (E = 0) := Lib.hid (by rw [HER.out, if_neg (by rw [HE0.out]; simp), if_neg (by rw [h1]; decide)])
      obtain ⟨T, hT⟩ : ∃ T, T = totM most L := ⟨_, rfl⟩
      have HXX : Hid (X = T) := Lib.hid (by rw [HV.out, if_pos HEE.out, hT])
      have HT0 : Hid (RegI 2 (totM most (L.drop 0)) T) := Lib.hid (by have := totM_bd most L; unfold RegI; rw [List.drop_zero, ← hT] at *; omega)
      have hmo := inB_iff.1 h1
      obtain ⟨hm0, hm1⟩ := hmo
      clear hT
      go_enter Try.func42, Try.ntmps42
      go_wp2_with (first | (go_at_call 40; refine (HCP.out _ HR.out).mono ?_; rintro e w1 ⟨rfl, hb1⟩; have HB1 := Lib.hid hb1; clear hb1) | (go_at_call 85; refine (isFrom_any _ _ _ _).mono ?_; rintro e w4 ⟨rfl, rfl⟩))
      go_loopw [24, 7] (fun i v7 wr => ∃ (k : Nat) (ans : Int), k ≤ n ∧ i = .int .i64 k ∧ v7 = .int .i64 ans ∧ Hid (RegI ans (totM most (L.drop k)) T) ∧ Below w.heap.size w wr) (fun i _ _ => n - (intOf i).toNat)
      case atStart => exact ⟨0, 2, Nat.zero_le _, rfl, rfl, HT0, HB1.out⟩
      case round =>
        obtain ⟨k, ans, hk, rfl, rfl, hg, hB⟩ := hrel
        have HB := Lib.hid hB
        by_cases hlt : k < n
        · have hlt2 : k < L.length := by have := HN.out; omega
          have hlt' : (k : Int) < n := by omega
          have hsz := hB.size
          obtain ⟨ad, rfl, hpl, s0, s1, s2, s3, s4, s5⟩ := (HR.out.below hB).pin hlt2
          have HST := Lib.hid (totM_step (most := most) hlt2)
          have HOA := Lib.hid (HOK.out _ (List.getElem_mem hlt2))
          have hcutR := cut_pins (k := k + 1) HR.out HN.out HNC.out (by omega)
          have hcut : ∀ W, (Instr.sliceAt 60 (.slice (some ad) n c) (some (.int .i64 ((k + 1 : Nat) : Int))) none none).run Try.prog W = .ok (.slice (some (if c = k + 1 then ad else ad.add ((k + 1) * 6))) (n - (k + 1)) (c - (k + 1))) W := fun W => cut_high (P := Try.prog) 60 ad n c (k + 1) pinsUnder 6 pinSize (by omega) W
          obtain ⟨a2, ha2⟩ : ∃ a2, a2 = (if c = k + 1 then ad else ad.add ((k + 1) * 6)) := ⟨_, rfl⟩
          rw [← ha2] at hcutR hcut
          have hcut' : ∀ W, (Instr.sliceAt 60 (.slice (some ad) n c) (some (.int .i64 ((k : Int) + 1))) none none).run Try.prog W = .ok (.slice (some a2) (n - (k + 1)) (c - (k + 1))) W := fun W => by have h := hcut W; rwa [show ((k + 1 : Nat) : Int) = (k : Int) + 1 by omega] at h
          have HCR := Lib.hid hcutR
          obtain ⟨R, hR⟩ : ∃ R, R = L.drop (k + 1) := ⟨_, rfl⟩
          have HRL := Lib.hid (show n - (k + 1) = R.length by rw [hR, List.length_drop, ← HN.out])
          have HRO := Lib.hid (show ∀ p ∈ R, PinOk p from fun p hp => HOK.out p (by rw [hR] at hp; exact List.mem_of_mem_drop hp))
          rw [← hR] at HCR HST
          obtain ⟨n2, hn2⟩ : ∃ n2, n2 = n - (k + 1) := ⟨_, rfl⟩
          obtain ⟨c2, hc2⟩ : ∃ c2, c2 = c - (k + 1) := ⟨_, rfl⟩
          rw [← hn2] at HRL hcut'
          rw [← hc2] at hcut'
          have hn2b : n2 ≤ n := by omega
          obtain ⟨rest, hrest⟩ : ∃ r, r = totM most R := ⟨_, rfl⟩
          have HRE := Lib.hid hrest
          rw [← hrest] at HST
          rw [HST.out] at hg
          obtain ⟨p, hp⟩ : ∃ p, p = L[k] := ⟨_, rfl⟩
          rw [← hp] at s0 s1 s2 s3 s4 s5 HOA HST hg
          have HG := Lib.hid (show RegI ans (min (rowM p most (R.drop 0)) rest) T by rw [List.drop_zero]; exact hg.out)
          obtain ⟨a0, a1, a2', a3, a4, a5⟩ := p
          dsimp only at s0 s1 s2 s3 s4 s5
          have HRW := Lib.hid (hR.symm)
          clear hp hB hcut hcutR ha2 hn2 hc2 hg hrest hR
          go_wp2
          obtain ⟨V, hV⟩ : ∃ V, V = wr.alloc (.cells #[.int .i64 a0, .int .i64 a1, .int .i64 a2', .int .i64 a3, .int .i64 a4, .int .i64 a5] 70) := ⟨_, rfl⟩
          have HBV := Lib.hid (show Below w.heap.size w V by rw [hV]; exact HB.out.alloc HB.out.size _)
          have HXV := Lib.hid (show BoxAt V wr.heap.size #[.int .i64 a0, .int .i64 a1, .int .i64 a2', .int .i64 a3, .int .i64 a4, .int .i64 a5] 70 by rw [hV]; exact BoxAt.new _ _ _)
          rw [← hV]
          clear hV s0 s1 s2 s3 s4 s5 hpl
          obtain ⟨B9, hB9⟩ : ∃ B9, B9 = wr.heap.size := ⟨_, rfl⟩
          rw [← hB9] at HXV ⊢
          clear hB9 hsz hcut'
          go_loopw [34, 7] (fun i v7 wr => ∃ (j : Nat) (ans : Int), j ≤ n2 ∧ i = .int .i64 j ∧ v7 = .int .i64 ans ∧ Hid (RegI ans (min (rowM ⟨a0, a1, a2', a3, a4, a5⟩ most (R.drop j)) rest) T) ∧ Below V.heap.size V wr) (fun i _ _ => n2 - (intOf i).toNat)
          case atStart => exact ⟨0, ans, Nat.zero_le _, rfl, rfl, HG, Below.refl _ _⟩
          case round =>
            obtain ⟨j, ans2, hj, rfl, rfl, hg, hB⟩ := hrel
            have HB2 := Lib.hid hB
            by_cases hjt : j < n2
            · have hjt2 : j < R.length := by have := HRL.out; omega
              have hjt' : (j : Int) < n2 := by omega
              have hx9 := HXV.out.below hB
              obtain ⟨ad', e, hpl, u0, u1, u2, u3, u4, u5⟩ := (HCR.out.below (HBV.out.trans (hB.mono HBV.out.size))).pin hjt2
              obtain rfl : a2 = ad' := Option.some.inj e
              have HST2 := Lib.hid (rowM_step (a := ⟨a0, a1, a2', a3, a4, a5⟩) (most := most) hjt2)
              have HOB := Lib.hid (HRO.out _ (List.getElem_mem hjt2))
              obtain ⟨p, hp⟩ : ∃ p, p = R[j] := ⟨_, rfl⟩
              rw [← hp] at u0 u1 u2 u3 u4 u5 HOB HST2
              have HOF := Lib.hid (fun W => offset_any ⟨a0, a1, a2', a3, a4, a5⟩ p W HOA.out HOB.out)
              have HRB2 := Lib.hid (HRB.out ⟨a0, a1, a2', a3, a4, a5⟩ (R.drop (j + 1)))
              rw [HST2.out] at hg
              obtain ⟨rr, hrr⟩ : ∃ r, r = rowM ⟨a0, a1, a2', a3, a4, a5⟩ most (R.drop (j + 1)) := ⟨_, rfl⟩
              rw [← hrr] at hg HRB2
              have HRR := Lib.hid hrr
              unfold OffPost at HOF
              obtain ⟨D, hD⟩ : ∃ D, D = offP ⟨a0, a1, a2', a3, a4, a5⟩ p := ⟨_, rfl⟩
              rw [← hD] at hg HOF
              obtain ⟨b0, b1, b2, b3, b4, b5⟩ := p
              obtain ⟨d0, d1, d2, d3, d4, d5⟩ := D
              dsimp only at u0 u1 u2 u3 u4 u5 HOF
              unfold agP at hg
              dsimp only at hg
              have hx0 := fun W => (rg_at d0 d1 d2 d3 d4 d5 W).1
              have hx1 := fun W => (rg_at d0 d1 d2 d3 d4 d5 W).2.1
              have hx2 := fun W => (rg_at d0 d1 d2 d3 d4 d5 W).2.2
              obtain ⟨x0, hq0⟩ : ∃ x, x = agr d0 d1 most := ⟨_, rfl⟩
              obtain ⟨x1, hq1⟩ : ∃ x, x = agr d2 d3 most := ⟨_, rfl⟩
              obtain ⟨x2, hq2⟩ : ∃ x, x = agr d4 d5 most := ⟨_, rfl⟩
              rw [← hq0, ← hq1, ← hq2] at hg
              have HA0 := Lib.hid (show ∀ W, Calls Try.prog 106 #[.agg #[.int .i64 d0, .int .i64 d1], .int .i64 most] W (CheckPost x0 W) by intro W; rw [hq0]; exact agreement_any _ _ _ _ hm0 hm1)
              have HA1 := Lib.hid (show ∀ W, Calls Try.prog 106 #[.agg #[.int .i64 d2, .int .i64 d3], .int .i64 most] W (CheckPost x1 W) by intro W; rw [hq1]; exact agreement_any _ _ _ _ hm0 hm1)
              have HA2 := Lib.hid (show ∀ W, Calls Try.prog 106 #[.agg #[.int .i64 d4, .int .i64 d5], .int .i64 most] W (CheckPost x2 W) by intro W; rw [hq2]; exact agreement_any _ _ _ _ hm0 hm1)
              have HX0 := Lib.hid (show 0 ≤ x0 by rw [hq0]; exact (agr_bd _ _ _).1)
              have HX1 := Lib.hid (show 0 ≤ x1 by rw [hq1]; exact (agr_bd _ _ _).1)
              have HX2 := Lib.hid (show 0 ≤ x2 by rw [hq2]; exact (agr_bd _ _ _).1)
              obtain ⟨y3, hy3⟩ : ∃ y, y = min rr rest := ⟨_, rfl⟩
              obtain ⟨y2, hy2⟩ : ∃ y, y = min x2 y3 := ⟨_, rfl⟩
              obtain ⟨y1, hy1⟩ : ∃ y, y = min x1 y2 := ⟨_, rfl⟩
              obtain ⟨y0, hy0⟩ : ∃ y, y = min x0 y1 := ⟨_, rfl⟩
              have HG0 := Lib.hid (show RegI ans2 y0 T by have h := hg.out; rw [show min (min (min x0 (min x1 x2)) rr) rest = y0 by omega] at h; exact h)
              have HY0 := Lib.hid hy0; have HY1 := Lib.hid hy1; have HY2 := Lib.hid hy2; have HY3 := Lib.hid hy3
              have v0 : wr.cell? ⟨B9, 0, none⟩ = some (.int .i64 a0) := hx9.cell 0
              have v1 : wr.cell? ⟨B9, 1, none⟩ = some (.int .i64 a1) := hx9.cell 1
              have v2 : wr.cell? ⟨B9, 2, none⟩ = some (.int .i64 a2') := hx9.cell 2
              have v3 : wr.cell? ⟨B9, 3, none⟩ = some (.int .i64 a3) := hx9.cell 3
              have v4 : wr.cell? ⟨B9, 4, none⟩ = some (.int .i64 a4) := hx9.cell 4
              have v5 : wr.cell? ⟨B9, 5, none⟩ = some (.int .i64 a5) := hx9.cell 5
              have hvl := hx9.lt
              have hbs := hB.size
              clear hB hx9 e hp hg hD hq0 hq1 hq2 hy0 hy1 hy2 hy3 HST2 HOB hrr
              go_wp2_with (go_at_call 103; refine (HOF.out _).mono ?_; rintro e w5 ⟨rfl, hb5⟩; have HB5 := Lib.hid ((HB2.out.alloc HB2.out.size _).trans (hb5.mono (by simp; omega))); clear hb5)
              go_loopw [41, 7] (fun i v7 wr => ∃ (t : Nat) (ans : Int), ((t = 0 ∧ Hid (RegI ans y0 T)) ∨ (t = 1 ∧ Hid (RegI ans y1 T)) ∨ (t = 2 ∧ Hid (RegI ans y2 T)) ∨ (t = 3 ∧ Hid (RegI ans y3 T))) ∧ i = .int .i64 t ∧ v7 = .int .i64 ans ∧ Below V.heap.size V wr) (fun i _ _ => 3 - (intOf i).toNat)
              case atStart => exact ⟨0, ans2, Or.inl ⟨rfl, HG0⟩, rfl, rfl, HB5.out⟩
              case round =>
                obtain ⟨t, ans3, ht, rfl, rfl, hB6⟩ := hrel
                have HB6 := Lib.hid hB6
                have hsz6 := hB6.size
                clear hB6 v0 v1 v2 v3 v4 v5 hvl u0 u1 u2 u3 u4 u5 hpl
                rcases ht with ⟨rfl, hi⟩ | ⟨rfl, hi⟩ | ⟨rfl, hi⟩ | ⟨rfl, hi⟩
                · by_cases hc : x0 < ans3
                  · have HI := Lib.hid ((show RegI ans3 (min x0 y1) T by rw [← HY0.out]; exact hi.out).low HX0.out hc)
                    have hc' := decide_eq_true hc
                    clear hi
                    go_wp2_with (go_at_call 106; refine (HA0.out _).mono ?_; rintro e w7 ⟨rfl, hb7⟩)
                    go_roundw
                    case rel => exact ⟨1, x0, Or.inr (Or.inl ⟨rfl, HI⟩), by go_num, by simp; omega, (HB6.out.alloc hsz6 _).trans (hb7.mono (by simp; omega))⟩
                    case measure => simp [intOf] <;> omega
                  · have HI := Lib.hid ((show RegI ans3 (min x0 y1) T by rw [← HY0.out]; exact hi.out).high hc)
                    have hc' := decide_eq_false hc
                    clear hi
                    go_wp2_with (go_at_call 106; refine (HA0.out _).mono ?_; rintro e w7 ⟨rfl, hb7⟩)
                    go_roundw
                    case rel => exact ⟨1, ans3, Or.inr (Or.inl ⟨rfl, HI⟩), by go_num, by simp; omega, (HB6.out.alloc hsz6 _).trans (hb7.mono (by simp; omega))⟩
                    case measure => simp [intOf] <;> omega
                · by_cases hc : x1 < ans3
                  · have HI := Lib.hid ((show RegI ans3 (min x1 y2) T by rw [← HY1.out]; exact hi.out).low HX1.out hc)
                    have hc' := decide_eq_true hc
                    clear hi
                    go_wp2_with (go_at_call 106; refine (HA1.out _).mono ?_; rintro e w7 ⟨rfl, hb7⟩)
                    go_roundw
                    case rel => exact ⟨2, x1, Or.inr (Or.inr (Or.inl ⟨rfl, HI⟩)), by go_num, by simp; omega, (HB6.out.alloc hsz6 _).trans (hb7.mono (by simp; omega))⟩
                    case measure => simp [intOf] <;> omega
                  · have HI := Lib.hid ((show RegI ans3 (min x1 y2) T by rw [← HY1.out]; exact hi.out).high hc)
                    have hc' := decide_eq_false hc
                    clear hi
                    go_wp2_with (go_at_call 106; refine (HA1.out _).mono ?_; rintro e w7 ⟨rfl, hb7⟩)
                    go_roundw
                    case rel => exact ⟨2, ans3, Or.inr (Or.inr (Or.inl ⟨rfl, HI⟩)), by go_num, by simp; omega, (HB6.out.alloc hsz6 _).trans (hb7.mono (by simp; omega))⟩
                    case measure => simp [intOf] <;> omega
                · by_cases hc : x2 < ans3
                  · have HI := Lib.hid ((show RegI ans3 (min x2 y3) T by rw [← HY2.out]; exact hi.out).low HX2.out hc)
                    have hc' := decide_eq_true hc
                    clear hi
                    go_wp2_with (go_at_call 106; refine (HA2.out _).mono ?_; rintro e w7 ⟨rfl, hb7⟩)
                    go_roundw
                    case rel => exact ⟨3, x2, Or.inr (Or.inr (Or.inr ⟨rfl, HI⟩)), by go_num, by simp; omega, (HB6.out.alloc hsz6 _).trans (hb7.mono (by simp; omega))⟩
                    case measure => simp [intOf] <;> omega
                  · have HI := Lib.hid ((show RegI ans3 (min x2 y3) T by rw [← HY2.out]; exact hi.out).high hc)
                    have hc' := decide_eq_false hc
                    clear hi
                    go_wp2_with (go_at_call 106; refine (HA2.out _).mono ?_; rintro e w7 ⟨rfl, hb7⟩)
                    go_roundw
                    case rel => exact ⟨3, ans3, Or.inr (Or.inr (Or.inr ⟨rfl, HI⟩)), by go_num, by simp; omega, (HB6.out.alloc hsz6 _).trans (hb7.mono (by simp; omega))⟩
                    case measure => simp [intOf] <;> omega
                · have HI := Lib.hid (show RegI ans3 (min (rowM ⟨a0, a1, a2', a3, a4, a5⟩ most (R.drop (j + 1))) rest) T by rw [← HRR.out, ← HY3.out]; exact hi.out)
                  clear hi
                  go_wp2
                  go_roundw
                  case rel => exact ⟨j + 1, ans3, by omega, by go_num, rfl, HI, HB6.out⟩
                  case measure => simp [intOf] <;> omega
            · have HI := Lib.hid (show RegI ans2 (totM most (L.drop (k + 1))) T by
                have h := hg.out
                rw [List.drop_of_length_le (by have := HRL.out; omega)] at h
                rw [HRW.out, ← HRE.out]
                have hb := HTB.out R
                rw [← HRE.out] at hb
                unfold RegI rowM at *
                omega)
              clear hg hB
              obtain rfl : j = n2 := by omega
              go_wp2
              go_roundw
              case rel => exact ⟨k + 1, ans2, by omega, by go_num, rfl, HI, HBV.out.trans (HB2.out.mono HBV.out.size)⟩
              case measure => simp [intOf] <;> omega
        · have HXT : Hid (ans = T) := Lib.hid (by have h := hg.out; rw [List.drop_of_length_le (by have := HN.out; omega)] at h; unfold RegI totM at h; omega)
          clear hg hB
          obtain rfl : k = n := by omega
          go_wp2
          go_ret2
          exact ⟨two_eq (HXT.out.trans HXX.out.symm) HEE.out.symm, HB.out⟩
  · have h0' : (e0 != 0) = true := by simpa using h0
    have HE0 : Hid (E = e0) := Lib.hid (by rw [HER.out, if_pos h0])
    have HXX : Hid (X = 0) := Lib.hid (by rw [HV.out, if_neg (by rw [HE0.out]; exact h0)])
    clear h0
    go_enter Try.func42, Try.ntmps42
    go_wp2_with (go_at_call 40; refine (HCP.out _ HR.out).mono ?_; rintro e w1 ⟨rfl, hb1⟩; have HB1 := Lib.hid hb1; clear hb1)
    go_ret2
    exact ⟨two_eq HXX.out.symm HE0.out.symm, HB1.out⟩
end Go.Proofs.Ytpplcbpnojggcaa
