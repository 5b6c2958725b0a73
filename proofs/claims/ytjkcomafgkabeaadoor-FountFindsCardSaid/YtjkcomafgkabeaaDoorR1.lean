/-
  The reference's metal.
-/
import Derived.Test.YtjkcomafgkabeaaDoorN7
namespace Go.Proofs.YtjkcomafgkabeaaDoor
open Go.RowKit Go.Maps

theorem case_cases {f : FT} {l : List Int} : casesErr f [l] = caseErr f l := by
  unfold casesErr caseErr
  split
  · rfl
  · show (if _ then _ else _) = _
    split
    · rfl
    · rename_i h; simp only [Decidable.not_not] at h; rw [h]; rfl
theorem few_le {f : FT} (h : fewB f = true) : f.sorts.length ≤ 123 := by
  unfold fewB at h
  have h1 : decide (20 < f.name.size ∨ (10 < f.sorts.length ∧ f.sorts.length ≤ 120) ∨ 123 < f.sorts.length) = false := by
    cases e : decide (20 < f.name.size ∨ (10 < f.sorts.length ∧ f.sorts.length ≤ 120) ∨ 123 < f.sorts.length)
    · rfl
    · rw [e] at h; simp at h
  have h2 := of_decide_eq_false h1
  omega

set_option maxRecDepth 100000 in
set_option maxHeartbeats 2000000 in
theorem refMetal_any (f : FT) (a : Option Addr) (c : Nat) (b : Option Addr) (l : List Int) (d : Nat) (w : World) (hF : SortsAt w a f.sorts) (hX : IntsAt w b l) (hR : RightF f) (hk : OkC f.sorts.length l) :
    Calls Tryd.prog 60 #[.agg #[.string f.name, .int .i64 f.body, .slice a f.sorts.length c], .slice b l.length d] w fun e w' => e = .returned (.int .i64 (metal f l)) ∧ Below w.heap.size w w' := by
  have hB := (Below.refl w.heap.size w).alloc (Nat.le_refl _) (boxF f a c)
  have hF1 := hF.below ((Below.refl _ _).alloc (Nat.le_refl _) (boxF f a c))
  have hX1 := hX.alloc (boxF f a c)
  have HK := Lib.hid hk; have HR := Lib.hid hR
  have hb1 := hR.1; have hb2 := hR.2.1
  have hn120 := hR.2.2.2.1
  have hbd := Lib.hid (metalN_bd hR hk.1 (fun k h => hk.2 k (by have := hk.1; omega)))
  have HL := Lib.hid hk.1
  clear hk hR
  go_enter Tryd.func60, Tryd.ntmps60
  go_wp2_with fail
  go_loopw [5, 6] (fun t i wr => ∃ k : Nat, k ≤ l.length ∧ i = .int .i64 k ∧ t = .int .i64 (metalN f l k) ∧ Drew (w.alloc (boxF f a c)) wr) (fun _ i _ => l.length - (intOf i).toNat)
  case atStart => exact ⟨0, Nat.zero_le _, rfl, rfl, Drew.refl _⟩
  case round =>
    obtain ⟨k, hk, rfl, rfl, hD⟩ := hrel
    have q1 := hD.cell (p := ⟨w.heap.size, 1, none⟩) (v := .int .i64 f.body) (by simp [boxF])
    have q2 := hD.cell (p := ⟨w.heap.size, 2, none⟩) (v := .slice a f.sorts.length c) (by simp [boxF])
    by_cases hlt : k < l.length
    · obtain ⟨bd, rfl, hbdl, hjc⟩ := (hD.ints hX1).at_ hlt
      have hkf : k < f.sorts.length := by have := HL.out; omega
      obtain ⟨ad, rfl, hadl, s0, s1, s2, s3⟩ := (hD.sorts hF1).at_ hkf
      clear s0 s1 s2
      have hm1 := hbd.out k hk
      have hv1 := HK.out.2 k hkf
      have hw1 := HR.out.2.2.2.2 k hkf
      have hS := Lib.hid (show metalN f l (k + 1) = metalN f l k + l.getD k 0 * (f.sorts.getD k noTS).width * f.body from rfl)
      generalize metalN f l k = m at hm1 hS
      generalize l.getD k 0 = v at hjc hv1 hS
      generalize (f.sorts.getD k noTS).width = wd at s3 hw1 hS
      obtain ⟨t1, t2, t3, t4⟩ := term_bd hv1.1 hv1.2 hw1.1 hw1.2.1 hb1 hb2
      have hk2 : (k : Int) ≤ 120 := by have := HL.out; omega
      have e1 : IntKind.i64.wrap (v * wd) = v * wd := IntWalk.i64_in _ (by omega)
      have e2 : IntKind.i64.wrap (v * wd * f.body) = v * wd * f.body := IntWalk.i64_in _ (by omega)
      have e3 : IntKind.i64.wrap (m + v * wd * f.body) = m + v * wd * f.body := IntWalk.i64_in _ (by omega)
      have hkl : (k : Int) < (l.length : Int) := by omega
      have hkl2 : (k : Int) < (f.sorts.length : Int) := by omega
      go_wp2_with fail
      go_quiet (fail)
      clear e1 e2 e3
      go_wp2
      go_roundw
      case rel => exact ⟨k + 1, by omega, by go_num, by rw [hS.out], hD.drewN _⟩
      case measure => simp [intOf]; omega
    · have hk2 : k = l.length := by omega
      subst hk2
      have hlow := hD.below hB
      go_wp2
      go_ret
      exact ⟨rfl, hlow⟩

def rcastR (f : FT) (m : Int) (l : List Int) : Int × Int × Int :=
  if m < 0 ∨ 1000000000000000000 < m then (0, 0, 2) else if caseErr f l ≠ 0 then (0, 0, caseErr f l) else if metal f l = 0 then (0, 0, 11) else (m / metal f l, m % metal f l, 0)
theorem castR_eq {f : FT} {m : Int} {l : List Int} (h : (checkF f).2 = 0) : castR f m l = rcastR f m l := by
  unfold castR rcastR
  rw [if_neg (by simp [h]), case_cases]

set_option maxRecDepth 100000 in
set_option maxHeartbeats 2000000 in
theorem refCast_any (f : FT) (a : Option Addr) (c : Nat) (m : Int) (b : Option Addr) (l : List Int) (d : Nat) (w : World) (hc : f.sorts.length ≤ c) (hF : FAt w a f) (hX : IntsAt w b l) (hl : l.length ≤ maxLen) :
    Calls Tryd.prog 61 #[.agg #[.string f.name, .int .i64 f.body, .slice a f.sorts.length c], .int .i64 m, .slice b l.length d] w fun e w' => e = .returned (.tuple #[.int .i64 (rcastR f m l).1, .int .i64 (rcastR f m l).2.1, .int .i64 (rcastR f m l).2.2]) ∧ Below w.heap.size w w' := by
  have hB0 : Below (w.heap.size + 1) (w.alloc (boxF f a c)) (w.alloc (boxF f a c)) := Below.refl _ _
  have E0 := Env.of hF hB0
  have hlow0 := E0.low
  rcases inB_cases m 0 1000000000000000000 with ⟨hi, h1, h2⟩ | ⟨hi, h1⟩
  · have HE := Lib.hid (show rcastR f m l = if caseErr f l ≠ 0 then (0, 0, caseErr f l) else if metal f l = 0 then (0, 0, 11) else (m / metal f l, m % metal f l, 0) by unfold rcastR; rw [if_neg (by omega)])
    go_enter Tryd.func61, Tryd.ntmps61
    go_wp2_with (go_at_call 30; refine (within_any _ _ _ _).mono ?_; rintro e w' ⟨rfl, rfl⟩)
    refine (refCheckCase_any f a c b l d _ hc E0.fa.ok E0.fa.at_ (hX.alloc _) hl).mono ?_
    rintro e w4 ⟨rfl, hb4⟩
    have E4 := E0.step hF hb4
    have hX4 := (hX.alloc (boxF f a c)).below hb4
    have q0 := E4.c0; have q1 := E4.c1; have q2 := E4.c2
    clear hb4 E0
    by_cases hce : caseErr f l = 0
    · obtain ⟨h0, hok⟩ := case_ok hce
      obtain ⟨_, hR, _⟩ := checkF_right h0
      have HE2 := Lib.hid (show rcastR f m l = if metal f l = 0 then (0, 0, 11) else (m / metal f l, m % metal f l, 0) by rw [HE.out, if_neg (by simp [hce])])
      have hmb := metal_bd hR hok
      rw [hce]
      have HOK := Lib.hid hok; have HR := Lib.hid hR
      clear hok hR hce h0
      go_wp2_with fail
      refine (refMetal_any f a c b l d _ E4.fa.at_ hX4 HR.out HOK.out).mono ?_
      rintro e w5 ⟨rfl, hb5⟩
      have hlow := (E4.step hF hb5).low
      clear hb5 E4 hX4 q0 q1 q2
      generalize metal f l = p at hmb HE2
      by_cases hz : p = 0
      · subst hz
        have HE3 := Lib.hid (HE2.out.trans (if_pos rfl))
        go_wp2
        go_ret3
        exact ⟨ret3_int (by rw [HE3.out]) (by rw [HE3.out]) (by rw [HE3.out]), hlow⟩
      · have HE3 := Lib.hid (HE2.out.trans (if_neg hz))
        have hzb : (p == 0) = false := by simpa using hz
        have hp1 : 1 ≤ p := by omega
        clear hz
        go_wp2
        go_quiet (fail)
        go_wp2
        go_ret3
        exact ⟨ret3_int (by rw [HE3.out]) (by rw [HE3.out]) (by rw [HE3.out]), below_drewN hlow _⟩
    · have HE2 := Lib.hid (show rcastR f m l = (0, 0, caseErr f l) by rw [HE.out, if_pos hce])
      have hcb : (caseErr f l != 0) = true := by simpa using hce
      have hlow := E4.low
      clear hce
      go_wp2
      go_ret3
      exact ⟨ret3_int (by rw [HE2.out]) (by rw [HE2.out]) (by rw [HE2.out]), hlow⟩
  · have HE := Lib.hid (show rcastR f m l = (0, 0, 2) by unfold rcastR; rw [if_pos (by omega)])
    go_enter Tryd.func61, Tryd.ntmps61
    go_wp2_with (go_at_call 30; refine (within_any _ _ _ _).mono ?_; rintro e w' ⟨rfl, rfl⟩)
    go_ret3
    exact ⟨ret3_int (by rw [HE.out]) (by rw [HE.out]) (by rw [HE.out]), hlow0⟩
end Go.Proofs.YtjkcomafgkabeaaDoor
