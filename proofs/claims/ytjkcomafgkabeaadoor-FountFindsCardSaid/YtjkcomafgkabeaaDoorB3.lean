/-
  Casting of metal.
-/
import Derived.Test.YtjkcomafgkabeaaDoorB2
namespace Go.Proofs.YtjkcomafgkabeaaDoor
open Go.RowKit Go.Maps

def castR (f : FT) (m : Int) (l : List Int) : Int × Int × Int :=
  if (checkF f).2 ≠ 0 then (0, 0, (checkF f).2) else if m < 0 ∨ 1000000000000000000 < m then (0, 0, 2) else if casesErr f [l] ≠ 0 then (0, 0, casesErr f [l]) else
    if metal f l = 0 then (0, 0, 11) else (m / metal f l, m % metal f l, 0)

set_option maxRecDepth 100000 in
set_option maxHeartbeats 1000000 in
theorem Cast_any (f : FT) (a : Option Addr) (c : Nat) (m : Int) (b : Option Addr) (l : List Int) (d : Nat) (w : World) (hF : FAt w a f) (hX : IntsAt w b l) (hl : l.length ≤ maxLen) :
    Calls Tryd.prog 59 #[.agg #[.string f.name, .int .i64 f.body, .slice a f.sorts.length c], .int .i64 m, .slice b l.length d] w fun e w' => e = .returned (.tuple #[.int .i64 (castR f m l).1, .int .i64 (castR f m l).2.1, .int .i64 (castR f m l).2.2]) ∧ Below w.heap.size w w' := by
  have hF2 := hF.alloc (.cells #[.string f.name, .int .i64 f.body, .slice a f.sorts.length c] 24)
  have hB0 := (Below.refl w.heap.size w).alloc (Nat.le_refl _) (.cells #[.string f.name, .int .i64 f.body, .slice a f.sorts.length c] 24)
  by_cases h0 : (checkF f).2 = 0
  · by_cases hm : m < 0 ∨ 1000000000000000000 < m
    · have HE := Lib.hid (show castR f m l = (0, 0, 2) by unfold castR; rw [if_neg (by simp [h0]), if_pos hm])
      go_enter Tryd.func59, Tryd.ntmps59
      go_wp2_with fail
      refine (checkFount_any f a c _ hF2.ok (by exact hF2.at_) (by exact hF2.tab)).mono ?_
      rintro e w1 ⟨rfl, hb⟩
      have hB1 := hB0.trans (hb.mono (B' := w.heap.size) (by simp))
      rw [h0]
      clear hF2 hB0 h0 hb
      go_wp2
      all_goals first | (exfalso; omega) | (exfalso; (simp at *) <;> omega) | skip
      all_goals go_ret3
      all_goals exact ⟨ret3_int (by rw [HE.out]) (by rw [HE.out]) (by rw [HE.out]), hB1⟩
    · have hm1 : 0 ≤ m := by omega
      have hm2 : m ≤ 1000000000000000000 := by omega
      by_cases h1 : casesErr f [l] = 0
      · obtain ⟨g1, g2⟩ := cases_zero h1
        obtain ⟨_, hR, _⟩ := checkF_right g1
        obtain ⟨hln, hv⟩ := countErr_zero (g2 l (by simp))
        have hmb := metalN_bd hR hln hv l.length (Nat.le_refl _)
        have hl120 := hR.2.2.2.1
        have HLN := Lib.hid hln; have HV := Lib.hid hv
        obtain ⟨p, hp⟩ : ∃ p, p = metal f l := ⟨_, rfl⟩
        have hp1 : 0 ≤ p := by rw [hp]; exact hmb.1
        have hp2 : p ≤ 2000000000000000 := by
          have h2 := hmb.2
          rw [hp]; unfold metal; omega
        clear hln hv g1 g2 hmb hl120
        by_cases hz : p = 0
        · have HE := Lib.hid (show castR f m l = (0, 0, 11) by unfold castR; rw [if_neg (by simp [h0]), if_neg hm, if_neg (by simp [h1]), if_pos (by rw [← hp, hz])])
          have HP := Lib.hid (show metal f l = 0 by rw [← hp, hz])
          clear hz hp1 hp2 hp hm
          go_enter Tryd.func59, Tryd.ntmps59
          go_wp2_with fail
          refine (checkFount_any f a c _ hF2.ok (by exact hF2.at_) (by exact hF2.tab)).mono ?_
          rintro e w1 ⟨rfl, hb⟩
          have hz1 : w.heap.size + 1 ≤ w1.heap.size := by have := hb.size; simpa using this
          have hB1 := hB0.trans (hb.mono (B' := w.heap.size) (by simp))
          obtain ⟨hc, hf⟩ := bcell hb
          have hF1 := (hF.below hB1).alloc (.cells #[.slice b l.length d] 31)
          have hL1 := lists_one (d := d) (hX.below hB1) hl
          have hlt : w.heap.size < w1.heap.size := by omega
          rw [h0]
          clear hF2 hB0 h0 hb
          go_wp2_with fail
          refine (errorOfCounts_any f a c _ [⟨b, d, l⟩] _ _ hF1.ok (by exact hF1.at_) (by exact hF1.tab) (by exact hL1) (by unfold maxLen; simp)).mono ?_
          rintro e w2 ⟨rfl, hb2⟩
          rw [show ([(⟨b, d, l⟩ : IS)].map (·.l)) = [l] from rfl, h1]
          have hB2 := (hB1.alloc (by omega) (.cells #[.slice b l.length d] 31)).trans (hb2.mono (B' := w.heap.size) (by simp <;> omega))
          obtain ⟨hc2, hf2⟩ := bcell hb2
          have hF3 := hF.below hB2
          have hX3 := hX.below hB2
          clear hb2 hL1 hF1 hB1 h1
          go_wp2_with fail
          refine (metalOf_any f a c b l d _ hF3.at_ hX3 hR HLN.out HV.out).mono ?_
          rintro e w3 ⟨rfl, hb3⟩
          rw [HP.out]
          go_wp2
          go_ret3
          exact ⟨ret3_int (by rw [HE.out]) (by rw [HE.out]) (by rw [HE.out]), hB2.trans (hb3.mono (B' := w.heap.size) hB2.size)⟩
        · have HE := Lib.hid (show castR f m l = (m / p, m % p, 0) by unfold castR; rw [if_neg (by simp [h0]), if_neg hm, if_neg (by simp [h1]), if_neg (by rw [← hp]; exact hz), ← hp])
          have HP := Lib.hid hp.symm
          have hz' : (p == 0) = false := by simpa using hz
          have hp3 : 1 ≤ p := by omega
          clear hz hp1 hp hm
          go_enter Tryd.func59, Tryd.ntmps59
          go_wp2_with fail
          refine (checkFount_any f a c _ hF2.ok (by exact hF2.at_) (by exact hF2.tab)).mono ?_
          rintro e w1 ⟨rfl, hb⟩
          have hz1 : w.heap.size + 1 ≤ w1.heap.size := by have := hb.size; simpa using this
          have hB1 := hB0.trans (hb.mono (B' := w.heap.size) (by simp))
          obtain ⟨hc, hf⟩ := bcell hb
          have hF1 := (hF.below hB1).alloc (.cells #[.slice b l.length d] 31)
          have hL1 := lists_one (d := d) (hX.below hB1) hl
          have hlt : w.heap.size < w1.heap.size := by omega
          rw [h0]
          clear hF2 hB0 h0 hb
          go_wp2_with fail
          refine (errorOfCounts_any f a c _ [⟨b, d, l⟩] _ _ hF1.ok (by exact hF1.at_) (by exact hF1.tab) (by exact hL1) (by unfold maxLen; simp)).mono ?_
          rintro e w2 ⟨rfl, hb2⟩
          rw [show ([(⟨b, d, l⟩ : IS)].map (·.l)) = [l] from rfl, h1]
          have hB2 := (hB1.alloc (by omega) (.cells #[.slice b l.length d] 31)).trans (hb2.mono (B' := w.heap.size) (by simp <;> omega))
          obtain ⟨hc2, hf2⟩ := bcell hb2
          have hF3 := hF.below hB2
          have hX3 := hX.below hB2
          clear hb2 hL1 hF1 hB1 h1
          go_wp2_with fail
          refine (metalOf_any f a c b l d _ hF3.at_ hX3 hR HLN.out HV.out).mono ?_
          rintro e w3 ⟨rfl, hb3⟩
          rw [HP.out]
          go_wp2
          go_quiet (fail)
          go_wp2
          go_ret3
          exact ⟨ret3_int (by rw [HE.out]) (by rw [HE.out]) (by rw [HE.out]), below_drewN (hB2.trans (hb3.mono (B' := w.heap.size) hB2.size)) _⟩
      · have HE := Lib.hid (show castR f m l = (0, 0, casesErr f [l]) by unfold castR; rw [if_neg (by simp [h0]), if_neg hm, if_pos h1])
        have heb : (casesErr f [l] != 0) = true := by simpa using h1
        clear h1 hm
        go_enter Tryd.func59, Tryd.ntmps59
        go_wp2_with fail
        refine (checkFount_any f a c _ hF2.ok (by exact hF2.at_) (by exact hF2.tab)).mono ?_
        rintro e w1 ⟨rfl, hb⟩
        have hz1 : w.heap.size + 1 ≤ w1.heap.size := by have := hb.size; simpa using this
        have hB1 := hB0.trans (hb.mono (B' := w.heap.size) (by simp))
        obtain ⟨hc, hf⟩ := bcell hb
        have hF1 := (hF.below hB1).alloc (.cells #[.slice b l.length d] 31)
        have hL1 := lists_one (d := d) (hX.below hB1) hl
        have hlt : w.heap.size < w1.heap.size := by omega
        rw [h0]
        clear hF2 hB0 h0 hb
        go_wp2_with fail
        refine (errorOfCounts_any f a c _ [⟨b, d, l⟩] _ _ hF1.ok (by exact hF1.at_) (by exact hF1.tab) (by exact hL1) (by unfold maxLen; simp)).mono ?_
        rintro e w2 ⟨rfl, hb2⟩
        rw [show ([(⟨b, d, l⟩ : IS)].map (·.l)) = [l] from rfl]
        have hB2 := (hB1.alloc (by omega) (.cells #[.slice b l.length d] 31)).trans (hb2.mono (B' := w.heap.size) (by simp <;> omega))
        clear hb2 hL1 hF1 hB1
        go_wp2
        go_ret3
        exact ⟨ret3_int (by rw [HE.out]) (by rw [HE.out]) (by rw [HE.out]), hB2⟩
  · have HE := Lib.hid (show castR f m l = (0, 0, (checkF f).2) by unfold castR; rw [if_pos h0])
    have heb : ((checkF f).2 != 0) = true := by simpa using h0
    clear h0
    go_enter Tryd.func59, Tryd.ntmps59
    go_wp2_with fail
    refine (checkFount_any f a c _ hF2.ok (by exact hF2.at_) (by exact hF2.tab)).mono ?_
    rintro e w1 ⟨rfl, hb⟩
    have hB1 := hB0.trans (hb.mono (B' := w.heap.size) (by simp))
    clear hF2 hB0 hb
    go_wp2
    go_ret3
    exact ⟨ret3_int (by rw [HE.out]) (by rw [HE.out]) (by rw [HE.out]), hB1⟩
end Go.Proofs.YtjkcomafgkabeaaDoor
