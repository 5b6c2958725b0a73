/-
  A bill for a need.
-/
import Derived.Test.YtjkcomafgkabeaaDoorS4
import Derived.Test.YtjkcomafgkabeaaDoorF2
namespace Go.Proofs.YtjkcomafgkabeaaDoor
open Go.RowKit Go.Maps

def sumOf (l : List Int) : Int := sumTo (fun k => l.getD k 0) l.length
def billE (f : FT) (l : List Int) (total : Int) : Int :=
  if casesErr f [l] ≠ 0 then casesErr f [l] else if total < 0 ∨ 1000000 < total then 2 else if sumOf l = 0 then 11 else 0
def BillPost (w : World) (f : FT) (l : List Int) (total : Int) (e : Ending) (w' : World) : Prop :=
  Below w.heap.size w w' ∧ ((billE f l total ≠ 0 ∧ e = .returned (.tuple #[.slice none 0 0, .int .i64 (billE f l total)])) ∨ (billE f l total = 0 ∧ ∃ g, e = .returned (.tuple #[.slice (some ⟨g, 0, none⟩) l.length l.length, .int .i64 0]) ∧ RowX w' g (billOf l (sumOf l) total)))

set_option maxRecDepth 100000 in
set_option maxHeartbeats 2000000 in
theorem BillFor_any (f : FT) (a : Option Addr) (c : Nat) (b : Option Addr) (l : List Int) (d : Nat) (total : Int) (w : World) (hF : FAt w a f) (hX : IntsAt w b l) (hl : l.length ≤ maxLen) (h20 : l.length < 20) :
    Calls Tryd.prog 54 #[.agg #[.string f.name, .int .i64 f.body, .slice a f.sorts.length c], .slice b l.length d, .int .i64 total] w (BillPost w f l total) := by
  have hbox := lists_one (d := d) (hX.alloc (.cells #[.string f.name, .int .i64 f.body, .slice a f.sorts.length c] 24)) hl
  have hF2 := (hF.alloc (.cells #[.string f.name, .int .i64 f.body, .slice a f.sorts.length c] 24)).alloc (.cells #[.slice b l.length d] 31)
  have hB0 := ((Below.refl w.heap.size w).alloc (Nat.le_refl _) (.cells #[.string f.name, .int .i64 f.body, .slice a f.sorts.length c] 24)).alloc (by simp) (.cells #[.slice b l.length d] 31)
  by_cases h1 : casesErr f [l] = 0
  · obtain ⟨g1, g2⟩ := cases_zero h1
    obtain ⟨_, hR, _⟩ := checkF_right g1
    obtain ⟨hln, hv⟩ := countErr_zero (g2 l (by simp))
    have hpos : 0 < l.length := by have := hR.2.2.1; omega
    have HV := Lib.hid hv; clear hv hln g1 g2
    by_cases ht : total < 0 ∨ 1000000 < total
    · have HE := Lib.hid (show billE f l total = 2 by unfold billE; rw [if_neg (by simp [h1]), if_pos ht])
      go_enter Tryd.func54, Tryd.ntmps54
      go_wp2_with fail
      refine (errorOfCounts_any f a c _ [⟨b, d, l⟩] _ _ hF2.ok (by exact hF2.at_) (by exact hF2.tab) (by simpa using hbox) (by unfold maxLen; simp)).mono ?_
      rintro e w1 ⟨rfl, hb⟩
      rw [show ([(⟨b, d, l⟩ : IS)].map (·.l)) = [l] from rfl, h1]
      have hB1 := hB0.trans (hb.mono (B' := w.heap.size) (by simp <;> omega))
      clear hF2 hbox hB0 hb h1
      rcases (by omega : total < 0 ∨ (0 ≤ total ∧ 1000000 < total)) with h | ⟨h, h'⟩ <;> clear ht
      · go_wp2
        go_ret2
        exact ⟨hB1, .inl ⟨by rw [HE.out]; decide, by rw [HE.out]; rfl⟩⟩
      · go_wp2
        go_ret2
        exact ⟨hB1, .inl ⟨by rw [HE.out]; decide, by rw [HE.out]; rfl⟩⟩
    · have ht0 : 0 ≤ total := by omega
      have ht1 : total ≤ 1000000 := by omega
      have HT := Lib.hid ht; clear ht
      go_enter Tryd.func54, Tryd.ntmps54
      go_wp2_with fail
      refine (errorOfCounts_any f a c _ [⟨b, d, l⟩] _ _ hF2.ok (by exact hF2.at_) (by exact hF2.tab) (by simpa using hbox) (by unfold maxLen; simp)).mono ?_
      rintro e w1 ⟨rfl, hb⟩
      rw [show ([(⟨b, d, l⟩ : IS)].map (·.l)) = [l] from rfl, h1]
      have H1 := Lib.hid h1; clear h1
      have hB1 := hB0.trans (hb.mono (B' := w.heap.size) (by simp <;> omega))
      have hX1 := hX.below hB1
      clear hF2 hbox hB0 hb
      go_wp2_with fail
      go_loopw [9, 27] (fun t i wr => ∃ k : Nat, k ≤ l.length ∧ i = .int .i64 k ∧ t = .int .i64 (sumTo (fun k => l.getD k 0) k) ∧ Drew w1 wr) (fun _ i _ => l.length - (intOf i).toNat)
      case atStart => exact ⟨0, Nat.zero_le _, rfl, rfl, Drew.refl _⟩
      case round =>
        obtain ⟨k, hk, rfl, rfl, hD⟩ := hrel
        by_cases hlt : k < l.length
        · obtain ⟨p1, rfl, hp1, hc1⟩ := (hD.ints hX1).at_ hlt
          have hv1 := HV.out k hlt
          have hsb := sumTo_bd (f := fun k => l.getD k 0) (lo := 0) (hi := 1000000) (k := k) (fun i hi => HV.out i (by omega))
          have hst := Lib.hid (show sumTo (fun k => l.getD k 0) (k + 1) = sumTo (fun k => l.getD k 0) k + l.getD k 0 from rfl)
          obtain ⟨x, ex⟩ : ∃ x, x = l.getD k 0 := ⟨_, rfl⟩
          obtain ⟨sq, esq⟩ : ∃ x, x = sumTo (fun k => l.getD k 0) k := ⟨_, rfl⟩
          rw [← ex] at hv1 hc1 hst
          rw [← esq] at hst hsb
          rw [← esq]
          clear ex esq
          have hkl : (k : Int) < (l.length : Int) := by omega
          have hk20 : (k : Int) < 20 := by omega
          go_wp2_with fail
          go_roundw
          case rel => exact ⟨k + 1, by omega, by go_num, by rw [hst.out], hD⟩
          case measure => simp [intOf]; omega
        · have hk2 : k = l.length := by omega
          subst hk2
          rw [show sumTo (fun k => l.getD k 0) l.length = sumOf l from rfl]
          have hs0 := (sumTo_bd (f := fun k => l.getD k 0) (lo := 0) (hi := 1000000) (k := l.length) (fun i hi => HV.out i hi)).1
          rw [show sumTo (fun k => l.getD k 0) l.length = sumOf l from rfl] at hs0
          have HS := Lib.hid (show sumTo (fun k => l.getD k 0) l.length = sumOf l from rfl)
          by_cases hz : sumOf l = 0
          · have HE := Lib.hid (show billE f l total = 11 by unfold billE; rw [if_neg (by simp [H1.out]), if_neg HT.out, if_pos hz])
            have hBr := hD.below hB1
            rw [hz]
            clear hz hs0
            go_wp2
            go_ret2
            exact ⟨hBr, .inl ⟨by rw [HE.out]; decide, by rw [HE.out]; rfl⟩⟩
          · have HE := Lib.hid (show billE f l total = 0 by unfold billE; rw [if_neg (by simp [H1.out]), if_neg HT.out, if_neg hz])
            have hBr := hD.below hB1
            obtain ⟨p1, rfl, hp1, hc1⟩ := (hD.ints hX1).at_ hpos
            have hsh := Lib.hid (shared_any p1 l d (sumOf l) total wr (hD.ints hX1) h20 hpos (fun k hk => HV.out k hk) HS.out (by omega) ⟨ht0, ht1⟩)
            obtain ⟨s, es⟩ : ∃ s, s = sumOf l := ⟨_, rfl⟩
            have ES := Lib.hid es
            rw [← es] at hz hs0 hsh
            rw [← es]
            clear es hc1
            go_wp2_with fail
            refine hsh.out.mono ?_
            rintro e w3 ⟨g, rfl, hrow, hb3⟩
            go_wp2
            go_ret2
            refine ⟨hBr.trans (hb3.mono (B' := w.heap.size) hBr.size), .inr ⟨HE.out, g, rfl, ?_⟩⟩
            rw [← ES.out]; exact hrow
  · have HE := Lib.hid (show billE f l total = casesErr f [l] by unfold billE; rw [if_pos h1])
    have heb : (casesErr f [l] != 0) = true := by simpa using h1
    have H1 := Lib.hid h1
    clear h1
    go_enter Tryd.func54, Tryd.ntmps54
    go_wp2_with fail
    refine (errorOfCounts_any f a c _ [⟨b, d, l⟩] _ _ hF2.ok (by exact hF2.at_) (by exact hF2.tab) (by simpa using hbox) (by unfold maxLen; simp)).mono ?_
    rintro e w1 ⟨rfl, hb⟩
    rw [show ([(⟨b, d, l⟩ : IS)].map (·.l)) = [l] from rfl]
    have hB1 := hB0.trans (hb.mono (B' := w.heap.size) (by simp <;> omega))
    clear hF2 hbox hB0 hb
    go_wp2
    go_ret2
    exact ⟨hB1, .inl ⟨by rw [HE.out]; exact H1.out, by rw [HE.out]; rfl⟩⟩
end Go.Proofs.YtjkcomafgkabeaaDoor
