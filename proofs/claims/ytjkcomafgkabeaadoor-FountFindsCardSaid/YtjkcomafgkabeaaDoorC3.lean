/-
  How often a need can be taken, and the sort that stops it.
-/
import Derived.Test.YtjkcomafgkabeaaDoorC2
namespace Go.Proofs.YtjkcomafgkabeaaDoor
open Go.RowKit Go.Maps

/-- Over the first k sorts: how often (below 0: nothing is needed), and which sort stops it. -/
def timesN (l1 l2 : List Int) : Nat → Int × Int
  | 0 => (-1, 0)
  | k + 1 => if l2.getD k 0 = 0 then timesN l1 l2 k else if (timesN l1 l2 k).1 < 0 ∨ l1.getD k 0 / l2.getD k 0 < (timesN l1 l2 k).1 then (l1.getD k 0 / l2.getD k 0, (k : Int)) else timesN l1 l2 k
def timesR (l1 l2 : List Int) (n : Nat) : Int × Int × Int := if (timesN l1 l2 n).1 < 0 then (0, 0, 11) else ((timesN l1 l2 n).1, (timesN l1 l2 n).2, 0)
def timesE (f : FT) (l1 l2 : List Int) : Int × Int × Int := if casesErr f [l1, l2] ≠ 0 then (0, 0, casesErr f [l1, l2]) else timesR l1 l2 l1.length
def TimesPost (w : World) (f : FT) (l1 l2 : List Int) (e : Ending) (w' : World) : Prop :=
  e = .returned (.tuple #[.int .i64 (timesE f l1 l2).1, .int .i64 (timesE f l1 l2).2.1, .int .i64 (timesE f l1 l2).2.2]) ∧ Below w.heap.size w w'
theorem timesN_skip {l1 l2 : List Int} {k : Nat} (h : l2.getD k 0 = 0) : timesN l1 l2 (k + 1) = timesN l1 l2 k := by
  show (if _ then _ else _) = _; rw [if_pos h]
theorem timesN_new {l1 l2 : List Int} {k : Nat} (h : l2.getD k 0 ≠ 0) (h2 : (timesN l1 l2 k).1 < 0 ∨ l1.getD k 0 / l2.getD k 0 < (timesN l1 l2 k).1) : timesN l1 l2 (k + 1) = (l1.getD k 0 / l2.getD k 0, (k : Int)) := by
  show (if _ then _ else _) = _; rw [if_neg h, if_pos h2]
theorem timesN_keep {l1 l2 : List Int} {k : Nat} (h : l2.getD k 0 ≠ 0) (h2 : ¬ ((timesN l1 l2 k).1 < 0 ∨ l1.getD k 0 / l2.getD k 0 < (timesN l1 l2 k).1)) : timesN l1 l2 (k + 1) = timesN l1 l2 k := by
  show (if _ then _ else _) = _; rw [if_neg h, if_neg h2]

set_option maxRecDepth 100000 in
set_option maxHeartbeats 2000000 in
theorem Times_any (f : FT) (a : Option Addr) (c : Nat) (b1 : Option Addr) (l1 : List Int) (d1 : Nat) (b2 : Option Addr) (l2 : List Int) (d2 : Nat) (w : World) (hF : FAt w a f) (hX1 : IntsAt w b1 l1) (hl1 : l1.length ≤ maxLen) (hX2 : IntsAt w b2 l2) (hl2 : l2.length ≤ maxLen) :
    Calls Tryd.prog 48 #[.agg #[.string f.name, .int .i64 f.body, .slice a f.sorts.length c], .slice b1 l1.length d1, .slice b2 l2.length d2] w (TimesPost w f l1 l2) := by
  have hB0 := (Below.refl w.heap.size w).alloc (Nat.le_refl _) (.cells #[.string f.name, .int .i64 f.body, .slice a f.sorts.length c] 24)
  have hbox := lists_two (d1 := d1) (d2 := d2) (hX1.alloc (.cells #[.string f.name, .int .i64 f.body, .slice a f.sorts.length c] 24)) hl1 (hX2.alloc (.cells #[.string f.name, .int .i64 f.body, .slice a f.sorts.length c] 24)) hl2
  have hF2 := (hF.alloc (.cells #[.string f.name, .int .i64 f.body, .slice a f.sorts.length c] 24)).alloc (.cells #[.slice b1 l1.length d1, .slice b2 l2.length d2] 31)
  have hB1 := hB0.alloc (by simp) (.cells #[.slice b1 l1.length d1, .slice b2 l2.length d2] 31)
  by_cases h1 : casesErr f [l1, l2] = 0
  · obtain ⟨g1, g2⟩ := cases_zero h1
    obtain ⟨_, hR, _⟩ := checkF_right g1
    obtain ⟨hln1, hv1⟩ := countErr_zero (g2 l1 (by simp))
    obtain ⟨hln2, hv2⟩ := countErr_zero (g2 l2 (by simp))
    have hlt120 : l1.length ≤ 120 := by have := hR.2.2.2.1; omega
    have hln := Lib.hid (show l1.length = l2.length by omega)
    have hle12 : l1.length ≤ l2.length := by omega
    have HV1 := Lib.hid hv1; have HV2 := Lib.hid hv2
    clear hv1 hv2 hln1 hln2 g1 g2 hR
    go_enter Tryd.func48, Tryd.ntmps48
    go_wp2_with fail
    refine (errorOfCounts_any f a c _ [⟨b1, d1, l1⟩, ⟨b2, d2, l2⟩] _ _ hF2.ok (by exact hF2.at_) (by exact hF2.tab) (by simpa using hbox) (by unfold maxLen; simp)).mono ?_
    rintro e w1 ⟨rfl, hb⟩
    rw [show ([(⟨b1, d1, l1⟩ : IS), ⟨b2, d2, l2⟩].map (·.l)) = [l1, l2] from rfl, h1]
    have H1 := Lib.hid h1; clear h1
    have hB2 := hB1.trans (hb.mono (B' := w.heap.size) (by simp <;> omega))
    have hx1 := hX1.below hB2
    have hx2 := hX2.below hB2
    clear hb hF2 hbox hB1 hB0 hX1 hX2
    go_wp2_with fail
    go_loopw [10, 11, 25] (fun t s i wr => ∃ k : Nat, k ≤ l1.length ∧ i = .int .i64 k ∧ t = .int .i64 (timesN l1 l2 k).1 ∧ s = .int .i64 (timesN l1 l2 k).2 ∧ Drew w1 wr) (fun _ _ i _ => l1.length - (intOf i).toNat)
    case atStart => exact ⟨0, Nat.zero_le _, rfl, rfl, rfl, Drew.refl _⟩
    case round =>
      obtain ⟨k, hk, rfl, rfl, rfl, hD⟩ := hrel
      by_cases hlt : k < l1.length
      · obtain ⟨p1, rfl, hp1, hc1⟩ := (hD.ints hx1).at_ hlt
        obtain ⟨p2, rfl, hp2, hc2⟩ := (hD.ints hx2).at_ (k := k) (by omega)
        have hv1 := HV1.out k hlt
        have hv2 := HV2.out k (by omega)
        obtain ⟨x, ex⟩ : ∃ x, x = l1.getD k 0 := ⟨_, rfl⟩
        obtain ⟨y, ey⟩ : ∃ x, x = l2.getD k 0 := ⟨_, rfl⟩
        obtain ⟨t, et⟩ : ∃ t, t = (timesN l1 l2 k).1 := ⟨_, rfl⟩
        obtain ⟨s, es⟩ : ∃ t, t = (timesN l1 l2 k).2 := ⟨_, rfl⟩
        rw [← ex] at hv1 hc1
        rw [← ey] at hv2 hc2
        rw [← et, ← es]
        have EX := Lib.hid ex; have EY := Lib.hid ey; have ET := Lib.hid et; have ES := Lib.hid es; clear ex ey et es
        have hkl2 : (k : Int) < (l2.length : Int) := by omega
        have hkl1 : (k : Int) < (l1.length : Int) := by omega
        by_cases hy0 : y = 0
        · have HS := Lib.hid (timesN_skip (l1 := l1) (l2 := l2) (k := k) (by rw [← EY.out]; exact hy0))
          have hyb : (y == 0) = true := by simpa using hy0
          clear hy0
          go_wp2
          go_roundw
          case rel => exact ⟨k + 1, by omega, by go_num, by rw [HS.out, ET.out], by rw [HS.out, ES.out], hD⟩
          case measure => simp [intOf]; omega
        · have hyb : (y == 0) = false := by simpa using hy0
          have hy1 : 1 ≤ y := by omega
          have hq0 : 0 ≤ x / y := Int.ediv_nonneg hv1.1 (by omega)
          have hq1 : x / y ≤ 1000000 := Int.le_trans (Int.ediv_le_self y hv1.1) hv1.2
          by_cases ht : t < 0 ∨ x / y < t
          · have HS := Lib.hid (timesN_new (l1 := l1) (l2 := l2) (k := k) (by rw [← EY.out]; exact hy0) (by rw [← EX.out, ← EY.out, ← ET.out]; exact ht))
            clear hy0
            rcases Int.lt_or_le t 0 with h0 | h0
            all_goals
              go_wp2
              all_goals first | (exfalso; omega) | (exfalso; (simp at *) <;> omega) | skip
              all_goals go_roundw
              all_goals first | exact ⟨k + 1, by omega, by go_num, by rw [HS.out, EX.out, EY.out], by rw [HS.out], hD⟩ | (simp [intOf]; omega)
          · have HS := Lib.hid (timesN_keep (l1 := l1) (l2 := l2) (k := k) (by rw [← EY.out]; exact hy0) (by rw [← EX.out, ← EY.out, ← ET.out]; exact ht))
            have ht1 : 0 ≤ t := by omega
            have ht2 : t ≤ x / y := by omega
            clear hy0 ht
            go_wp2
            go_roundw
            case rel => exact ⟨k + 1, by omega, by go_num, by rw [HS.out, ET.out], by rw [HS.out, ES.out], hD⟩
            case measure => simp [intOf]; omega
      · have hk2 : k = l1.length := by omega
        have HT := Lib.hid (show timesE f l1 l2 = timesR l1 l2 l1.length by unfold timesE; rw [if_neg (by simp [H1.out])])
        have hge : l2.length ≤ l1.length := by have := hln.out; omega
        subst hk2
        by_cases ht : (timesN l1 l2 l1.length).1 < 0
        · have HR := Lib.hid (show timesR l1 l2 l1.length = (0, 0, 11) by unfold timesR; rw [if_pos ht])
          go_wp2
          go_ret3
          exact ⟨ret3_int (by rw [HT.out, HR.out]) (by rw [HT.out, HR.out]) (by rw [HT.out, HR.out]), hD.below hB2⟩
        · have HR := Lib.hid (show timesR l1 l2 l1.length = ((timesN l1 l2 l1.length).1, (timesN l1 l2 l1.length).2, 0) by unfold timesR; rw [if_neg ht])
          go_wp2
          go_ret3
          exact ⟨ret3_int (by rw [HT.out, HR.out]) (by rw [HT.out, HR.out]) (by rw [HT.out, HR.out]), hD.below hB2⟩
  · have H1 := Lib.hid h1
    have heb : (casesErr f [l1, l2] != 0) = true := by simpa using h1
    clear h1
    go_enter Tryd.func48, Tryd.ntmps48
    go_wp2_with fail
    refine (errorOfCounts_any f a c _ [⟨b1, d1, l1⟩, ⟨b2, d2, l2⟩] _ _ hF2.ok (by exact hF2.at_) (by exact hF2.tab) (by simpa using hbox) (by unfold maxLen; simp)).mono ?_
    rintro e w1 ⟨rfl, hb⟩
    rw [show ([(⟨b1, d1, l1⟩ : IS), ⟨b2, d2, l2⟩].map (·.l)) = [l1, l2] from rfl]
    have hB2 := hB1.trans (hb.mono (B' := w.heap.size) (by simp <;> omega))
    clear hb hF2 hbox hB1 hB0
    go_wp2
    have HT := Lib.hid (show timesE f l1 l2 = (0, 0, casesErr f [l1, l2]) by unfold timesE; rw [if_pos H1.out])
    go_ret3
    exact ⟨ret3_int (by rw [HT.out]) (by rw [HT.out]) (by rw [HT.out]), hB2⟩
end Go.Proofs.YtjkcomafgkabeaaDoor
