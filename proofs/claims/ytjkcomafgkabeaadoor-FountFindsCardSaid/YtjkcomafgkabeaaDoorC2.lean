/-
  What a case lacks; two cases joined.
-/
import Derived.Test.YtjkcomafgkabeaaDoorC1
namespace Go.Proofs.YtjkcomafgkabeaaDoor
open Go.RowKit Go.Maps

def lack (l1 l2 : List Int) (k : Nat) : Int := max (l2.getD k 0 - l1.getD k 0) 0
def plus (l1 l2 : List Int) (k : Nat) : Int := l1.getD k 0 + l2.getD k 0
/-- Is a sum too great, from the k-th on? -/
def over (l1 l2 : List Int) : Nat → Nat → Bool
  | 0, _ => false
  | n + 1, k => if 1000000 < plus l1 l2 k then true else over l1 l2 n (k + 1)
theorem over_stop {l1 l2 : List Int} {n k : Nat} (h : k < n) (e : 1000000 < plus l1 l2 k) : over l1 l2 (n - k) k = true := by
  obtain ⟨m, hm⟩ : ∃ m, n - k = m + 1 := ⟨n - k - 1, by omega⟩
  rw [hm]; unfold over; rw [if_pos e]
theorem over_go {l1 l2 : List Int} {n k : Nat} (h : k < n) (e : ¬ 1000000 < plus l1 l2 k) : over l1 l2 (n - k) k = over l1 l2 (n - (k + 1)) (k + 1) := by
  obtain ⟨m, hm⟩ : ∃ m, n - k = m + 1 := ⟨n - k - 1, by omega⟩
  rw [hm, show n - (k + 1) = m by omega]
  show (if _ then _ else _) = _
  rw [if_neg e]
theorem over_end {l1 l2 : List Int} {n k : Nat} (h : ¬ k < n) : over l1 l2 (n - k) k = false := by rw [show n - k = 0 by omega]; rfl

def LackPost (w : World) (f : FT) (l1 l2 : List Int) (e : Ending) (w' : World) : Prop :=
  Below w.heap.size w w' ∧
  ((casesErr f [l1, l2] ≠ 0 ∧ e = .returned (.tuple #[.slice none 0 0, .int .i64 (casesErr f [l1, l2])])) ∨
   (casesErr f [l1, l2] = 0 ∧ ∃ g : Nat, e = .returned (.tuple #[.slice (some ⟨g, 0, none⟩) l1.length l1.length, .int .i64 0]) ∧ Own w' g l1.length (lack l1 l2) l1.length))
def JoinPost (w : World) (f : FT) (l1 l2 : List Int) (e : Ending) (w' : World) : Prop :=
  Below w.heap.size w w' ∧
  ((casesErr f [l1, l2] ≠ 0 ∧ e = .returned (.tuple #[.slice none 0 0, .int .i64 (casesErr f [l1, l2])])) ∨
   (casesErr f [l1, l2] = 0 ∧ over l1 l2 l1.length 0 = true ∧ e = .returned (.tuple #[.slice none 0 0, .int .i64 8])) ∨
   (casesErr f [l1, l2] = 0 ∧ over l1 l2 l1.length 0 = false ∧ ∃ g : Nat, e = .returned (.tuple #[.slice (some ⟨g, 0, none⟩) l1.length l1.length, .int .i64 0]) ∧ Own w' g l1.length (plus l1 l2) l1.length))

set_option maxRecDepth 100000 in
set_option maxHeartbeats 2000000 in
theorem Lacking_any (f : FT) (a : Option Addr) (c : Nat) (b1 : Option Addr) (l1 : List Int) (d1 : Nat) (b2 : Option Addr) (l2 : List Int) (d2 : Nat) (w : World) (hF : FAt w a f) (hX1 : IntsAt w b1 l1) (hl1 : l1.length ≤ maxLen) (hX2 : IntsAt w b2 l2) (hl2 : l2.length ≤ maxLen) :
    Calls Tryd.prog 47 #[.agg #[.string f.name, .int .i64 f.body, .slice a f.sorts.length c], .slice b1 l1.length d1, .slice b2 l2.length d2] w (LackPost w f l1 l2) := by
  have hB0 := (Below.refl w.heap.size w).alloc (Nat.le_refl _) (.cells #[.string f.name, .int .i64 f.body, .slice a f.sorts.length c] 24)
  have hbox := lists_two (d1 := d1) (d2 := d2) (hX1.alloc (.cells #[.string f.name, .int .i64 f.body, .slice a f.sorts.length c] 24)) hl1 (hX2.alloc (.cells #[.string f.name, .int .i64 f.body, .slice a f.sorts.length c] 24)) hl2
  have hF2 := (hF.alloc (.cells #[.string f.name, .int .i64 f.body, .slice a f.sorts.length c] 24)).alloc (.cells #[.slice b1 l1.length d1, .slice b2 l2.length d2] 31)
  have hB1 := hB0.alloc (by simp) (.cells #[.slice b1 l1.length d1, .slice b2 l2.length d2] 31)
  by_cases h1 : casesErr f [l1, l2] = 0
  · obtain ⟨g1, g2⟩ := cases_zero h1
    obtain ⟨_, hR, _⟩ := checkF_right g1
    obtain ⟨hln1, hv1⟩ := countErr_zero (g2 l1 (by simp))
    obtain ⟨hln2, hv2⟩ := countErr_zero (g2 l2 (by simp))
    have hlt120 : l1.length ≤ 120 := by have := hR.2.2.2.1; omega
    have hmk := fun W => run_make_row' (P := Tryd.prog) 31 3 (.int .i64 0) 8 Tryd.underlying31 info3 rfl .i64 .i64 l1.length (by omega) (by omega) W
    have hle12 : l1.length ≤ l2.length := by omega
    have HV1 := Lib.hid hv1; have HV2 := Lib.hid hv2
    clear hv1 hv2 hln1 hln2 g1 g2 hR
    go_enter Tryd.func47, Tryd.ntmps47
    go_wp2_with fail
    refine (errorOfCounts_any f a c _ [⟨b1, d1, l1⟩, ⟨b2, d2, l2⟩] _ _ hF2.ok (by exact hF2.at_) (by exact hF2.tab) (by simpa using hbox) (by unfold maxLen; simp)).mono ?_
    rintro e w1 ⟨rfl, hb⟩
    rw [show ([(⟨b1, d1, l1⟩ : IS), ⟨b2, d2, l2⟩].map (·.l)) = [l1, l2] from rfl, h1]
    have H1 := Lib.hid h1; clear h1
    have hB2 := hB1.trans (hb.mono (B' := w.heap.size) (by simp <;> omega))
    have hx1 := hX1.below hB2
    have hx2 := hX2.below hB2
    clear hb hF2 hbox hB1 hB0 hX1 hX2
    go_wp2_with fail
    go_loopw [24] (fun i wr => ∃ k : Nat, k ≤ l1.length ∧ i = .int .i64 k ∧ Below w1.heap.size w1 wr ∧ Own wr w1.heap.size l1.length (lack l1 l2) k) (fun i _ => l1.length - (intOf i).toNat)
    case atStart => exact ⟨0, Nat.zero_le _, rfl, (Below.refl _ _).alloc (Nat.le_refl _) _, Own.made _ _ _ _ (Nat.zero_le _) (fun j hj => by omega)⟩
    case round =>
      obtain ⟨k, hk, rfl, hBr, hOwn⟩ := hrel
      by_cases hlt : k < l1.length
      · obtain ⟨p1, rfl, hp1, hc1⟩ := (hx1.below hBr).at_ hlt
        obtain ⟨p2, rfl, hp2, hc2⟩ := (hx2.below hBr).at_ (k := k) (by omega)
        have hv1 := HV1.out k hlt
        have hv2 := HV2.out k (by omega)
        obtain ⟨x, ex⟩ : ∃ x, x = l1.getD k 0 := ⟨_, rfl⟩
        obtain ⟨y, ey⟩ : ∃ x, x = l2.getD k 0 := ⟨_, rfl⟩
        rw [← ex] at hv1 hc1
        rw [← ey] at hv2 hc2
        have EX := Lib.hid ex; have EY := Lib.hid ey; clear ex ey
        have hkl2 : (k : Int) < (l2.length : Int) := by omega
        have hkl1 : (k : Int) < (l1.length : Int) := by omega
        obtain ⟨v0, hv0⟩ := hOwn.some_ hlt
        have hfz := hOwn.frozen k
        rcases Int.lt_or_le (y - x) 0 with hd | hd
        all_goals
          go_wp2_with fail
          go_region
          go_wp2
          go_roundw
          case rel => exact ⟨k + 1, by omega, by go_num, (hBr.setCell (by simp) _).drew, (hOwn.set_ hlt (by unfold lack; rw [← EX.out, ← EY.out]; omega)).drew⟩
          case measure => simp [intOf]; omega
      · have hk2 : k = l1.length := by omega
        subst hk2
        go_wp2
        go_ret2
        exact ⟨hB2.trans (hBr.mono (B' := w.heap.size) hB2.size), .inr ⟨H1.out, _, rfl, hOwn⟩⟩
  · have H1 := Lib.hid h1
    have heb : (casesErr f [l1, l2] != 0) = true := by simpa using h1
    clear h1
    go_enter Tryd.func47, Tryd.ntmps47
    go_wp2_with fail
    refine (errorOfCounts_any f a c _ [⟨b1, d1, l1⟩, ⟨b2, d2, l2⟩] _ _ hF2.ok (by exact hF2.at_) (by exact hF2.tab) (by simpa using hbox) (by unfold maxLen; simp)).mono ?_
    rintro e w1 ⟨rfl, hb⟩
    rw [show ([(⟨b1, d1, l1⟩ : IS), ⟨b2, d2, l2⟩].map (·.l)) = [l1, l2] from rfl]
    have hB2 := hB1.trans (hb.mono (B' := w.heap.size) (by simp <;> omega))
    clear hb hF2 hbox hB1 hB0
    go_wp2
    go_ret2
    exact ⟨hB2, .inl ⟨H1.out, rfl⟩⟩

set_option maxRecDepth 100000 in
set_option maxHeartbeats 2000000 in
theorem Joined_any (f : FT) (a : Option Addr) (c : Nat) (b1 : Option Addr) (l1 : List Int) (d1 : Nat) (b2 : Option Addr) (l2 : List Int) (d2 : Nat) (w : World) (hF : FAt w a f) (hX1 : IntsAt w b1 l1) (hl1 : l1.length ≤ maxLen) (hX2 : IntsAt w b2 l2) (hl2 : l2.length ≤ maxLen) :
    Calls Tryd.prog 42 #[.agg #[.string f.name, .int .i64 f.body, .slice a f.sorts.length c], .slice b1 l1.length d1, .slice b2 l2.length d2] w (JoinPost w f l1 l2) := by
  have hB0 := (Below.refl w.heap.size w).alloc (Nat.le_refl _) (.cells #[.string f.name, .int .i64 f.body, .slice a f.sorts.length c] 24)
  have hbox := lists_two (d1 := d1) (d2 := d2) (hX1.alloc (.cells #[.string f.name, .int .i64 f.body, .slice a f.sorts.length c] 24)) hl1 (hX2.alloc (.cells #[.string f.name, .int .i64 f.body, .slice a f.sorts.length c] 24)) hl2
  have hF2 := (hF.alloc (.cells #[.string f.name, .int .i64 f.body, .slice a f.sorts.length c] 24)).alloc (.cells #[.slice b1 l1.length d1, .slice b2 l2.length d2] 31)
  have hB1 := hB0.alloc (by simp) (.cells #[.slice b1 l1.length d1, .slice b2 l2.length d2] 31)
  by_cases h1 : casesErr f [l1, l2] = 0
  · obtain ⟨g1, g2⟩ := cases_zero h1
    obtain ⟨_, hR, _⟩ := checkF_right g1
    obtain ⟨hln1, hv1⟩ := countErr_zero (g2 l1 (by simp))
    obtain ⟨hln2, hv2⟩ := countErr_zero (g2 l2 (by simp))
    have hlt120 : l1.length ≤ 120 := by have := hR.2.2.2.1; omega
    have hmk := fun W => run_make_row' (P := Tryd.prog) 31 3 (.int .i64 0) 8 Tryd.underlying31 info3 rfl .i64 .i64 l1.length (by omega) (by omega) W
    have hle12 : l1.length ≤ l2.length := by omega
    have HV1 := Lib.hid hv1; have HV2 := Lib.hid hv2
    clear hv1 hv2 hln1 hln2 g1 g2 hR
    go_enter Tryd.func42, Tryd.ntmps42
    go_wp2_with fail
    refine (errorOfCounts_any f a c _ [⟨b1, d1, l1⟩, ⟨b2, d2, l2⟩] _ _ hF2.ok (by exact hF2.at_) (by exact hF2.tab) (by simpa using hbox) (by unfold maxLen; simp)).mono ?_
    rintro e w1 ⟨rfl, hb⟩
    rw [show ([(⟨b1, d1, l1⟩ : IS), ⟨b2, d2, l2⟩].map (·.l)) = [l1, l2] from rfl, h1]
    have H1 := Lib.hid h1; clear h1
    have hB2 := hB1.trans (hb.mono (B' := w.heap.size) (by simp <;> omega))
    have hx1 := hX1.below hB2
    have hx2 := hX2.below hB2
    clear hb hF2 hbox hB1 hB0 hX1 hX2
    go_wp2_with fail
    go_loopw [24] (fun i wr => ∃ k : Nat, k ≤ l1.length ∧ i = .int .i64 k ∧ Hid (over l1 l2 (l1.length - 0) 0 = over l1 l2 (l1.length - k) k) ∧ Below w1.heap.size w1 wr ∧ Own wr w1.heap.size l1.length (plus l1 l2) k) (fun i _ => l1.length - (intOf i).toNat)
    case atStart => exact ⟨0, Nat.zero_le _, rfl, Lib.hid rfl, (Below.refl _ _).alloc (Nat.le_refl _) _, Own.made _ _ _ _ (Nat.zero_le _) (fun j hj => by omega)⟩
    case round =>
      obtain ⟨k, hk, rfl, HS, hBr, hOwn⟩ := hrel
      by_cases hlt : k < l1.length
      · obtain ⟨p1, rfl, hp1, hc1⟩ := (hx1.below hBr).at_ hlt
        obtain ⟨p2, rfl, hp2, hc2⟩ := (hx2.below hBr).at_ (k := k) (by omega)
        have hv1 := HV1.out k hlt
        have hv2 := HV2.out k (by omega)
        obtain ⟨x, ex⟩ : ∃ x, x = l1.getD k 0 := ⟨_, rfl⟩
        obtain ⟨y, ey⟩ : ∃ x, x = l2.getD k 0 := ⟨_, rfl⟩
        rw [← ex] at hv1 hc1
        rw [← ey] at hv2 hc2
        have EX := Lib.hid ex; have EY := Lib.hid ey; clear ex ey
        have hkl2 : (k : Int) < (l2.length : Int) := by omega
        have hkl1 : (k : Int) < (l1.length : Int) := by omega
        obtain ⟨v0, hv0⟩ := hOwn.some_ hlt
        have hfz := hOwn.frozen k
        by_cases hxy : 1000000 < x + y
        · have hst := Lib.hid (over_stop (l1 := l1) (l2 := l2) hlt (by unfold plus; rw [← EX.out, ← EY.out]; exact hxy))
          go_wp2_with fail
          go_region
          go_wp2
          go_ret2
          exact ⟨hB2.trans (Below.mono (B' := w.heap.size) ((Below.drew hBr).setCell (by simp) _) hB2.size), .inr (.inl ⟨H1.out, (HS.out.trans hst.out), rfl⟩)⟩
        · have hst := Lib.hid (over_go (l1 := l1) (l2 := l2) hlt (by unfold plus; rw [← EX.out, ← EY.out]; exact hxy))
          have hxy' : x + y ≤ 1000000 := by omega
          go_wp2_with fail
          go_region
          go_wp2
          go_roundw
          case rel => exact ⟨k + 1, by omega, by go_num, Lib.hid (HS.out.trans hst.out), (Below.drew hBr).setCell (by simp) _, hOwn.drew.set_ hlt (by unfold plus; rw [← EX.out, ← EY.out])⟩
          case measure => simp [intOf]; omega
      · have hst := Lib.hid (over_end (l1 := l1) (l2 := l2) hlt)
        have hk2 : k = l1.length := by omega
        subst hk2
        go_wp2
        go_ret2
        exact ⟨hB2.trans (hBr.mono (B' := w.heap.size) hB2.size), .inr (.inr ⟨H1.out, (HS.out.trans hst.out), _, rfl, hOwn⟩)⟩
  · have H1 := Lib.hid h1
    have heb : (casesErr f [l1, l2] != 0) = true := by simpa using h1
    clear h1
    go_enter Tryd.func42, Tryd.ntmps42
    go_wp2_with fail
    refine (errorOfCounts_any f a c _ [⟨b1, d1, l1⟩, ⟨b2, d2, l2⟩] _ _ hF2.ok (by exact hF2.at_) (by exact hF2.tab) (by simpa using hbox) (by unfold maxLen; simp)).mono ?_
    rintro e w1 ⟨rfl, hb⟩
    rw [show ([(⟨b1, d1, l1⟩ : IS), ⟨b2, d2, l2⟩].map (·.l)) = [l1, l2] from rfl]
    have hB2 := hB1.trans (hb.mono (B' := w.heap.size) (by simp <;> omega))
    clear hb hF2 hbox hB1 hB0
    go_wp2
    go_ret2
    exact ⟨hB2, .inl ⟨H1.out, rfl⟩⟩
end Go.Proofs.YtjkcomafgkabeaaDoor
