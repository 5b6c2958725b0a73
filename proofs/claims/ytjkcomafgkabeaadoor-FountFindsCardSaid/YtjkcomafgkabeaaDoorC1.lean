/-
  A slice of the call's own that is filled number by number; taking a need from a case.
-/
import Derived.Test.YtjkcomafgkabeaaDoorB3
import Derived.Deep.OwnRows
import Derived.Laws.Rows
import Derived.RegionTactic
import Derived.BigRegion
namespace Go.Proofs.YtjkcomafgkabeaaDoor
open Go.RowKit Go.Maps

theorem info3 : (Tryd.prog.info? 3).map (fun i => (i.zero, i.size, i.bytes)) = some (some (.int .i64 0), 1, 8) := by kernel_rfl
/-- Block g is a row of n cells; the first k of them hold the numbers of fn. -/
def Own (w : World) (g n : Nat) (fn : Nat → Int) (k : Nat) : Prop := ∃ cs : Array Value, w.heap[g]? = some (.cells cs 3 (0, 0)) ∧ cs.size = n ∧ ∀ j, j < k → cs[j]? = some (.int .i64 (fn j))
theorem Own.made (w : World) (n : Nat) (fn : Nat → Int) (k : Nat) (h : k ≤ n) (hz : ∀ j, j < k → fn j = 0) : Own (w.alloc (.cells (madeCells #[.int .i64 0] n) 3)) w.heap.size n fn k := by
  refine ⟨_, heap_alloc_new w _, size_madeCells _ _, fun j hj => ?_⟩
  rw [hz j hj]
  have : j < n := by omega
  simp [madeCells, this, Nat.mod_one]
theorem Own.lt {w : World} {g n : Nat} {fn : Nat → Int} {k : Nat} (h : Own w g n fn k) : g < w.heap.size := by
  obtain ⟨cs, h1, _⟩ := h
  rcases Nat.lt_or_ge g w.heap.size with hlt | hge
  · exact hlt
  · rw [Array.getElem?_eq_none hge] at h1; cases h1
theorem Own.some_ {w : World} {g n : Nat} {fn : Nat → Int} {k : Nat} (h : Own w g n fn k) {j : Nat} (hj : j < n) : ∃ v, w.cell? ⟨g, j, none⟩ = some v := by
  obtain ⟨cs, h1, h2, _⟩ := h
  exact ⟨cs[j]'(by omega), by rw [cell_of_row w g j cs _ (0, 0) h1]; exact Array.getElem?_eq_getElem (by omega)⟩
theorem Own.cell {w : World} {g n : Nat} {fn : Nat → Int} {k : Nat} (h : Own w g n fn k) {j : Nat} (hj : j < k) : w.cell? ⟨g, j, none⟩ = some (.int .i64 (fn j)) := by
  obtain ⟨cs, h1, h2, h3⟩ := h
  rw [cell_of_row w g j cs _ (0, 0) h1]; exact h3 j hj
theorem Own.frozen {w : World} {g n : Nat} {fn : Nat → Int} {k : Nat} (h : Own w g n fn k) (j : Nat) : w.frozen? ⟨g, j, none⟩ = false := by
  obtain ⟨cs, h1, _⟩ := h
  simp [World.frozen?, h1]
theorem Own.drewN {w : World} {g n : Nat} {fn : Nat → Int} {k : Nat} (h : Own w g n fn k) (m : Nat) : Own (w.drewN m) g n fn k := h
theorem Own.drew {w : World} {g n : Nat} {fn : Nat → Int} {k : Nat} (h : Own w g n fn k) : Own w.drew g n fn k := h
theorem Own.set_ {w : World} {g n : Nat} {fn : Nat → Int} {k : Nat} (h : Own w g n fn k) (hk : k < n) {v : Int} (hv : v = fn k) : Own (w.setCell ⟨g, k, none⟩ (.int .i64 v)) g n fn (k + 1) := by
  obtain ⟨cs, h1, h2, h3⟩ := h
  refine ⟨cs.setIfInBounds k (.int .i64 v), by simp [World.setCell, Array.getElem?_modify, h1], by simp [h2], fun j hj => ?_⟩
  by_cases e : j = k
  · subst e; rw [hv, Array.getElem?_setIfInBounds_self_of_lt (by omega)]
  · rw [Array.getElem?_setIfInBounds_ne (fun h => e h.symm)]
    exact h3 j (by omega)
def tab (n : Nat) (fn : Nat → Int) : List Int := (List.range n).map fn
theorem tab_len (n : Nat) (fn : Nat → Int) : (tab n fn).length = n := by simp [tab]
theorem tab_at {n : Nat} {fn : Nat → Int} {k : Nat} (h : k < n) : (tab n fn).getD k 0 = fn k := by
  rw [getI (by rw [tab_len]; exact h)]; simp [tab]
theorem Own.ints {w : World} {g n : Nat} {fn : Nat → Int} (h : Own w g n fn n) : IntsAt w (some ⟨g, 0, none⟩) (tab n fn) := by
  intro k hk
  rw [tab_len] at hk
  refine ⟨_, rfl, h.lt, ?_⟩
  rw [tab_at hk]
  have : (⟨g, 0, none⟩ : Addr).add k = ⟨g, k, none⟩ := by
    unfold Addr.add; split
    · rename_i h0; rw [h0]
    · simp
  rw [this]; exact h.cell hk

/-- The first sort of which there is not enough. -/
def short (l1 l2 : List Int) : Nat → Nat → Option Nat
  | 0, _ => none
  | n + 1, k => if l1.getD k 0 < l2.getD k 0 then some k else short l1 l2 n (k + 1)
theorem short_stop {l1 l2 : List Int} {n k : Nat} (h : k < n) (e : l1.getD k 0 < l2.getD k 0) : short l1 l2 (n - k) k = some k := by
  obtain ⟨m, hm⟩ : ∃ m, n - k = m + 1 := ⟨n - k - 1, by omega⟩
  rw [hm]; unfold short; rw [if_pos e]
theorem short_go {l1 l2 : List Int} {n k : Nat} (h : k < n) (e : ¬ l1.getD k 0 < l2.getD k 0) : short l1 l2 (n - k) k = short l1 l2 (n - (k + 1)) (k + 1) := by
  obtain ⟨m, hm⟩ : ∃ m, n - k = m + 1 := ⟨n - k - 1, by omega⟩
  rw [hm, show n - (k + 1) = m by omega]
  show (if _ then _ else _) = _
  rw [if_neg e]
theorem short_end {l1 l2 : List Int} {n k : Nat} (h : ¬ k < n) : short l1 l2 (n - k) k = none := by rw [show n - k = 0 by omega]; rfl
def minus (l1 l2 : List Int) (k : Nat) : Int := l1.getD k 0 - l2.getD k 0

def TakenPost (w : World) (f : FT) (l1 l2 : List Int) (e : Ending) (w' : World) : Prop :=
  Below w.heap.size w w' ∧
  ((casesErr f [l1, l2] ≠ 0 ∧ e = .returned (.tuple #[.slice none 0 0, .int .i64 0, .int .i64 (casesErr f [l1, l2])])) ∨
   (casesErr f [l1, l2] = 0 ∧ ∃ i : Nat, short l1 l2 l1.length 0 = some i ∧ e = .returned (.tuple #[.slice none 0 0, .int .i64 i, .int .i64 20])) ∨
   (casesErr f [l1, l2] = 0 ∧ short l1 l2 l1.length 0 = none ∧ ∃ g : Nat, e = .returned (.tuple #[.slice (some ⟨g, 0, none⟩) l1.length l1.length, .int .i64 0, .int .i64 0]) ∧ Own w' g l1.length (minus l1 l2) l1.length))

set_option maxRecDepth 100000 in
set_option maxHeartbeats 2000000 in
theorem Taken_any (f : FT) (a : Option Addr) (c : Nat) (b1 : Option Addr) (l1 : List Int) (d1 : Nat) (b2 : Option Addr) (l2 : List Int) (d2 : Nat) (w : World) (hF : FAt w a f) (hX1 : IntsAt w b1 l1) (hl1 : l1.length ≤ maxLen) (hX2 : IntsAt w b2 l2) (hl2 : l2.length ≤ maxLen) :
    Calls Tryd.prog 46 #[.agg #[.string f.name, .int .i64 f.body, .slice a f.sorts.length c], .slice b1 l1.length d1, .slice b2 l2.length d2] w (TakenPost w f l1 l2) := by
  have hB0 := (Below.refl w.heap.size w).alloc (Nat.le_refl _) (.cells #[.string f.name, .int .i64 f.body, .slice a f.sorts.length c] 24)
  have hbox := lists_two (d1 := d1) (d2 := d2) (hX1.alloc (.cells #[.string f.name, .int .i64 f.body, .slice a f.sorts.length c] 24)) hl1 (hX2.alloc (.cells #[.string f.name, .int .i64 f.body, .slice a f.sorts.length c] 24)) hl2
  have hF2 := (hF.alloc (.cells #[.string f.name, .int .i64 f.body, .slice a f.sorts.length c] 24)).alloc (.cells #[.slice b1 l1.length d1, .slice b2 l2.length d2] 31)
  have hB1 := hB0.alloc (by simp) (.cells #[.slice b1 l1.length d1, .slice b2 l2.length d2] 31)
  by_cases h1 : casesErr f [l1, l2] = 0
  · obtain ⟨g1, g2⟩ := cases_zero h1
    obtain ⟨_, hR, _⟩ := checkF_right g1
    obtain ⟨hln1, hv1⟩ := countErr_zero (g2 l1 (by simp))
    obtain ⟨hln2, hv2⟩ := countErr_zero (g2 l2 (by simp))
    have hlt120 : l1.length ≤ 120 := by have := hR.2.2.2.1; omega
    have hmk := fun W => run_make_row' (P := Tryd.prog) 31 3 (.int .i64 0) 8 Tryd.underlying31 info3 rfl .i64 .i64 l1.length (by omega) (by omega) W
    have hle12 : l1.length ≤ l2.length := by omega
    have HV1 := Lib.hid hv1; have HV2 := Lib.hid hv2
    clear hv1 hv2 hln1 hln2 g1 g2 hR
    go_enter Tryd.func46, Tryd.ntmps46
    go_wp2_with fail
    refine (errorOfCounts_any f a c _ [⟨b1, d1, l1⟩, ⟨b2, d2, l2⟩] _ _ hF2.ok (by exact hF2.at_) (by exact hF2.tab) (by simpa using hbox) (by unfold maxLen; simp)).mono ?_
    rintro e w1 ⟨rfl, hb⟩
    rw [show ([(⟨b1, d1, l1⟩ : IS), ⟨b2, d2, l2⟩].map (·.l)) = [l1, l2] from rfl, h1]
    have H1 := Lib.hid h1; clear h1
    have hB2 := hB1.trans (hb.mono (B' := w.heap.size) (by simp <;> omega))
    have hx1 := hX1.below hB2
    have hx2 := hX2.below hB2
    clear hb hF2 hbox hB1 hB0 hX1 hX2
    go_wp2_with fail
    go_loopw [25] (fun i wr => ∃ k : Nat, k ≤ l1.length ∧ i = .int .i64 k ∧ Hid (short l1 l2 (l1.length - 0) 0 = short l1 l2 (l1.length - k) k) ∧ Below w1.heap.size w1 wr ∧ Own wr w1.heap.size l1.length (minus l1 l2) k) (fun i _ => l1.length - (intOf i).toNat)
    case atStart => exact ⟨0, Nat.zero_le _, rfl, Lib.hid rfl, (Below.refl _ _).alloc (Nat.le_refl _) _, Own.made _ _ _ _ (Nat.zero_le _) (fun j hj => by omega)⟩
    case round =>
      obtain ⟨k, hk, rfl, HS, hBr, hOwn⟩ := hrel
      by_cases hlt : k < l1.length
      · obtain ⟨p1, rfl, hp1, hc1⟩ := (hx1.below hBr).at_ hlt
        obtain ⟨p2, rfl, hp2, hc2⟩ := (hx2.below hBr).at_ (k := k) (by omega)
        have hv1 := HV1.out k hlt
        have hv2 := HV2.out k (by omega)
        obtain ⟨x, ex⟩ : ∃ x, x = l1.getD k 0 := ⟨_, rfl⟩
        obtain ⟨y, ey⟩ : ∃ x, x = l2.getD k 0 := ⟨_, rfl⟩
        rw [← ex] at hv1 hc1
        rw [← ey] at hv2 hc2
        have EX := Lib.hid ex; have EY := Lib.hid ey; clear ex ey
        have hkl2 : (k : Int) < (l2.length : Int) := by omega
        have hkl1 : (k : Int) < (l1.length : Int) := by omega
        by_cases hxy : x < y
        · have hst := Lib.hid (short_stop (l1 := l1) (l2 := l2) hlt (by rw [← EX.out, ← EY.out]; exact hxy))
          go_wp2_with fail
          go_quiet (fail)
          go_wp2
          go_ret3
          exact ⟨below_drewN (hB2.trans (hBr.mono (B' := w.heap.size) hB2.size)) _, .inr (.inl ⟨H1.out, k, (HS.out.trans hst.out), rfl⟩)⟩
        · have hst := Lib.hid (short_go (l1 := l1) (l2 := l2) hlt (by rw [← EX.out, ← EY.out]; exact hxy))
          have hxy' : y ≤ x := by omega
          obtain ⟨v0, hv0⟩ := hOwn.some_ hlt
          have hfz := hOwn.frozen k
          go_wp2_with fail
          go_quiet (fail)
          go_wp2
          go_region
          go_wp2
          go_roundw
          case rel => exact ⟨k + 1, by omega, by go_num, Lib.hid (HS.out.trans hst.out), (below_drewN hBr _).setCell (by simp) _, (hOwn.drewN _).set_ hlt (by unfold minus; rw [← EX.out, ← EY.out])⟩
          case measure => simp [intOf]; omega
      · have hst := Lib.hid (short_end (l1 := l1) (l2 := l2) hlt)
        have hk2 : k = l1.length := by omega
        subst hk2
        go_wp2
        go_ret3
        exact ⟨hB2.trans (hBr.mono (B' := w.heap.size) hB2.size), .inr (.inr ⟨H1.out, (HS.out.trans hst.out), _, rfl, hOwn⟩)⟩
  · have H1 := Lib.hid h1
    have heb : (casesErr f [l1, l2] != 0) = true := by simpa using h1
    clear h1
    go_enter Tryd.func46, Tryd.ntmps46
    go_wp2_with fail
    refine (errorOfCounts_any f a c _ [⟨b1, d1, l1⟩, ⟨b2, d2, l2⟩] _ _ hF2.ok (by exact hF2.at_) (by exact hF2.tab) (by simpa using hbox) (by unfold maxLen; simp)).mono ?_
    rintro e w1 ⟨rfl, hb⟩
    rw [show ([(⟨b1, d1, l1⟩ : IS), ⟨b2, d2, l2⟩].map (·.l)) = [l1, l2] from rfl]
    have hB2 := hB1.trans (hb.mono (B' := w.heap.size) (by simp <;> omega))
    clear hb hF2 hbox hB1 hB0
    go_wp2
    go_ret3
    exact ⟨hB2, .inl ⟨H1.out, rfl⟩⟩
end Go.Proofs.YtjkcomafgkabeaaDoor
