/-
  Comparing numbers; sorting by insertion, as plain lists.
-/
import Derived.Test.YtebndgepmjonoaaDoorZB
import Derived.Test.YtebndgepmjonoaaDoorZD
namespace Go.Proofs.YtebndgepmjonoaaDoor
open Go.RowKit Go.Maps

def cmpI (a b : Int) : Int := if a < b then -1 else if b < a then 1 else 0
set_option maxHeartbeats 400000 in
theorem isNaN_any (a : Int) (w : World) : Calls Tryd.prog 60 #[.int .i64 a] w fun e w' => e = .returned (.bool false) ∧ w = w' := by
  go_enter Tryd.func60, Tryd.ntmps60
  go_wp2
  go_ret
  exact ⟨ret_bool (by simp), rfl⟩
set_option maxHeartbeats 400000 in
theorem compare_any (a b : Int) (w : World) : Calls Tryd.prog 36 #[.int .i64 a, .int .i64 b] w fun e w' => e = .returned (.int .i64 (cmpI a b)) ∧ w' = w := by
  by_cases h1 : a < b
  · have HE := Lib.hid (show cmpI a b = -1 by unfold cmpI; rw [if_pos h1])
    go_enter Tryd.func36, Tryd.ntmps36
    go_wp2_with (go_at_call 60; refine (isNaN_any _ _).mono ?_; rintro e w' ⟨rfl, rfl⟩)
    go_ret
    exact ⟨ret_int HE.out.symm, rfl⟩
  by_cases h2 : b < a
  · have HE := Lib.hid (show cmpI a b = 1 by unfold cmpI; rw [if_neg h1, if_pos h2])
    go_enter Tryd.func36, Tryd.ntmps36
    go_wp2_with (go_at_call 60; refine (isNaN_any _ _).mono ?_; rintro e w' ⟨rfl, rfl⟩)
    go_ret
    exact ⟨ret_int HE.out.symm, rfl⟩
  · have HE := Lib.hid (show cmpI a b = 0 by unfold cmpI; rw [if_neg h1, if_neg h2])
    have h1' : b ≤ a := by omega
    have h2' : a ≤ b := by omega
    clear h1 h2
    go_enter Tryd.func36, Tryd.ntmps36
    go_wp2_with (go_at_call 60; refine (isNaN_any _ _).mono ?_; rintro e w' ⟨rfl, rfl⟩)
    go_ret
    exact ⟨ret_int HE.out.symm, rfl⟩

def swp (L : List Int) (j : Nat) : List Int := (L.set (j + 1) (L.getD j 0)).set j (L.getD (j + 1) 0)
/-- The element at place j goes down while it comes ahead of the one before. -/
def ins (lt : Int → Int → Bool) : Nat → List Int → List Int
  | 0, L => L
  | j + 1, L => if lt (L.getD (j + 1) 0) (L.getD j 0) = true then ins lt j (swp L j) else L
def insAll (lt : Int → Int → Bool) : Nat → Nat → List Int → List Int
  | 0, _, L => L
  | m + 1, i, L => insAll lt m (i + 1) (ins lt i L)
theorem swp_len (L : List Int) (j : Nat) : (swp L j).length = L.length := by simp [swp]
theorem ins_len (lt : Int → Int → Bool) : ∀ (j : Nat) (L : List Int), (ins lt j L).length = L.length := by
  intro j
  induction j with
  | zero => intro L; rfl
  | succ j ih =>
    intro L
    unfold ins
    split
    · rw [ih, swp_len]
    · rfl
/-- Block g is just the row of the numbers L. -/
def RowX (w : World) (g : Nat) (L : List Int) : Prop := w.heap[g]? = some (.cells (vals L).toArray 3 (0, 0))
theorem RowX.cell {w : World} {g : Nat} {L : List Int} (h : RowX w g L) {j : Nat} (hj : j < L.length) : w.cell? ⟨g, j, none⟩ = some (.int .i64 (L.getD j 0)) := by
  rw [cell_of_row w g j _ _ (0, 0) h]
  rw [List.getElem?_toArray]; exact vals_at hj
theorem RowX.frozen {w : World} {g : Nat} {L : List Int} (h : RowX w g L) (j : Nat) : w.frozen? ⟨g, j, none⟩ = false := by
  unfold RowX at h; simp [World.frozen?, h]
theorem RowX.drewN {w : World} {g : Nat} {L : List Int} (h : RowX w g L) (n : Nat) : RowX (w.drewN n) g L := h
theorem RowX.drew {w : World} {g : Nat} {L : List Int} (h : RowX w g L) : RowX w.drew g L := h
theorem RowX.set_ {w : World} {g : Nat} {L : List Int} (h : RowX w g L) (j : Nat) (v : Int) : RowX (w.setCell ⟨g, j, none⟩ (.int .i64 v)) g (L.set j v) := by
  unfold RowX at h ⊢
  have e : (vals (L.set j v)).toArray = (vals L).toArray.setIfInBounds j (.int .i64 v) := by
    unfold vals; rw [List.map_set]; simp
  rw [e]
  simp [World.setCell, Array.getElem?_modify, h]
end Go.Proofs.YtebndgepmjonoaaDoor
/-
  The library's insertion sort over numbers of values, the greatest values first.
-/
namespace Go.Proofs.YtebndgepmjonoaaDoor
open Go.RowKit Go.Maps

def gfLt (V : List Int) (x y : Int) : Bool := decide (cmpI (V.getD y.toNat 0) (V.getD x.toNat 0) < 0)

set_option maxRecDepth 100000 in
set_option maxHeartbeats 1000000 in
theorem gfCmp_any (bp rp : Addr) (V : List Int) (d : Nat) (x y : Nat) (w : World) (hb : w.cell? bp = some (.slice (some rp) V.length d)) (hV : IntsAt w (some rp) V) (hx : x < V.length) (hy : y < V.length) :
    Calls Tryd.prog 75 #[.int .i64 x, .int .i64 y, .pointer (some bp)] w fun e w' => e = .returned (.int .i64 (cmpI (V.getD y 0) (V.getD x 0))) ∧ ∃ n, w' = w.drewN n := by
  obtain ⟨_, e1, _, hcx⟩ := hV x hx
  obtain ⟨_, e2, _, hcy⟩ := hV y hy
  cases e1; cases e2
  have hx' : (x : Int) < (V.length : Int) := by omega
  have hy' : (y : Int) < (V.length : Int) := by omega
  obtain ⟨vx, ex⟩ : ∃ v, v = V.getD x 0 := ⟨_, rfl⟩
  obtain ⟨vy, ey⟩ : ∃ v, v = V.getD y 0 := ⟨_, rfl⟩
  rw [← ex] at hcx
  rw [← ey] at hcy
  rw [← ex, ← ey]
  clear ex ey
  go_enter Tryd.func75, Tryd.ntmps75
  go_wp2_with fail
  go_quiet ((go_at_call 36; exact Calls.quiet_of_same (compare_any _ _ _)))
  go_wp2
  go_ret
  exact ⟨rfl, _, rfl⟩

/-- What the sort finds all along: all but the row g is as it was. -/
structure SortEnv (w : World) (g : Nat) (bp rp : Addr) (V : List Int) (d : Nat) (wr : World) : Prop where
  grown : w.grownBy wr (some g)
  box : wr.cell? bp = some (.slice (some rp) V.length d)
  vals : IntsAt wr (some rp) V
theorem grownBy_drewN {w wr : World} {r : Option Nat} (h : w.grownBy wr r) (n : Nat) : w.grownBy (wr.drewN n) r := ⟨h.os, h.tape, h.output, h.size, h.block⟩
theorem grownBy_set {w wr : World} {g : Nat} (h : w.grownBy wr (some g)) (j : Nat) (u : Value) : w.grownBy (wr.setCell ⟨g, j, none⟩ u) (some g) :=
  ⟨h.os, h.tape, h.output, by simpa [World.setCell] using h.size, fun k hk hne => (Below.heap_setCell wr ⟨g, j, none⟩ u k (fun e => hne (by rw [e]))).trans (h.block k hk hne)⟩
theorem SortEnv.drewN {w wr : World} {g : Nat} {bp rp : Addr} {V : List Int} {d : Nat} (h : SortEnv w g bp rp V d wr) (n : Nat) : SortEnv w g bp rp V d (wr.drewN n) := ⟨grownBy_drewN h.grown n, h.box, h.vals⟩
theorem SortEnv.set_ {w wr : World} {g : Nat} {bp rp : Addr} {V : List Int} {d : Nat} (h : SortEnv w g bp rp V d wr) (hb : bp.block ≠ g) (hr : rp.block ≠ g) (j : Nat) (u : Value) : SortEnv w g bp rp V d (wr.setCell ⟨g, j, none⟩ u) := by
  refine ⟨grownBy_set h.grown j u, ?_, fun k hk => ?_⟩
  · rw [World.cell?_setCell_other _ _ _ _ (fun e => hb (by rw [← e]))]; exact h.box
  · obtain ⟨ad, e, hlt, hc⟩ := h.vals k hk
    cases e
    exact ⟨rp, rfl, by simpa [World.setCell] using hlt, by rw [World.cell?_setCell_other _ _ _ _ (fun e => hr (by rw [← add_block rp k, ← e]))]; exact hc⟩

def OkIdx (L : List Int) (n : Nat) : Prop := ∀ j, j < L.length → ∃ x : Nat, x < n ∧ L.getD j 0 = (x : Int)

theorem swp_at {L : List Int} {j : Nat} (h : j + 1 < L.length) (i : Nat) : (swp L j).getD i 0 = if i = j then L.getD (j + 1) 0 else if i = j + 1 then L.getD j 0 else L.getD i 0 := by
  unfold swp
  rw [List.getD_eq_getElem?_getD, List.getElem?_set]
  by_cases h1 : j = i
  · subst h1
    rw [if_pos rfl, if_pos rfl]
    simp only [List.length_set]
    rw [if_pos (by omega)]
    rfl
  · rw [if_neg h1, if_neg (fun e => h1 e.symm), List.getElem?_set]
    by_cases h2 : j + 1 = i
    · rw [if_pos h2, if_pos (by omega), if_pos h2.symm]; rfl
    · rw [if_neg h2, if_neg (fun e => h2 e.symm), List.getD_eq_getElem?_getD]
theorem OkIdx.swp_ {L : List Int} {n j : Nat} (h : OkIdx L n) (hj : j + 1 < L.length) : OkIdx (swp L j) n := by
  intro i hi
  rw [swp_len] at hi
  rw [swp_at hj]
  split
  · exact h (j + 1) hj
  · split
    · exact h j (by omega)
    · exact h i hi
theorem ins_go {lt : Int → Int → Bool} {j : Nat} {L : List Int} (h : lt (L.getD (j + 1) 0) (L.getD j 0) = true) : ins lt (j + 1) L = ins lt j (swp L j) := by
  show (if _ then _ else _) = _; rw [if_pos h]
theorem ins_stop {lt : Int → Int → Bool} {j : Nat} {L : List Int} (h : lt (L.getD (j + 1) 0) (L.getD j 0) = false) : ins lt (j + 1) L = L := by
  show (if _ then _ else _) = _; rw [if_neg (by rw [h]; simp)]
theorem insAll_go {lt : Int → Int → Bool} {n i : Nat} {L : List Int} (h : i < n) : insAll lt (n - i) i L = insAll lt (n - (i + 1)) (i + 1) (ins lt i L) := by
  obtain ⟨m, hm⟩ : ∃ m, n - i = m + 1 := ⟨n - i - 1, by omega⟩
  rw [hm, show n - (i + 1) = m by omega]; rfl
theorem insAll_end {lt : Int → Int → Bool} {n i : Nat} {L : List Int} (h : ¬ i < n) : insAll lt (n - i) i L = L := by rw [show n - i = 0 by omega]; rfl

set_option maxRecDepth 100000 in
set_option maxHeartbeats 4000000 in
theorem insSort_any (g : Nat) (L : List Int) (n c : Nat) (bp rp : Addr) (V : List Int) (d : Nat) (w : World) (hn : n = L.length) (hsm : n ≤ 1000) (hrow : RowX w g L) (hE : SortEnv w g bp rp V d w) (hbg : bp.block ≠ g) (hrg : rp.block ≠ g) (hL : OkIdx L V.length) :
    Calls Tryd.prog 73 #[.slice (some ⟨g, 0, none⟩) n c, .int .i64 0, .int .i64 n, .func (.func 75) #[] #[.pointer (some bp)]] w fun e w' => e = .returned (.tuple #[]) ∧ RowX w' g (insAll (gfLt V) (n - 1) 1 L) ∧ SortEnv w g bp rp V d w' := by
  have hlen := Lib.hid hn.symm
  clear hn
  go_enter Tryd.func73, Tryd.ntmps73
  go_wp2_with fail
  go_loopw [8] (fun v8 wr => ∃ (i : Nat) (Li : List Int), v8 = .int .i64 i ∧ 1 ≤ i ∧ i ≤ n + 1 ∧ RowX wr g Li ∧ Hid (Li.length = n) ∧ Hid (OkIdx Li V.length) ∧ SortEnv w g bp rp V d wr ∧ Hid (insAll (gfLt V) (n - 1) 1 L = insAll (gfLt V) (n - i) i Li)) (fun v8 _ => n + 1 - (intOf v8).toNat)
  case atStart => exact ⟨1, L, rfl, Nat.le_refl _, by omega, hrow, hlen, Lib.hid hL, hE, Lib.hid rfl⟩
  case round =>
    obtain ⟨i, Li, rfl, hi1, hin, hrowi, hleni, hoki, hEi, hres⟩ := hrel
    clear hrow hE hL
    by_cases hlt : i < n
    · have hgo := Lib.hid (insAll_go (lt := gfLt V) (L := Li) hlt)
      go_wp2_with fail
      obtain ⟨wo, rfl⟩ : ∃ wo : World, wo = wr := ⟨_, rfl⟩
      go_loopw [9] (fun v9 wr => ∃ (j : Nat) (Lj : List Int), v9 = .int .i64 j ∧ j ≤ i ∧ RowX wr g Lj ∧ Hid (Lj.length = n) ∧ Hid (OkIdx Lj V.length) ∧ SortEnv w g bp rp V d wr ∧ Hid (ins (gfLt V) i Li = ins (gfLt V) j Lj)) (fun v9 _ => (intOf v9).toNat)
      case atStart => exact ⟨i, Li, rfl, Nat.le_refl _, hrowi, hleni, hoki, hEi, Lib.hid rfl⟩
      case round =>
        obtain ⟨j, Lj, rfl, hji, hrowj, hlenj, hokj, hEj, hresj⟩ := hrel
        clear hrowi hleni hoki hEi
        rcases j with _ | j
        · rw [show ((0 : Nat) : Int) = 0 from rfl]
          have hd0 : decide ((0 : Int) < (0 : Int)) = false := by decide
          go_wp2_with fail
          go_quiet (fail)
          go_wp2
          go_roundw
          case rel => exact ⟨i + 1, Lj, by go_num, by omega, by omega, hrowj.drewN _, hlenj, hokj, hEj.drewN _, Lib.hid (by rw [hres.out, hgo.out, hresj.out]; rfl)⟩
          case measure => simp [intOf]; omega
        · rw [show ((j + 1 : Nat) : Int) = (j : Int) + 1 from by omega]
          have hj1 : j + 1 < Lj.length := by have := hlenj.out; omega
          obtain ⟨x, hx, ex⟩ := hokj.out (j + 1) hj1
          obtain ⟨y, hy, ey⟩ := hokj.out j (by omega)
          have hc1 := hrowj.cell hj1
          have hc2 := hrowj.cell (j := j) (by omega)
          have hok' := Lib.hid (hokj.out.swp_ hj1)
          have hins := Lib.hid (@ins_go (gfLt V) j Lj)
          have hinn := Lib.hid (@ins_stop (gfLt V) j Lj)
          rw [ex, ey] at hins hinn
          rw [ex] at hc1
          rw [ey] at hc2
          have hf1 := hrowj.frozen (j + 1)
          have hf2 := hrowj.frozen j
          have hcc := fun k => gfCmp_any bp rp V d x y (wr.drewN k) hEj.box hEj.vals hx hy
          obtain ⟨q, eq⟩ : ∃ q, q = cmpI (V.getD y 0) (V.getD x 0) := ⟨_, rfl⟩
          rw [← eq] at hcc
          have HCC := Lib.hid hcc
          have EX := Lib.hid ex; have EY := Lib.hid ey; clear ex ey hcc
          have hlt' : gfLt V (x : Int) (y : Int) = decide (q < 0) := by rw [eq]; rfl
          have hjn : (j : Int) + 1 < (n : Int) := by omega
          have hjn2 : (j : Int) < (n : Int) := by omega
          have hd1 : (0 : Int) < (j : Int) + 1 := by omega
          by_cases hq : q < 0
          · have hs := Lib.hid (hins.out (by rw [hlt']; exact decide_eq_true hq))
            clear hlt' eq
            go_wp2_with fail
            go_quiet ((go_at_call 75; exact Calls.quiet_of (HCC.out _)))
            go_wp2
            go_region
            go_wp2
            go_roundw
            case rel =>
              refine ⟨j, swp Lj j, by go_num, by omega, ?_, Lib.hid (by rw [swp_len]; exact hlenj.out), hok', ((hEj.drewN _).set_ hbg hrg _ _).set_ hbg hrg _ _, Lib.hid (hresj.out.trans hs.out)⟩
              unfold swp
              rw [EX.out, EY.out]
              exact ((hrowj.drewN _).set_ (j + 1) (y : Int)).set_ j (x : Int)
            case measure => simp [intOf]
          · have hs := Lib.hid (hinn.out (by rw [hlt']; exact decide_eq_false hq))
            have hq' : 0 ≤ q := by omega
            clear hlt' eq hq
            go_wp2_with fail
            go_quiet ((go_at_call 75; exact Calls.quiet_of (HCC.out _)))
            go_wp2
            go_roundw
            case rel => exact ⟨i + 1, Lj, by go_num, by omega, by omega, hrowj.drewN _, hlenj, hokj, hEj.drewN _, Lib.hid (by rw [hres.out, hgo.out, hresj.out, hs.out])⟩
            case measure => simp [intOf]; omega
    · have hend := Lib.hid (insAll_end (lt := gfLt V) (L := Li) hlt)
      go_wp2
      go_end0
      exact ⟨rfl, by rw [hres.out, hend.out]; exact hrowi, hEi⟩

set_option maxRecDepth 100000 in
set_option maxHeartbeats 1000000 in
theorem stableCmp_any (g : Nat) (L : List Int) (n c : Nat) (bp rp : Addr) (V : List Int) (d : Nat) (w : World) (hn : n = L.length) (hsm : n < 20) (hrow : RowX w g L) (hE : SortEnv w g bp rp V d w) (hbg : bp.block ≠ g) (hrg : rp.block ≠ g) (hL : OkIdx L V.length) :
    Calls Tryd.prog 59 #[.slice (some ⟨g, 0, none⟩) n c, .int .i64 n, .func (.func 75) #[] #[.pointer (some bp)]] w fun e w' => e = .returned (.tuple #[]) ∧ RowX w' g (insAll (gfLt V) (n - 1) 1 L) ∧ SortEnv w g bp rp V d w' := by
  have hc := insSort_any g L n c bp rp V d w hn (by omega) hrow hE hbg hrg hL
  have HC := Lib.hid hc
  have hn' : (n : Int) < 20 := by omega
  clear hc hn hrow hE hL
  go_enter Tryd.func59, Tryd.ntmps59
  go_wp2_with fail
  refine wp_loop_rounds 1 ?_
  rw [rounds_succ]
  go_wp2_with fail
  refine HC.out.mono ?_
  rintro e w1 ⟨rfl, hr1, hE1⟩
  go_wp2_with fail
  refine wp_loop_rounds 1 ?_
  rw [rounds_succ]
  go_wp2_with fail
  go_end0
  exact ⟨rfl, hr1, hE1⟩
set_option maxRecDepth 100000 in
set_option maxHeartbeats 1000000 in
theorem sortStable_any (g : Nat) (L : List Int) (n c : Nat) (bp rp : Addr) (V : List Int) (d : Nat) (w : World) (hn : n = L.length) (hsm : n < 20) (hrow : RowX w g L) (hE : SortEnv w g bp rp V d w) (hbg : bp.block ≠ g) (hrg : rp.block ≠ g) (hL : OkIdx L V.length) :
    Calls Tryd.prog 34 #[.slice (some ⟨g, 0, none⟩) n c, .func (.func 75) #[] #[.pointer (some bp)]] w fun e w' => e = .returned (.tuple #[]) ∧ RowX w' g (insAll (gfLt V) (n - 1) 1 L) ∧ SortEnv w g bp rp V d w' := by
  have HC := Lib.hid (stableCmp_any g L n c bp rp V d w hn hsm hrow hE hbg hrg hL)
  clear hn hrow hE hL
  go_enter Tryd.func34, Tryd.ntmps34
  go_wp2_with fail
  refine HC.out.mono ?_
  rintro e w1 ⟨rfl, hr1, hE1⟩
  go_wp2
  go_end0
  exact ⟨rfl, hr1, hE1⟩
end Go.Proofs.YtebndgepmjonoaaDoor

/-
  The numbers of values, those of the greatest ones first.
-/
namespace Go.Proofs.YtebndgepmjonoaaDoor
open Go.RowKit Go.Maps

theorem Own.rowX {w : World} {g n : Nat} {fn : Nat → Int} (h : Own w g n fn n) : RowX w g (tab n fn) := by
  obtain ⟨cs, h1, h2, h3⟩ := h
  have e : cs = (vals (tab n fn)).toArray := by
    apply Array.ext
    · simp [vals, tab_len, h2]
    · intro i hi1 hi2
      have hin : i < n := by omega
      have := h3 i hin
      rw [Array.getElem?_eq_getElem hi1] at this
      have e2 := vals_at (l := tab n fn) (k := i) (by rw [tab_len]; exact hin)
      rw [tab_at hin] at e2
      have e3 : (vals (tab n fn)).toArray[i]? = some (.int .i64 (fn i)) := by rw [List.getElem?_toArray]; exact e2
      rw [Array.getElem?_eq_getElem hi2] at e3
      rw [Option.some.inj this, Option.some.inj e3]
  unfold RowX
  rw [← e]; exact h1
theorem cell_lt' {w : World} {p : Addr} {v : Value} (h : w.cell? p = some v) : p.block < w.heap.size := World.block_lt_of_cell? w p h
theorem RowX.ints {w : World} {g : Nat} {L : List Int} (h : RowX w g L) : IntsAt w (some ⟨g, 0, none⟩) L := by
  intro k hk
  refine ⟨_, rfl, ?_, ?_⟩
  · have := cell_lt' (h.cell hk); exact this
  · rw [add0]; exact h.cell hk
def orderOf (V : List Int) : List Int := insAll (gfLt V) (V.length - 1) 1 (tab V.length fun i => (i : Int))

set_option maxRecDepth 100000 in
set_option maxHeartbeats 2000000 in
theorem greatestFirst_any (rp : Addr) (V : List Int) (d : Nat) (w : World) (hV : IntsAt w (some rp) V) (hn : V.length < 20) (hpos : 0 < V.length) :
    Calls Tryd.prog 61 #[.slice (some rp) V.length d] w fun e w' => ∃ g, w.heap.size ≤ g ∧ e = .returned (.slice (some ⟨g, 0, none⟩) V.length V.length) ∧ RowX w' g (orderOf V) ∧ Below w.heap.size w w' := by
  have hmk := fun W => run_make_row' (P := Tryd.prog) 31 3 (.int .i64 0) 8 Tryd.underlying31 info3 rfl .i64 .i64 V.length (by omega) (by omega) W
  have hrp : rp.block < w.heap.size := by
    obtain ⟨ad, e, hlt, _⟩ := hV 0 hpos
    cases e; exact hlt
  have hB0 := (Below.refl w.heap.size w).alloc (Nat.le_refl _) (.cells #[.slice (some rp) V.length d] 31)
  go_enter Tryd.func61, Tryd.ntmps61
  go_wp2_with fail
  go_loopw [10] (fun i wr => ∃ k : Nat, k ≤ V.length ∧ i = .int .i64 k ∧ Below (w.heap.size + 1) (w.alloc (.cells #[.slice (some rp) V.length d] 31)) wr ∧ Own wr (w.heap.size + 1) V.length (fun i => (i : Int)) k) (fun i _ => V.length - (intOf i).toNat)
  case atStart => exact ⟨0, Nat.zero_le _, rfl, (Below.refl _ _).alloc (by simp) _, by simpa using Own.made (w.alloc (.cells #[.slice (some rp) V.length d] 31)) V.length (fun i => (i : Int)) 0 (Nat.zero_le _) (fun j hj => by omega)⟩
  case round =>
    obtain ⟨k, hk, rfl, hBr, hOwn⟩ := hrel
    by_cases hlt : k < V.length
    · obtain ⟨v0, hv0⟩ := hOwn.some_ hlt
      have hfz := hOwn.frozen k
      have hkl : (k : Int) < (V.length : Int) := by omega
      go_wp2_with fail
      go_roundw
      case rel => exact ⟨k + 1, by omega, by go_num, hBr.setCell (by simp) _, hOwn.set_ hlt rfl⟩
      case measure => simp [intOf]; omega
    · have hk2 : k = V.length := by omega
      have hrow : RowX wr (w.heap.size + 1) (tab V.length fun i => (i : Int)) := by rw [← hk2]; rw [← hk2] at hOwn; exact hOwn.rowX
      have hbox : wr.cell? ⟨w.heap.size, 0, none⟩ = some (.slice (some rp) V.length d) := (hBr.cell (p := ⟨w.heap.size, 0, none⟩) (Nat.lt_succ_self _)).trans (by simp)
      have hBw : Below w.heap.size w wr := hB0.trans (hBr.mono (Nat.le_succ _))
      have hVr := hV.below hBw
      have hok : OkIdx (tab V.length fun i => (i : Int)) V.length := fun j hj => by
        rw [tab_len] at hj
        exact ⟨j, hj, tab_at hj⟩
      have hE : SortEnv wr (w.heap.size + 1) ⟨w.heap.size, 0, none⟩ rp V d wr := ⟨⟨rfl, rfl, rfl, Nat.le_refl _, fun _ _ _ => rfl⟩, hbox, hVr⟩
      have hs := sortStable_any (w.heap.size + 1) (tab V.length fun i => (i : Int)) V.length V.length ⟨w.heap.size, 0, none⟩ rp V d wr (tab_len _ _).symm hn hrow hE (by simp) (by show rp.block ≠ w.heap.size + 1; omega) hok
      have HS := Lib.hid hs
      clear hs hE hok hrow hOwn hk2 hbox
      go_wp2_with fail
      refine HS.out.mono ?_
      rintro e w1 ⟨rfl, hr1, hE1⟩
      have hB1 : Below w.heap.size w w1 := hBw.grown hE1.grown hBw.size (fun q hq => by cases hq; omega)
      go_wp2
      go_ret
      exact ⟨_, Nat.le_succ _, rfl, hr1, hB1⟩
end Go.Proofs.YtebndgepmjonoaaDoor

/-
  Sharing a total out in proportion to a need.
-/
namespace Go.Proofs.YtebndgepmjonoaaDoor
open Go.RowKit Go.Maps

def sumTo (fn : Nat → Int) : Nat → Int
  | 0 => 0
  | k + 1 => sumTo fn k + fn k
def quoF (need : List Int) (sum total : Int) (k : Nat) : Int := total * need.getD k 0 / sum
def remF (need : List Int) (sum total : Int) (k : Nat) : Int := total * need.getD k 0 % sum
def bump (L : List Int) (i : Int) : List Int := L.set i.toNat (L.getD i.toNat 0 + 1)
def missingOf (need : List Int) (sum total : Int) : Int := total - sumTo (quoF need sum total) need.length
def billOf (need : List Int) (sum total : Int) : List Int :=
  ((orderOf (tab need.length (remF need sum total))).take (missingOf need sum total).toNat).foldl bump (tab need.length (quoF need sum total))

theorem sumTo_add (f g : Nat → Int) : ∀ k, sumTo (fun i => f i + g i) k = sumTo f k + sumTo g k := by
  intro k
  induction k with
  | zero => rfl
  | succ k ih => show sumTo _ k + (f k + g k) = (sumTo f k + f k) + (sumTo g k + g k); rw [ih]; omega
theorem sumTo_mul (c : Int) (f : Nat → Int) : ∀ k, sumTo (fun i => c * f i) k = c * sumTo f k := by
  intro k
  induction k with
  | zero => simp [sumTo]
  | succ k ih => show sumTo _ k + c * f k = c * (sumTo f k + f k); rw [ih, Int.mul_add]
theorem sumTo_congr {f g : Nat → Int} : ∀ {k : Nat}, (∀ i, i < k → f i = g i) → sumTo f k = sumTo g k := by
  intro k
  induction k with
  | zero => intro _; rfl
  | succ k ih => intro h; show sumTo f k + f k = sumTo g k + g k; rw [ih (fun i hi => h i (by omega)), h k (by omega)]
theorem sumTo_bd {f : Nat → Int} {lo hi : Int} : ∀ {k : Nat}, (∀ i, i < k → lo ≤ f i ∧ f i ≤ hi) → (k : Int) * lo ≤ sumTo f k ∧ sumTo f k ≤ (k : Int) * hi := by
  intro k
  induction k with
  | zero => intro _; simp [sumTo]
  | succ k ih =>
    intro h
    obtain ⟨a, b⟩ := ih (fun i hi => h i (by omega))
    obtain ⟨c, d⟩ := h k (by omega)
    have e1 : ((k + 1 : Nat) : Int) * lo = (k : Int) * lo + lo := by rw [Int.natCast_add, Int.add_mul]; simp
    have e2 : ((k + 1 : Nat) : Int) * hi = (k : Int) * hi + hi := by rw [Int.natCast_add, Int.add_mul]; simp
    show _ ≤ sumTo f k + f k ∧ sumTo f k + f k ≤ _
    rw [e1, e2]; omega
/-- What is missing behind the rounding is less than the number of sorts. -/
theorem missing_bd {need : List Int} {sum total : Int} (hs : 0 < sum) (hsum : sumTo (fun k => need.getD k 0) need.length = sum) (hn : 0 < need.length) :
    0 ≤ missingOf need sum total ∧ missingOf need sum total < need.length := by
  have h1 : sumTo (fun k => sum * quoF need sum total k + remF need sum total k) need.length = sumTo (fun k => total * need.getD k 0) need.length :=
    sumTo_congr (fun i _ => by unfold quoF remF; exact Int.mul_ediv_add_emod _ _)
  rw [sumTo_add, sumTo_mul, sumTo_mul, hsum] at h1
  have h2 := sumTo_bd (f := remF need sum total) (lo := 0) (hi := sum - 1) (k := need.length) (fun i _ => by
    unfold remF
    have a := Int.emod_nonneg (total * need.getD i 0) (by omega : sum ≠ 0)
    have b := Int.emod_lt_of_pos (total * need.getD i 0) hs
    omega)
  have h3 : missingOf need sum total * sum = sumTo (remF need sum total) need.length := by
    unfold missingOf
    rw [Int.sub_mul, Int.mul_comm (sumTo _ _) sum]; omega
  constructor
  · rcases Int.lt_or_le (missingOf need sum total) 0 with h | h
    · have : missingOf need sum total * sum ≤ -1 * sum := Int.mul_le_mul_of_nonneg_right (by omega) (by omega)
      omega
    · exact h
  · rcases Int.lt_or_le (missingOf need sum total) need.length with h | h
    · exact h
    · have h4 : (need.length : Int) * sum ≤ missingOf need sum total * sum := Int.mul_le_mul_of_nonneg_right h (by omega)
      have h5 : (need.length : Int) * (sum - 1) = need.length * sum - need.length := by rw [Int.mul_sub]; omega
      omega
theorem Own.far {w : World} {g n : Nat} {fn : Nat → Int} {k : Nat} (h : Own w g n fn k) {p : Addr} (hp : g ≠ p.block) (u : Value) : Own (w.setCell p u) g n fn k := by
  obtain ⟨cs, h1, h2⟩ := h
  exact ⟨cs, (Below.heap_setCell w p u g hp).trans h1, h2⟩
theorem Own.below {w w' : World} {g n : Nat} {fn : Nat → Int} {k : Nat} (h : Own w g n fn k) (hb : Below w.heap.size w w') : Own w' g n fn k := by
  have hlt := h.lt
  obtain ⟨cs, h1, h2⟩ := h
  exact ⟨cs, (hb.block g hlt).trans h1, h2⟩
theorem RowX.far {w : World} {g : Nat} {L : List Int} (h : RowX w g L) {p : Addr} (hp : g ≠ p.block) (u : Value) : RowX (w.setCell p u) g L := (Below.heap_setCell w p u g hp).trans h
theorem RowX.lt {w : World} {g : Nat} {L : List Int} (h : RowX w g L) : g < w.heap.size := by
  unfold RowX at h
  rcases Nat.lt_or_ge g w.heap.size with hlt | hge
  · exact hlt
  · rw [Array.getElem?_eq_none hge] at h; cases h
theorem RowX.below {w w' : World} {g : Nat} {L : List Int} (h : RowX w g L) (hb : Below w.heap.size w w') : RowX w' g L := by
  have hlt : g < w.heap.size := by
    unfold RowX at h
    rcases Nat.lt_or_ge g w.heap.size with hlt | hge
    · exact hlt
    · rw [Array.getElem?_eq_none hge] at h; cases h
  exact (hb.block g hlt).trans h

theorem ins_ok {lt : Int → Int → Bool} {n : Nat} : ∀ (j : Nat) (L : List Int), j < L.length → OkIdx L n → OkIdx (ins lt j L) n := by
  intro j
  induction j with
  | zero => intro L _ h; exact h
  | succ j ih =>
    intro L hj h
    unfold ins
    split
    · exact ih _ (by rw [swp_len]; omega) (h.swp_ hj)
    · exact h
theorem insAll_ok {lt : Int → Int → Bool} {n : Nat} : ∀ (m i : Nat) (L : List Int), i + m ≤ L.length → OkIdx L n → OkIdx (insAll lt m i L) n ∧ (insAll lt m i L).length = L.length := by
  intro m
  induction m with
  | zero => intro i L _ h; exact ⟨h, rfl⟩
  | succ m ih =>
    intro i L hi h
    have := ih (i + 1) (ins lt i L) (by rw [ins_len]; omega) (ins_ok i L (by omega) h)
    rw [ins_len] at this
    exact this
theorem order_ok {V : List Int} (h : 0 < V.length) : OkIdx (orderOf V) V.length ∧ (orderOf V).length = V.length := by
  have h1 : OkIdx (tab V.length fun i => (i : Int)) V.length := fun j hj => by
    rw [tab_len] at hj
    exact ⟨j, hj, tab_at hj⟩
  have := insAll_ok (lt := gfLt V) (V.length - 1) 1 _ (by rw [tab_len]; omega) h1
  rw [tab_len] at this
  exact this
theorem bump_nat (L : List Int) (x : Nat) : bump L (x : Int) = L.set x (L.getD x 0 + 1) := rfl
theorem bump_len (L : List Int) (i : Int) : (bump L i).length = L.length := by simp [bump]
theorem bumps_len : ∀ (xs L : List Int), (xs.foldl bump L).length = L.length := by
  intro xs
  induction xs with
  | nil => intro L; rfl
  | cons x r ih => intro L; rw [List.foldl_cons, ih, bump_len]
theorem bump_bd {L : List Int} {i : Int} {B : Int} (h : ∀ j, j < L.length → 0 ≤ L.getD j 0 ∧ L.getD j 0 ≤ B) : ∀ j, j < (bump L i).length → 0 ≤ (bump L i).getD j 0 ∧ (bump L i).getD j 0 ≤ B + 1 := by
  intro j hj
  rw [bump_len] at hj
  have hj0 := h j hj
  unfold bump
  rw [List.getD_eq_getElem?_getD, List.getElem?_set]
  split
  · rename_i e
    subst e
    rw [if_pos hj]
    show 0 ≤ _ + 1 ∧ _ + 1 ≤ B + 1
    omega
  · rw [← List.getD_eq_getElem?_getD]; omega
theorem bumps_bd : ∀ (xs L : List Int) (B : Int), (∀ j, j < L.length → 0 ≤ L.getD j 0 ∧ L.getD j 0 ≤ B) → ∀ j, j < L.length → 0 ≤ (xs.foldl bump L).getD j 0 ∧ (xs.foldl bump L).getD j 0 ≤ B + xs.length := by
  intro xs
  induction xs with
  | nil => intro L B h j hj; have := h j hj; simpa using this
  | cons x r ih =>
    intro L B h j hj
    have := ih (bump L x) (B + 1) (bump_bd h) j (by rw [bump_len]; exact hj)
    rw [List.foldl_cons, List.length_cons]
    omega
theorem bump_step {order qs : List Int} {k : Nat} (hk : k < order.length) : (order.take (k + 1)).foldl bump qs = bump ((order.take k).foldl bump qs) (order.getD k 0) := by
  rw [List.take_add_one, List.foldl_append, List.getD_eq_getElem?_getD, List.getElem?_eq_getElem hk]; rfl

set_option maxRecDepth 100000 in
set_option maxHeartbeats 4000000 in
theorem shared_any (a : Addr) (need : List Int) (d : Nat) (sum total : Int) (w : World) (hX : IntsAt w (some a) need) (hn : need.length < 20) (hpos : 0 < need.length) (hv : ∀ k, k < need.length → 0 ≤ need.getD k 0 ∧ need.getD k 0 ≤ 1000000) (hs : sumTo (fun k => need.getD k 0) need.length = sum) (hs0 : 0 < sum) (ht : 0 ≤ total ∧ total ≤ 1000000) :
    Calls Tryd.prog 43 #[.slice (some a) need.length d, .int .i64 sum, .int .i64 total] w fun e w' => ∃ g, e = .returned (.slice (some ⟨g, 0, none⟩) need.length need.length) ∧ RowX w' g (billOf need sum total) ∧ Below w.heap.size w w' := by
  have hmk := fun W => run_make_row' (P := Tryd.prog) 31 3 (.int .i64 0) 8 Tryd.underlying31 info3 rfl .i64 .i64 need.length (by omega) (by omega) W
  have HS := Lib.hid hs
  have HV := Lib.hid hv
  have hmis := missing_bd (total := total) hs0 hs hpos
  clear hs hv
  go_enter Tryd.func43, Tryd.ntmps43
  go_wp2_with fail
  go_region
  · go_wp2_with fail
    go_loopw [9, 23] (fun v9 i wr => ∃ k : Nat, k ≤ need.length ∧ i = .int .i64 k ∧ v9 = .int .i64 (total - sumTo (quoF need sum total) k) ∧ Below w.heap.size w wr ∧ Own wr w.heap.size need.length (quoF need sum total) k ∧ Own wr (w.heap.size + 1) need.length (remF need sum total) k) (fun _ i _ => need.length - (intOf i).toNat)
    case atStart => exact ⟨0, Nat.zero_le _, rfl, by simp [sumTo], (((Below.refl _ _).alloc (Nat.le_refl _) _).alloc (by simp) _).drew, (((Own.made w need.length _ 0 (Nat.zero_le _) (fun j hj => by omega)).below ((Below.refl _ _).alloc (Nat.le_refl _) _)).drew), ((by simpa using Own.made (w.alloc (.cells (madeCells #[.int .i64 0] need.length) 3)) need.length (remF need sum total) 0 (Nat.zero_le _) (fun j hj => by omega) : Own _ (w.heap.size + 1) _ _ _).drew)⟩
    case round =>
      obtain ⟨k, hk, rfl, rfl, hBr, hA, hR⟩ := hrel
      by_cases hlt : k < need.length
      · obtain ⟨_, e1, hp1, hc1⟩ := (hX.below hBr).at_ hlt
        cases e1
        have hv1 := HV.out k hlt
        have hqd := Lib.hid (show quoF need sum total k = total * need.getD k 0 / sum from rfl)
        have hrd := Lib.hid (show remF need sum total k = total * need.getD k 0 % sum from rfl)
        have hst := Lib.hid (show sumTo (quoF need sum total) (k + 1) = sumTo (quoF need sum total) k + quoF need sum total k from rfl)
        have hsb := sumTo_bd (f := quoF need sum total) (lo := 0) (hi := 1000000000000) (k := k) (fun i hi => by
          have hvi := HV.out i (by omega)
          have a1 : 0 ≤ total * need.getD i 0 := Int.mul_nonneg ht.1 hvi.1
          have a2 : total * need.getD i 0 ≤ 1000000 * 1000000 := Int.mul_le_mul ht.2 hvi.2 hvi.1 (by omega)
          have a3 : total * need.getD i 0 / sum ≤ total * need.getD i 0 := Int.ediv_le_self sum a1
          have a4 : 0 ≤ total * need.getD i 0 / sum := Int.ediv_nonneg a1 (by omega)
          unfold quoF; omega)
        have hk20 : (k : Int) ≤ 20 := by omega
        obtain ⟨x, ex⟩ : ∃ x, x = need.getD k 0 := ⟨_, rfl⟩
        obtain ⟨sq, esq⟩ : ∃ x, x = sumTo (quoF need sum total) k := ⟨_, rfl⟩
        rw [← ex] at hv1 hc1 hqd hrd
        rw [← esq] at hst hsb
        rw [← esq]
        have ESQ := Lib.hid esq; clear ex esq
        have hkl : (k : Int) < (need.length : Int) := by omega
        have a1 : 0 ≤ total * x := Int.mul_nonneg ht.1 hv1.1
        have a2 : total * x ≤ 1000000 * 1000000 := Int.mul_le_mul ht.2 hv1.2 hv1.1 (by omega)
        have a3 : total * x / sum ≤ total * x := Int.ediv_le_self sum a1
        have a4 : 0 ≤ total * x / sum := Int.ediv_nonneg a1 (by omega)
        obtain ⟨va, hva⟩ := hA.some_ hlt
        obtain ⟨vb, hvb⟩ := hR.some_ hlt
        have hfa := hA.frozen k
        have hfb := hR.frozen k
        have hsz : (sum == 0) = false := by simp; omega
        go_wp2_with fail
        go_region
        go_wp2
        go_roundw
        case rel =>
          refine ⟨k + 1, by omega, by go_num, ?_, ((hBr.setCell (by simp) _).setCell (by simp) _).drew, ((hA.set_ hlt hqd.out.symm).far (by simp) _).drew, ((hR.far (by simp) _).set_ hlt hrd.out.symm).drew⟩
          have e := hst.out
          rw [hqd.out] at e
          rw [e]; congr 1; omega
        case measure => simp [intOf]; omega
      · have hk2 : k = need.length := by omega
        have hRX := (hk2 ▸ hR : Own wr (w.heap.size + 1) need.length (remF need sum total) need.length).rowX
        have hAX := (hk2 ▸ hA : Own wr w.heap.size need.length (quoF need sum total) need.length).rowX
        obtain ⟨m, hm⟩ : ∃ m : Nat, missingOf need sum total = (m : Int) := ⟨_, (Int.toNat_of_nonneg hmis.1).symm⟩
        have hm1 : total - sumTo (quoF need sum total) k = (m : Int) := by rw [hk2]; exact hm
        have hmn : m < need.length := by omega
        rw [hm1]
        have hO := order_ok (V := tab need.length (remF need sum total)) (by rw [tab_len]; exact hpos)
        have hs := greatestFirst_any ⟨(w.heap.size + 1), 0, none⟩ (tab need.length (remF need sum total)) need.length wr hRX.ints (by rw [tab_len]; exact hn) (by rw [tab_len]; exact hpos)
        rw [tab_len] at hs hO
        have hbill : billOf need sum total = ((orderOf (tab need.length (remF need sum total))).take m).foldl bump (tab need.length (quoF need sum total)) := by
          unfold billOf; rw [hm]; rfl
        have hqb : ∀ j, j < (tab need.length (quoF need sum total)).length → 0 ≤ (tab need.length (quoF need sum total)).getD j 0 ∧ (tab need.length (quoF need sum total)).getD j 0 ≤ 1000000000000 := by
          intro j hj
          rw [tab_len] at hj
          rw [tab_at hj]
          have hvi := HV.out j hj
          have a1 : 0 ≤ total * need.getD j 0 := Int.mul_nonneg ht.1 hvi.1
          have a2 : total * need.getD j 0 ≤ 1000000 * 1000000 := Int.mul_le_mul ht.2 hvi.2 hvi.1 (by omega)
          have a3 : total * need.getD j 0 / sum ≤ total * need.getD j 0 := Int.ediv_le_self sum a1
          have a4 : 0 ≤ total * need.getD j 0 / sum := Int.ediv_nonneg a1 (by omega)
          unfold quoF; omega
        have hQ := tab_len need.length (quoF need sum total)
        generalize orderOf (tab need.length (remF need sum total)) = order at hs hO hbill
        generalize tab need.length (quoF need sum total) = qs at hAX hqb hQ hbill
        have HBILL := Lib.hid hbill
        clear hbill
        have HG := Lib.hid hs
        have HO := Lib.hid hO
        have HQ := Lib.hid hqb
        have HQL := Lib.hid hQ
        clear hs hO hqb hQ hm1 hm hk2 hRX hA hR
        have hml : (m : Int) ≤ (need.length : Int) := by omega
        have hm0 : 0 ≤ (m : Int) := by omega
        go_wp2_with fail
        refine HG.out.mono ?_
        rintro e w1 ⟨g3, hg3, rfl, hO1, hB1⟩
        have hA1 : RowX w1 w.heap.size qs := hAX.below hB1
        have hBw : Below w.heap.size w w1 := hBr.trans (hB1.mono hBr.size)
        have hga : w.heap.size < wr.heap.size := hAX.lt
        go_wp2_with fail
        go_loopw [56] (fun i w2 => ∃ k2 : Nat, k2 ≤ m ∧ i = .int .i64 k2 ∧ Below w.heap.size w w2 ∧ RowX w2 w.heap.size ((order.take k2).foldl bump qs) ∧ RowX w2 g3 order) (fun i _ => m - (intOf i).toNat)
        case atStart => exact ⟨0, Nat.zero_le _, rfl, hBw, hA1, hO1⟩
        case round =>
          obtain ⟨k2, hk2, rfl, hB2, hA2, hO2⟩ := hrel
          by_cases hlt2 : k2 < m
          · obtain ⟨x, hx, hxe⟩ := HO.out.1 k2 (by rw [HO.out.2]; omega)
            have hc2 := hO2.cell (j := k2) (by rw [HO.out.2]; omega)
            rw [hxe] at hc2
            have hc3 := hA2.cell (j := x) (by rw [bumps_len, HQL.out]; exact hx)
            have hb := bumps_bd (order.take k2) qs _ HQ.out x (by rw [HQL.out]; exact hx)
            have hl20 : ((order.take k2).length : Int) ≤ 20 := by rw [List.length_take]; omega
            have hfz := hA2.frozen x
            have hset := hA2.set_ x (((order.take k2).foldl bump qs).getD x 0 + 1)
            have hst := bump_step (qs := qs) (order := order) (k := k2) (by rw [HO.out.2]; omega)
            rw [hxe] at hst
            have HST := Lib.hid hst
            have HSET := Lib.hid hset
            clear hset hst
            generalize hv : ((order.take k2).foldl bump qs).getD x 0 = v at hc3 hb HSET
            have HVV := Lib.hid hv
            clear hv
            have hkl2 : (k2 : Int) < (m : Int) := by omega
            have hxl : (x : Int) < (need.length : Int) := by omega
            go_wp2_with fail
            go_roundw
            case rel =>
              refine ⟨k2 + 1, by omega, by go_num, hB2.setCell (by simp) _, ?_, hO2.far (by show g3 ≠ w.heap.size; omega) _⟩
              rw [HST.out, bump_nat, HVV.out]
              exact HSET.out
            case measure => simp [intOf]; omega
          · have hk3 : k2 = m := by omega
            have hA3 : RowX wr w.heap.size (billOf need sum total) := by rw [HBILL.out, ← hk3]; exact hA2
            go_wp2_with fail
            go_ret
            exact ⟨_, rfl, hA3, hB2⟩
  · go_wp2_with fail
    go_loopw [9, 23] (fun v9 i wr => ∃ k : Nat, k ≤ need.length ∧ i = .int .i64 k ∧ v9 = .int .i64 (total - sumTo (quoF need sum total) k) ∧ Below w.heap.size w wr ∧ Own wr (w.heap.size + 1) need.length (quoF need sum total) k ∧ Own wr w.heap.size need.length (remF need sum total) k) (fun _ i _ => need.length - (intOf i).toNat)
    case atStart => exact ⟨0, Nat.zero_le _, rfl, by simp [sumTo], (((Below.refl _ _).alloc (Nat.le_refl _) _).alloc (by simp) _).drew, ((by simpa using Own.made (w.alloc (.cells (madeCells #[.int .i64 0] need.length) 3)) need.length (quoF need sum total) 0 (Nat.zero_le _) (fun j hj => by omega) : Own _ (w.heap.size + 1) _ _ _).drew), (((Own.made w need.length _ 0 (Nat.zero_le _) (fun j hj => by omega)).below ((Below.refl _ _).alloc (Nat.le_refl _) _)).drew)⟩
    case round =>
      obtain ⟨k, hk, rfl, rfl, hBr, hA, hR⟩ := hrel
      by_cases hlt : k < need.length
      · obtain ⟨_, e1, hp1, hc1⟩ := (hX.below hBr).at_ hlt
        cases e1
        have hv1 := HV.out k hlt
        have hqd := Lib.hid (show quoF need sum total k = total * need.getD k 0 / sum from rfl)
        have hrd := Lib.hid (show remF need sum total k = total * need.getD k 0 % sum from rfl)
        have hst := Lib.hid (show sumTo (quoF need sum total) (k + 1) = sumTo (quoF need sum total) k + quoF need sum total k from rfl)
        have hsb := sumTo_bd (f := quoF need sum total) (lo := 0) (hi := 1000000000000) (k := k) (fun i hi => by
          have hvi := HV.out i (by omega)
          have a1 : 0 ≤ total * need.getD i 0 := Int.mul_nonneg ht.1 hvi.1
          have a2 : total * need.getD i 0 ≤ 1000000 * 1000000 := Int.mul_le_mul ht.2 hvi.2 hvi.1 (by omega)
          have a3 : total * need.getD i 0 / sum ≤ total * need.getD i 0 := Int.ediv_le_self sum a1
          have a4 : 0 ≤ total * need.getD i 0 / sum := Int.ediv_nonneg a1 (by omega)
          unfold quoF; omega)
        have hk20 : (k : Int) ≤ 20 := by omega
        obtain ⟨x, ex⟩ : ∃ x, x = need.getD k 0 := ⟨_, rfl⟩
        obtain ⟨sq, esq⟩ : ∃ x, x = sumTo (quoF need sum total) k := ⟨_, rfl⟩
        rw [← ex] at hv1 hc1 hqd hrd
        rw [← esq] at hst hsb
        rw [← esq]
        have ESQ := Lib.hid esq; clear ex esq
        have hkl : (k : Int) < (need.length : Int) := by omega
        have a1 : 0 ≤ total * x := Int.mul_nonneg ht.1 hv1.1
        have a2 : total * x ≤ 1000000 * 1000000 := Int.mul_le_mul ht.2 hv1.2 hv1.1 (by omega)
        have a3 : total * x / sum ≤ total * x := Int.ediv_le_self sum a1
        have a4 : 0 ≤ total * x / sum := Int.ediv_nonneg a1 (by omega)
        obtain ⟨va, hva⟩ := hA.some_ hlt
        obtain ⟨vb, hvb⟩ := hR.some_ hlt
        have hfa := hA.frozen k
        have hfb := hR.frozen k
        have hsz : (sum == 0) = false := by simp; omega
        go_wp2_with fail
        go_region
        go_wp2
        go_roundw
        case rel =>
          refine ⟨k + 1, by omega, by go_num, ?_, ((hBr.setCell (by simp) _).setCell (by simp) _).drew, ((hA.set_ hlt hqd.out.symm).far (by simp) _).drew, ((hR.far (by simp) _).set_ hlt hrd.out.symm).drew⟩
          have e := hst.out
          rw [hqd.out] at e
          rw [e]; congr 1; omega
        case measure => simp [intOf]; omega
      · have hk2 : k = need.length := by omega
        have hRX := (hk2 ▸ hR : Own wr w.heap.size need.length (remF need sum total) need.length).rowX
        have hAX := (hk2 ▸ hA : Own wr (w.heap.size + 1) need.length (quoF need sum total) need.length).rowX
        obtain ⟨m, hm⟩ : ∃ m : Nat, missingOf need sum total = (m : Int) := ⟨_, (Int.toNat_of_nonneg hmis.1).symm⟩
        have hm1 : total - sumTo (quoF need sum total) k = (m : Int) := by rw [hk2]; exact hm
        have hmn : m < need.length := by omega
        rw [hm1]
        have hO := order_ok (V := tab need.length (remF need sum total)) (by rw [tab_len]; exact hpos)
        have hs := greatestFirst_any ⟨w.heap.size, 0, none⟩ (tab need.length (remF need sum total)) need.length wr hRX.ints (by rw [tab_len]; exact hn) (by rw [tab_len]; exact hpos)
        rw [tab_len] at hs hO
        have hbill : billOf need sum total = ((orderOf (tab need.length (remF need sum total))).take m).foldl bump (tab need.length (quoF need sum total)) := by
          unfold billOf; rw [hm]; rfl
        have hqb : ∀ j, j < (tab need.length (quoF need sum total)).length → 0 ≤ (tab need.length (quoF need sum total)).getD j 0 ∧ (tab need.length (quoF need sum total)).getD j 0 ≤ 1000000000000 := by
          intro j hj
          rw [tab_len] at hj
          rw [tab_at hj]
          have hvi := HV.out j hj
          have a1 : 0 ≤ total * need.getD j 0 := Int.mul_nonneg ht.1 hvi.1
          have a2 : total * need.getD j 0 ≤ 1000000 * 1000000 := Int.mul_le_mul ht.2 hvi.2 hvi.1 (by omega)
          have a3 : total * need.getD j 0 / sum ≤ total * need.getD j 0 := Int.ediv_le_self sum a1
          have a4 : 0 ≤ total * need.getD j 0 / sum := Int.ediv_nonneg a1 (by omega)
          unfold quoF; omega
        have hQ := tab_len need.length (quoF need sum total)
        generalize orderOf (tab need.length (remF need sum total)) = order at hs hO hbill
        generalize tab need.length (quoF need sum total) = qs at hAX hqb hQ hbill
        have HBILL := Lib.hid hbill
        clear hbill
        have HG := Lib.hid hs
        have HO := Lib.hid hO
        have HQ := Lib.hid hqb
        have HQL := Lib.hid hQ
        clear hs hO hqb hQ hm1 hm hk2 hRX hA hR
        have hml : (m : Int) ≤ (need.length : Int) := by omega
        have hm0 : 0 ≤ (m : Int) := by omega
        go_wp2_with fail
        refine HG.out.mono ?_
        rintro e w1 ⟨g3, hg3, rfl, hO1, hB1⟩
        have hA1 : RowX w1 (w.heap.size + 1) qs := hAX.below hB1
        have hBw : Below w.heap.size w w1 := hBr.trans (hB1.mono hBr.size)
        have hga : (w.heap.size + 1) < wr.heap.size := hAX.lt
        go_wp2_with fail
        go_loopw [56] (fun i w2 => ∃ k2 : Nat, k2 ≤ m ∧ i = .int .i64 k2 ∧ Below w.heap.size w w2 ∧ RowX w2 (w.heap.size + 1) ((order.take k2).foldl bump qs) ∧ RowX w2 g3 order) (fun i _ => m - (intOf i).toNat)
        case atStart => exact ⟨0, Nat.zero_le _, rfl, hBw, hA1, hO1⟩
        case round =>
          obtain ⟨k2, hk2, rfl, hB2, hA2, hO2⟩ := hrel
          by_cases hlt2 : k2 < m
          · obtain ⟨x, hx, hxe⟩ := HO.out.1 k2 (by rw [HO.out.2]; omega)
            have hc2 := hO2.cell (j := k2) (by rw [HO.out.2]; omega)
            rw [hxe] at hc2
            have hc3 := hA2.cell (j := x) (by rw [bumps_len, HQL.out]; exact hx)
            have hb := bumps_bd (order.take k2) qs _ HQ.out x (by rw [HQL.out]; exact hx)
            have hl20 : ((order.take k2).length : Int) ≤ 20 := by rw [List.length_take]; omega
            have hfz := hA2.frozen x
            have hset := hA2.set_ x (((order.take k2).foldl bump qs).getD x 0 + 1)
            have hst := bump_step (qs := qs) (order := order) (k := k2) (by rw [HO.out.2]; omega)
            rw [hxe] at hst
            have HST := Lib.hid hst
            have HSET := Lib.hid hset
            clear hset hst
            generalize hv : ((order.take k2).foldl bump qs).getD x 0 = v at hc3 hb HSET
            have HVV := Lib.hid hv
            clear hv
            have hkl2 : (k2 : Int) < (m : Int) := by omega
            have hxl : (x : Int) < (need.length : Int) := by omega
            go_wp2_with fail
            go_roundw
            case rel =>
              refine ⟨k2 + 1, by omega, by go_num, hB2.setCell (by simp) _, ?_, hO2.far (by show g3 ≠ (w.heap.size + 1); omega) _⟩
              rw [HST.out, bump_nat, HVV.out]
              exact HSET.out
            case measure => simp [intOf]; omega
          · have hk3 : k2 = m := by omega
            have hA3 : RowX wr (w.heap.size + 1) (billOf need sum total) := by rw [HBILL.out, ← hk3]; exact hA2
            go_wp2_with fail
            go_ret
            exact ⟨_, rfl, hA3, hB2⟩
end Go.Proofs.YtebndgepmjonoaaDoor

/-
  A bill for a need.
-/
namespace Go.Proofs.YtebndgepmjonoaaDoor
open Go.RowKit Go.Maps

def sumOf (l : List Int) : Int := sumTo (fun k => l.getD k 0) l.length
def billE (f : FT) (l : List Int) (total : Int) : Int :=
  if casesErr f [l] ≠ 0 then casesErr f [l] else if total < 0 ∨ 1000000 < total then 2 else if sumOf l = 0 then 11 else 0
def BillPost (w : World) (f : FT) (l : List Int) (total : Int) (e : Ending) (w' : World) : Prop :=
  Below w.heap.size w w' ∧ ((billE f l total ≠ 0 ∧ e = .returned (.tuple #[.slice none 0 0, .int .i64 (billE f l total)])) ∨ (billE f l total = 0 ∧ ∃ g, e = .returned (.tuple #[.slice (some ⟨g, 0, none⟩) l.length l.length, .int .i64 0]) ∧ RowX w' g (billOf l (sumOf l) total)))

set_option maxRecDepth 100000 in
set_option maxHeartbeats 2000000 in
theorem BillFor_any (f : FT) (a : Option Addr) (c : Nat) (b : Option Addr) (l : List Int) (d : Nat) (total : Int) (w : World) (hF : FAt w a f) (hX : IntsAt w b l) (hl : l.length ≤ maxLen) (h20 : l.length < 20) :
    Calls Tryd.prog 18 #[.agg #[.string f.name, .int .i64 f.body, .slice a f.sorts.length c], .slice b l.length d, .int .i64 total] w (BillPost w f l total) := by
  have hbox := lists_one (d := d) (hX.alloc (.cells #[.string f.name, .int .i64 f.body, .slice a f.sorts.length c] 24)) hl
  have hF2 := (hF.alloc (.cells #[.string f.name, .int .i64 f.body, .slice a f.sorts.length c] 24)).alloc (.cells #[.slice b l.length d] 31)
  have hB0 := ((Below.refl w.heap.size w).alloc (Nat.le_refl _) (.cells #[.string f.name, .int .i64 f.body, .slice a f.sorts.length c] 24)).alloc (by simp) (.cells #[.slice b l.length d] 31)
  by_cases h1 : casesErr f [l] = 0
  · obtain ⟨g1, g2⟩ := cases_zero h1
    obtain ⟨_, hR, _⟩ := checkF_right g1
    obtain ⟨hln, hv⟩ := countErr_zero (g2 l (by simp))
    have hpos : 0 < l.length := by have := hR.2.2.1; omega
    have HV := Lib.hid hv; clear hv hln g1 g2
    by_cases ht : total < 0 ∨ 1000000 < total
    · have HE := Lib.hid (show billE f l total = 2 by unfold billE; rw [if_neg (by simp [h1]), if_pos ht])
      go_enter Tryd.func18, Tryd.ntmps18
      go_wp2_with fail
      refine (errorOfCounts_any f a c _ [⟨b, d, l⟩] _ _ hF2.ok (by exact hF2.at_) (by exact hF2.tab) (by simpa using hbox) (by unfold maxLen; simp)).mono ?_
      rintro e w1 ⟨rfl, hb⟩
      rw [show ([(⟨b, d, l⟩ : IS)].map (·.l)) = [l] from rfl, h1]
      have hB1 := hB0.trans (hb.mono (B' := w.heap.size) (by simp <;> omega))
      clear hF2 hbox hB0 hb h1
      rcases (by omega : total < 0 ∨ (0 ≤ total ∧ 1000000 < total)) with h | ⟨h, h'⟩ <;> clear ht
      · go_wp2
        go_ret2
        exact ⟨hB1, .inl ⟨by rw [HE.out]; decide, by rw [HE.out]; rfl⟩⟩
      · go_wp2
        go_ret2
        exact ⟨hB1, .inl ⟨by rw [HE.out]; decide, by rw [HE.out]; rfl⟩⟩
    · have ht0 : 0 ≤ total := by omega
      have ht1 : total ≤ 1000000 := by omega
      have HT := Lib.hid ht; clear ht
      go_enter Tryd.func18, Tryd.ntmps18
      go_wp2_with fail
      refine (errorOfCounts_any f a c _ [⟨b, d, l⟩] _ _ hF2.ok (by exact hF2.at_) (by exact hF2.tab) (by simpa using hbox) (by unfold maxLen; simp)).mono ?_
      rintro e w1 ⟨rfl, hb⟩
      rw [show ([(⟨b, d, l⟩ : IS)].map (·.l)) = [l] from rfl, h1]
      have H1 := Lib.hid h1; clear h1
      have hB1 := hB0.trans (hb.mono (B' := w.heap.size) (by simp <;> omega))
      have hX1 := hX.below hB1
      clear hF2 hbox hB0 hb
      go_wp2_with fail
      go_loopw [9, 27] (fun t i wr => ∃ k : Nat, k ≤ l.length ∧ i = .int .i64 k ∧ t = .int .i64 (sumTo (fun k => l.getD k 0) k) ∧ Drew w1 wr) (fun _ i _ => l.length - (intOf i).toNat)
      case atStart => exact ⟨0, Nat.zero_le _, rfl, rfl, Drew.refl _⟩
      case round =>
        obtain ⟨k, hk, rfl, rfl, hD⟩ := hrel
        by_cases hlt : k < l.length
        · obtain ⟨p1, rfl, hp1, hc1⟩ := (hD.ints hX1).at_ hlt
          have hv1 := HV.out k hlt
          have hsb := sumTo_bd (f := fun k => l.getD k 0) (lo := 0) (hi := 1000000) (k := k) (fun i hi => HV.out i (by omega))
          have hst := Lib.hid (show sumTo (fun k => l.getD k 0) (k + 1) = sumTo (fun k => l.getD k 0) k + l.getD k 0 from rfl)
          obtain ⟨x, ex⟩ : ∃ x, x = l.getD k 0 := ⟨_, rfl⟩
          obtain ⟨sq, esq⟩ : ∃ x, x = sumTo (fun k => l.getD k 0) k := ⟨_, rfl⟩
          rw [← ex] at hv1 hc1 hst
          rw [← esq] at hst hsb
          rw [← esq]
          clear ex esq
          have hkl : (k : Int) < (l.length : Int) := by omega
          have hk20 : (k : Int) < 20 := by omega
          go_wp2_with fail
          go_roundw
          case rel => exact ⟨k + 1, by omega, by go_num, by rw [hst.out], hD⟩
          case measure => simp [intOf]; omega
        · have hk2 : k = l.length := by omega
          subst hk2
          rw [show sumTo (fun k => l.getD k 0) l.length = sumOf l from rfl]
          have hs0 := (sumTo_bd (f := fun k => l.getD k 0) (lo := 0) (hi := 1000000) (k := l.length) (fun i hi => HV.out i hi)).1
          rw [show sumTo (fun k => l.getD k 0) l.length = sumOf l from rfl] at hs0
          have HS := Lib.hid (show sumTo (fun k => l.getD k 0) l.length = sumOf l from rfl)
          by_cases hz : sumOf l = 0
          · have HE := Lib.hid (show billE f l total = 11 by unfold billE; rw [if_neg (by simp [H1.out]), if_neg HT.out, if_pos hz])
            have hBr := hD.below hB1
            rw [hz]
            clear hz hs0
            go_wp2
            go_ret2
            exact ⟨hBr, .inl ⟨by rw [HE.out]; decide, by rw [HE.out]; rfl⟩⟩
          · have HE := Lib.hid (show billE f l total = 0 by unfold billE; rw [if_neg (by simp [H1.out]), if_neg HT.out, if_neg hz])
            have hBr := hD.below hB1
            obtain ⟨p1, rfl, hp1, hc1⟩ := (hD.ints hX1).at_ hpos
            have hsh := Lib.hid (shared_any p1 l d (sumOf l) total wr (hD.ints hX1) h20 hpos (fun k hk => HV.out k hk) HS.out (by omega) ⟨ht0, ht1⟩)
            obtain ⟨s, es⟩ : ∃ s, s = sumOf l := ⟨_, rfl⟩
            have ES := Lib.hid es
            rw [← es] at hz hs0 hsh
            rw [← es]
            clear es hc1
            go_wp2_with fail
            refine hsh.out.mono ?_
            rintro e w3 ⟨g, rfl, hrow, hb3⟩
            go_wp2
            go_ret2
            refine ⟨hBr.trans (hb3.mono (B' := w.heap.size) hBr.size), .inr ⟨HE.out, g, rfl, ?_⟩⟩
            rw [← ES.out]; exact hrow
  · have HE := Lib.hid (show billE f l total = casesErr f [l] by unfold billE; rw [if_pos h1])
    have heb : (casesErr f [l] != 0) = true := by simpa using h1
    have H1 := Lib.hid h1
    clear h1
    go_enter Tryd.func18, Tryd.ntmps18
    go_wp2_with fail
    refine (errorOfCounts_any f a c _ [⟨b, d, l⟩] _ _ hF2.ok (by exact hF2.at_) (by exact hF2.tab) (by simpa using hbox) (by unfold maxLen; simp)).mono ?_
    rintro e w1 ⟨rfl, hb⟩
    rw [show ([(⟨b, d, l⟩ : IS)].map (·.l)) = [l] from rfl]
    have hB1 := hB0.trans (hb.mono (B' := w.heap.size) (by simp <;> omega))
    clear hF2 hbox hB0 hb
    go_wp2
    go_ret2
    exact ⟨hB1, .inl ⟨by rw [HE.out]; exact H1.out, by rw [HE.out]; rfl⟩⟩
end Go.Proofs.YtebndgepmjonoaaDoor

/-
  The mathematics of a bill: as many sorts as its total, none below 0, its metal, how often a need can be taken from bills.
-/
namespace Go.Proofs.YtebndgepmjonoaaDoor
open Go.RowKit Go.Maps

theorem sumTo_nonneg {f : Nat → Int} : ∀ {n : Nat}, (∀ i, i < n → 0 ≤ f i) → 0 ≤ sumTo f n := by
  intro n
  induction n with
  | zero => intro _; exact Int.le_refl _
  | succ n ih => intro h; have := ih (fun i hi => h i (by omega)); have := h n (by omega); show 0 ≤ sumTo f n + f n; omega
theorem sumTo_le {f : Nat → Int} : ∀ {n : Nat}, (∀ i, i < n → 0 ≤ f i) → ∀ k, k < n → f k ≤ sumTo f n := by
  intro n
  induction n with
  | zero => intro _ k hk; omega
  | succ n ih =>
    intro h k hk
    show f k ≤ sumTo f n + f n
    have h0 := sumTo_nonneg (n := n) (fun i hi => h i (by omega))
    have h1 := h n (by omega)
    by_cases e : k = n
    · subst e; omega
    · have := ih (fun i hi => h i (by omega)) k (by omega); omega
theorem sumTo_one {f g : Nat → Int} {x : Nat} (hx : g x = f x + 1) (ho : ∀ i, i ≠ x → g i = f i) : ∀ n, sumTo g n = sumTo f n + if x < n then 1 else 0 := by
  intro n
  induction n with
  | zero => rfl
  | succ n ih =>
    show sumTo g n + g n = sumTo f n + f n + _
    rw [ih]
    by_cases e : x = n
    · subst e; rw [hx, if_neg (by omega), if_pos (by omega)]; omega
    · rw [ho n (fun h => e h.symm)]
      by_cases h2 : x < n
      · rw [if_pos h2, if_pos (by omega)]; omega
      · rw [if_neg h2, if_neg (by omega)]; omega
theorem sumOf_bump {L : List Int} {x : Nat} (hx : x < L.length) : sumOf (bump L (x : Int)) = sumOf L + 1 := by
  unfold sumOf
  rw [bump_len, sumTo_one (f := fun k => L.getD k 0) (x := x) ?_ ?_, if_pos hx]
  · show (bump L (x : Int)).getD x 0 = _
    rw [bump_nat, List.getD_eq_getElem?_getD, List.getElem?_set, if_pos rfl, if_pos hx]; rfl
  · intro i hi
    show (bump L (x : Int)).getD i 0 = _
    rw [bump_nat, List.getD_eq_getElem?_getD, List.getElem?_set, if_neg (fun h => hi h.symm), ← List.getD_eq_getElem?_getD]
theorem sumOf_bumps : ∀ (xs L : List Int), OkIdx xs L.length → sumOf (xs.foldl bump L) = sumOf L + xs.length := by
  intro xs
  induction xs with
  | nil => intro L _; simp
  | cons y r ih =>
    intro L h
    obtain ⟨x, hx, hxe⟩ := h 0 (by simp)
    have hy : y = (x : Int) := by simpa using hxe
    subst hy
    rw [List.foldl_cons, ih (bump L (x : Int)) (fun j hj => by rw [bump_len]; exact h (j + 1) (by simpa using hj)), sumOf_bump hx, List.length_cons]
    omega
theorem OkIdx.take_ {L : List Int} {n : Nat} (h : OkIdx L n) (m : Nat) : OkIdx (L.take m) n := fun j hj => by
  rw [List.length_take] at hj
  obtain ⟨x, hx, e⟩ := h j (by omega)
  refine ⟨x, hx, ?_⟩
  rw [← e, List.getD_eq_getElem?_getD, List.getElem?_take, if_pos (by omega), ← List.getD_eq_getElem?_getD]
theorem sumOf_tab (n : Nat) (fn : Nat → Int) : sumOf (tab n fn) = sumTo fn n := by
  unfold sumOf
  rw [tab_len]
  exact sumTo_congr (fun i hi => tab_at hi)

section
variable {l : List Int} {total : Int} {n : Nat}
theorem okc_nonneg (h : OkC n l) : ∀ i, i < l.length → 0 ≤ l.getD i 0 := fun i hi => (h.2 i (by have := h.1; omega)).1
theorem sumOf_pos (h : OkC n l) (h0 : sumOf l ≠ 0) : 0 < sumOf l := by
  have : 0 ≤ sumOf l := sumTo_nonneg (okc_nonneg h)
  omega
theorem quo_bd (h : OkC n l) (h0 : sumOf l ≠ 0) (ht : 0 ≤ total ∧ total ≤ 1000000) : ∀ j, j < l.length → 0 ≤ quoF l (sumOf l) total j ∧ quoF l (sumOf l) total j ≤ 1000000000000 := by
  intro j hj
  have hvi := h.2 j (by have := h.1; omega)
  have hs := sumOf_pos h h0
  have a1 : 0 ≤ total * l.getD j 0 := Int.mul_nonneg ht.1 hvi.1
  have a2 : total * l.getD j 0 ≤ 1000000 * 1000000 := Int.mul_le_mul ht.2 hvi.2 hvi.1 (by omega)
  have a3 : total * l.getD j 0 / sumOf l ≤ total * l.getD j 0 := Int.ediv_le_self _ a1
  have a4 : 0 ≤ total * l.getD j 0 / sumOf l := Int.ediv_nonneg a1 (by omega)
  unfold quoF; omega
theorem bill_len : (billOf l (sumOf l) total).length = l.length := by unfold billOf; rw [bumps_len, tab_len]
theorem bill_sum (h : OkC n l) (hn : 0 < n) (h0 : sumOf l ≠ 0) : sumOf (billOf l (sumOf l) total) = total := by
  have hs := sumOf_pos h h0
  have hl : 0 < l.length := by have := h.1; omega
  have hm := missing_bd (total := total) hs rfl hl
  have ho := order_ok (V := tab l.length (remF l (sumOf l) total)) (by rw [tab_len]; exact hl)
  rw [tab_len] at ho
  unfold billOf
  rw [sumOf_bumps _ _ (by rw [tab_len]; exact ho.1.take_ _), sumOf_tab, List.length_take, ho.2]
  unfold missingOf at hm ⊢
  omega
theorem bill_nonneg (h : OkC n l) (h0 : sumOf l ≠ 0) (ht : 0 ≤ total ∧ total ≤ 1000000) : ∀ j, j < l.length → 0 ≤ (billOf l (sumOf l) total).getD j 0 := by
  intro j hj
  exact (bumps_bd _ (tab l.length (quoF l (sumOf l) total)) 1000000000000 (fun i hi => by rw [tab_len] at hi; rw [tab_at hi]; exact quo_bd h h0 ht i hi) j (by rw [tab_len]; exact hj)).1
theorem bill_le (h : OkC n l) (hn : 0 < n) (h0 : sumOf l ≠ 0) (ht : 0 ≤ total ∧ total ≤ 1000000) : ∀ j, j < l.length → (billOf l (sumOf l) total).getD j 0 ≤ total := by
  intro j hj
  have := sumTo_le (f := fun k => (billOf l (sumOf l) total).getD k 0) (n := l.length) (fun i hi => bill_nonneg h h0 ht i hi) j hj
  have hs := bill_sum (total := total) h hn h0
  unfold sumOf at hs
  rw [show (billOf l (sumTo (fun k => l.getD k 0) l.length) total).length = l.length from bill_len] at hs
  have hs' : sumTo (fun k => (billOf l (sumOf l) total).getD k 0) l.length = total := hs
  rw [hs'] at this
  exact this
theorem bill_ok (h : OkC n l) (hn : 0 < n) (h0 : sumOf l ≠ 0) (ht : 0 ≤ total ∧ total ≤ 1000000) : OkC n (billOf l (sumOf l) total) := by
  refine ⟨bill_len.trans h.1, fun k hk => ?_⟩
  have h1 := bill_nonneg h h0 ht k (by have := h.1; omega)
  have h2 := bill_le h hn h0 ht k (by have := h.1; omega)
  omega
theorem metal_ge {f : FT} (hf : RightF f) (hk : OkC f.sorts.length l) : sumOf l ≤ metal f l := by
  have : ∀ k, k ≤ l.length → sumTo (fun k => l.getD k 0) k ≤ metalN f l k := by
    intro k
    induction k with
    | zero => intro _; exact Int.le_refl _
    | succ k ih =>
      intro hkl
      have h1 := ih (by omega)
      have h2 := hk.2 k (by have := hk.1; omega)
      obtain ⟨b1, b2, _, _, hw⟩ := hf
      obtain ⟨w1, w2, _⟩ := hw k (by have := hk.1; omega)
      show sumTo _ k + l.getD k 0 ≤ metalN f l k + l.getD k 0 * (f.sorts.getD k noTS).width * f.body
      have h3 : l.getD k 0 * 1 ≤ l.getD k 0 * (f.sorts.getD k noTS).width := Int.mul_le_mul_of_nonneg_left w1 h2.1
      have h4 : l.getD k 0 * (f.sorts.getD k noTS).width * 1 ≤ l.getD k 0 * (f.sorts.getD k noTS).width * f.body := Int.mul_le_mul_of_nonneg_left b1 (by omega)
      omega
  exact this l.length (Nat.le_refl _)
end

/-- From c times as many of each sort a need can be taken at least c times as often. -/
theorem timesN_mul {l1 l1' l2 : List Int} {c : Int} {n : Nat} (hc : 0 ≤ c) (h1 : ∀ j, j < n → 0 ≤ l1.getD j 0 ∧ l1.getD j 0 ≤ 1000000) (h2 : ∀ j, j < n → 0 ≤ l2.getD j 0) (h : ∀ j, j < n → l1'.getD j 0 = c * l1.getD j 0) : ∀ k, k ≤ n →
    ((timesN l1 l2 k).1 < 0 ∧ (timesN l1' l2 k).1 < 0 ∧ ∀ j, j < k → l2.getD j 0 = 0) ∨ (0 ≤ (timesN l1 l2 k).1 ∧ (timesN l1 l2 k).1 ≤ 1000000 ∧ (timesN l1 l2 k).1 * c ≤ (timesN l1' l2 k).1 ∧ 0 ≤ (timesN l1' l2 k).1) := by
  intro k
  induction k with
  | zero => intro _; exact .inl ⟨(by show (-1 : Int) < 0; decide), (by show (-1 : Int) < 0; decide), fun j hj => by omega⟩
  | succ k ih =>
    intro hk
    have hih := ih (by omega)
    by_cases hz : l2.getD k 0 = 0
    · rw [timesN_skip hz, timesN_skip hz]
      rcases hih with ⟨a1, a2, a3⟩ | hr
      · refine .inl ⟨a1, a2, fun j hj => ?_⟩
        by_cases e : j = k
        · subst e; exact hz
        · exact a3 j (by omega)
      · exact .inr hr
    · have hp : 0 < l2.getD k 0 := by have := h2 k (by omega); omega
      obtain ⟨u1, u2⟩ := h1 k (by omega)
      have q0 : 0 ≤ l1.getD k 0 / l2.getD k 0 := Int.ediv_nonneg u1 (by omega)
      have q1 : l1.getD k 0 / l2.getD k 0 ≤ 1000000 := Int.le_trans (Int.ediv_le_self _ u1) u2
      have q2 : l1.getD k 0 / l2.getD k 0 * c ≤ l1'.getD k 0 / l2.getD k 0 := by
        rw [h k (by omega)]
        apply (Int.le_ediv_iff_mul_le hp).2
        have a := Int.ediv_mul_le (l1.getD k 0) (by omega : l2.getD k 0 ≠ 0)
        have b := Int.mul_le_mul_of_nonneg_left a hc
        have e : l1.getD k 0 / l2.getD k 0 * c * l2.getD k 0 = c * (l1.getD k 0 / l2.getD k 0 * l2.getD k 0) := by
          rw [Int.mul_comm _ c, Int.mul_assoc]
        rw [e]; exact b
      have q3 : 0 ≤ l1.getD k 0 / l2.getD k 0 * c := Int.mul_nonneg q0 hc
      right
      by_cases g : (timesN l1 l2 k).1 < 0 ∨ l1.getD k 0 / l2.getD k 0 < (timesN l1 l2 k).1 <;> by_cases g' : (timesN l1' l2 k).1 < 0 ∨ l1'.getD k 0 / l2.getD k 0 < (timesN l1' l2 k).1
      · rw [timesN_new hz g, timesN_new hz g']; exact ⟨q0, q1, q2, by show 0 ≤ _ / _; omega⟩
      · rw [timesN_new hz g, timesN_keep hz g']
        refine ⟨q0, q1, ?_, by omega⟩
        show l1.getD k 0 / l2.getD k 0 * c ≤ (timesN l1' l2 k).1
        rcases hih with ⟨a1, a2, _⟩ | ⟨a1, _, a2, a3⟩
        · omega
        · rcases g with g | g
          · omega
          · have := Int.mul_le_mul_of_nonneg_right (Int.le_of_lt g) hc
            omega
      · rw [timesN_keep hz g, timesN_new hz g']
        rcases hih with ⟨a1, a2, _⟩ | ⟨a1, a4, a2, a3⟩
        · omega
        · have := Int.mul_le_mul_of_nonneg_right (show (timesN l1 l2 k).1 ≤ l1.getD k 0 / l2.getD k 0 by omega) hc
          exact ⟨a1, a4, by show _ ≤ l1'.getD k 0 / l2.getD k 0; omega, by show 0 ≤ l1'.getD k 0 / l2.getD k 0; omega⟩
      · rw [timesN_keep hz g, timesN_keep hz g']
        rcases hih with ⟨a1, a2, _⟩ | hr
        · omega
        · exact hr
theorem times_ok {l1 l2 : List Int} {n : Nat} (h : 0 ≤ (timesN l1 l2 n).1) : timesR l1 l2 n = ((timesN l1 l2 n).1, (timesN l1 l2 n).2, 0) := by
  unfold timesR; rw [if_neg (by omega)]
theorem Times_good {f : FT} {a : Option Addr} {c : Nat} {b1 : Option Addr} {l1 : List Int} {d1 : Nat} {b2 : Option Addr} {l2 : List Int} {d2 : Nat} {w : World} {N1 N2 : Nat} (hN1 : N1 = l1.length) (hN2 : N2 = l2.length) (hF : FAt w a f) (hX1 : IntsAt w b1 l1) (hX2 : IntsAt w b2 l2) (h0 : (checkF f).2 = 0) (h1 : OkC f.sorts.length l1) (h2 : OkC f.sorts.length l2) (hn : f.sorts.length ≤ 120) (ht : 0 ≤ (timesN l1 l2 f.sorts.length).1) :
    Calls Tryd.prog 31 #[.agg #[.string f.name, .int .i64 f.body, .slice a f.sorts.length c], .slice b1 N1 d1, .slice b2 N2 d2] w fun e w' => e = .returned (.tuple #[.int .i64 (timesN l1 l2 f.sorts.length).1, .int .i64 (timesN l1 l2 f.sorts.length).2, .int .i64 0]) ∧ Below w.heap.size w w' := by
  subst hN1 hN2
  refine (Times_any f a c b1 l1 d1 b2 l2 d2 w hF hX1 (okc_len h1 hn) hX2 (okc_len h2 hn)).mono ?_
  rintro e w' ⟨rfl, hb⟩
  have : timesE f l1 l2 = ((timesN l1 l2 f.sorts.length).1, (timesN l1 l2 f.sorts.length).2, 0) := by
    unfold timesE; rw [if_neg (by simp [two_ok h0 h1 h2]), h1.1, times_ok ht]
  rw [this]
  exact ⟨rfl, hb⟩
end Go.Proofs.YtebndgepmjonoaaDoor

/-
  The law on bills and casting: its walk.
-/
namespace Go.Proofs.YtebndgepmjonoaaDoor
open Go.RowKit Go.Maps

theorem within_yes {n lo hi : Int} {w : World} (h1 : lo ≤ n) (h2 : n ≤ hi) :
    Calls Tryd.prog 38 #[.int .i64 n, .int .i64 lo, .int .i64 hi] w fun e w' => e = .returned (.bool true) ∧ w = w' := by
  have h := within_any n lo hi w
  rw [show inB n lo hi = true from decide_eq_true ⟨h1, h2⟩] at h
  exact h
theorem within_no {n lo hi : Int} {w : World} (h1 : ¬ (lo ≤ n ∧ n ≤ hi)) :
    Calls Tryd.prog 38 #[.int .i64 n, .int .i64 lo, .int .i64 hi] w fun e w' => e = .returned (.bool false) ∧ w = w' := by
  have h := within_any n lo hi w
  rw [show inB n lo hi = false from decide_eq_false h1] at h
  exact h
theorem few_len {f : FT} (h : fewB f = true) (hf : RightF f) : f.sorts.length ≤ 10 := by
  unfold fewB at h
  have h1 : decide (20 < f.name.size ∨ (10 < f.sorts.length ∧ f.sorts.length ≤ 120) ∨ 123 < f.sorts.length) = false := by
    cases e : decide (20 < f.name.size ∨ (10 < f.sorts.length ∧ f.sorts.length ≤ 120) ∨ 123 < f.sorts.length)
    · rfl
    · rw [e] at h; simp at h
  have h2 := of_decide_eq_false h1
  have h3 := hf.2.2.2.1
  omega

theorem tab_congr {n : Nat} {f g : Nat → Int} (h : ∀ j, j < n → f j = g j) : tab n f = tab n g :=
  list_eq (by rw [tab_len, tab_len]) (fun j hj => by rw [tab_len] at hj; rw [tab_at hj, tab_at hj, h j hj])

end Go.Proofs.YtebndgepmjonoaaDoor
