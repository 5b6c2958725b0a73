/-
  The library's insertion sort over numbers of values, the greatest values first.
-/
import Derived.Test.YtjkcomafgkabeaaDoorS1
namespace Go.Proofs.YtjkcomafgkabeaaDoor
open Go.RowKit Go.Maps

def gfLt (V : List Int) (x y : Int) : Bool := decide (cmpI (V.getD y.toNat 0) (V.getD x.toNat 0) < 0)

set_option maxRecDepth 100000 in
set_option maxHeartbeats 1000000 in
theorem gfCmp_any (bp rp : Addr) (V : List Int) (d : Nat) (x y : Nat) (w : World) (hb : w.cell? bp = some (.slice (some rp) V.length d)) (hV : IntsAt w (some rp) V) (hx : x < V.length) (hy : y < V.length) :
    Calls Tryd.prog 114 #[.int .i64 x, .int .i64 y, .pointer (some bp)] w fun e w' => e = .returned (.int .i64 (cmpI (V.getD y 0) (V.getD x 0))) ∧ ∃ n, w' = w.drewN n := by
  obtain ⟨_, e1, _, hcx⟩ := hV x hx
  obtain ⟨_, e2, _, hcy⟩ := hV y hy
  cases e1; cases e2
  have hx' : (x : Int) < (V.length : Int) := by omega
  have hy' : (y : Int) < (V.length : Int) := by omega
  obtain ⟨vx, ex⟩ : ∃ v, v = V.getD x 0 := ⟨_, rfl⟩
  obtain ⟨vy, ey⟩ : ∃ v, v = V.getD y 0 := ⟨_, rfl⟩
  rw [← ex] at hcx
  rw [← ey] at hcy
  rw [← ex, ← ey]
  clear ex ey
  go_enter Tryd.func114, Tryd.ntmps114
  go_wp2_with fail
  go_quiet ((go_at_call 72; exact Calls.quiet_of_same (compare_any _ _ _)))
  go_wp2
  go_ret
  exact ⟨rfl, _, rfl⟩

/-- What the sort finds all along: all but the row g is as it was. -/
structure SortEnv (w : World) (g : Nat) (bp rp : Addr) (V : List Int) (d : Nat) (wr : World) : Prop where
  grown : w.grownBy wr (some g)
  box : wr.cell? bp = some (.slice (some rp) V.length d)
  vals : IntsAt wr (some rp) V
theorem grownBy_drewN {w wr : World} {r : Option Nat} (h : w.grownBy wr r) (n : Nat) : w.grownBy (wr.drewN n) r := ⟨h.os, h.tape, h.output, h.size, h.block⟩
theorem grownBy_set {w wr : World} {g : Nat} (h : w.grownBy wr (some g)) (j : Nat) (u : Value) : w.grownBy (wr.setCell ⟨g, j, none⟩ u) (some g) :=
  ⟨h.os, h.tape, h.output, by simpa [World.setCell] using h.size, fun k hk hne => (Below.heap_setCell wr ⟨g, j, none⟩ u k (fun e => hne (by rw [e]))).trans (h.block k hk hne)⟩
theorem SortEnv.drewN {w wr : World} {g : Nat} {bp rp : Addr} {V : List Int} {d : Nat} (h : SortEnv w g bp rp V d wr) (n : Nat) : SortEnv w g bp rp V d (wr.drewN n) := ⟨grownBy_drewN h.grown n, h.box, h.vals⟩
theorem SortEnv.set_ {w wr : World} {g : Nat} {bp rp : Addr} {V : List Int} {d : Nat} (h : SortEnv w g bp rp V d wr) (hb : bp.block ≠ g) (hr : rp.block ≠ g) (j : Nat) (u : Value) : SortEnv w g bp rp V d (wr.setCell ⟨g, j, none⟩ u) := by
  refine ⟨grownBy_set h.grown j u, ?_, fun k hk => ?_⟩
  · rw [World.cell?_setCell_other _ _ _ _ (fun e => hb (by rw [← e]))]; exact h.box
  · obtain ⟨ad, e, hlt, hc⟩ := h.vals k hk
    cases e
    exact ⟨rp, rfl, by simpa [World.setCell] using hlt, by rw [World.cell?_setCell_other _ _ _ _ (fun e => hr (by rw [← add_block rp k, ← e]))]; exact hc⟩

def OkIdx (L : List Int) (n : Nat) : Prop := ∀ j, j < L.length → ∃ x : Nat, x < n ∧ L.getD j 0 = (x : Int)

theorem swp_at {L : List Int} {j : Nat} (h : j + 1 < L.length) (i : Nat) : (swp L j).getD i 0 = if i = j then L.getD (j + 1) 0 else if i = j + 1 then L.getD j 0 else L.getD i 0 := by
  unfold swp
  rw [List.getD_eq_getElem?_getD, List.getElem?_set]
  by_cases h1 : j = i
  · subst h1
    rw [if_pos rfl, if_pos rfl]
    simp only [List.length_set]
    rw [if_pos (by omega)]
    rfl
  · rw [if_neg h1, if_neg (fun e => h1 e.symm), List.getElem?_set]
    by_cases h2 : j + 1 = i
    · rw [if_pos h2, if_pos (by omega), if_pos h2.symm]; rfl
    · rw [if_neg h2, if_neg (fun e => h2 e.symm), List.getD_eq_getElem?_getD]
theorem OkIdx.swp_ {L : List Int} {n j : Nat} (h : OkIdx L n) (hj : j + 1 < L.length) : OkIdx (swp L j) n := by
  intro i hi
  rw [swp_len] at hi
  rw [swp_at hj]
  split
  · exact h (j + 1) hj
  · split
    · exact h j (by omega)
    · exact h i hi
theorem ins_go {lt : Int → Int → Bool} {j : Nat} {L : List Int} (h : lt (L.getD (j + 1) 0) (L.getD j 0) = true) : ins lt (j + 1) L = ins lt j (swp L j) := by
  show (if _ then _ else _) = _; rw [if_pos h]
theorem ins_stop {lt : Int → Int → Bool} {j : Nat} {L : List Int} (h : lt (L.getD (j + 1) 0) (L.getD j 0) = false) : ins lt (j + 1) L = L := by
  show (if _ then _ else _) = _; rw [if_neg (by rw [h]; simp)]
theorem insAll_go {lt : Int → Int → Bool} {n i : Nat} {L : List Int} (h : i < n) : insAll lt (n - i) i L = insAll lt (n - (i + 1)) (i + 1) (ins lt i L) := by
  obtain ⟨m, hm⟩ : ∃ m, n - i = m + 1 := ⟨n - i - 1, by omega⟩
  rw [hm, show n - (i + 1) = m by omega]; rfl
theorem insAll_end {lt : Int → Int → Bool} {n i : Nat} {L : List Int} (h : ¬ i < n) : insAll lt (n - i) i L = L := by rw [show n - i = 0 by omega]; rfl

set_option maxRecDepth 100000 in
set_option maxHeartbeats 4000000 in
theorem insSort_any (g : Nat) (L : List Int) (n c : Nat) (bp rp : Addr) (V : List Int) (d : Nat) (w : World) (hn : n = L.length) (hsm : n ≤ 1000) (hrow : RowX w g L) (hE : SortEnv w g bp rp V d w) (hbg : bp.block ≠ g) (hrg : rp.block ≠ g) (hL : OkIdx L V.length) :
    Calls Tryd.prog 111 #[.slice (some ⟨g, 0, none⟩) n c, .int .i64 0, .int .i64 n, .func (.func 114) #[] #[.pointer (some bp)]] w fun e w' => e = .returned (.tuple #[]) ∧ RowX w' g (insAll (gfLt V) (n - 1) 1 L) ∧ SortEnv w g bp rp V d w' := by
  have hlen := Lib.hid hn.symm
  clear hn
  go_enter Tryd.func111, Tryd.ntmps111
  go_wp2_with fail
  go_loopw [8] (fun v8 wr => ∃ (i : Nat) (Li : List Int), v8 = .int .i64 i ∧ 1 ≤ i ∧ i ≤ n + 1 ∧ RowX wr g Li ∧ Hid (Li.length = n) ∧ Hid (OkIdx Li V.length) ∧ SortEnv w g bp rp V d wr ∧ Hid (insAll (gfLt V) (n - 1) 1 L = insAll (gfLt V) (n - i) i Li)) (fun v8 _ => n + 1 - (intOf v8).toNat)
  case atStart => exact ⟨1, L, rfl, Nat.le_refl _, by omega, hrow, hlen, Lib.hid hL, hE, Lib.hid rfl⟩
  case round =>
    obtain ⟨i, Li, rfl, hi1, hin, hrowi, hleni, hoki, hEi, hres⟩ := hrel
    clear hrow hE hL
    by_cases hlt : i < n
    · have hgo := Lib.hid (insAll_go (lt := gfLt V) (L := Li) hlt)
      go_wp2_with fail
      obtain ⟨wo, rfl⟩ : ∃ wo : World, wo = wr := ⟨_, rfl⟩
      go_loopw [9] (fun v9 wr => ∃ (j : Nat) (Lj : List Int), v9 = .int .i64 j ∧ j ≤ i ∧ RowX wr g Lj ∧ Hid (Lj.length = n) ∧ Hid (OkIdx Lj V.length) ∧ SortEnv w g bp rp V d wr ∧ Hid (ins (gfLt V) i Li = ins (gfLt V) j Lj)) (fun v9 _ => (intOf v9).toNat)
      case atStart => exact ⟨i, Li, rfl, Nat.le_refl _, hrowi, hleni, hoki, hEi, Lib.hid rfl⟩
      case round =>
        obtain ⟨j, Lj, rfl, hji, hrowj, hlenj, hokj, hEj, hresj⟩ := hrel
        clear hrowi hleni hoki hEi
        rcases j with _ | j
        · rw [show ((0 : Nat) : Int) = 0 from rfl]
          have hd0 : decide ((0 : Int) < (0 : Int)) = false := by decide
          go_wp2_with fail
          go_quiet (fail)
          go_wp2
          go_roundw
          case rel => exact ⟨i + 1, Lj, by go_num, by omega, by omega, hrowj.drewN _, hlenj, hokj, hEj.drewN _, Lib.hid (by rw [hres.out, hgo.out, hresj.out]; rfl)⟩
          case measure => simp [intOf]; omega
        · rw [show ((j + 1 : Nat) : Int) = (j : Int) + 1 from by omega]
          have hj1 : j + 1 < Lj.length := by have := hlenj.out; omega
          obtain ⟨x, hx, ex⟩ := hokj.out (j + 1) hj1
          obtain ⟨y, hy, ey⟩ := hokj.out j (by omega)
          have hc1 := hrowj.cell hj1
          have hc2 := hrowj.cell (j := j) (by omega)
          have hok' := Lib.hid (hokj.out.swp_ hj1)
          have hins := Lib.hid (@ins_go (gfLt V) j Lj)
          have hinn := Lib.hid (@ins_stop (gfLt V) j Lj)
          rw [ex, ey] at hins hinn
          rw [ex] at hc1
          rw [ey] at hc2
          have hf1 := hrowj.frozen (j + 1)
          have hf2 := hrowj.frozen j
          have hcc := fun k => gfCmp_any bp rp V d x y (wr.drewN k) hEj.box hEj.vals hx hy
          obtain ⟨q, eq⟩ : ∃ q, q = cmpI (V.getD y 0) (V.getD x 0) := ⟨_, rfl⟩
          rw [← eq] at hcc
          have HCC := Lib.hid hcc
          have EX := Lib.hid ex; have EY := Lib.hid ey; clear ex ey hcc
          have hlt' : gfLt V (x : Int) (y : Int) = decide (q < 0) := by rw [eq]; rfl
          have hjn : (j : Int) + 1 < (n : Int) := by omega
          have hjn2 : (j : Int) < (n : Int) := by omega
          have hd1 : (0 : Int) < (j : Int) + 1 := by omega
          by_cases hq : q < 0
          · have hs := Lib.hid (hins.out (by rw [hlt']; exact decide_eq_true hq))
            clear hlt' eq
            go_wp2_with fail
            go_quiet ((go_at_call 114; exact Calls.quiet_of (HCC.out _)))
            go_wp2
            go_region
            go_wp2
            go_roundw
            case rel =>
              refine ⟨j, swp Lj j, by go_num, by omega, ?_, Lib.hid (by rw [swp_len]; exact hlenj.out), hok', ((hEj.drewN _).set_ hbg hrg _ _).set_ hbg hrg _ _, Lib.hid (hresj.out.trans hs.out)⟩
              unfold swp
              rw [EX.out, EY.out]
              exact ((hrowj.drewN _).set_ (j + 1) (y : Int)).set_ j (x : Int)
            case measure => simp [intOf]
          · have hs := Lib.hid (hinn.out (by rw [hlt']; exact decide_eq_false hq))
            have hq' : 0 ≤ q := by omega
            clear hlt' eq hq
            go_wp2_with fail
            go_quiet ((go_at_call 114; exact Calls.quiet_of (HCC.out _)))
            go_wp2
            go_roundw
            case rel => exact ⟨i + 1, Lj, by go_num, by omega, by omega, hrowj.drewN _, hlenj, hokj, hEj.drewN _, Lib.hid (by rw [hres.out, hgo.out, hresj.out, hs.out])⟩
            case measure => simp [intOf]; omega
    · have hend := Lib.hid (insAll_end (lt := gfLt V) (L := Li) hlt)
      go_wp2
      go_end0
      exact ⟨rfl, by rw [hres.out, hend.out]; exact hrowi, hEi⟩

set_option maxRecDepth 100000 in
set_option maxHeartbeats 1000000 in
theorem stableCmp_any (g : Nat) (L : List Int) (n c : Nat) (bp rp : Addr) (V : List Int) (d : Nat) (w : World) (hn : n = L.length) (hsm : n < 20) (hrow : RowX w g L) (hE : SortEnv w g bp rp V d w) (hbg : bp.block ≠ g) (hrg : rp.block ≠ g) (hL : OkIdx L V.length) :
    Calls Tryd.prog 99 #[.slice (some ⟨g, 0, none⟩) n c, .int .i64 n, .func (.func 114) #[] #[.pointer (some bp)]] w fun e w' => e = .returned (.tuple #[]) ∧ RowX w' g (insAll (gfLt V) (n - 1) 1 L) ∧ SortEnv w g bp rp V d w' := by
  have hc := insSort_any g L n c bp rp V d w hn (by omega) hrow hE hbg hrg hL
  have HC := Lib.hid hc
  have hn' : (n : Int) < 20 := by omega
  clear hc hn hrow hE hL
  go_enter Tryd.func99, Tryd.ntmps99
  go_wp2_with fail
  refine wp_loop_rounds 1 ?_
  rw [rounds_succ]
  go_wp2_with fail
  refine HC.out.mono ?_
  rintro e w1 ⟨rfl, hr1, hE1⟩
  go_wp2_with fail
  refine wp_loop_rounds 1 ?_
  rw [rounds_succ]
  go_wp2_with fail
  go_end0
  exact ⟨rfl, hr1, hE1⟩
set_option maxRecDepth 100000 in
set_option maxHeartbeats 1000000 in
theorem sortStable_any (g : Nat) (L : List Int) (n c : Nat) (bp rp : Addr) (V : List Int) (d : Nat) (w : World) (hn : n = L.length) (hsm : n < 20) (hrow : RowX w g L) (hE : SortEnv w g bp rp V d w) (hbg : bp.block ≠ g) (hrg : rp.block ≠ g) (hL : OkIdx L V.length) :
    Calls Tryd.prog 70 #[.slice (some ⟨g, 0, none⟩) n c, .func (.func 114) #[] #[.pointer (some bp)]] w fun e w' => e = .returned (.tuple #[]) ∧ RowX w' g (insAll (gfLt V) (n - 1) 1 L) ∧ SortEnv w g bp rp V d w' := by
  have HC := Lib.hid (stableCmp_any g L n c bp rp V d w hn hsm hrow hE hbg hrg hL)
  clear hn hrow hE hL
  go_enter Tryd.func70, Tryd.ntmps70
  go_wp2_with fail
  refine HC.out.mono ?_
  rintro e w1 ⟨rfl, hr1, hE1⟩
  go_wp2
  go_end0
  exact ⟨rfl, hr1, hE1⟩
end Go.Proofs.YtjkcomafgkabeaaDoor
