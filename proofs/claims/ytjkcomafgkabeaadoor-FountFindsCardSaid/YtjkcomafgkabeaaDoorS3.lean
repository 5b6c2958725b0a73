/-
  The numbers of values, those of the greatest ones first.
-/
import Derived.Test.YtjkcomafgkabeaaDoorS2
namespace Go.Proofs.YtjkcomafgkabeaaDoor
open Go.RowKit Go.Maps

theorem Own.rowX {w : World} {g n : Nat} {fn : Nat → Int} (h : Own w g n fn n) : RowX w g (tab n fn) := by
  obtain ⟨cs, h1, h2, h3⟩ := h
  have e : cs = (vals (tab n fn)).toArray := by
    apply Array.ext
    · simp [vals, tab_len, h2]
    · intro i hi1 hi2
      have hin : i < n := by omega
      have := h3 i hin
      rw [Array.getElem?_eq_getElem hi1] at this
      have e2 := vals_at (l := tab n fn) (k := i) (by rw [tab_len]; exact hin)
      rw [tab_at hin] at e2
      have e3 : (vals (tab n fn)).toArray[i]? = some (.int .i64 (fn i)) := by rw [List.getElem?_toArray]; exact e2
      rw [Array.getElem?_eq_getElem hi2] at e3
      rw [Option.some.inj this, Option.some.inj e3]
  unfold RowX
  rw [← e]; exact h1
theorem cell_lt' {w : World} {p : Addr} {v : Value} (h : w.cell? p = some v) : p.block < w.heap.size := World.block_lt_of_cell? w p h
theorem RowX.ints {w : World} {g : Nat} {L : List Int} (h : RowX w g L) : IntsAt w (some ⟨g, 0, none⟩) L := by
  intro k hk
  refine ⟨_, rfl, ?_, ?_⟩
  · have := cell_lt' (h.cell hk); exact this
  · rw [add0]; exact h.cell hk
def orderOf (V : List Int) : List Int := insAll (gfLt V) (V.length - 1) 1 (tab V.length fun i => (i : Int))

set_option maxRecDepth 100000 in
set_option maxHeartbeats 2000000 in
theorem greatestFirst_any (rp : Addr) (V : List Int) (d : Nat) (w : World) (hV : IntsAt w (some rp) V) (hn : V.length < 20) (hpos : 0 < V.length) :
    Calls Tryd.prog 102 #[.slice (some rp) V.length d] w fun e w' => ∃ g, w.heap.size ≤ g ∧ e = .returned (.slice (some ⟨g, 0, none⟩) V.length V.length) ∧ RowX w' g (orderOf V) ∧ Below w.heap.size w w' := by
  have hmk := fun W => run_make_row' (P := Tryd.prog) 31 3 (.int .i64 0) 8 Tryd.underlying31 info3 rfl .i64 .i64 V.length (by omega) (by omega) W
  have hrp : rp.block < w.heap.size := by
    obtain ⟨ad, e, hlt, _⟩ := hV 0 hpos
    cases e; exact hlt
  have hB0 := (Below.refl w.heap.size w).alloc (Nat.le_refl _) (.cells #[.slice (some rp) V.length d] 31)
  go_enter Tryd.func102, Tryd.ntmps102
  go_wp2_with fail
  go_loopw [10] (fun i wr => ∃ k : Nat, k ≤ V.length ∧ i = .int .i64 k ∧ Below (w.heap.size + 1) (w.alloc (.cells #[.slice (some rp) V.length d] 31)) wr ∧ Own wr (w.heap.size + 1) V.length (fun i => (i : Int)) k) (fun i _ => V.length - (intOf i).toNat)
  case atStart => exact ⟨0, Nat.zero_le _, rfl, (Below.refl _ _).alloc (by simp) _, by simpa using Own.made (w.alloc (.cells #[.slice (some rp) V.length d] 31)) V.length (fun i => (i : Int)) 0 (Nat.zero_le _) (fun j hj => by omega)⟩
  case round =>
    obtain ⟨k, hk, rfl, hBr, hOwn⟩ := hrel
    by_cases hlt : k < V.length
    · obtain ⟨v0, hv0⟩ := hOwn.some_ hlt
      have hfz := hOwn.frozen k
      have hkl : (k : Int) < (V.length : Int) := by omega
      go_wp2_with fail
      go_roundw
      case rel => exact ⟨k + 1, by omega, by go_num, hBr.setCell (by simp) _, hOwn.set_ hlt rfl⟩
      case measure => simp [intOf]; omega
    · have hk2 : k = V.length := by omega
      have hrow : RowX wr (w.heap.size + 1) (tab V.length fun i => (i : Int)) := by rw [← hk2]; rw [← hk2] at hOwn; exact hOwn.rowX
      have hbox : wr.cell? ⟨w.heap.size, 0, none⟩ = some (.slice (some rp) V.length d) := (hBr.cell (p := ⟨w.heap.size, 0, none⟩) (Nat.lt_succ_self _)).trans (by simp)
      have hBw : Below w.heap.size w wr := hB0.trans (hBr.mono (Nat.le_succ _))
      have hVr := hV.below hBw
      have hok : OkIdx (tab V.length fun i => (i : Int)) V.length := fun j hj => by
        rw [tab_len] at hj
        exact ⟨j, hj, tab_at hj⟩
      have hE : SortEnv wr (w.heap.size + 1) ⟨w.heap.size, 0, none⟩ rp V d wr := ⟨⟨rfl, rfl, rfl, Nat.le_refl _, fun _ _ _ => rfl⟩, hbox, hVr⟩
      have hs := sortStable_any (w.heap.size + 1) (tab V.length fun i => (i : Int)) V.length V.length ⟨w.heap.size, 0, none⟩ rp V d wr (tab_len _ _).symm hn hrow hE (by simp) (by show rp.block ≠ w.heap.size + 1; omega) hok
      have HS := Lib.hid hs
      clear hs hE hok hrow hOwn hk2 hbox
      go_wp2_with fail
      refine HS.out.mono ?_
      rintro e w1 ⟨rfl, hr1, hE1⟩
      have hB1 : Below w.heap.size w w1 := hBw.grown hE1.grown hBw.size (fun q hq => by cases hq; omega)
      go_wp2
      go_ret
      exact ⟨_, Nat.le_succ _, rfl, hr1, hB1⟩
end Go.Proofs.YtjkcomafgkabeaaDoor
