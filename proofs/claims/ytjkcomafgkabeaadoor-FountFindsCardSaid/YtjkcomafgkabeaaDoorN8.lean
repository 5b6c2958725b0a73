/-
  What a list needs; the reference's lists: their error, width, need.
-/
import Derived.Test.YtjkcomafgkabeaaDoorN7
namespace Go.Proofs.YtjkcomafgkabeaaDoor
open Go.RowKit Go.Maps

def needOf (n : Nat) (l : List Int) : List Int := l.foldl bump (tab n fun _ => 0)
theorem needOf_len (n : Nat) (l : List Int) : (needOf n l).length = n := by unfold needOf; rw [bumps_len, tab_len]
theorem needN_bd (n : Nat) (l : List Int) (k : Nat) : ∀ j, j < n → 0 ≤ ((l.take k).foldl bump (tab n fun _ => 0)).getD j 0 ∧ ((l.take k).foldl bump (tab n fun _ => 0)).getD j 0 ≤ k := by
  intro j hj
  have := bumps_bd (l.take k) (tab n fun _ => 0) 0 (fun i hi => by rw [tab_len] at hi; rw [tab_at hi]; omega) j (by rw [tab_len]; exact hj)
  have hl : (l.take k).length ≤ k := by rw [List.length_take]; omega
  omega
def NeedPost (w : World) (f : FT) (l : List Int) (e : Ending) (w' : World) : Prop :=
  Below w.heap.size w w' ∧ ((listErr f l ≠ 0 ∧ e = .returned (.tuple #[.slice none 0 0, .int .i64 (listErr f l)])) ∨
    (listErr f l = 0 ∧ ∃ g, e = .returned (.tuple #[.slice (some ⟨g, 0, none⟩) f.sorts.length f.sorts.length, .int .i64 0]) ∧ RowX w' g (needOf f.sorts.length l)))

set_option maxRecDepth 100000 in
set_option maxHeartbeats 4000000 in
theorem NeedOf_any (f : FT) (a : Option Addr) (c : Nat) (b : Option Addr) (l : List Int) (d : Nat) (w : World) (hF : FAt w a f) (hX : IntsAt w b l) (hl : l.length ≤ maxLen) :
    Calls Tryd.prog 37 #[.agg #[.string f.name, .int .i64 f.body, .slice a f.sorts.length c], .slice b l.length d] w (NeedPost w f l) := by
  have hB0 : Below (w.heap.size + 1) (w.alloc (boxF f a c)) (w.alloc (boxF f a c)) := Below.refl _ _
  have E0 := Env.of hF hB0
  have hX0 := hX.alloc (boxF f a c)
  by_cases h0 : listErr f l = 0
  · obtain ⟨h1, hln, hok⟩ := listErr_zero h0
    obtain ⟨_, hR, _⟩ := checkF_right h1
    have hn120 := hR.2.2.2.1
    have HE := Lib.hid h0
    have HOK := Lib.hid hok
    have hmk := fun W => run_make_row' (P := Tryd.prog) 31 3 (.int .i64 0) 8 Tryd.underlying31 info3 rfl .i64 .i64 f.sorts.length (by omega) (by omega) W
    clear hok hR h1
    go_enter Tryd.func37, Tryd.ntmps37
    go_wp2_with fail
    refine (errorOfList_any f a c b l d _ E0.fa hX0 hl).mono ?_
    rintro e w1 ⟨rfl, hb⟩
    have E1 := E0.step hF hb
    rw [h0]
    clear hb h0 hX0
    have hX1 := hX.below E1.low
    have q2 := E1.c2
    have hr0 : RowX (w1.alloc (.cells (madeCells #[.int .i64 0] f.sorts.length) 3)) w1.heap.size (tab f.sorts.length fun _ => 0) := Own.rowX (Own.made w1 f.sorts.length (fun _ => 0) f.sorts.length (Nat.le_refl _) (fun _ _ => rfl))
    go_wp2_with fail
    go_loopw [22] (fun i wr => ∃ k : Nat, k ≤ l.length ∧ i = .int .i64 k ∧ RowX wr w1.heap.size ((l.take k).foldl bump (tab f.sorts.length fun _ => 0)) ∧ Below w1.heap.size w1 wr) (fun i _ => l.length - (intOf i).toNat)
    case atStart => exact ⟨0, Nat.zero_le _, rfl, hr0, (Below.refl _ _).alloc (Nat.le_refl _) _⟩
    case round =>
      obtain ⟨k, hk, rfl, hrow, hBe⟩ := hrel
      by_cases hlt : k < l.length
      · obtain ⟨p1, rfl, hp1, hc1⟩ := (hX1.below hBe).at_ hlt
        obtain ⟨x, hx, hxe⟩ := HOK.out k hlt
        rw [hxe] at hc1
        have hc3 := hrow.cell (j := x) (by rw [bumps_len, tab_len]; exact hx)
        have hb := needN_bd f.sorts.length l k x hx
        have hfz := hrow.frozen x
        have hset := hrow.set_ x (((l.take k).foldl bump (tab f.sorts.length fun _ => 0)).getD x 0 + 1)
        have hst := bump_step (qs := tab f.sorts.length fun _ => 0) (order := l) (k := k) hlt
        rw [hxe] at hst
        have HST := Lib.hid hst
        have HSET := Lib.hid hset
        clear hset hst hxe
        generalize hv : ((l.take k).foldl bump (tab f.sorts.length fun _ => 0)).getD x 0 = v at hc3 hb HSET
        have HVV := Lib.hid hv
        clear hv
        have hk4 : (k : Int) ≤ 10000 := by omega
        have hkl : (k : Int) < (l.length : Int) := by omega
        have hxl : (x : Int) < (f.sorts.length : Int) := by omega
        go_wp2_with fail
        go_roundw
        case rel =>
          refine ⟨k + 1, by omega, by go_num, ?_, hBe.setCell (Nat.le_refl _) _⟩
          rw [HST.out, bump_nat, HVV.out]
          exact HSET.out
        case measure => simp [intOf]; omega
      · have hk2 : k = l.length := by omega
        have hr : RowX wr w1.heap.size (needOf f.sorts.length l) := by
          unfold needOf; rw [hk2, List.take_length] at hrow; exact hrow
        have hlow := (E1.step hF hBe).low
        go_wp2
        go_ret2
        exact ⟨hlow, .inr ⟨HE.out, _, rfl, hr⟩⟩
  · have HE := Lib.hid h0
    have heb : (listErr f l != 0) = true := by simpa using h0
    clear h0
    go_enter Tryd.func37, Tryd.ntmps37
    go_wp2_with fail
    refine (errorOfList_any f a c b l d _ E0.fa hX0 hl).mono ?_
    rintro e w1 ⟨rfl, hb⟩
    have hlow := (E0.step hF hb).low
    clear hb
    go_wp2
    go_ret2
    exact ⟨hlow, .inl ⟨HE.out, rfl⟩⟩

def rlistErr (n : Nat) (l : List Int) : Int := if 10000 < l.length then 8 else if l.any (idxBad n) = true then 6 else 0
theorem listErr_eq {f : FT} {l : List Int} : listErr f l = if (checkF f).2 ≠ 0 then (checkF f).2 else rlistErr f.sorts.length l := rfl
theorem within_same {n lo hi : Int} {w : World} {bl : Bool} (h : inB n lo hi = bl) :
    Calls Tryd.prog 30 #[.int .i64 n, .int .i64 lo, .int .i64 hi] w fun e w' => e = .returned (.bool bl) ∧ w' = w := by
  subst h
  exact (within_any n lo hi w).mono fun _ _ ⟨h1, h2⟩ => ⟨h1, h2.symm⟩

set_option maxRecDepth 100000 in
set_option maxHeartbeats 4000000 in
theorem refListErr_any (f : FT) (a : Option Addr) (c : Nat) (b : Option Addr) (l : List Int) (d : Nat) (w : World) (hn : f.sorts.length ≤ 120) (hX : IntsAt w b l) (hl : l.length ≤ maxLen) :
    Calls Tryd.prog 38 #[.agg #[.string f.name, .int .i64 f.body, .slice a f.sorts.length c], .slice b l.length d] w fun e w' => e = .returned (.int .i64 (rlistErr f.sorts.length l)) ∧ Below w.heap.size w w' := by
  have hB := (Below.refl w.heap.size w).alloc (Nat.le_refl _) (boxF f a c)
  have hX1 := hX.alloc (boxF f a c)
  unfold maxLen at hl
  by_cases hlg : 10000 < l.length
  · have HE := Lib.hid (show rlistErr f.sorts.length l = 8 by unfold rlistErr; rw [if_pos hlg])
    have hlg' : (10000 : Int) < (l.length : Int) := by omega
    go_enter Tryd.func38, Tryd.ntmps38
    go_wp2
    go_ret
    exact ⟨ret_int HE.out.symm, hB⟩
  · have HE := Lib.hid (show rlistErr f.sorts.length l = if l.any (idxBad f.sorts.length) = true then 6 else 0 by unfold rlistErr; rw [if_neg hlg])
    have hlg' : (l.length : Int) ≤ 10000 := by omega
    go_enter Tryd.func38, Tryd.ntmps38
    go_wp2_with fail
    go_loopw [5] (fun i wr => ∃ k : Nat, k ≤ l.length ∧ i = .int .i64 k ∧ Hid (l.any (idxBad f.sorts.length) = (l.drop k).any (idxBad f.sorts.length)) ∧ Drew (w.alloc (boxF f a c)) wr) (fun i _ => l.length - (intOf i).toNat)
    case atStart => exact ⟨0, Nat.zero_le _, rfl, Lib.hid rfl, Drew.refl _⟩
    case round =>
      obtain ⟨k, hk, rfl, HS, hD⟩ := hrel
      have q2 := hD.cell (p := ⟨w.heap.size, 2, none⟩) (v := .slice a f.sorts.length c) (by simp [boxF])
      by_cases hlt : k < l.length
      · obtain ⟨p1, rfl, hp1, hc1⟩ := (hD.ints hX1).at_ hlt
        have hst := Lib.hid (bad_cons (n := f.sorts.length) hlt)
        generalize l.getD k 0 = x at hc1 hst
        have hkl : (k : Int) < (l.length : Int) := by omega
        have hn' : (f.sorts.length : Int) ≤ 120 := by omega
        have hwn : IntKind.i64.wrap ((f.sorts.length : Int) - 1) = (f.sorts.length : Int) - 1 := IntWalk.i64_in _ (by omega)
        cases hxb : idxBad f.sorts.length x
        · have hin : inB x 0 ((f.sorts.length : Int) - 1) = true := decide_eq_true (by have := of_decide_eq_false (show decide _ = false from hxb); omega)
          go_wp2_with fail
          go_quiet ((go_at_call 30; exact Calls.quiet_of_same (within_same hin)))
          go_wp2
          go_roundw
          case rel => exact ⟨k + 1, by omega, by go_num, Lib.hid (by rw [HS.out, hst.out, hxb]; rfl), hD.drewN _⟩
          case measure => simp [intOf]; omega
        · have hin : inB x 0 ((f.sorts.length : Int) - 1) = false := decide_eq_false (by have := of_decide_eq_true (show decide _ = true from hxb); omega)
          have hlow := hD.below hB
          go_wp2_with fail
          go_quiet ((go_at_call 30; exact Calls.quiet_of_same (within_same hin)))
          go_wp2
          go_ret
          exact ⟨ret_int (by rw [HE.out, HS.out, hst.out, hxb]; rfl), below_drewN hlow _⟩
      · have hst := Lib.hid (bad_end (n := f.sorts.length) hlt)
        have hlow := hD.below hB
        go_wp2
        go_ret
        exact ⟨ret_int (by rw [HE.out, HS.out, hst.out]; rfl), hlow⟩
end Go.Proofs.YtjkcomafgkabeaaDoor
