/-
  The reference's sums, what is lacking, how often.
-/
import Derived.Test.YtjkcomafgkabeaaDoorR2
namespace Go.Proofs.YtjkcomafgkabeaaDoor
open Go.RowKit Go.Maps

def RJoinPost (w : World) (l1 l2 : List Int) (n : Nat) (e : Ending) (w' : World) : Prop :=
  Below w.heap.size w w' ∧ ((over l1 l2 n 0 = true ∧ e = .returned (.tuple #[.slice none 0 0, .int .i64 8])) ∨
    (over l1 l2 n 0 = false ∧ ∃ v, e = .returned (.tuple #[v, .int .i64 0]) ∧ w'.ownsRow w.heap.size 3 1 v n (vals (tab n (plus l1 l2)))))
def RLackPost (w : World) (l1 l2 : List Int) (n : Nat) (e : Ending) (w' : World) : Prop :=
  Below w.heap.size w w' ∧ ∃ v, e = .returned v ∧ w'.ownsRow w.heap.size 3 1 v n (vals (tab n (lack l1 l2)))

set_option maxRecDepth 100000 in
set_option maxHeartbeats 4000000 in
theorem refLacking_any (b1 : Option Addr) (l1 : List Int) (d1 : Nat) (b2 : Option Addr) (l2 : List Int) (d2 : Nat) (n : Nat) (w : World) (hn : n ≤ 120) (hX1 : IntsAt w b1 l1) (hX2 : IntsAt w b2 l2) (h1 : OkC n l1) (h2 : OkC n l2) :
    Calls Tryd.prog 51 #[.slice b1 l1.length d1, .slice b2 l2.length d2] w (RLackPost w l1 l2 n) := by
  obtain ⟨i0, hi0, hz0, hz1, hz2⟩ := info_parts info3
  have HK1 := Lib.hid h1; have HK2 := Lib.hid h2
  have HL1 := Lib.hid h1.1; have HL2 := Lib.hid h2.1
  clear h1 h2
  go_enter Tryd.func51, Tryd.ntmps51
  go_wp2_with fail
  go_loopw [5, 6] (fun v i wr => ∃ k : Nat, k ≤ l1.length ∧ i = .int .i64 k ∧ wr.ownsRow w.heap.size 3 1 v k (vals (tab k (lack l1 l2))) ∧ Below w.heap.size w wr) (fun _ i _ => l1.length - (intOf i).toNat)
  case atStart => exact ⟨0, Nat.zero_le _, rfl, World.ownsRow_nil _ _ _ _, Below.refl _ _⟩
  case round =>
    obtain ⟨k, hk, rfl, hown, hB⟩ := hrel
    by_cases hlt : k < l1.length
    · skip
      have hkn : k < n := by have := HL1.out; omega
      obtain ⟨p1, hp1e, hp1w, _⟩ := hX1.at_ hlt
      subst hp1e
      obtain ⟨p2, hp2e, hp2w, _⟩ := hX2.at_ (k := k) (by rw [HL2.out]; exact hkn)
      subst hp2e
      obtain ⟨_, e1, hp1, hc1⟩ := (hX1.below hB).at_ hlt
      cases e1
      obtain ⟨_, e2, hp2, hc2⟩ := (hX2.below hB).at_ (k := k) (by rw [HL2.out]; exact hkn)
      cases e2
      have hv1 := HK1.out.2 k hkn
      have hv2 := HK2.out.2 k hkn
      have hkl1 : (k : Int) < (l1.length : Int) := by omega
      have hkl2 : (k : Int) < (l2.length : Int) := by have := HL2.out; omega
      have h63 : k + 1 ≤ maxLen := by unfold maxLen; omega
      have hby : (k + 1) * 8 ≤ 140737488355328 := by omega
      have ag1 : _ ≠ some (p1.add k).block := own_far hown (by rw [add_block]; exact hp1w)
      have ag2 : _ ≠ some (p2.add k).block := own_far hown (by rw [add_block]; exact hp2w)
      have hvt := Lib.hid (vals_tab k (lack l1 l2))
      have hmin := Lib.hid (show lack l1 l2 k = max 0 (l2.getD k 0 - l1.getD k 0) from Int.max_comm _ _)
      generalize l1.getD k 0 = x at hc1 hv1 hmin
      generalize l2.getD k 0 = y at hc2 hv2 hmin
      have hwx : IntKind.i64.wrap (y - x) = y - x := IntWalk.i64_in _ (by omega)
      go_wp2_with fail
      clear hp1 hp2
      have hc1' := hc1
      have hc2' := hc2
      have hbw := hB.size
      have hp1 := cell_lt' hc1'
      have hp2 := cell_lt' hc2'
      go_region_held3 (fun w' => w'.cell? (p1.add k) = some (.int .i64 x) ∧ w'.cell? (p2.add k) = some (.int .i64 y))
        (first
          | go_keep
          | (go_split_ands
             refine ⟨?_, ?_⟩
             · (rw [hgrow.cell_far _ (by simp; omega) (Ne.symm ag1)]; assumption)
             · (rw [hgrow.cell_far _ (by simp; omega) (Ne.symm ag2)]; assumption)))
        ((refine step_append_lies _ (by rfl) _ _ _ (by rfl) w.heap.size 3 i0 _ 1 8 Tryd.underlying31 hi0 hz0 hz1 hz2 rfl (by omega) _ k _ (by rfl) ((hown.alloc _).drew)
            ⟨wr.heap.size, 0, none⟩ 1 1 [.int .i64 (max 0 (y - x))] (by rfl) (by rfl) (World.news_of_block (cs := #[.int .i64 (max 0 (y - x))]) (t := 3) (fr := (0, 0)) (heap_alloc_new wr _)) (by simp [Value.oneCell'])
            (by omega) h63 hby (by simp; omega) (wr.heap.size + 1) (by simp) ?_; intro gg cap w1 hown1 hgrow hat hlt))
      have hB3 : Below w.heap.size w w1 := ((hB.alloc hbw _).drew).grown hgrow (by simp; omega) (fun q hq => (hown.lt q hq).1)
      have hown3 : w1.ownsRow w.heap.size 3 1 (.slice (some ⟨gg, 0, none⟩) (k + 1) cap) (k + 1) (vals (tab (k + 1) (lack l1 l2))) := by rw [hvt.out, hmin.out]; exact hown1
      go_wp2
      go_roundw
      case rel => exact ⟨k + 1, by omega, by go_num, hown3, hB3⟩
      case measure => simp [intOf]; omega
    · have hk2 : k = n := by have := HL1.out; omega
      subst hk2
      go_wp2
      go_ret
      exact ⟨hB, _, rfl, hown⟩

set_option maxRecDepth 100000 in
set_option maxHeartbeats 4000000 in
theorem refJoined_any (b1 : Option Addr) (l1 : List Int) (d1 : Nat) (b2 : Option Addr) (l2 : List Int) (d2 : Nat) (n : Nat) (w : World) (hn : n ≤ 120) (hX1 : IntsAt w b1 l1) (hX2 : IntsAt w b2 l2) (h1 : OkC n l1) (h2 : OkC n l2) :
    Calls Tryd.prog 45 #[.slice b1 l1.length d1, .slice b2 l2.length d2] w (RJoinPost w l1 l2 n) := by
  obtain ⟨i0, hi0, hz0, hz1, hz2⟩ := info_parts info3
  have HK1 := Lib.hid h1; have HK2 := Lib.hid h2
  have HL1 := Lib.hid h1.1; have HL2 := Lib.hid h2.1
  clear h1 h2
  go_enter Tryd.func45, Tryd.ntmps45
  go_wp2_with fail
  go_loopw [6, 7] (fun v i wr => ∃ k : Nat, k ≤ l1.length ∧ i = .int .i64 k ∧ Hid (over l1 l2 (n - 0) 0 = over l1 l2 (n - k) k) ∧ wr.ownsRow w.heap.size 3 1 v k (vals (tab k (plus l1 l2))) ∧ Below w.heap.size w wr) (fun _ i _ => l1.length - (intOf i).toNat)
  case atStart => exact ⟨0, Nat.zero_le _, rfl, Lib.hid rfl, World.ownsRow_nil _ _ _ _, Below.refl _ _⟩
  case round =>
    obtain ⟨k, hk, rfl, HS, hown, hB⟩ := hrel
    by_cases hlt : k < l1.length
    · skip
      have hkn : k < n := by have := HL1.out; omega
      obtain ⟨p1, hp1e, hp1w, _⟩ := hX1.at_ hlt
      subst hp1e
      obtain ⟨p2, hp2e, hp2w, _⟩ := hX2.at_ (k := k) (by rw [HL2.out]; exact hkn)
      subst hp2e
      obtain ⟨_, e1, hp1, hc1⟩ := (hX1.below hB).at_ hlt
      cases e1
      obtain ⟨_, e2, hp2, hc2⟩ := (hX2.below hB).at_ (k := k) (by rw [HL2.out]; exact hkn)
      cases e2
      have hv1 := HK1.out.2 k hkn
      have hv2 := HK2.out.2 k hkn
      have hkl1 : (k : Int) < (l1.length : Int) := by omega
      have hkl2 : (k : Int) < (l2.length : Int) := by have := HL2.out; omega
      have h63 : k + 1 ≤ maxLen := by unfold maxLen; omega
      have hby : (k + 1) * 8 ≤ 140737488355328 := by omega
      have ag1 : _ ≠ some (p1.add k).block := own_far hown (by rw [add_block]; exact hp1w)
      have ag2 : _ ≠ some (p2.add k).block := own_far hown (by rw [add_block]; exact hp2w)
      have hvt := Lib.hid (vals_tab k (plus l1 l2))
      have hmin := Lib.hid (show plus l1 l2 k = l1.getD k 0 + l2.getD k 0 from rfl)
      by_cases hxy : 1000000 < plus l1 l2 k
      · have hst := Lib.hid (over_stop hkn hxy)
        rw [hmin.out] at hxy
        generalize l1.getD k 0 = x at hc1 hv1 hxy hmin
        generalize l2.getD k 0 = y at hc2 hv2 hxy hmin
        have hwx : IntKind.i64.wrap (x + y) = x + y := IntWalk.i64_in _ (by omega)
        go_wp2
        go_quiet (fail)
        go_wp2
        go_ret2
        exact ⟨below_drewN hB _, .inl ⟨HS.out.trans hst.out, rfl⟩⟩
      · have hst := Lib.hid (over_go hkn hxy)
        rw [hmin.out] at hxy
        generalize l1.getD k 0 = x at hc1 hv1 hxy hmin
        generalize l2.getD k 0 = y at hc2 hv2 hxy hmin
        have hwx : IntKind.i64.wrap (x + y) = x + y := IntWalk.i64_in _ (by omega)
        have hxy' : x + y ≤ 1000000 := by omega
        clear hxy
        go_wp2
        go_quiet (fail)
        go_wp2_with fail
        have hown2 : (wr.drewN nq).ownsRow w.heap.size 3 1 _ k _ := hown
        have hB2 := below_drewN hB nq
        have hc1' : (wr.drewN nq).cell? (p1.add k) = some (.int .i64 x) := hc1
        have hc2' : (wr.drewN nq).cell? (p2.add k) = some (.int .i64 y) := hc2
        generalize wr.drewN nq = wq at hown2 hB2 hc1' hc2'
        clear hown hB hc1 hc2 hp1 hp2
        have hbw := hB2.size
        have hp1 := cell_lt' hc1'
        have hp2 := cell_lt' hc2'
        go_region_held3 (fun w' => w'.cell? (p1.add k) = some (.int .i64 x) ∧ w'.cell? (p2.add k) = some (.int .i64 y))
          (first
            | go_keep
            | (go_split_ands
               refine ⟨?_, ?_⟩
               · (rw [hgrow.cell_far _ (by simp; omega) (Ne.symm ag1)]; assumption)
               · (rw [hgrow.cell_far _ (by simp; omega) (Ne.symm ag2)]; assumption)))
          ((refine step_append_lies _ (by rfl) _ _ _ (by rfl) w.heap.size 3 i0 _ 1 8 Tryd.underlying31 hi0 hz0 hz1 hz2 rfl (by omega) _ k _ (by rfl) ((hown2.alloc _).drew)
              ⟨wq.heap.size, 0, none⟩ 1 1 [.int .i64 (x + y)] (by rfl) (by rfl) (World.news_of_block (cs := #[.int .i64 (x + y)]) (t := 3) (fr := (0, 0)) (heap_alloc_new wq _)) (by simp [Value.oneCell'])
              (by omega) h63 hby (by simp; omega) (wq.heap.size + 1) (by simp) ?_; intro gg cap w1 hown1 hgrow hat hlt))
        have hB3 : Below w.heap.size w w1 := ((hB2.alloc hbw _).drew).grown hgrow (by simp; omega) (fun q hq => (hown2.lt q hq).1)
        have hown3 : w1.ownsRow w.heap.size 3 1 (.slice (some ⟨gg, 0, none⟩) (k + 1) cap) (k + 1) (vals (tab (k + 1) (plus l1 l2))) := by rw [hvt.out, hmin.out]; exact hown1
        go_wp2
        go_roundw
        case rel => exact ⟨k + 1, by omega, by go_num, Lib.hid (HS.out.trans hst.out), hown3, hB3⟩
        case measure => simp [intOf]; omega
    · have hk2 : k = n := by have := HL1.out; omega
      have HST := Lib.hid (HS.out.trans (over_end (by omega)))
      subst hk2
      go_wp2
      go_ret2
      exact ⟨hB, .inr ⟨HST.out, _, rfl, hown⟩⟩

set_option maxRecDepth 100000 in
theorem total_any (b : Option Addr) (l : List Int) (d n : Nat) (w : World) (hn : n ≤ 120) (hX : IntsAt w b l) (h : OkC n l) :
    Calls Tryd.prog 86 #[.slice b l.length d] w fun e w' => e = .returned (.int .i64 (sumOf l)) ∧ Drew w w' := by
  have HK := Lib.hid h
  have HL := Lib.hid h.1
  clear h
  go_enter Tryd.func86, Tryd.ntmps86
  go_wp2_with fail
  go_loopw [3, 4] (fun t i wr => ∃ k : Nat, k ≤ l.length ∧ i = .int .i64 k ∧ t = .int .i64 (sumTo (fun j => l.getD j 0) k) ∧ Drew w wr) (fun _ i _ => l.length - (intOf i).toNat)
  case atStart => exact ⟨0, Nat.zero_le _, rfl, rfl, Drew.refl _⟩
  case round =>
    obtain ⟨k, hk, rfl, rfl, hD⟩ := hrel
    by_cases hlt : k < l.length
    · obtain ⟨p1, rfl, hp1, hc1⟩ := (hD.ints hX).at_ hlt
      have hv1 := HK.out.2 k (by have := HL.out; omega)
      have hsb := sumTo_bd (f := fun j => l.getD j 0) (lo := 0) (hi := 1000000) (k := k) (fun i hi => HK.out.2 i (by have := HL.out; omega))
      have hst := Lib.hid (show sumTo (fun j => l.getD j 0) (k + 1) = sumTo (fun j => l.getD j 0) k + l.getD k 0 from rfl)
      generalize sumTo (fun j => l.getD j 0) k = s at hsb hst
      generalize l.getD k 0 = x at hc1 hv1 hst
      have hkl : (k : Int) < (l.length : Int) := by omega
      have hk120 : (k : Int) ≤ 120 := by have := HL.out; omega
      go_wp2_with fail
      go_roundw
      case rel => exact ⟨k + 1, by omega, by go_num, by rw [hst.out], hD⟩
      case measure => simp [intOf]; omega
    · have hk2 : k = l.length := by omega
      subst hk2
      go_wp2
      go_ret
      exact ⟨rfl, hD⟩

theorem sum_zero_iff {l1 l2 : List Int} {n : Nat} (h1 : OkC n l1) (h2 : OkC n l2) : (sumOf l2 = 0 → (timesN l1 l2 n).1 < 0) ∧ (sumOf l2 ≠ 0 → 0 ≤ (timesN l1 l2 n).1) := by
  have sp := timesN_spec h1.2 (fun j hj => (h2.2 j hj).1) n (Nat.le_refl _)
  constructor
  · intro hs
    rcases sp with ⟨h, _⟩ | ⟨s, q, e, a1, a2, _⟩
    · exact h
    · have := sumTo_le (f := fun j => l2.getD j 0) (n := l2.length) (fun i hi => (h2.2 i (by have := h2.1; omega)).1) s (by have := h2.1; omega)
      have hs' : sumTo (fun j => l2.getD j 0) l2.length = 0 := hs
      have a2' : 0 < (fun j => l2.getD j 0) s := a2
      omega
  · intro hs
    rcases sp with ⟨h, h0⟩ | ⟨s, q, e, a1, a2, a3, _⟩
    · exfalso
      apply hs
      unfold sumOf
      rw [h2.1, sumTo_congr (g := fun _ => 0) (fun i hi => h0 i hi)]
      have : ∀ n, sumTo (fun _ => 0) n = 0 := by
        intro n
        induction n with
        | zero => rfl
        | succ n ih => show sumTo _ n + 0 = 0; rw [ih]; rfl
      exact this _
    · rw [e]; exact a3

set_option maxRecDepth 100000 in
set_option maxHeartbeats 4000000 in
theorem refTimes_any (b1 : Option Addr) (l1 : List Int) (d1 : Nat) (b2 : Option Addr) (l2 : List Int) (d2 : Nat) (n : Nat) (w : World) (hn : n ≤ 120) (hX1 : IntsAt w b1 l1) (hX2 : IntsAt w b2 l2) (h1 : OkC n l1) (h2 : OkC n l2) :
    Calls Tryd.prog 50 #[.slice b1 l1.length d1, .slice b2 l2.length d2] w fun e w' => e = .returned (.tuple #[.int .i64 (timesR l1 l2 n).1, .int .i64 (timesR l1 l2 n).2.1, .int .i64 (timesR l1 l2 n).2.2]) ∧ Drew w w' := by
  have hz := sum_zero_iff h1 h2
  have HT := Lib.hid (total_any b2 l2 d2 n w hn hX2 h2)
  have HK1 := Lib.hid h1; have HK2 := Lib.hid h2
  have HL1 := Lib.hid h1.1; have HL2 := Lib.hid h2.1
  clear h1 h2
  by_cases hs : sumOf l2 = 0
  · have HE := Lib.hid (times_zero (hz.1 hs))
    have hsb : (sumOf l2 == 0) = true := by simpa using hs
    clear hz hs
    go_enter Tryd.func50, Tryd.ntmps50
    go_wp2_with fail
    refine HT.out.mono ?_
    rintro e w1 ⟨rfl, hD⟩
    go_wp2
    go_ret3
    exact ⟨ret3_int (by rw [HE.out]) (by rw [HE.out]) (by rw [HE.out]), hD⟩
  · have HE := Lib.hid (times_ok (l1 := l1) (l2 := l2) (n := n) (hz.2 hs))
    have hsb : (sumOf l2 == 0) = false := by simpa using hs
    clear hz hs
    go_enter Tryd.func50, Tryd.ntmps50
    go_wp2_with fail
    refine HT.out.mono ?_
    rintro e w1 ⟨rfl, hD1⟩
    have hx1 := hD1.ints hX1
    have hx2 := hD1.ints hX2
    clear HT
    go_wp2_with fail
    go_loopw [7, 8, 9] (fun t s i wr => ∃ k : Nat, k ≤ l1.length ∧ i = .int .i64 k ∧ t = .int .i64 (timesN l1 l2 k).1 ∧ s = .int .i64 (timesN l1 l2 k).2 ∧ Drew w1 wr) (fun _ _ i _ => l1.length - (intOf i).toNat)
    case atStart => exact ⟨0, Nat.zero_le _, rfl, rfl, rfl, Drew.refl _⟩
    case round =>
      obtain ⟨k, hk, rfl, rfl, rfl, hD⟩ := hrel
      by_cases hlt : k < l1.length
      · have hkn : k < n := by have := HL1.out; omega
        obtain ⟨p1, rfl, hp1, hc1⟩ := (hD.ints hx1).at_ hlt
        obtain ⟨p2, rfl, hp2, hc2⟩ := (hD.ints hx2).at_ (k := k) (by rw [HL2.out]; exact hkn)
        have hv1 := HK1.out.2 k hkn
        have hv2 := HK2.out.2 k hkn
        have S1 := Lib.hid (@timesN_skip l1 l2 k)
        have S2 := Lib.hid (@timesN_new l1 l2 k)
        have S3 := Lib.hid (@timesN_keep l1 l2 k)
        generalize timesN l1 l2 k = ts at S1 S2 S3
        obtain ⟨t, s⟩ := ts
        generalize l1.getD k 0 = x at hc1 hv1 S2 S3
        generalize l2.getD k 0 = y at hc2 hv2 S1 S2 S3
        have hkl1 : (k : Int) < (l1.length : Int) := by omega
        have hkl2 : (k : Int) < (l2.length : Int) := by have := HL2.out; omega
        by_cases hy0 : y = 0
        · have HS := Lib.hid (S1.out hy0)
          have g1 : decide (0 < y) = false := decide_eq_false (by omega)
          clear hy0 S1 S2 S3
          go_wp2
          go_quiet (fail)
          go_wp2
          go_roundw
          case rel => exact ⟨k + 1, by omega, by go_num, by rw [HS.out], by rw [HS.out], hD.drewN _⟩
          case measure => simp [intOf]; omega
        · have hyb : (y == 0) = false := by simpa using hy0
          have hy1 : 1 ≤ y := by omega
          have g1 : decide (0 < y) = true := decide_eq_true (by omega)
          have hq0 : 0 ≤ x / y := Int.ediv_nonneg hv1.1 (by omega)
          have hq1 : x / y ≤ 1000000 := Int.le_trans (Int.ediv_le_self y hv1.1) hv1.2
          by_cases ht : t < 0
          · have HS := Lib.hid (S2.out hy0 (.inl ht))
            have g2 : decide (t < 0) = true := decide_eq_true ht
            clear hy0 S1 S2 S3
            go_wp2
            go_quiet (fail)
            go_wp2
            go_quiet (fail)
            go_wp2
            go_roundw
            case rel => exact ⟨k + 1, by omega, by go_num, by rw [HS.out], by rw [HS.out], by first | exact hD.drewN _ | exact (hD.drewN _).drewN _⟩
            case measure => simp [intOf]; omega
          · have g2 : decide (t < 0) = false := decide_eq_false ht
            by_cases hq : x / y < t
            · have HS := Lib.hid (S2.out hy0 (.inr hq))
              have g3 : decide (x / y < t) = true := decide_eq_true hq
              clear hy0 S1 S2 S3
              go_wp2
              go_quiet (fail)
              go_wp2
              go_quiet (fail)
              go_wp2
              go_roundw
              case rel => exact ⟨k + 1, by omega, by go_num, by rw [HS.out], by rw [HS.out], by first | exact hD.drewN _ | exact (hD.drewN _).drewN _⟩
              case measure => simp [intOf]; omega
            · have HS := Lib.hid (S3.out hy0 (by show ¬ (t < 0 ∨ x / y < t); omega))
              have g3 : decide (x / y < t) = false := decide_eq_false hq
              clear hy0 S1 S2 S3
              go_wp2
              go_quiet (fail)
              go_wp2
              go_roundw
              case rel => exact ⟨k + 1, by omega, by go_num, by rw [HS.out], by rw [HS.out], hD.drewN _⟩
              case measure => simp [intOf]; omega
      · have hk2 : k = n := by have := HL1.out; omega
        have hDD : Drew w wr := by obtain ⟨a, rfl⟩ := hD1; obtain ⟨b, rfl⟩ := hD; exact ⟨a + b, by rw [World.drewN_drewN]⟩
        subst hk2
        go_wp2
        go_ret3
        exact ⟨ret3_int (by rw [HE.out]) (by rw [HE.out]) (by rw [HE.out]), hDD⟩
end Go.Proofs.YtjkcomafgkabeaaDoor
