/-
  The reference's taking: what is left of a case.
-/
import Derived.Test.YtjkcomafgkabeaaDoorR1
import Derived.Test.YtjkcomafgkabeaaDoorK1
import Derived.Deep.AppendLies
namespace Go.Proofs.YtjkcomafgkabeaaDoor
open Go.RowKit Go.Maps

theorem own_far {w : World} {base n : Nat} {v : Value} {xs : List Value} {b : Nat} (h : w.ownsRow base 3 1 v n xs) (hb : b < base) : v.ownBlock ≠ some b := fun e => by
  have := (h.lt b e).1; omega
theorem vals_tab (n : Nat) (fn : Nat → Int) : vals (tab (n + 1) fn) = vals (tab n fn) ++ [.int .i64 (fn n)] := by
  unfold vals tab
  rw [List.range_succ, List.map_append, List.map_append]; rfl

def RTakenPost (w : World) (l1 l2 : List Int) (n : Nat) (e : Ending) (w' : World) : Prop :=
  Below w.heap.size w w' ∧ ((∃ i, short l1 l2 n 0 = some i ∧ e = .returned (.tuple #[.slice none 0 0, .int .i64 i, .int .i64 20])) ∨
    (short l1 l2 n 0 = none ∧ ∃ v, e = .returned (.tuple #[v, .int .i64 0, .int .i64 0]) ∧ w'.ownsRow w.heap.size 3 1 v n (vals (tab n (minus l1 l2)))))

set_option maxRecDepth 100000 in
set_option maxHeartbeats 4000000 in
theorem refTaken_any (b1 : Option Addr) (l1 : List Int) (d1 : Nat) (b2 : Option Addr) (l2 : List Int) (d2 : Nat) (n : Nat) (w : World) (hn : n ≤ 120) (hX1 : IntsAt w b1 l1) (hX2 : IntsAt w b2 l2) (h1 : OkC n l1) (h2 : OkC n l2) :
    Calls Tryd.prog 49 #[.slice b1 l1.length d1, .slice b2 l2.length d2] w (RTakenPost w l1 l2 n) := by
  obtain ⟨i0, hi0, hz0, hz1, hz2⟩ := info_parts info3
  have HK1 := Lib.hid h1; have HK2 := Lib.hid h2
  have HL1 := Lib.hid h1.1; have HL2 := Lib.hid h2.1
  clear h1 h2
  go_enter Tryd.func49, Tryd.ntmps49
  go_wp2_with fail
  go_loopw [7, 8] (fun v i wr => ∃ k : Nat, k ≤ l1.length ∧ i = .int .i64 k ∧ Hid (short l1 l2 n 0 = short l1 l2 (n - k) k) ∧ wr.ownsRow w.heap.size 3 1 v k (vals (tab k (minus l1 l2))) ∧ Below w.heap.size w wr) (fun _ i _ => l1.length - (intOf i).toNat)
  case atStart => exact ⟨0, Nat.zero_le _, rfl, Lib.hid rfl, World.ownsRow_nil _ _ _ _, Below.refl _ _⟩
  case round =>
    obtain ⟨k, hk, rfl, HS, hown, hB⟩ := hrel
    by_cases hlt : k < l1.length
    · have hkn : k < n := by have := HL1.out; omega
      obtain ⟨p1, hp1e, hp1w, _⟩ := hX1.at_ hlt
      subst hp1e
      obtain ⟨p2, hp2e, hp2w, _⟩ := hX2.at_ (k := k) (by rw [HL2.out]; exact hkn)
      subst hp2e
      obtain ⟨_, e1, hp1, hc1⟩ := (hX1.below hB).at_ hlt
      cases e1
      obtain ⟨_, e2, hp2, hc2⟩ := (hX2.below hB).at_ (k := k) (by rw [HL2.out]; exact hkn)
      cases e2
      have hv1 := HK1.out.2 k hkn
      have hv2 := HK2.out.2 k hkn
      have hvt := Lib.hid (vals_tab k (minus l1 l2))
      have hmin := Lib.hid (show minus l1 l2 k = l1.getD k 0 - l2.getD k 0 from rfl)
      by_cases hxy : l1.getD k 0 < l2.getD k 0
      · have hst := Lib.hid (show short l1 l2 (n - k) k = some k by
          obtain ⟨m, hm⟩ : ∃ m, n - k = m + 1 := ⟨n - k - 1, by omega⟩
          rw [hm]; unfold short; rw [if_pos hxy])
        generalize l1.getD k 0 = x at hc1 hv1 hxy hmin
        generalize l2.getD k 0 = y at hc2 hv2 hxy hmin
        have hkl1 : (k : Int) < (l1.length : Int) := by omega
        have hkl2 : (k : Int) < (l2.length : Int) := by have := HL2.out; omega
        go_wp2
        go_quiet (fail)
        go_wp2
        go_ret3
        exact ⟨below_drewN hB _, .inl ⟨k, HS.out.trans hst.out, rfl⟩⟩
      · have hst := Lib.hid (show short l1 l2 (n - k) k = short l1 l2 (n - (k + 1)) (k + 1) by
          obtain ⟨m, hm⟩ : ∃ m, n - k = m + 1 := ⟨n - k - 1, by omega⟩
          rw [hm, show n - (k + 1) = m by omega]
          show (if _ then _ else _) = _
          rw [if_neg hxy])
        generalize l1.getD k 0 = x at hc1 hv1 hxy hmin
        generalize l2.getD k 0 = y at hc2 hv2 hxy hmin
        have hxy' : y ≤ x := by omega
        have ag1 : _ ≠ some (p1.add k).block := own_far hown (by rw [add_block]; exact hp1w)
        have ag2 : _ ≠ some (p2.add k).block := own_far hown (by rw [add_block]; exact hp2w)
        have hkl1 : (k : Int) < (l1.length : Int) := by omega
        have hkl2 : (k : Int) < (l2.length : Int) := by have := HL2.out; omega
        have hbw := hB.size
        have h63 : k + 1 ≤ maxLen := by unfold maxLen; omega
        have hby : (k + 1) * 8 ≤ 140737488355328 := by omega
        have hwx : IntKind.i64.wrap (x - y) = x - y := IntWalk.i64_in _ (by omega)
        go_wp2
        go_quiet (fail)
        go_wp2_with fail
        have hown2 : (wr.drewN nq).ownsRow w.heap.size 3 1 _ k _ := hown
        have hB2 := below_drewN hB nq
        have hc1' : (wr.drewN nq).cell? (p1.add k) = some (.int .i64 x) := hc1
        have hc2' : (wr.drewN nq).cell? (p2.add k) = some (.int .i64 y) := hc2
        generalize wr.drewN nq = wq at hown2 hB2 hc1' hc2'
        clear hown hB hc1 hc2 hbw hp1 hp2
        have hbw := hB2.size
        have hp1 := cell_lt' hc1'
        have hp2 := cell_lt' hc2'
        go_region_held3 (fun w' => w'.cell? (p1.add k) = some (.int .i64 x) ∧ w'.cell? (p2.add k) = some (.int .i64 y))
          (first
            | go_keep
            | (go_split_ands
               refine ⟨?_, ?_⟩
               · (rw [hgrow.cell_far _ (by simp; omega) (Ne.symm ag1)]; assumption)
               · (rw [hgrow.cell_far _ (by simp; omega) (Ne.symm ag2)]; assumption)))
          ((refine step_append_lies _ (by rfl) _ _ _ (by rfl) w.heap.size 3 i0 _ 1 8 Tryd.underlying31 hi0 hz0 hz1 hz2 rfl (by omega) _ k _ (by rfl) ((hown2.alloc _).drew)
              ⟨wq.heap.size, 0, none⟩ 1 1 [.int .i64 (x - y)] (by rfl) (by rfl) (World.news_of_block (cs := #[.int .i64 (x - y)]) (t := 3) (fr := (0, 0)) (heap_alloc_new wq _)) (by simp [Value.oneCell'])
              (by omega) h63 hby (by simp; omega) (wq.heap.size + 1) (by simp) ?_; intro gg cap w1 hown1 hgrow hat hlt))
        have hB3 : Below w.heap.size w w1 := ((hB2.alloc hbw _).drew).grown hgrow (by simp; omega) (fun q hq => (hown2.lt q hq).1)
        have hown3 : w1.ownsRow w.heap.size 3 1 (.slice (some ⟨gg, 0, none⟩) (k + 1) cap) (k + 1) (vals (tab (k + 1) (minus l1 l2))) := by rw [hvt.out, hmin.out]; exact hown1
        go_wp2
        go_roundw
        case rel => exact ⟨k + 1, by omega, by go_num, Lib.hid (HS.out.trans hst.out), hown3, hB3⟩
        case measure => simp [intOf]; omega
    · have hk2 : k = n := by have := HL1.out; omega
      subst hk2
      have hst : short l1 l2 (k - k) k = none := by rw [Nat.sub_self]; rfl
      have HST := Lib.hid (HS.out.trans hst)
      clear hst
      go_wp2
      go_ret3
      exact ⟨hB, .inr ⟨HST.out, _, rfl, hown⟩⟩
end Go.Proofs.YtjkcomafgkabeaaDoor
