/-
  A row of numbers of the call's own: sorted, made compact. No program is walked here.
-/
import Derived.Lib.OwnBridge
import Derived.Test.YtdgegebplebeoaaGreatDoorEV
import Derived.Test.YtdgegebplebeoaaGreatDoorShelf
namespace Go.Proofs.YtdgegebplebeoaaGreatDoor
open Go.RowKit Go.Maps Go.Shelf Go.Sort

theorem ints_flat (L : List Int) : vals (L.flatMap intL) = L.map (Value.int .i64) := by
  unfold vals intL; rw [show L.flatMap (fun x => [x]) = L by simp]
theorem own_ints {E : TypeId} {w : World} {B : Nat} {v : Value} {L : List Int} : OwnR 1 E intL w B v L ↔ w.ownsRow B E 1 v L.length (L.map (Value.int .i64)) := by
  unfold OwnR; rw [ints_flat]
theorem below_grow (B : Nat) (w : World) (os : Array Obj) (hB : B ≤ w.heap.size) : Below B w (grow w os) := ⟨rfl, rfl, rfl, by simp, fun k hk => heap_grow_old w os (Nat.lt_of_lt_of_le hk hB)⟩
theorem putRow_block {w : World} {g q k : Nat} {L : List Int} (hk : k ≠ g) : (putRow (Value.int .i64) (Sort.ahead w q) g 0 L.toArray).heap[k]? = w.heap[k]? := by
  simp [putRow, mapBlock, Sort.ahead, Array.getElem?_modify, show g ≠ k from fun e => hk e.symm]
/-- What a call leaves that turns the row of the call's own only. -/
structure RowTurned (B : Nat) (w : World) (v v' : Value) (L : List Int) (w' : World) : Prop where
  own : OwnR 1 3 intL w' B v' L
  low : Below B w w'
  block : ∀ k, k < w.heap.size → v.ownBlock ≠ some k → w'.heap[k]? = w.heap[k]?
theorem sortOwn_any (B : Nat) (v : Value) (L : List Int) (w : World) (hO : OwnR 1 3 intL w B v L) (hB : B ≤ w.heap.size) (hl : L.length ≤ 1000000) :
    Calls Tryz.prog 79 #[v] w fun e w' => e = .returned (.tuple #[]) ∧ RowTurned B w v v (L.mergeSort fun x y => decide (x ≤ y)) w' := by
  have h1 := own_ints.1 hO
  by_cases hv : v = .slice none 0 0
  · subst hv
    have h0 : L = [] := by
      rcases h1.2 with ⟨_, h⟩ | ⟨_, _, _, h, _⟩
      · exact List.eq_nil_of_length_eq_zero (by omega)
      · cases h
    subst h0
    refine (Tryz.slices_Sort_int_none none 0 w).mono ?_
    rintro e w' ⟨rfl, rfl⟩
    exact ⟨rfl, by simpa using hO, Below.refl _ _, fun _ _ _ => rfl⟩
  · obtain ⟨g, cap, rfl, hb, hg, hn, hm, -, hH⟩ := Lib.holds_of_ownsRow h1 hv
    refine (Tryz.slices_Sort_int g 0 cap L w hH hg (by omega)).mono ?_
    rintro e w' ⟨rfl, q, os, rfl⟩
    have hs : (L.mergeSort fun x y => decide (x ≤ y)).length = L.length := List.length_mergeSort _
    have h2 := Lib.ownsRow_putRow (q := q) (k := L.length) h1 hs (Nat.le_refl _)
    have hz : (putRow (Value.int .i64) (Sort.ahead w q) g 0 (L.mergeSort fun x y => decide (x ≤ y)).toArray).heap.size = w.heap.size := by simp
    have hbg := below_grow w.heap.size (putRow (Value.int .i64) (Sort.ahead w q) g 0 (L.mergeSort fun x y => decide (x ≤ y)).toArray) os (by omega)
    refine ⟨rfl, ?_, ?_, fun k hk hne => ?_⟩
    · refine OwnR.below (w := putRow (Value.int .i64) (Sort.ahead w q) g 0 (L.mergeSort fun x y => decide (x ≤ y)).toArray) ?_ (by rw [hz]; exact hbg)
      refine own_ints.2 ?_
      rw [List.take_of_length_le (by omega)] at h2
      rw [hs]
      exact h2
    · exact (Lib.below_putRow (Below.refl B w) hb).trans (hbg.mono hB)
    · rw [heap_grow_old _ _ (by omega)]
      exact putRow_block (fun e => hne (by rw [e]; rfl))
theorem compact_le (L : List Int) : (Lib.compact L).length ≤ L.length := by
  unfold Lib.compact Lib.compactUpTo
  rw [List.length_map]
  exact Nat.le_trans (List.length_filter_le _ _) (by simp)
theorem compactOwn_any (B : Nat) (v : Value) (L : List Int) (w : World) (hO : OwnR 1 3 intL w B v L) (hl : L.length ≤ 1000000) :
    Calls Tryz.prog 80 #[v] w fun e w' => ∃ v', e = .returned v' ∧ RowTurned B w v v' (Lib.compact L) w' := by
  have h1 := own_ints.1 hO
  by_cases hv : v = .slice none 0 0
  · subst hv
    have h0 : L = [] := by
      rcases h1.2 with ⟨_, h⟩ | ⟨_, _, _, h, _⟩
      · exact List.eq_nil_of_length_eq_zero (by omega)
      · cases h
    subst h0
    refine (Tryz.slices_Compact_int_empty none 0 w).mono ?_
    rintro e w' ⟨rfl, rfl⟩
    exact ⟨_, rfl, hO, Below.refl _ _, fun _ _ _ => rfl⟩
  · obtain ⟨g, cap, rfl, hb, hg, hn, hm, -, hH⟩ := Lib.holds_of_ownsRow h1 hv
    refine (Tryz.slices_Compact_int g 0 cap L w hH (by omega) hn).mono ?_
    rintro e w' ⟨rfl, q, rfl⟩
    have hc := compact_le L
    refine ⟨_, rfl, ?_, Lib.below_putRow (Below.refl B w) hb, fun k hk hne => putRow_block (fun e => hne (by rw [e]; rfl))⟩
    have h2 := Lib.ownsRow_putRow (q := q) (k := (Lib.compact L).length) (ys := Lib.compact L ++ List.replicate (L.length - (Lib.compact L).length) 0) h1 (by simp; omega) hc
    refine own_ints.2 ?_
    rw [List.take_left] at h2
    exact h2
end Go.Proofs.YtdgegebplebeoaaGreatDoor
