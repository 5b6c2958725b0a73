/-
  Package impose: the scheme of folds is right, and read by these folds it is in order.
-/
import Derived.Test.YtmolejpbpcodbaaSA
import Derived.Test.YtmolejpbpcodbaaRJ
namespace Go.Proofs.Ytmolejpbpcodbaa
open Go.RowKit

theorem pile_keys {cn rn : Nat} {F : List Fold} (h : (checkFo cn rn F).2 = 0) : ((pileP cn rn F).map (cellKey cn)).Perm ((List.range (cn * rn)).map fun i : Nat => (i : Int)) := by
  obtain ⟨h1, h12, h3⟩ := checkFo_ok h
  obtain ⟨sC, sR, sm⟩ := side_ok h1
  have := runF_keys (g := cellKey cn) (fun _ _ _ => rfl) F cn rn (flatP cn (cn * rn)) 0 (by omega) (by omega) (PileOk.flat (by omega) (by omega)) h3
  rw [flat_keys] at this
  unfold pileP
  rw [Int.toNat_natCast, Int.toNat_natCast]
  obtain ⟨x, hx⟩ := List.length_eq_one_iff.1 this.2
  rw [hx] at this ⊢
  have h1 := this.1
  unfold keysF at h1
  simpa using h1
theorem cellsP_at {C : Int} {N : Nat} {l : List Leaf} (hnd : (l.map (cellKey C)).Nodup) (hb : ∀ x ∈ l, 0 ≤ cellKey C x ∧ cellKey C x < N) : ∀ i, i ≤ l.length → ∀ k, k < i → ∀ (hkl : k < l.length), (cellsP C N l i)[(cellKey C l[k]).toNat]? = some (cellP k l[k]) := by
  intro i
  induction i with
  | zero => intro _ k hk; omega
  | succ i ih =>
    intro hi k hk hkl
    have hil : i < l.length := by omega
    have he : l.getD i default = l[i] := getD_in default hil
    have hs : cellsP C N l (i + 1) = (cellsP C N l i).set (cellKey C l[i]).toNat (cellP i l[i]) := by
      show (cellsP C N l i).set (((l.getD i default).r * C + (l.getD i default).c).toNat) (cellP i (l.getD i default)) = _
      rw [he]; rfl
    rw [hs]
    by_cases hki : k = i
    · subst hki
      have h1 := hb _ (List.getElem_mem hil)
      rw [List.getElem?_set_self (by rw [cellsP_len]; omega)]
    · have h1 := hb _ (List.getElem_mem hil); have h2 := hb _ (List.getElem_mem hkl)
      have hne : ¬ (cellKey C l[i]).toNat = (cellKey C l[k]).toNat := fun e => by
        have e2 : cellKey C l[k] = cellKey C l[i] := by omega
        have h3 := List.nodup_iff_pairwise_ne.1 hnd
        have h4 := List.pairwise_iff_getElem.1 h3 k i (by rw [List.length_map]; exact hkl) (by rw [List.length_map]; exact hil) (by omega)
        rw [List.getElem_map, List.getElem_map] at h4
        exact h4 e2
      rw [List.getElem?_set_ne hne]
      exact ih (by omega) k (by omega) hkl
theorem key_in {cn rn : Nat} {F : List Fold} (h : (checkFo cn rn F).2 = 0) : ∀ x ∈ pileP cn rn F, 0 ≤ cellKey cn x ∧ cellKey cn x < ((cn * rn : Nat) : Int) := by
  intro x hx
  have h1 := (pile_keys h).mem_iff.1 (List.mem_map_of_mem (f := cellKey cn) hx)
  obtain ⟨i, hi, e⟩ := List.mem_map.1 h1
  have := List.mem_range.1 hi
  omega
theorem schemeP_at {cn rn : Nat} {F : List Fold} (h : (checkFo cn rn F).2 = 0) {k : Nat} (hk : k < (pileP cn rn F).length) : (schemeP cn rn F)[(cellKey cn (pileP cn rn F)[k]).toNat]? = some (cellP k (pileP cn rn F)[k]) := by
  unfold schemeP
  rw [Int.toNat_natCast, Int.toNat_natCast]
  exact cellsP_at (pile_once h) (key_in h) _ (Nat.le_refl _) k hk hk
theorem schemeP_len (cn rn : Nat) (F : List Fold) : (schemeP cn rn F).length = cn * rn := by unfold schemeP; rw [cellsP_len, Int.toNat_natCast, Int.toNat_natCast]
/-- Each cell is the cell of a leaf. -/
theorem schemeP_leaf {cn rn : Nat} {F : List Fold} (h : (checkFo cn rn F).2 = 0) {i : Nat} (hi : i < (schemeP cn rn F).length) : ∃ k, ∃ hk : k < (pileP cn rn F).length, (cellKey cn (pileP cn rn F)[k]).toNat = i ∧ (schemeP cn rn F)[i] = cellP k (pileP cn rn F)[k] := by
  have hi2 : i < cn * rn := by rw [← schemeP_len cn rn F]; exact hi
  have h1 : (i : Int) ∈ (pileP cn rn F).map (cellKey cn) := (pile_keys h).mem_iff.2 (List.mem_map.2 ⟨i, List.mem_range.2 hi2, rfl⟩)
  obtain ⟨x, hx, e⟩ := List.mem_map.1 h1
  obtain ⟨k, hk, rfl⟩ := List.getElem_of_mem hx
  have e2 : (cellKey cn (pileP cn rn F)[k]).toNat = i := by omega
  refine ⟨k, hk, e2, ?_⟩
  have h2 := schemeP_at h hk
  rw [e2, List.getElem?_eq_getElem hi] at h2
  exact Option.some.inj h2
def ordP (n : Nat) : List Page := (List.range n).map fun i : Nat => ⟨(i : Int) + 1, 0⟩
theorem xr_self (a : Int) : xr a a = 0 := by unfold xr; rw [if_pos rfl]
theorem rd_ord {cn rn : Nat} {F : List Fold} (h : (checkFo cn rn F).2 = 0) : ∀ k, k ≤ (pileP cn rn F).length → rdTo cn (schemeP cn rn F) (pileP cn rn F) k = ordP (2 * k) := by
  intro k
  induction k with
  | zero => intro _; rfl
  | succ k ih =>
    intro hk
    have hkl : k < (pileP cn rn F).length := by omega
    rw [← rdTo_succ hkl, ih (by omega)]
    have hc : cellAt cn (schemeP cn rn F) (pileP cn rn F)[k] = cellP k (pileP cn rn F)[k] := by
      unfold cellAt
      rw [List.getD_eq_getElem?_getD]
      have := schemeP_at h hkl
      unfold cellKey at this
      rw [this]; rfl
    have ho : rdP cn (schemeP cn rn F) (pileP cn rn F)[k] = [⟨2 * (k : Int) + 1, 0⟩, ⟨2 * (k : Int) + 2, 0⟩] := by
      unfold rdP
      rw [hc]
      unfold cellP
      by_cases e : (pileP cn rn F)[k].o = 1
      · rw [if_pos e, if_pos e]; simp only [xr_self]
      · rw [if_neg e, if_neg e]; simp only [xr_self]
    rw [ho]
    unfold ordP
    rw [show 2 * (k + 1) = 2 * k + 1 + 1 by omega, List.range_succ, List.range_succ]
    simp
    omega
theorem cell_pages {k : Nat} {x : Leaf} {p : Int} (h : p ∈ [(cellP k x).f, (cellP k x).b]) : p = 2 * k + 1 ∨ p = 2 * k + 2 := by
  unfold cellP at h
  by_cases e : x.o = 1
  · rw [if_pos e] at h; simp at h; omega
  · rw [if_neg e] at h; simp at h; omega
theorem sch_fine {m : Int} : ∀ (L : List Cell) (S : List Int) (i : Int), (∀ x ∈ L, cellB m x = true) → (S ++ L.flatMap fun x => [x.f, x.b]).Nodup → (schErr m L S i).2 = 0
  | [], _, _, _, _ => rfl
  | y :: L, S, i, hc, hd => by
    unfold schErr
    rw [if_neg (by rw [hc y List.mem_cons_self]; simp)]
    have e : S ++ (y :: L).flatMap (fun x => [x.f, x.b]) = (S ++ [y.f, y.b]) ++ L.flatMap fun x => [x.f, x.b] := by rw [List.flatMap_cons, List.append_assoc]
    rw [e] at hd
    have h1 := (List.nodup_append.1 hd).1
    have h2 := List.nodup_append.1 h1
    have hdb : ¬ dblB S y = true := by
      intro hb
      unfold dblB at hb
      simp only [Bool.or_eq_true, List.contains_iff_mem, beq_iff_eq] at hb
      rcases hb with (hb | hb) | hb
      · exact h2.2.2 _ hb y.f (by simp) rfl
      · exact h2.2.2 _ hb y.b (by simp) rfl
      · have := h2.2.1; rw [hb] at this; simp at this
    rw [if_neg hdb]
    exact sch_fine L _ _ (fun x hx => hc x (List.mem_cons_of_mem _ hx)) hd
theorem schemeP_right {cn rn : Nat} {F : List Fold} (h : (checkFo cn rn F).2 = 0) : (checkSc cn rn (schemeP cn rn F)).2 = 0 := by
  obtain ⟨h1, h12, h3⟩ := checkFo_ok h
  obtain ⟨sC, sR, sm⟩ := side_ok h1
  have hpl := pileP_len h
  rw [Int.toNat_natCast, Int.toNat_natCast] at hpl
  have hin := pileP_in (C := (cn : Int)) (R := (rn : Int)) (L := F) (by omega) (by omega)
  have hce : cellsErr cn rn ((schemeP cn rn F).length : Nat) = 0 := by
    unfold cellsErr
    rw [if_neg (by simp [h1]), if_neg (by rw [schemeP_len]; push_cast; simp)]
  unfold checkSc
  rw [if_neg (by simp [hce])]
  refine sch_fine _ _ _ ?_ ?_
  · intro x hx
    obtain ⟨i, hi, rfl⟩ := List.getElem_of_mem hx
    obtain ⟨k, hk, -, e⟩ := schemeP_leaf h hi
    have hb := (hin _ (List.getElem_mem hk)).2.2.2
    rw [e, schemeP_len]
    unfold cellP cellB
    generalize (pileP cn rn F)[k] = z at hb ⊢
    rw [hpl] at hk
    unfold Bit at hb
    have hk2 : (k : Int) < ((cn * rn : Nat) : Int) := by omega
    generalize cn * rn = N at hk2 ⊢
    by_cases e1 : z.o = 1
    · rw [if_pos e1]; simp [pageB, inB]; omega
    · rw [if_neg e1]; simp [pageB, inB]; omega
  · rw [List.nil_append]
    refine List.nodup_iff_pairwise_ne.2 (List.pairwise_flatMap.2 ⟨?_, ?_⟩)
    · intro x hx
      obtain ⟨i, hi, rfl⟩ := List.getElem_of_mem hx
      obtain ⟨k, hk, -, e⟩ := schemeP_leaf h hi
      rw [e]
      unfold cellP
      split <;> simp <;> omega
    · refine List.pairwise_iff_getElem.2 ?_
      intro i j hi hj hij p hp q hq epq
      obtain ⟨k, hk, ek, e⟩ := schemeP_leaf h hi
      obtain ⟨k2, hk2, ek2, e2⟩ := schemeP_leaf h hj
      rw [e] at hp; rw [e2] at hq
      have a1 := cell_pages hp; have a2 := cell_pages hq
      have : k = k2 := by omega
      subst this
      omega
end Go.Proofs.Ytmolejpbpcodbaa
