/-
  Package press: all orders of so many things: one after another, and by what is left.
-/
import Derived.Test.YtpplcbpnojggcaaE8
namespace Go.Proofs.Ytpplcbpnojggcaa
open Go.RowKit Go.Maps Go.Shelf

/-- All orders of n things that begin with some, as the reference lists them; f things are left. -/
def refOrds : Nat → Nat → List Int → List (List Int)
  | 0, _, O => [O]
  | f + 1, n, O => (leftK O n).flatMap fun c => refOrds f n (O ++ [c])
def runOrds : Nat → List Int → List (List Int)
  | 0, _ => []
  | f + 1, M => if isAdv M then M :: runOrds f (advM M) else [M]
theorem run_at {n : Nat} : ∀ (f k : Nat), endsIn f (ordAt n k) = true → ∃ j, isAdv (ordAt n (k + j)) = false ∧ (∀ i, i < j → isAdv (ordAt n (k + i)) = true) ∧ runOrds f (ordAt n k) = (List.range' k (j + 1)).map (ordAt n)
  | 0, _, h => by cases h
  | f + 1, k, h => by
    unfold endsIn at h
    cases ha : isAdv (ordAt n k)
    · refine ⟨0, ha, fun i hi => by omega, ?_⟩
      unfold runOrds; rw [ha]; rfl
    · rw [ha, if_pos rfl] at h
      obtain ⟨j, h1, h2, h3⟩ := run_at f (k + 1) h
      refine ⟨j + 1, by rw [show k + (j + 1) = k + 1 + j by omega]; exact h1, fun i hi => ?_, ?_⟩
      · rcases i with _ | i
        · exact ha
        · rw [show k + (i + 1) = k + 1 + i by omega]; exact h2 i (by omega)
      · unfold runOrds
        rw [ha, if_pos rfl, List.range'_succ, List.map_cons, ← h3]; rfl
theorem ords_run {n f : Nat} (h : endsIn f (iota n) = true) : ∃ c, OrdsEnd n c ∧ ordsL n c = runOrds f (iota n) := by
  obtain ⟨j, h1, h2, h3⟩ := run_at (n := n) f 0 h
  refine ⟨j + 1, ⟨fun i hi => ?_, ?_, by omega⟩, ?_⟩
  · have := h2 i (by omega); rw [Nat.zero_add] at this; exact this
  · rw [Nat.zero_add] at h1; exact h1
  · unfold ordsL; rw [List.range_eq_range']; exact h3.symm
theorem ends_all : ∀ n, n ≤ 5 → endsIn 121 (iota n) = true ∧ runOrds 121 (iota n) = refOrds n n [] := by decide +kernel
/-- The orders of at most five things are those of the reference. -/
theorem ords_all {n : Nat} (h : n ≤ 5) : ∃ c, OrdsEnd n c ∧ ordsL n c = refOrds n n [] := by
  obtain ⟨h1, h2⟩ := ends_all n h
  obtain ⟨c, h3, h4⟩ := ords_run h1
  exact ⟨c, h3, by rw [h4, h2]⟩
theorem leftK_mem {O : List Int} {y : Nat} (hy : (y : Int) ∉ O) : ∀ k, y < k → (y : Int) ∈ leftK O k
  | 0, h => by omega
  | k + 1, h => by
    unfold leftK
    by_cases e : y = k
    · subst e
      rw [if_neg (fun hc => hy (List.contains_iff_mem.1 hc))]
      exact List.mem_append.2 (Or.inr (List.mem_singleton.2 rfl))
    · have ih := leftK_mem hy k (by omega)
      split
      · exact ih
      · exact List.mem_append.2 (Or.inl ih)
theorem ords_mem {n : Nat} : ∀ (f : Nat) (O S : List Int), S.length = f → (O ++ S).Nodup → (∀ y ∈ S, 0 ≤ y ∧ y < n) → O ++ S ∈ refOrds f n O
  | 0, O, S, h, _, _ => by
    rw [List.eq_nil_of_length_eq_zero h, List.append_nil]
    exact List.mem_singleton.2 rfl
  | f + 1, O, c :: S, h, hnd, hin => by
    unfold refOrds
    have hc := hin c List.mem_cons_self
    have hne : c ∉ O := fun hm => by
      have := (List.nodup_append.1 hnd).2.2 c hm c List.mem_cons_self
      exact this rfl
    obtain ⟨y, rfl⟩ : ∃ y : Nat, c = y := ⟨c.toNat, by omega⟩
    refine List.mem_flatMap.2 ⟨(y : Int), leftK_mem hne n (by omega), ?_⟩
    have e : O ++ (y : Int) :: S = (O ++ [(y : Int)]) ++ S := by simp
    rw [e] at hnd ⊢
    exact ords_mem f (O ++ [(y : Int)]) S (by simpa using h) hnd (fun z hz => hin z (List.mem_cons_of_mem _ hz))
theorem refOrds_len {n : Nat} : ∀ (f : Nat) (O : List Int), (refOrds f n O).length ≤ n ^ f
  | 0, _ => by simp [refOrds]
  | f + 1, O => by
    unfold refOrds
    have h1 : ∀ L : List Int, ((L.flatMap fun c => refOrds f n (O ++ [c])).length) ≤ L.length * n ^ f := by
      intro L
      induction L with
      | nil => simp
      | cons c L ih =>
        rw [List.flatMap_cons, List.length_append, List.length_cons, Nat.succ_mul]
        have := refOrds_len f (O ++ [c]) (n := n)
        omega
    refine Nat.le_trans (h1 _) ?_
    rw [Nat.pow_succ, Nat.mul_comm]
    exact Nat.mul_le_mul_left _ (leftK_len O n)
theorem refOrds_item {n : Nat} : ∀ (f : Nat) (O : List Int), ∀ M ∈ refOrds f n O, M.length = O.length + f ∧ ∀ y ∈ M, y ∈ O ∨ (0 ≤ y ∧ y < n)
  | 0, O, M, h => by
    rw [List.mem_singleton.1 h]; exact ⟨rfl, fun y hy => Or.inl hy⟩
  | f + 1, O, M, h => by
    unfold refOrds at h
    obtain ⟨c, hc, hM⟩ := List.mem_flatMap.1 h
    obtain ⟨h1, h2⟩ := refOrds_item f _ M hM
    refine ⟨by rw [h1]; simp; omega, fun y hy => ?_⟩
    rcases h2 y hy with h | h
    · rcases List.mem_append.1 h with h | h
      · exact Or.inl h
      · rw [List.mem_singleton.1 h]; exact Or.inr (leftK_in O n c hc).1
    · exact Or.inr h
/-- The order that takes least, as the reference finds it. -/
def rlP (mk : List Int → Int) (st : List Int × Int) (O : List Int) : List Int × Int := if st.2 < 0 ∨ mk O < st.2 then (O, mk O) else st
def rlF (mk : List Int → Int) (L : List (List Int)) : List Int × Int := L.foldl (rlP mk) ([], -1)
theorem rlF_snoc (mk : List Int → Int) (L : List (List Int)) (O : List Int) : rlF mk (L ++ [O]) = rlP mk (rlF mk L) O := by unfold rlF; rw [List.foldl_append]; rfl
theorem ls_rl {mk : List Int → Int} {tk : List Int → Int × Int} : ∀ (n : Nat) (L : List (List Int)), L.length = n → (∀ O ∈ L, 0 ≤ mk O ∧ tk O = (mk O, 0)) →
    (lstF tk L).1 = (rlF mk L).1 ∧ (((lstF tk L).2.2 = 12 ∧ (lstF tk L).2.1 = 0 ∧ (rlF mk L).2 = -1 ∧ L = []) ∨ ((lstF tk L).2.2 = 0 ∧ (lstF tk L).2.1 = (rlF mk L).2 ∧ 0 ≤ (rlF mk L).2 ∧ (∀ O ∈ L, (rlF mk L).2 ≤ mk O)))
  | 0, L, h, _ => by
    rw [List.eq_nil_of_length_eq_zero h]
    exact ⟨rfl, Or.inl ⟨rfl, rfl, rfl, rfl⟩⟩
  | n + 1, L, h, hL => by
    obtain ⟨L0, O, rfl⟩ : ∃ L0 O, L = L0 ++ [O] := ⟨L.dropLast, L.getLast (fun e => by rw [e] at h; cases h), (List.dropLast_concat_getLast _).symm⟩
    have h0 : L0.length = n := by simpa using h
    obtain ⟨h1, h2⟩ := ls_rl n L0 h0 (fun O' hO => hL O' (List.mem_append.2 (Or.inl hO)))
    obtain ⟨h3, h4⟩ := hL O (List.mem_append.2 (Or.inr (List.mem_singleton.2 rfl)))
    rw [lstF_snoc, rlF_snoc]
    unfold lstP rlP
    rw [h4]
    dsimp only
    rcases h2 with ⟨e1, e2, e3, e4⟩ | ⟨e1, e2, e3, e4⟩
    · rw [if_pos ⟨rfl, Or.inl (by rw [e1]; decide)⟩, if_pos (Or.inl (by rw [e3]; decide))]
      refine ⟨rfl, Or.inr ⟨rfl, rfl, h3, fun M hM => ?_⟩⟩
      rcases List.mem_append.1 hM with hM | hM
      · rw [e4] at hM; cases hM
      · rw [List.mem_singleton.1 hM]; exact Int.le_refl _
    · by_cases hlt : mk O < (rlF mk L0).2
      · rw [if_pos ⟨rfl, Or.inr (by rw [e2]; exact hlt)⟩, if_pos (Or.inr hlt)]
        refine ⟨rfl, Or.inr ⟨rfl, rfl, h3, fun M hM => ?_⟩⟩
        rcases List.mem_append.1 hM with hM | hM
        · have := e4 M hM; show mk O ≤ mk M; omega
        · rw [List.mem_singleton.1 hM]; exact Int.le_refl _
      · rw [if_neg (by rintro ⟨-, h | h⟩; exact h e1; rw [e2] at h; exact hlt h), if_neg (by rintro (h | h); omega; exact hlt h)]
        refine ⟨h1, Or.inr ⟨e1, e2, e3, fun M hM => ?_⟩⟩
        rcases List.mem_append.1 hM with hM | hM
        · exact e4 M hM
        · rw [List.mem_singleton.1 hM]; omega
/-- What is wrong with an order of n things. -/
def ordF (n : Nat) : List Int → List Int → Int
  | _, [] => 0
  | s, y :: L => if inB y 0 ((n : Int) - 1) = false then 6 else if s.contains y then 28 else ordF n (s ++ [y]) L
def ordErr (n : Nat) (O : List Int) : Int := if O.length ≠ n then 10 else ordF n [] O
theorem ordF_at {n : Nat} {O : List Int} {k : Nat} (hk : k < O.length) : ordF n (O.take k) (O.drop k) = if inB O[k] 0 ((n : Int) - 1) = false then 6 else if (O.take k).contains O[k] then 28 else ordF n (O.take (k + 1)) (O.drop (k + 1)) := by
  rw [List.drop_eq_getElem_cons hk, List.take_succ_eq_append_getElem hk]; rfl
theorem ordF_ok {n : Nat} : ∀ (L s : List Int), s.Nodup → ordF n s L = 0 → (s ++ L).Nodup ∧ ∀ y ∈ L, 0 ≤ y ∧ y < n
  | [], s, hs, _ => ⟨by rw [List.append_nil]; exact hs, fun y hy => by cases hy⟩
  | y :: L, s, hs, h => by
    unfold ordF at h
    split at h
    · cases h
    rename_i h1
    split at h
    · cases h
    rename_i h2
    have hns : y ∉ s := fun hm => h2 (List.contains_iff_mem.2 hm)
    have hs2 : (s ++ [y]).Nodup := by
      rw [List.nodup_append]
      refine ⟨hs, by simp, fun a ha b hb e => ?_⟩
      rw [List.mem_singleton.1 hb] at e; subst e; exact hns ha
    obtain ⟨h3, h4⟩ := ordF_ok L _ hs2 h
    have h5 : inB y 0 ((n : Int) - 1) = true := by simpa using h1
    rw [inB_iff] at h5
    refine ⟨by simpa using h3, fun z hz => ?_⟩
    rcases List.mem_cons.1 hz with rfl | hz
    · omega
    · exact h4 z hz
theorem ord_right {n : Nat} {O : List Int} (h : ordErr n O = 0) : O.length = n ∧ O.Nodup ∧ ∀ y ∈ O, 0 ≤ y ∧ y < n := by
  unfold ordErr at h
  split at h
  · cases h
  rename_i h1
  obtain ⟨h2, h3⟩ := ordF_ok O [] List.nodup_nil h
  exact ⟨by omega, by simpa using h2, h3⟩
theorem ord_in_all {n : Nat} {O : List Int} (h : ordErr n O = 0) : O ∈ refOrds n n [] := by
  obtain ⟨h1, h2, h3⟩ := ord_right h
  exact ords_mem n [] O h1 h2 h3
end Go.Proofs.Ytpplcbpnojggcaa
