/-
  Package press: a tree of orders grows: what is wanted of it.
-/
import Derived.Test.YtdgegebplebeoaaGreatDoorGA
namespace Go.Proofs.YtdgegebplebeoaaGreatDoor
open Go.RowKit Go.Maps Go.Shelf
attribute [local go_sem] Oper.semAt_some

set_option maxHeartbeats 400000 in
theorem branches_any (b : Nat) (w : World) :
    Calls Tryz.prog 69 #[.pointer (some ⟨b, 0, none⟩)] w fun e w' => e = .returned (.func (.func 96) #[] #[.pointer (some ⟨w.heap.size, 0, none⟩)]) ∧ w' = w.alloc (.cells #[.pointer (some ⟨b, 0, none⟩)] 124) := by
  go_enter Tryz.func69, Tryz.ntmps69
  go_wp2
  go_ret
  exact ⟨rfl, rfl⟩
theorem contains_snoc (O : List Int) (c y : Int) : (O ++ [c]).contains y = (O.contains y || (y == c)) := by
  rw [Bool.eq_iff_iff]
  simp [List.mem_append]
/-- One more in the order: one less is left. -/
theorem leftK_more (O : List Int) (c : Nat) (hc : (c : Int) ∉ O) : ∀ k, (leftK (O ++ [(c : Int)]) k).length + (if c < k then 1 else 0) = (leftK O k).length
  | 0 => rfl
  | k + 1 => by
    have ih := leftK_more O c hc k
    unfold leftK
    rw [contains_snoc]
    by_cases hk : k = c
    · subst hk
      have h1 : O.contains (k : Int) = false := by
        rw [Bool.eq_false_iff]; exact fun h => hc (List.contains_iff_mem.1 h)
      rw [h1]
      simp only [Bool.false_or, beq_self_eq_true, if_true]
      rw [if_neg (by omega)] at ih
      rw [if_pos (by omega)]
      simp; omega
    · have h2 : ((k : Int) == (c : Int)) = false := by rw [beq_eq_false_iff_ne]; omega
      rw [h2, Bool.or_false]
      have h3 : (if c < k + 1 then 1 else 0) = (if c < k then 1 else 0) := by
        by_cases h : c < k
        · rw [if_pos h, if_pos (by omega)]
        · rw [if_neg h, if_neg (by omega)]
      rw [h3]
      split
      · exact ih
      · simp; omega
/-- How many nodes a tree has at most, so many colours being left. -/
def cntN : Nat → Nat
  | 0 => 1
  | k + 1 => 1 + (k + 1) * cntN k
theorem cnt_le : ∀ k, k ≤ 6 → 1 ≤ cntN k ∧ cntN k ≤ 1957 := by decide
theorem nodes_info : (Tryz.prog.info? 126).map (fun i => (i.zero, i.size, i.bytes)) = some (some (.agg #[.int .i64 0, .slice none 0 0]), 2, 32) := by kernel_rfl
/-- A row of nodes of the call's own: one more of them, in a region that draws. -/
theorem step_appN {ops : Array Oper} {o : Oper} {a : Act} {K : Act → World → Prop} {Q : Exit → Act → World → Prop} {E0 : Prop} (w0 : World) (kd : Int) (hgd : o.guard = none) (s xo : Operand)
    (ho : o.op = .call { callee := .builtin .append, args := #[s, xo], argTypes := #[50, 50] }) (B : Nat) (v : Value) (m : Nat) (xs : List Value) (hs : a.eval s = v) (hown : w0.ownsRow B 126 2 v m xs)
    (hx : a.eval xo = .slice (some ⟨w0.heap.size, 0, none⟩) 1 1) (hl : m ≤ 1000000) (hB : B ≤ w0.heap.size)
    (h : ∀ gg c w', w'.ownsRow B 126 2 (.slice (some ⟨gg, 0, none⟩) (m + 1) c) (m + 1) (xs ++ [.int .i64 kd, .slice none 0 0]) → w0.grownBy w' v.ownBlock → Below B w0 w' → (v.ownBlock = some gg ∨ gg = w0.heap.size + 1) → K (a.put o.dst (.slice (some ⟨gg, 0, none⟩) (m + 1) c)) w') :
    if Region.wanted o (yielded ops a.tmps) = true then Oper.wp Tryz.prog o a (w0.alloc (.cells #[.int .i64 kd, .slice none 0 0] 126)) K Q else E0 := by
  obtain ⟨i0, hi0, hz0, hz1, hz2⟩ := info_parts nodes_info
  refine Go.step_append_lies _ hgd s xo 50 ho B 126 i0 _ 2 32 Tryz.underlying50 hi0 hz0 hz1 hz2 rfl (by omega) v m xs hs (World.ownsRow.alloc hown _) ⟨w0.heap.size, 0, none⟩ 1 1 [.int .i64 kd, .slice none 0 0] hx rfl
    (World.news_of_block (cs := #[.int .i64 kd, .slice none 0 0]) (t := 126) (fr := (0, 0)) (heap_alloc_new w0 _)) (by simp [Value.oneCell']) (by omega) (by unfold maxLen; omega) (by omega) (by simp; omega) (w0.heap.size + 1) (by simp) ?_
  intro gg cap w' hown' hgrow' hat _
  exact h gg cap w' hown' ((World.grownBy_alloc w0 _ _).trans hgrow') (((Below.refl B w0).alloc hB _).grown hgrow' (by simp; omega) (fun k hk => (World.ownsRow.lt hown k hk).1)) hat
/-- What is wanted of grow. -/
def GrowPost (w0 W : World) (b : Nat) (x : Cols) (bnd : Int) (O : List Int) (m l : Nat) (nv ov : Value) (e : Ending) (W' : World) : Prop :=
  (∃ r : Int, e = .returned (.int .i64 r)) ∧ ∃ nv' ov' xs' m', TS w0 W' b x bnd O m' nv' ov' xs' ∧ m < m' ∧ m' ≤ m + cntN l ∧ KeepsFrom 0 W W' ∧
    (∀ q, q < W.heap.size → q ≠ b → ov.ownBlock ≠ some q → nv.ownBlock ≠ some q → W'.heap[q]? = W.heap[q]?) ∧
    (∀ q, ov'.ownBlock = some q → ov.ownBlock = some q ∨ W.heap.size ≤ q) ∧ (∀ q, nv'.ownBlock = some q → nv.ownBlock = some q ∨ W.heap.size ≤ q)
def GrowSays : Prop := ∀ (w0 W : World) (b : Nat) (x : Cols) (bnd : Int) (O : List Int) (m : Nat) (nv ov : Value) (xs : List Value), TS w0 W b x bnd O m nv ov xs → ColsAt w0 x → ColsOk x → O.length + (leftK O x.m.length).length ≤ 6 → (∀ y ∈ O, 0 ≤ y ∧ y < x.m.length) → m + cntN (leftK O x.m.length).length ≤ 1000000 →
  Calls Tryz.prog 46 #[.pointer (some ⟨b, 0, none⟩)] W (GrowPost w0 W b x bnd O m (leftK O x.m.length).length nv ov)
end Go.Proofs.YtdgegebplebeoaaGreatDoor
