/-
  As few sorts as print a piece.
-/
import Derived.Test.YtomblajlpanmjaaGreatDoorVI
import Derived.ArgAppend
import Derived.OwnWalk
namespace Go.Proofs.YtomblajlpanmjaaGreatDoor
open Go.RowKit Go.Maps Go.Shelf
attribute [local go_sem] Oper.semAt_some

/-- 'l = append(l, n)' at a slice of the call's own: the row stays, or is a new one. -/
theorem wpList_app2 {ops : Array Oper} {rest : List Oper} {o : Oper} {a : Act} {Q : Exit → Act → World → Prop} (w0 : World) (n : Int) (hgd : o.guard = none) (s x : Operand)
    (ho : o.op = .call { callee := .builtin .append, args := #[s, x], argTypes := #[63, 63] }) (base : Nat) (v : Value) (l : List Int) (hs : a.eval s = v) (hown : IRow w0 base v l)
    (hx : a.eval x = .slice (some ⟨w0.heap.size, 0, none⟩) 1 1) (hl : l.length ≤ 1000000) (hbase : base ≤ w0.heap.size)
    (h : ∀ g c w', IRow w' base (.slice (some ⟨g, 0, none⟩) (l.length + 1) c) (l ++ [n]) → w0.grownBy w' v.ownBlock → (v.ownBlock = some g ∨ w0.heap.size ≤ g) → wpList Tryz.prog ops Q rest (a.put o.dst (.slice (some ⟨g, 0, none⟩) (l.length + 1) c)) w') :
    wpList Tryz.prog ops Q (o :: rest) a (w0.alloc (.cells #[.int .i64 n] 3)) := by
  obtain ⟨i0, hi0, hz0, hz1, hz2⟩ := info_parts info3
  have hnews : ∀ j u, [Value.int .i64 n][j]? = some u → (w0.alloc (.cells #[.int .i64 n] 3)).cell? ((⟨w0.heap.size, 0, none⟩ : Addr).add j) = some u := by
    simpa using World.news_of_block (cs := #[.int .i64 n]) (t := 3) (fr := (0, 0)) (heap_alloc_new w0 _)
  have h1 : ∀ u ∈ [Value.int .i64 n], u.oneCell' = true := by intro u hu; rw [List.mem_singleton.1 hu]; rfl
  have hv : vals l ++ [.int .i64 n] = vals (l ++ [n]) := by simp [vals]
  have hnew : ∀ v' w', w'.ownsRow (w0.alloc (.cells #[.int .i64 n] 3)).heap.size 3 1 v' (l.length + 1) (vals l ++ [.int .i64 n]) → (w0.alloc (.cells #[.int .i64 n] 3)).grownBy w' none → wpList Tryz.prog ops Q rest (a.put o.dst v') w' := by
    intro v' w' hown' hgrow'
    rw [hv] at hown'
    obtain ⟨g, cap, rfl⟩ := own_pos hown'
    have hlt := (hown'.lt g rfl).1
    simp at hlt
    refine h g cap w' (by unfold IRow; rw [List.length_append]; exact own_mono hown' (by simp; omega)) ?_ (.inr (by omega))
    exact ⟨hgrow'.os.trans rfl, hgrow'.tape.trans rfl, hgrow'.output.trans rfl, Nat.le_trans (by simp) hgrow'.size, fun k hk _ => (hgrow'.block k (by simp; omega) (by simp)).trans (Below.heap_alloc _ _ _ hk)⟩
  have hmx : l.length + 1 ≤ maxLen := by unfold maxLen; omega
  rcases hown.2 with ⟨e1, e2⟩ | ⟨g, cap, cur, e1, hg, hgg, hc, hcm, hcs, htake⟩
  · subst e1
    obtain rfl : l = [] := List.eq_nil_of_length_eq_zero e2
    exact wpList_append_grows _ hgd s x 63 ho 3 i0 (.int .i64 0) 1 8 Tryz.underlying63 hi0 hz0 hz1 hz2 rfl (by decide) none 0 0 [] hs (fun _ => ⟨rfl, rfl⟩) rfl (fun _ e => by cases e) ⟨w0.heap.size, 0, none⟩ 1 1 [.int .i64 n] hx rfl hnews h1 (by decide) hmx (by omega) hnew
  · subst e1
    by_cases hroom : l.length + 1 ≤ cap
    · refine wpList_append_fits _ hgd s x 63 ho base 3 i0 1 Tryz.underlying63 hi0 hz1 g l.length cap (vals l) hs (hown.alloc _) ⟨w0.heap.size, 0, none⟩ 1 1 [.int .i64 n] hx rfl hnews h1 hroom ?_
      intro w' hown' hgrow'
      rw [hv] at hown'
      exact h g cap w' (by unfold IRow; rw [List.length_append]; exact hown') ((World.grownBy_alloc w0 _ _).trans hgrow') (.inl rfl)
    · exact wpList_append_grows _ hgd s x 63 ho 3 i0 (.int .i64 0) 1 8 Tryz.underlying63 hi0 hz0 hz1 hz2 rfl (by decide) (some ⟨g, 0, none⟩) l.length cap (vals l) hs (fun e => by cases e) (by simp [vals]) (fun b e => by cases e; exact (hown.alloc _).cells rfl) ⟨w0.heap.size, 0, none⟩ 1 1 [.int .i64 n] hx rfl hnews h1 (by omega) hmx (by omega) hnew
theorem getD_set_self {M : List Int} {j : Nat} {v : Int} (h : j < M.length) : (M.set j v).getD j 0 = v := by
  rw [List.getD_eq_getElem?_getD, List.getElem?_set, if_pos rfl, if_pos h]; rfl
theorem getD_set_other {M : List Int} {i j : Nat} {v : Int} (h : i ≠ j) : (M.set i v).getD j 0 = M.getD j 0 := by
  rw [List.getD_eq_getElem?_getD, List.getElem?_set, if_neg h, ← List.getD_eq_getElem?_getD]
theorem lcFold_inv {p : PC} {pl : Nat} (R : List Int → Prop) : ∀ (l : List (MayIx p pl)) (M : List Int), R M → (∀ x, x ∈ l → ∀ M, R M → R (lcStep p pl M x.1)) → R (l.foldl (fun M x => lcStep p pl M x.1) M)
  | [], _, h, _ => h
  | x :: l, M, h, hs => lcFold_inv R l _ (hs x List.mem_cons_self M h) (fun y hy => hs y (List.mem_cons_of_mem _ hy))
theorem lcF_spec {p : PC} {pl : Nat} {M0 : List Int} (l : List (MayIx p pl)) (hl : pl < M0.length) :
    (∀ j, j ≠ pl → (lcF p pl M0 l).getD j 0 = M0.getD j 0) ∧ ((lcF p pl M0 l).getD pl 0 = 31 ∨ ∃ x, x ∈ l ∧ 1 ≤ tsize p x.1 ∧ (lcF p pl M0 l).getD pl 0 = M0.getD (pl + tsize p x.1) 0 + 1) := by
  have h := lcFold_inv (p := p) (pl := pl) (fun M => M.length = M0.length ∧ (∀ j, j ≠ pl → M.getD j 0 = M0.getD j 0) ∧ (M.getD pl 0 = 31 ∨ ∃ x, x ∈ l ∧ 1 ≤ tsize p x.1 ∧ M.getD pl 0 = M0.getD (pl + tsize p x.1) 0 + 1)) l (M0.set pl 31)
    ⟨List.length_set, fun j hj => getD_set_other (fun e => hj e.symm), .inl (getD_set_self hl)⟩ (fun x hx M hM => by
      obtain ⟨h1, h2, h3⟩ := hM
      unfold lcStep
      refine ⟨by rw [List.length_set]; exact h1, fun j hj => by rw [getD_set_other (fun e => hj e.symm)]; exact h2 j hj, ?_⟩
      rw [getD_set_self (by rw [h1]; exact hl)]
      by_cases hz : tsize p x.1 = 0
      · rw [hz, Nat.add_zero, show min (M.getD pl 0) (M.getD pl 0 + 1) = M.getD pl 0 by omega]
        exact h3
      · rw [h2 (pl + tsize p x.1) (by omega)]
        by_cases hm : M.getD pl 0 ≤ M0.getD (pl + tsize p x.1) 0 + 1
        · rw [show min (M.getD pl 0) (M0.getD (pl + tsize p x.1) 0 + 1) = M.getD pl 0 by omega]
          exact h3
        · exact .inr ⟨x, hx, by omega, by omega⟩)
  exact h.2
theorem lcTo_keep (p : PC) (k j : Nat) (hj : p.t.size - k ≤ j) : ∀ d, k + d ≤ p.t.size → (lcTo p (k + d)).getD j 0 = (lcTo p k).getD j 0
  | 0, _ => rfl
  | d + 1, h => by
    have h1 := lcTo_keep p k j hj d (by omega)
    show (lcF p (p.t.size - 1 - (k + d)) (lcTo p (k + d)) _).getD j 0 = _
    rw [(lcF_spec _ (by rw [(lcTo_ok p _).1]; omega)).1 j (by omega)]
    exact h1
theorem lc_next_k (p : PC) (k : Nat) (hk : k < p.t.size) : (lcL p).getD (p.t.size - 1 - k) 0 = 31 ∨ ∃ x, x ∈ mays p (p.t.size - 1 - k) p.f.sorts.length ∧ 1 ≤ tsize p x.1 ∧ (lcL p).getD (p.t.size - 1 - k) 0 = (lcL p).getD (p.t.size - 1 - k + tsize p x.1) 0 + 1 := by
  have hs := (lcF_spec (p := p) (pl := p.t.size - 1 - k) (M0 := lcTo p k) (mays p (p.t.size - 1 - k) p.f.sorts.length) (by rw [(lcTo_ok p _).1]; omega)).2
  have e1 : (lcL p).getD (p.t.size - 1 - k) 0 = (lcF p (p.t.size - 1 - k) (lcTo p k) (mays p (p.t.size - 1 - k) p.f.sorts.length)).getD (p.t.size - 1 - k) 0 := by
    have h := lcTo_keep p (k + 1) (p.t.size - 1 - k) (by omega) (p.t.size - (k + 1)) (by omega)
    rw [show k + 1 + (p.t.size - (k + 1)) = p.t.size by omega] at h
    exact h
  rcases hs with hs | ⟨x, hx, hz, hs⟩
  · exact .inl (e1.trans hs)
  · refine .inr ⟨x, hx, hz, (e1.trans hs).trans ?_⟩
    have h := lcTo_keep p k (p.t.size - 1 - k + tsize p x.1) (by omega) (p.t.size - k) (by omega)
    rw [show k + (p.t.size - k) = p.t.size by omega] at h
    rw [← h]; rfl
theorem lc_next (p : PC) (pl : Nat) (hpl : pl < p.t.size) : (lcL p).getD pl 0 = 31 ∨ ∃ x, x ∈ mays p pl p.f.sorts.length ∧ 1 ≤ tsize p x.1 ∧ (lcL p).getD pl 0 = (lcL p).getD (pl + tsize p x.1) 0 + 1 := by
  have h := lc_next_k p (p.t.size - 1 - pl) (by omega)
  rw [show p.t.size - 1 - (p.t.size - 1 - pl) = pl by omega] at h
  exact h
/-- Whether a sort wastes none. -/
def leB (p : PC) (L : List Int) (pl i : Nat) : Bool := L.getD (pl + tsize p i) 0 == L.getD pl 0 - 1
def leX (p : PC) (L : List Int) (pl : Nat) : Option (MayIx p pl) := (mays p pl p.f.sorts.length).find? (fun x => leB p L pl x.1)
def fewSet (p : PC) (L : List Int) : Nat → Nat → List Int → Option (List Int)
  | 0, _, _ => none
  | k + 1, pl, acc => if pl < p.t.size then match leX p L pl with
      | some x => fewSet p L k (pl + tsize p x.1) (acc ++ [(x.1 : Int)])
      | none => none
    else some acc
def fewP (p : PC) : Option (List Int) := if (lcL p).getD 0 0 = 31 then none else fewSet p (lcL p) (p.t.size + 1) 0 []
theorem leX_some {p : PC} {pl : Nat} (h : pl < p.t.size) (hn : (lcL p).getD pl 0 ≠ 31) : ∃ x, leX p (lcL p) pl = some x := by
  rcases lc_next p pl h with h1 | ⟨x, hx, _, hv⟩
  · exact absurd h1 hn
  · refine Option.isSome_iff_exists.1 (List.find?_isSome.2 ⟨x, hx, ?_⟩)
    unfold leB
    rw [beq_iff_eq]
    omega
theorem fewSet_step {p : PC} {L : List Int} {k pl : Nat} {acc : List Int} {x : MayIx p pl} (h : pl < p.t.size) (hx : leX p L pl = some x) : fewSet p L (k + 1) pl acc = fewSet p L k (pl + tsize p x.1) (acc ++ [(x.1 : Int)]) := by
  show (if _ then _ else _) = _
  rw [if_pos h, hx]
theorem fewSet_end {p : PC} {L : List Int} {k pl : Nat} {acc : List Int} (h : ¬ pl < p.t.size) : fewSet p L (k + 1) pl acc = some acc := if_neg h
/-- The first of a list that is so, split. -/
theorem find_split {α : Type} {q : α → Bool} : ∀ (l : List α) (pre : List α) (x : α) (post : List α), l = pre ++ x :: post → (∀ y, y ∈ pre → q y = false) → q x = true → l.find? q = some x
  | _, [], x, post, e, _, hx => by rw [e]; simp [hx]
  | _, y :: pre, x, post, e, hp, hx => by
    rw [e, List.cons_append, List.find?_cons, hp y List.mem_cons_self]
    exact find_split _ pre x post rfl (fun z hz => hp z (List.mem_cons_of_mem _ hz)) hx
theorem mays_more (p : PC) (pl k : Nat) : ∀ d, ∃ r, mays p pl (k + d) = mays p pl k ++ r
  | 0 => ⟨[], (List.append_nil _).symm⟩
  | d + 1 => by
    obtain ⟨r, h⟩ := mays_more p pl k d
    refine ⟨r ++ (if h : k + d < p.f.sorts.length ∧ mayB p pl (p.f.sorts.getD (k + d) noTS) = true then [⟨k + d, h⟩] else []), ?_⟩
    show mays p pl (k + d) ++ _ = _
    rw [h, List.append_assoc]
    rfl
theorem leX_hit {p : PC} {L : List Int} {pl k : Nat} {pre : List (MayIx p pl)} {x : MayIx p pl} (hk : k ≤ p.f.sorts.length) (e : pre ++ [x] = mays p pl k) (hp : ∀ y, y ∈ pre → leB p L pl y.1 = false) (hx : leB p L pl x.1 = true) : leX p L pl = some x := by
  obtain ⟨r, h⟩ := mays_more p pl k (p.f.sorts.length - k)
  rw [show k + (p.f.sorts.length - k) = p.f.sorts.length by omega, ← e, List.append_assoc] at h
  exact find_split _ pre x r h hp hx
theorem leX_none {p : PC} {L : List Int} {pl : Nat} (h : ∀ y, y ∈ mays p pl p.f.sorts.length → leB p L pl y.1 = false) : leX p L pl = none := List.find?_eq_none.2 (fun y hy => by rw [h y hy]; simp)
end Go.Proofs.YtomblajlpanmjaaGreatDoor
