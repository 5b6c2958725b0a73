/-
  Ahead of the law on parting: what stands in memory all along, rows of numbers, contracts in the cases that the law meets, sums.
-/
import Derived.Test.YtjkcomafgkabeaaDoorE2
import Derived.Deep.RegionHeld3
namespace Go.Proofs.YtjkcomafgkabeaaDoor
open Go.RowKit Go.Maps

def boxF (f : FT) (a : Option Addr) (c : Nat) : Obj := .cells #[.string f.name, .int .i64 f.body, .slice a f.sorts.length c] 24
/-- What stands all along: the fount's box lies at w's end, all else lies below. -/
structure Env (w : World) (f : FT) (a : Option Addr) (c : Nat) (wr : World) : Prop where
  bel : Below (w.heap.size + 1) (w.alloc (boxF f a c)) wr
  fa : FAt wr a f
  c0 : wr.cell? ⟨w.heap.size, 0, none⟩ = some (.string f.name)
  c1 : wr.cell? ⟨w.heap.size, 1, none⟩ = some (.int .i64 f.body)
  c2 : wr.cell? ⟨w.heap.size, 2, none⟩ = some (.slice a f.sorts.length c)
  lt : w.heap.size < wr.heap.size
theorem Env.of {w wr : World} {f : FT} {a : Option Addr} {c : Nat} (hF : FAt w a f) (h : Below (w.heap.size + 1) (w.alloc (boxF f a c)) wr) : Env w f a c wr := by
  have h' : Below (w.alloc (boxF f a c)).heap.size (w.alloc (boxF f a c)) wr := by simpa using h
  refine ⟨h, (hF.alloc _).below h', ?_, ?_, ?_, ?_⟩
  · exact ((h.cell (p := ⟨w.heap.size, 0, none⟩) (Nat.lt_succ_self _)).trans (by simp [boxF]))
  · exact ((h.cell (p := ⟨w.heap.size, 1, none⟩) (Nat.lt_succ_self _)).trans (by simp [boxF]))
  · exact ((h.cell (p := ⟨w.heap.size, 2, none⟩) (Nat.lt_succ_self _)).trans (by simp [boxF]))
  · have := h.size; simp at this; omega
theorem Env.low {w wr : World} {f : FT} {a : Option Addr} {c : Nat} (h : Env w f a c wr) : Below w.heap.size w wr :=
  ((Below.refl w.heap.size w).alloc (Nat.le_refl _) _).trans (h.bel.mono (Nat.le_succ _))
theorem Env.step {w wr wr' : World} {f : FT} {a : Option Addr} {c : Nat} (hF : FAt w a f) (h : Env w f a c wr) (hb : Below wr.heap.size wr wr') : Env w f a c wr' := Env.of hF (h.bel.trans (hb.mono h.lt))
theorem Env.drew {w wr : World} {f : FT} {a : Option Addr} {c : Nat} (hF : FAt w a f) (h : Env w f a c wr) : Env w f a c wr.drew := Env.of hF h.bel.drew
theorem Env.drewN {w wr : World} {f : FT} {a : Option Addr} {c : Nat} (hF : FAt w a f) (h : Env w f a c wr) (n : Nat) : Env w f a c (wr.drewN n) := Env.of hF (below_drewN h.bel n)
theorem Env.alloc {w wr : World} {f : FT} {a : Option Addr} {c : Nat} (hF : FAt w a f) (h : Env w f a c wr) (o : Obj) : Env w f a c (wr.alloc o) := h.step hF ((Below.refl _ _).alloc (Nat.le_refl _) _)

/-- Block g is a row that begins with the numbers L. -/
def Row3 (w : World) (g : Nat) (L : List Int) : Prop := ∃ cs : Array Value, w.heap[g]? = some (.cells cs 3 (0, 0)) ∧ ∀ k, k < L.length → cs[k]? = some (.int .i64 (L.getD k 0))
theorem Row3.lt {w : World} {g : Nat} {L : List Int} (h : Row3 w g L) : g < w.heap.size := by
  obtain ⟨cs, h1, _⟩ := h
  rcases Nat.lt_or_ge g w.heap.size with hlt | hge
  · exact hlt
  · rw [Array.getElem?_eq_none hge] at h1; cases h1
theorem add0 (g k : Nat) : (⟨g, 0, none⟩ : Addr).add k = ⟨g, k, none⟩ := by
  unfold Addr.add; split
  · rename_i h0; rw [h0]
  · simp
theorem Row3.ints {w : World} {g : Nat} {L : List Int} (h : Row3 w g L) : IntsAt w (some ⟨g, 0, none⟩) L := by
  intro k hk
  have hlt := h.lt
  obtain ⟨cs, h1, h2⟩ := h
  refine ⟨_, rfl, hlt, ?_⟩
  rw [add0, cell_of_row w g k cs _ (0, 0) h1]
  exact h2 k hk
theorem Row3.below {w w' : World} {g : Nat} {L : List Int} (h : Row3 w g L) (hb : Below w.heap.size w w') : Row3 w' g L := by
  have hlt := h.lt
  obtain ⟨cs, h1, h2⟩ := h
  exact ⟨cs, (hb.block g hlt).trans h1, h2⟩
theorem Row3.drew {w : World} {g : Nat} {L : List Int} (h : Row3 w g L) : Row3 w.drew g L := h
theorem Row3.drewN {w : World} {g : Nat} {L : List Int} (h : Row3 w g L) (n : Nat) : Row3 (w.drewN n) g L := h
theorem Row3.of_own {w : World} {base g n cap : Nat} {l : List Int} (h : w.ownsRow base 3 1 (.slice (some ⟨g, 0, none⟩) n cap) n (vals l)) : Row3 w g l := by
  have hl := h.1
  rcases h.2 with ⟨e, _⟩ | ⟨g', cap', cur, e, _, hb, h1, h2, h3, h4⟩
  · cases e
  · obtain rfl : g = g' := by injection e with e1 _ _; injection e1 with e2; injection e2
    refine ⟨cur, hb, fun k hk => ?_⟩
    have hv := vals_at hk
    rw [← h4, List.getElem?_take] at hv
    split at hv
    · rw [← hv, Array.getElem?_toList]
    · cases hv
theorem Row3.of_tab {w : World} {g n : Nat} {fn : Nat → Int} (h : Own w g n fn n) : Row3 w g (tab n fn) := by
  obtain ⟨cs, h1, h2, h3⟩ := h
  refine ⟨cs, h1, fun k hk => ?_⟩
  rw [tab_len] at hk
  rw [tab_at hk]; exact h3 k hk
/-- An append to a row of slices leaves a row of numbers alone. -/
theorem Row3.kept {w w' : World} {g : Nat} {L : List Int} {base n : Nat} {v : Value} {xs : List Value} (h : Row3 w g L) (ho : w.ownsRow base 31 1 v n xs) (hg : w.grownBy w' v.ownBlock) : Row3 w' g L := by
  have hlt := h.lt
  obtain ⟨cs, h1, h2⟩ := h
  refine ⟨cs, (hg.block g hlt (fun e => ?_)).trans h1, h2⟩
  rcases ho.2 with ⟨e2, _⟩ | ⟨g', cap, cur, e2, _, hb, _⟩
  · rw [e2] at e; cases e
  · rw [e2] at e
    have e3 : g = g' := by simpa [Value.ownBlock] using e
    rw [← e3, h1] at hb
    have := (Option.some.inj hb)
    injection this with _ e4 _
    cases e4
theorem own_below {w w' : World} {base e n : Nat} {v : Value} {xs : List Value} (h : w.ownsRow base e 1 v n xs) (hb : Below w.heap.size w w') : w'.ownsRow base e 1 v n xs := by
  obtain ⟨h1, h2⟩ := h
  refine ⟨h1, ?_⟩
  rcases h2 with h2 | ⟨g, cap, cur, hv, hg, hh, r⟩
  · exact .inl h2
  · refine .inr ⟨g, cap, cur, hv, hg, ?_, r⟩
    rw [hb.block g]
    · exact hh
    · rcases Nat.lt_or_ge g w.heap.size with hlt | hge
      · exact hlt
      · rw [Array.getElem?_eq_none hge] at hh; cases hh

/-- A right case of n sorts. -/
def OkC (n : Nat) (l : List Int) : Prop := l.length = n ∧ ∀ k, k < n → 0 ≤ l.getD k 0 ∧ l.getD k 0 ≤ 1000000
theorem OkC.err {n : Nat} {l : List Int} (h : OkC n l) : countErr n l = 0 := by
  rw [countErr_rest h.1, if_neg]
  rw [List.any_eq_true]
  rintro ⟨x, hx, ho⟩
  obtain ⟨i, hi, rfl⟩ := List.getElem_of_mem hx
  have := h.2 i (by have := h.1; omega)
  rw [getI hi] at this
  unfold outB at ho
  have := of_decide_eq_true ho
  omega
theorem OkC.of {n : Nat} {l : List Int} (h : countErr n l = 0) : OkC n l := by
  obtain ⟨h1, h2⟩ := countErr_zero h
  exact ⟨h1, fun k hk => h2 k (by omega)⟩
theorem cases_ok {f : FT} (h : (checkF f).2 = 0) : ∀ {ls : List (List Int)}, (∀ l ∈ ls, OkC f.sorts.length l) → casesErr f ls = 0 := by
  intro ls hl
  rw [casesErr_rest h]
  induction ls with
  | nil => rfl
  | cons x r ih =>
    show (if _ then _ else _) = _
    rw [if_neg (by simp [(hl x (by simp)).err])]
    exact ih (fun l h => hl l (by simp [h]))
theorem case_ok {f : FT} {l : List Int} (h : caseErr f l = 0) : (checkF f).2 = 0 ∧ OkC f.sorts.length l := by
  unfold caseErr at h
  split at h
  · rename_i h1; exact absurd h h1
  · rename_i h1; exact ⟨Decidable.not_not.1 h1, OkC.of h⟩
theorem OkC.minus_ {n : Nat} {l1 l2 : List Int} (h1 : OkC n l1) (h2 : OkC n l2) (hs : short l1 l2 n 0 = none) : OkC n (tab n (minus l1 l2)) := by
  refine ⟨tab_len _ _, fun k hk => ?_⟩
  rw [tab_at hk]
  have a1 := h1.2 k hk
  have a2 := h2.2 k hk
  have hns : ∀ (m j : Nat), short l1 l2 m j = none → ∀ i, j ≤ i → i < j + m → ¬ l1.getD i 0 < l2.getD i 0 := by
    intro m
    induction m with
    | zero => intro j _ i h1 h2; omega
    | succ m ih =>
      intro j h i hi1 hi2
      unfold short at h
      split at h
      · cases h
      · rename_i hq
        by_cases e : i = j
        · subst e; exact hq
        · exact ih (j + 1) h i (by omega) (by omega)
  have := hns n 0 hs k (by omega) (by omega)
  unfold minus
  omega
theorem short_none {l1 l2 : List Int} {n : Nat} (h : ∀ j, j < n → l2.getD j 0 ≤ l1.getD j 0) : ∀ (m j : Nat), j + m = n → short l1 l2 m j = none := by
  intro m
  induction m with
  | zero => intro j _; rfl
  | succ m ih =>
    intro j hj
    unfold short
    rw [if_neg (by have := h j (by omega); omega)]
    exact ih (j + 1) (by omega)
theorem over_none {l1 l2 : List Int} : ∀ (m j : Nat), over l1 l2 m j = false → ∀ i, j ≤ i → i < j + m → plus l1 l2 i ≤ 1000000 := by
  intro m
  induction m with
  | zero => intro j _ i h1 h2; omega
  | succ m ih =>
    intro j h i hi1 hi2
    unfold over at h
    split at h
    · cases h
    · rename_i hq
      by_cases e : i = j
      · subst e; omega
      · exact ih (j + 1) h i (by omega) (by omega)
theorem over_ok {l1 l2 : List Int} {n : Nat} (h : ∀ j, j < n → plus l1 l2 j ≤ 1000000) : ∀ (m j : Nat), j + m = n → over l1 l2 m j = false := by
  intro m
  induction m with
  | zero => intro j _; rfl
  | succ m ih =>
    intro j hj
    unfold over
    rw [if_neg (by have := h j (by omega); omega)]
    exact ih (j + 1) (by omega)
theorem OkC.plus_ {n : Nat} {l1 l2 : List Int} (h1 : OkC n l1) (h2 : OkC n l2) (hs : over l1 l2 n 0 = false) : OkC n (tab n (plus l1 l2)) := by
  refine ⟨tab_len _ _, fun k hk => ?_⟩
  rw [tab_at hk]
  have a1 := h1.2 k hk
  have a2 := h2.2 k hk
  have := over_none n 0 hs k (by omega) (by omega)
  unfold plus at this ⊢
  omega
theorem OkC.lack_ {n : Nat} {l1 l2 : List Int} (h1 : OkC n l1) (h2 : OkC n l2) : OkC n (tab n (lack l1 l2)) := by
  refine ⟨tab_len _ _, fun k hk => ?_⟩
  rw [tab_at hk]
  have a1 := h1.2 k hk
  have a2 := h2.2 k hk
  unfold lack
  omega
theorem metalN_add {f : FT} {l1 l2 l3 : List Int} {n : Nat} (h : ∀ j, j < n → l1.getD j 0 + l2.getD j 0 = l3.getD j 0) : ∀ k, k ≤ n → metalN f l1 k + metalN f l2 k = metalN f l3 k := by
  intro k
  induction k with
  | zero => intro _; rfl
  | succ k ih =>
    intro hk
    have e := ih (by omega)
    have ej := h k (by omega)
    unfold metalN
    rw [← ej, ← e, Int.add_mul, Int.add_mul]
    omega
theorem metal_add {f : FT} {l1 l2 l3 : List Int} {n : Nat} (h1 : l1.length = n) (h2 : l2.length = n) (h3 : l3.length = n) (h : ∀ j, j < n → l1.getD j 0 + l2.getD j 0 = l3.getD j 0) : metal f l1 + metal f l2 = metal f l3 := by
  unfold metal; rw [h1, h2, h3]; exact metalN_add h n (Nat.le_refl _)
theorem metal_bd {f : FT} {l : List Int} (hf : RightF f) (h : OkC f.sorts.length l) : 0 ≤ metal f l ∧ metal f l ≤ 2000000000000000 := by
  have := metalN_bd hf h.1 (fun k hk => h.2 k (by have := h.1; omega)) l.length (Nat.le_refl _)
  have h2 := hf.2.2.2.1
  have h3 := h.1
  unfold metal
  omega
theorem metalR_ok {f : FT} {l : List Int} (h : (checkF f).2 = 0) (hl : OkC f.sorts.length l) : metalR f l = (metal f l, 0) := by
  unfold metalR; rw [if_neg (by simp [cases_ok h (ls := [l]) (by intro x hx; simp at hx; subst hx; exact hl)])]

section
variable {f : FT} {a : Option Addr} {c : Nat} {b1 : Option Addr} {l1 : List Int} {d1 : Nat} {b2 : Option Addr} {l2 : List Int} {d2 : Nat} {w : World}
theorem two_ok (h0 : (checkF f).2 = 0) (h1 : OkC f.sorts.length l1) (h2 : OkC f.sorts.length l2) : casesErr f [l1, l2] = 0 :=
  cases_ok h0 (by intro x hx; simp at hx; rcases hx with rfl | rfl <;> assumption)
theorem okc_len {n : Nat} {l : List Int} (h : OkC n l) (hn : n ≤ 120) : l.length ≤ maxLen := by unfold maxLen; have := h.1; omega
theorem Taken_short {N1 N2 : Nat} (hN1 : N1 = l1.length) (hN2 : N2 = l2.length) (hF : FAt w a f) (hX1 : IntsAt w b1 l1) (hX2 : IntsAt w b2 l2) (h0 : (checkF f).2 = 0) (h1 : OkC f.sorts.length l1) (h2 : OkC f.sorts.length l2) (hn : f.sorts.length ≤ 120) {i : Nat} (hs : short l1 l2 f.sorts.length 0 = some i) :
    Calls Tryd.prog 46 #[.agg #[.string f.name, .int .i64 f.body, .slice a f.sorts.length c], .slice b1 N1 d1, .slice b2 N2 d2] w fun e w' => e = .returned (.tuple #[.slice none 0 0, .int .i64 i, .int .i64 20]) ∧ Below w.heap.size w w' := by
  subst hN1 hN2
  refine (Taken_any f a c b1 l1 d1 b2 l2 d2 w hF hX1 (okc_len h1 hn) hX2 (okc_len h2 hn)).mono ?_
  rintro e w' ⟨hb, h⟩
  rcases h with ⟨h, _⟩ | ⟨_, i', hi, rfl⟩ | ⟨_, hi, _⟩
  · exact absurd (two_ok h0 h1 h2) h
  · rw [h1.1, hs] at hi; cases hi; exact ⟨rfl, hb⟩
  · rw [h1.1, hs] at hi; cases hi
theorem Taken_good {N1 N2 : Nat} (hN1 : N1 = l1.length) (hN2 : N2 = l2.length) (hF : FAt w a f) (hX1 : IntsAt w b1 l1) (hX2 : IntsAt w b2 l2) (h0 : (checkF f).2 = 0) (h1 : OkC f.sorts.length l1) (h2 : OkC f.sorts.length l2) (hn : f.sorts.length ≤ 120) (hs : short l1 l2 f.sorts.length 0 = none) :
    Calls Tryd.prog 46 #[.agg #[.string f.name, .int .i64 f.body, .slice a f.sorts.length c], .slice b1 N1 d1, .slice b2 N2 d2] w fun e w' => ∃ g, e = .returned (.tuple #[.slice (some ⟨g, 0, none⟩) f.sorts.length f.sorts.length, .int .i64 0, .int .i64 0]) ∧ Row3 w' g (tab f.sorts.length (minus l1 l2)) ∧ Below w.heap.size w w' := by
  subst hN1 hN2
  refine (Taken_any f a c b1 l1 d1 b2 l2 d2 w hF hX1 (okc_len h1 hn) hX2 (okc_len h2 hn)).mono ?_
  rintro e w' ⟨hb, h⟩
  rcases h with ⟨h, _⟩ | ⟨_, i', hi, rfl⟩ | ⟨_, _, g, rfl, ho⟩
  · exact absurd (two_ok h0 h1 h2) h
  · rw [h1.1, hs] at hi; cases hi
  · rw [h1.1] at ho ⊢; exact ⟨g, rfl, Row3.of_tab ho, hb⟩
theorem Lacking_good {N1 N2 : Nat} (hN1 : N1 = l1.length) (hN2 : N2 = l2.length) (hF : FAt w a f) (hX1 : IntsAt w b1 l1) (hX2 : IntsAt w b2 l2) (h0 : (checkF f).2 = 0) (h1 : OkC f.sorts.length l1) (h2 : OkC f.sorts.length l2) (hn : f.sorts.length ≤ 120) :
    Calls Tryd.prog 47 #[.agg #[.string f.name, .int .i64 f.body, .slice a f.sorts.length c], .slice b1 N1 d1, .slice b2 N2 d2] w fun e w' => ∃ g, e = .returned (.tuple #[.slice (some ⟨g, 0, none⟩) f.sorts.length f.sorts.length, .int .i64 0]) ∧ Row3 w' g (tab f.sorts.length (lack l1 l2)) ∧ Below w.heap.size w w' := by
  subst hN1 hN2
  refine (Lacking_any f a c b1 l1 d1 b2 l2 d2 w hF hX1 (okc_len h1 hn) hX2 (okc_len h2 hn)).mono ?_
  rintro e w' ⟨hb, h⟩
  rcases h with ⟨h, _⟩ | ⟨_, g, rfl, ho⟩
  · exact absurd (two_ok h0 h1 h2) h
  · rw [h1.1] at ho ⊢; exact ⟨g, rfl, Row3.of_tab ho, hb⟩
theorem Joined_over {N1 N2 : Nat} (hN1 : N1 = l1.length) (hN2 : N2 = l2.length) (hF : FAt w a f) (hX1 : IntsAt w b1 l1) (hX2 : IntsAt w b2 l2) (h0 : (checkF f).2 = 0) (h1 : OkC f.sorts.length l1) (h2 : OkC f.sorts.length l2) (hn : f.sorts.length ≤ 120) (hs : over l1 l2 f.sorts.length 0 = true) :
    Calls Tryd.prog 42 #[.agg #[.string f.name, .int .i64 f.body, .slice a f.sorts.length c], .slice b1 N1 d1, .slice b2 N2 d2] w fun e w' => e = .returned (.tuple #[.slice none 0 0, .int .i64 8]) ∧ Below w.heap.size w w' := by
  subst hN1 hN2
  refine (Joined_any f a c b1 l1 d1 b2 l2 d2 w hF hX1 (okc_len h1 hn) hX2 (okc_len h2 hn)).mono ?_
  rintro e w' ⟨hb, h⟩
  rcases h with ⟨h, _⟩ | ⟨_, _, rfl⟩ | ⟨_, hi, _⟩
  · exact absurd (two_ok h0 h1 h2) h
  · exact ⟨rfl, hb⟩
  · rw [h1.1, hs] at hi; cases hi
theorem Joined_good {N1 N2 : Nat} (hN1 : N1 = l1.length) (hN2 : N2 = l2.length) (hF : FAt w a f) (hX1 : IntsAt w b1 l1) (hX2 : IntsAt w b2 l2) (h0 : (checkF f).2 = 0) (h1 : OkC f.sorts.length l1) (h2 : OkC f.sorts.length l2) (hn : f.sorts.length ≤ 120) (hs : over l1 l2 f.sorts.length 0 = false) :
    Calls Tryd.prog 42 #[.agg #[.string f.name, .int .i64 f.body, .slice a f.sorts.length c], .slice b1 N1 d1, .slice b2 N2 d2] w fun e w' => ∃ g, e = .returned (.tuple #[.slice (some ⟨g, 0, none⟩) f.sorts.length f.sorts.length, .int .i64 0]) ∧ Row3 w' g (tab f.sorts.length (plus l1 l2)) ∧ Below w.heap.size w w' := by
  subst hN1 hN2
  refine (Joined_any f a c b1 l1 d1 b2 l2 d2 w hF hX1 (okc_len h1 hn) hX2 (okc_len h2 hn)).mono ?_
  rintro e w' ⟨hb, h⟩
  rcases h with ⟨h, _⟩ | ⟨_, hi, rfl⟩ | ⟨_, _, g, rfl, ho⟩
  · exact absurd (two_ok h0 h1 h2) h
  · rw [h1.1, hs] at hi; cases hi
  · rw [h1.1] at ho ⊢; exact ⟨g, rfl, Row3.of_tab ho, hb⟩
theorem MetalOf_good {N1 : Nat} (hN1 : N1 = l1.length) (hF : FAt w a f) (hX1 : IntsAt w b1 l1) (h0 : (checkF f).2 = 0) (h1 : OkC f.sorts.length l1) (hn : f.sorts.length ≤ 120) :
    Calls Tryd.prog 58 #[.agg #[.string f.name, .int .i64 f.body, .slice a f.sorts.length c], .slice b1 N1 d1] w fun e w' => e = .returned (.tuple #[.int .i64 (metal f l1), .int .i64 0]) ∧ Below w.heap.size w w' := by
  subst hN1
  have h := MetalOf_any f a c b1 l1 d1 w hF hX1 (okc_len h1 hn)
  rw [metalR_ok h0 h1] at h
  exact h
end
end Go.Proofs.YtjkcomafgkabeaaDoor
