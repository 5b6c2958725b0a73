/-
  Folds for a scheme: the pages of a place behind a fold; what can't be read in order any more; searches of folds, told. No program is walked here.
-/
import Derived.Test.YtmolejpbpcodbaaSF
import Derived.Test.YtmolejpbpcodbaaIA
import Derived.Test.YtmolejpbpcodbaaI5
import Derived.Test.YtmolejpbpcodbaaRA
namespace Go.Proofs.Ytmolejpbpcodbaa
open Go.RowKit

/-- The pages of the leaves of a place. -/
def pgs (C : Int) (S : List Cell) (l : List Leaf) : List Int := (l.flatMap (rdP C S)).map (·.p)
section
variable {C : Int} {S : List Cell}
theorem rdTo_all (l : List Leaf) : rdTo C S l l.length = l.flatMap (rdP C S) := by unfold rdTo; rw [List.take_length]
theorem pgs_app (a b : List Leaf) : pgs C S (a ++ b) = pgs C S a ++ pgs C S b := by unfold pgs; rw [List.flatMap_append, List.map_append]
theorem pgs_len (l : List Leaf) : (pgs C S l).length = 2 * l.length := by
  unfold pgs; rw [List.length_map, ← rdTo_all, rdTo_len (Nat.le_refl _)]
theorem rdP_over {x : Leaf} (hx : LeafBits x) (t : Int) : (rdP C S (turnX 1 t x)).map (·.p) = ((rdP C S x).map (·.p)).reverse := by
  have hc : cellAt C S (turnX 1 t x) = cellAt C S x := rfl
  unfold rdP
  rw [hc]
  have ho : (turnX 1 t x).o = xr x.o 1 := rfl
  rw [ho]
  rcases hx.1 with h | h
  · rw [h, if_pos (by decide), if_neg (by decide)]; try rfl
  · rw [h, if_neg (by decide), if_pos (by decide)]; try rfl
theorem rdP_plain {x : Leaf} (hx : LeafBits x) (t : Int) : (rdP C S (turnX 0 t x)).map (·.p) = (rdP C S x).map (·.p) := by
  have hc : cellAt C S (turnX 0 t x) = cellAt C S x := rfl
  unfold rdP
  rw [hc]
  have ho : (turnX 0 t x).o = xr x.o 0 := rfl
  rw [ho, xr_zero hx.1]
  split <;> rfl
theorem pgs_one (x : Leaf) : pgs C S [x] = (rdP C S x).map (·.p) := by unfold pgs; simp
theorem pgs_over {t : Int} : ∀ {l : List Leaf}, (∀ x ∈ l, LeafBits x) → pgs C S (turnL 1 t l) = (pgs C S l).reverse
  | [], _ => rfl
  | x :: l, h => by
    have e : turnL 1 t (x :: l) = turnL 1 t l ++ [turnX 1 t x] := by unfold turnL; rw [if_pos rfl, if_pos rfl, List.map_cons, List.reverse_cons]
    rw [e, pgs_app, pgs_over (fun y hy => h y (List.mem_cons_of_mem _ hy)), pgs_one, rdP_over (h x List.mem_cons_self), ← List.reverse_append, ← pgs_one, ← pgs_app]; try rfl
theorem pgs_plain {t : Int} : ∀ {l : List Leaf}, (∀ x ∈ l, LeafBits x) → pgs C S (turnL 0 t l) = pgs C S l
  | [], _ => rfl
  | x :: l, h => by
    have e : turnL 0 t (x :: l) = [turnX 0 t x] ++ turnL 0 t l := by unfold turnL; rw [if_neg (by decide), if_neg (by decide), List.map_cons]; try rfl
    rw [e, pgs_app, pgs_plain (fun y hy => h y (List.mem_cons_of_mem _ hy)), pgs_one, rdP_plain (h x List.mem_cons_self), ← pgs_one, ← pgs_app]; try rfl
end
/-- Numbers that follow each other, up or down. -/
def Stp (l : List Int) : Prop := ∃ s : Int, (s = 1 ∨ s = -1) ∧ ∀ i, i + 1 < l.length → l.getD (i + 1) 0 = l.getD i 0 + s
theorem rev_getD {l : List Int} {i : Nat} (h : i < l.length) : l.reverse.getD i 0 = l.getD (l.length - 1 - i) 0 := by
  rw [getD_in 0 (by rw [List.length_reverse]; exact h), getD_in 0 (by omega), List.getElem_reverse]
theorem Stp.rev {l : List Int} (h : Stp l) : Stp l.reverse := by
  obtain ⟨s, hs, h⟩ := h
  refine ⟨-s, by omega, fun i hi => ?_⟩
  rw [List.length_reverse] at hi
  rw [rev_getD hi, rev_getD (by omega)]
  have := h (l.length - 1 - (i + 1)) (by omega)
  rw [show l.length - 1 - (i + 1) + 1 = l.length - 1 - i by omega] at this
  omega
theorem Stp.of_rev {l : List Int} (h : Stp l.reverse) : Stp l := by have := h.rev; rw [List.reverse_reverse] at this; exact this
theorem app_getL {a b : List Int} {i : Nat} (h : i < a.length) : (a ++ b).getD i 0 = a.getD i 0 := by rw [List.getD_eq_getElem?_getD, List.getElem?_append_left h, ← List.getD_eq_getElem?_getD]
theorem app_getR {a b : List Int} {i : Nat} (h : a.length ≤ i) : (a ++ b).getD i 0 = b.getD (i - a.length) 0 := by rw [List.getD_eq_getElem?_getD, List.getElem?_append_right h, ← List.getD_eq_getElem?_getD]
theorem Stp.left {a b : List Int} (h : Stp (a ++ b)) : Stp a := by
  obtain ⟨s, hs, h⟩ := h
  refine ⟨s, hs, fun i hi => ?_⟩
  have := h i (by rw [List.length_append]; omega)
  rw [app_getL hi, app_getL (by omega)] at this
  exact this
theorem Stp.right {a b : List Int} (h : Stp (a ++ b)) : Stp b := by
  obtain ⟨s, hs, h⟩ := h
  refine ⟨s, hs, fun i hi => ?_⟩
  have := h (a.length + i) (by rw [List.length_append]; omega)
  rw [app_getR (by omega), app_getR (by omega), show a.length + i + 1 - a.length = i + 1 by omega, show a.length + i - a.length = i by omega] at this
  exact this
/-- What the program asks of a place. -/
def mayL (l : List Int) : Bool := decide ((l.getD 1 0 - l.getD 0 0 = 1 ∨ l.getD 1 0 - l.getD 0 0 = -1) ∧ ∀ i, i < l.length → l.getD i 0 = l.getD 0 0 + (i : Int) * (l.getD 1 0 - l.getD 0 0))
theorem Stp.may {l : List Int} (h : Stp l) (h2 : 2 ≤ l.length) : mayL l = true := by
  obtain ⟨s, hs, h⟩ := h
  have h0 := h 0 (by omega)
  rw [Nat.zero_add] at h0
  have e : l.getD 1 0 - l.getD 0 0 = s := by omega
  unfold mayL
  refine decide_eq_true ⟨by rw [e]; exact hs, fun i => ?_⟩
  rw [e]
  induction i with
  | zero => intro _; simp
  | succ i ih =>
    intro hi
    rw [h i hi, ih (by omega), Int.natCast_succ, Int.add_mul, Int.one_mul]; omega
def inOrd (M : List Page) : Bool := decide (M = ordP M.length)
theorem inOrd_stp {C : Int} {S : List Cell} {l : List Leaf} (h : inOrd (l.flatMap (rdP C S)) = true) : Stp (pgs C S l) := by
  refine ⟨1, Or.inl rfl, fun i hi => ?_⟩
  have e : pgs C S l = (ordP (l.flatMap (rdP C S)).length).map (·.p) := by
    unfold pgs; conv => lhs; rw [of_decide_eq_true h]
  rw [e] at hi ⊢
  have hl : i + 1 < (l.flatMap (rdP C S)).length := by rw [List.length_map, ordP_len] at hi; exact hi
  rw [getD_in 0 hi, getD_in 0 (by omega)]
  simp only [List.getElem_map, ordP, List.getElem_range]
  omega

/-- A folded sheet, and its folds. -/
structure FN where
  C : Nat
  R : Nat
  P : List (List Leaf)
  L : List Fold
def sideF (C R : Nat) (k : Int) : Nat := if k = 1 ∨ k = 2 then C else R
def optsF (C R : Nat) : List Fold := ([1, 2, 3, 4] : List Int).flatMap fun k => (List.range (sideF C R k / 2)).map fun i : Nat => ⟨k, (i : Int) + 1⟩
def kidF (x : FN) (f : Fold) : FN := ⟨(afterC x.C f).toNat, (afterR x.R f).toNat, outF x.C x.R (afterC x.C f).toNat (afterR x.R f).toNat f x.P, x.L ++ [f]⟩
def kidsF (x : FN) : List FN := (optsF x.C x.R).map (kidF x)
theorem optsF_mem {C R : Nat} {f : Fold} : f ∈ optsF C R ↔ (1 ≤ f.k ∧ f.k ≤ 4) ∧ 1 ≤ f.c ∧ 2 * f.c ≤ sideF C R f.k := by
  unfold optsF
  rw [List.mem_flatMap]
  constructor
  · rintro ⟨k, hk, hf⟩
    obtain ⟨i, hi, rfl⟩ := List.mem_map.1 hf
    have hi := List.mem_range.1 hi
    refine ⟨?_, ?_, ?_⟩
    · simp at hk; show 1 ≤ k ∧ k ≤ 4; omega
    · show 1 ≤ (i : Int) + 1; omega
    · show 2 * ((i : Int) + 1) ≤ sideF C R k; omega
  · rintro ⟨hk, hc, hs⟩
    obtain ⟨k, c⟩ := f
    have hk : 1 ≤ k ∧ k ≤ 4 := hk
    have hc : 1 ≤ c := hc
    have hs : 2 * c ≤ sideF C R k := hs
    refine ⟨k, by simp; omega, List.mem_map.2 ⟨(c - 1).toNat, List.mem_range.2 (by omega), ?_⟩⟩
    show Fold.mk k (((c - 1).toNat : Int) + 1) = _
    rw [show (((c - 1).toNat : Int) + 1) = c by omega]
theorem optsF_err {C R : Nat} {f : Fold} : f ∈ optsF C R ↔ (1 ≤ f.k ∧ f.k ≤ 4) ∧ foldErr C R f = 0 := by
  rw [optsF_mem]
  obtain ⟨k, c⟩ := f
  show (1 ≤ k ∧ k ≤ 4) ∧ 1 ≤ c ∧ 2 * c ≤ (sideF C R k : Int) ↔ (1 ≤ k ∧ k ≤ 4) ∧ foldErr C R ⟨k, c⟩ = 0
  constructor
  · rintro ⟨hk, h1, h2⟩
    refine ⟨hk, ?_⟩
    unfold foldErr
    simp only
    rw [if_neg (by rw [inB_yes (by omega)]; simp), if_neg (by omega), if_neg (by omega), if_neg]
    unfold alongI; unfold sideF at h2
    split at h2 <;> split <;> omega
  · rintro ⟨hk, h⟩
    refine ⟨hk, ?_⟩
    unfold foldErr at h
    simp only at h
    rw [if_neg (by rw [inB_yes (by omega)]; simp), if_neg (by omega)] at h
    split at h
    · omega
    · split at h
      · omega
      · rename_i h1 h2
        unfold alongI at h2; unfold sideF
        split at h2 <;> split <;> omega

/-- A folded sheet that may come about. -/
structure NOk (c0 r0 : Int) (x : FN) : Prop where
  hC : 1 ≤ x.C ∧ x.C ≤ 8
  hR : 1 ≤ x.R ∧ x.R ≤ 8
  pile : PileOk x.C x.R x.P
  inn : ∀ l ∈ x.P, ∀ y ∈ l, LeafIn c0 r0 y
section
variable {c0 r0 : Int} {S : List Cell} {x : FN}
structure KidOk (x : FN) (f : Fold) : Prop where
  err : foldErr x.C x.R f = 0
  eC : afterC x.C f = ((afterC x.C f).toNat : Int)
  eR : afterR x.R f = ((afterR x.R f).toNat : Int)
  k4 : 1 ≤ f.k ∧ f.k ≤ 4
  c1 : 1 ≤ f.c ∧ f.c ≤ 4
  sum : ((afterC x.C f).toNat : Int) + (afterR x.R f).toNat + f.c = x.C + x.R
theorem NOk.kidOk (h : NOk c0 r0 x) {f : Fold} (hf : f ∈ optsF x.C x.R) : KidOk x f := by
  obtain ⟨hk, he⟩ := optsF_err.1 hf
  have ha := after_ok (C := (x.C : Int)) (R := (x.R : Int)) (f := f) (by have := h.hC; omega) (by have := h.hR; omega) he
  obtain ⟨a, b, c, d, e, g⟩ := fold_ok (C := (x.C : Int)) (R := (x.R : Int)) (by have := h.hC; omega) (by have := h.hR; omega) he
  have h1 : afterC x.C f = ((afterC x.C f).toNat : Int) := by omega
  have h2 : afterR x.R f = ((afterR x.R f).toNat : Int) := by omega
  refine ⟨he, h1, h2, hk, by omega, ?_⟩
  rw [← h1, ← h2]
  unfold afterC afterR
  split <;> split <;> omega
theorem NOk.kid (h : NOk c0 r0 x) {f : Fold} (hf : f ∈ optsF x.C x.R) : NOk c0 r0 (kidF x f) := by
  have k := h.kidOk hf
  have ha := after_ok (C := (x.C : Int)) (R := (x.R : Int)) (f := f) (by have := h.hC; omega) (by have := h.hR; omega) k.err
  have hc := h.hC; have hr := h.hR
  have e1 := k.eC; have e2 := k.eR
  exact ⟨show 1 ≤ (afterC x.C f).toNat ∧ (afterC x.C f).toNat ≤ 8 by omega, show 1 ≤ (afterR x.R f).toNat ∧ (afterR x.R f).toNat ≤ 8 by omega, h.pile.fold h.hC h.hR k.err k.eC k.eR,
    outF_all (fun o t y hy => ⟨hy.1, hy.2.1, xr_bit _ _, xr_bit _ _⟩) h.inn⟩
theorem NOk.flat {C R : Nat} (hC : 1 ≤ C ∧ C ≤ 8) (hR : 1 ≤ R ∧ R ≤ 8) : NOk C R ⟨C, R, flatP C (C * R), []⟩ := by
  refine ⟨hC, hR, PileOk.flat hC hR, fun l hl y hy => ?_⟩
  obtain ⟨j, hj, rfl⟩ := List.mem_map.1 hl
  rw [List.mem_singleton.1 hy]
  have hj : j < C * R := by simpa using hj
  have h1 : j % C < C := Nat.mod_lt _ (by omega)
  have h2 : j / C < R := Nat.div_lt_of_lt_mul hj
  unfold LeafIn leafAt
  simp only
  generalize j % C = u at *
  generalize j / C = v at *
  exact ⟨by omega, by omega, Or.inl rfl, Or.inl rfl⟩
variable (c0 S)
def readB (x : FN) : Bool := decide (x.C * x.R = 1) && inOrd ((x.P.getD 0 []).flatMap (rdP c0 S))
def mayN (x : FN) : Bool := x.P.all fun l => mayL (pgs c0 S l)
/-- The first folds, so many, by which it reads in order. -/
def lv : Nat → FN → Option (List Fold)
  | 0, x => if readB c0 S x = true then some [] else none
  | k + 1, x => (optsF x.C x.R).findSome? fun f => (lv k (kidF x f)).map (f :: ·)
/-- The reference's search: at most so many folds. -/
def srch : Nat → FN → Option (List Fold)
  | 0, x => if x.C * x.R = 1 then (if inOrd ((x.P.getD 0 []).flatMap (rdP c0 S)) = true then some [] else none) else none
  | m + 1, x => if x.C * x.R = 1 then (if inOrd ((x.P.getD 0 []).flatMap (rdP c0 S)) = true then some [] else none) else (optsF x.C x.R).findSome? fun f => (srch m (kidF x f)).map (f :: ·)
def hit (L : List FN) : Option (List Fold) := L.findSome? fun x => if (mayN c0 S x && readB c0 S x) = true then some x.L else none
def nextF (L : List FN) : List FN := (L.filter (mayN c0 S)).flatMap kidsF
/-- The program's search, level by level. -/
def bfs : Nat → List FN → Option (List Fold)
  | 0, _ => none
  | n + 1, L => (hit c0 S L).or (bfs n (nextF c0 S L))
def lvs (k : Nat) (L : List FN) : Option (List Fold) := L.findSome? fun x => (lv c0 S k x).map (x.L ++ ·)
variable {c0 S}
theorem pile_one (h : PileOk x.C x.R x.P) (h1 : x.C * x.R = 1) : ∃ l, x.P = [l] := List.length_eq_one_iff.1 (by rw [h.len, h1])
/-- Each place comes to lie in one of the places behind a fold. -/
theorem stp_kid (h : NOk c0 r0 x) {f : Fold} (hf : f ∈ optsF x.C x.R) (hk : ∀ l ∈ (kidF x f).P, Stp (pgs c0 S l)) : ∀ l ∈ x.P, Stp (pgs c0 S l) := by
  intro l hl
  have kk := h.kidOk hf
  have hC := h.hC; have hR := h.hR
  obtain ⟨j, hj, rfl⟩ := List.getElem_of_mem hl
  have hjm : j < x.C * x.R := by rw [← h.pile.len]; exact hj
  obtain ⟨mc, mr, hmC, hmR, hme⟩ : ∃ mc mr, mc < x.C ∧ mr < x.R ∧ mr * x.C + mc = j :=
    ⟨j % x.C, j / x.C, Nat.mod_lt _ (by omega), Nat.div_lt_of_lt_mul hjm, by rw [Nat.mul_comm]; exact Nat.div_add_mod j x.C⟩
  obtain ⟨q1, q2, -, -⟩ := way_ok (C := (x.C : Int)) (R := (x.R : Int)) (f := f) (c := (mc : Int)) (r := (mr : Int)) (by omega) (by omega) kk.err (by omega) (by omega)
  obtain ⟨c', hc'⟩ : ∃ n : Nat, (wayOf x.C x.R f mc mr).c = n := ⟨(wayOf x.C x.R f mc mr).c.toNat, by omega⟩
  obtain ⟨r', hr'⟩ : ∃ n : Nat, (wayOf x.C x.R f mc mr).r = n := ⟨(wayOf x.C x.R f mc mr).r.toNat, by omega⟩
  have e1 := kk.eC; have e2 := kk.eR
  have hcl : c' < (afterC x.C f).toNat := by omega
  have hrl : r' < (afterR x.R f).toNat := by omega
  have hw := (way_src (C := x.C) (R := x.R) (f := f) hC hR kk.err kk.eC kk.eR hcl hrl hmC hmR).1.1 ⟨hc', hr'⟩
  have hpl := hk (placeF x.C x.R f x.P c' r') (by
    have e := outF_at (C := x.C) (R := x.R) (f := f) (P := x.P) hcl hrl
    have hlen : r' * (afterC x.C f).toNat + c' < (outF x.C x.R (afterC x.C f).toNat (afterR x.R f).toNat f x.P).length := by rw [outF_len]; exact mul_lt hrl hcl
    rw [getD_in [] hlen] at e
    rw [← e]; exact List.getElem_mem hlen)
  have hg : x.P.getD j [] = x.P[j] := getD_in [] hj
  have hb := h.pile.bits _ (List.getElem_mem hj)
  unfold placeF at hpl
  rw [pgs_app] at hpl
  rcases hw with hw | hw
  · rw [hw] at hpl
    have := hpl.right
    simp only [hme, hg] at this
    have hpt : plainT f = 0 := by unfold plainT; rw [if_neg (by have := kk.k4; omega)]
    rw [hpt, pgs_plain hb] at this
    exact this
  · rw [hw] at hpl
    have := hpl.left
    simp only [hme, hg] at this
    rw [pgs_over hb] at this
    exact this.of_rev
theorem lv_stp : ∀ (k : Nat) (x : FN), NOk c0 r0 x → lv c0 S k x ≠ none → ∀ l ∈ x.P, Stp (pgs c0 S l)
  | 0, x, h, hn => by
    unfold lv at hn
    split at hn
    · rename_i hr
      unfold readB at hr
      simp only [Bool.and_eq_true, decide_eq_true_eq] at hr
      obtain ⟨l, hl⟩ := pile_one h.pile hr.1
      rw [hl] at hr ⊢
      intro l2 h2
      rw [List.mem_singleton.1 h2]
      exact inOrd_stp hr.2
    · exact absurd rfl hn
  | k + 1, x, h, hn => by
    unfold lv at hn
    obtain ⟨y, hy⟩ := Option.ne_none_iff_exists'.1 hn
    obtain ⟨f, hf, he⟩ := List.exists_of_findSome?_eq_some hy
    refine stp_kid h hf (lv_stp k (kidF x f) (h.kid hf) (fun e => ?_))
    rw [e] at he; cases he
theorem lv_may {k : Nat} (h : NOk c0 r0 x) (hn : lv c0 S k x ≠ none) : mayN c0 S x = true := by
  unfold mayN
  rw [List.all_eq_true]
  intro l hl
  refine (lv_stp k x h hn l hl).may ?_
  rw [pgs_len]
  have := h.pile.pos l hl
  omega
theorem hit_lvs {L : List FN} (h : ∀ x ∈ L, NOk c0 r0 x) : hit c0 S L = lvs c0 S 0 L := by
  induction L with
  | nil => rfl
  | cons x L ih =>
    unfold hit lvs at ih ⊢
    rw [List.findSome?_cons, List.findSome?_cons, ih (fun y hy => h y (List.mem_cons_of_mem _ hy))]
    have hx := h x List.mem_cons_self
    have e : (if (mayN c0 S x && readB c0 S x) = true then some x.L else none) = (lv c0 S 0 x).map (x.L ++ ·) := by
      unfold lv
      by_cases hr : readB c0 S x = true
      · have := lv_may (k := 0) hx (show lv c0 S 0 x ≠ none by unfold lv; rw [if_pos hr]; simp)
        rw [if_pos (by rw [this, hr]; try rfl), if_pos hr]; simp
      · rw [if_neg (by simp [hr]), if_neg hr]; rfl
    rw [e]
theorem findSome_map {α β γ : Type} (g : α → β) (f : β → Option γ) (l : List α) : (l.map g).findSome? f = l.findSome? fun a => f (g a) := by
  induction l with
  | nil => rfl
  | cons a l ih => rw [List.map_cons, List.findSome?_cons, List.findSome?_cons, ih]
theorem map_findSome {α β γ : Type} (g : β → γ) (f : α → Option β) (l : List α) : (l.findSome? f).map g = l.findSome? fun a => (f a).map g := by
  induction l with
  | nil => rfl
  | cons a l ih =>
    rw [List.findSome?_cons, List.findSome?_cons]
    cases f a with
    | none => exact ih
    | some b => rfl
theorem lvs_next {L : List FN} (k : Nat) (h : ∀ x ∈ L, NOk c0 r0 x) : lvs c0 S (k + 1) L = lvs c0 S k (nextF c0 S L) := by
  induction L with
  | nil => rfl
  | cons x L ih =>
    have ih := ih (fun y hy => h y (List.mem_cons_of_mem _ hy))
    have hx := h x List.mem_cons_self
    have e1 : lvs c0 S (k + 1) (x :: L) = ((lv c0 S (k + 1) x).map (x.L ++ ·)).or (lvs c0 S (k + 1) L) := by
      unfold lvs; rw [List.findSome?_cons]; cases (lv c0 S (k + 1) x).map (x.L ++ ·) <;> rfl
    have e2 : lvs c0 S k (kidsF x) = (lv c0 S (k + 1) x).map (x.L ++ ·) := by
      unfold lvs kidsF
      rw [findSome_map]
      conv => rhs; unfold lv
      rw [map_findSome]
      congr 1
      funext f
      rw [Option.map_map]
      show (lv c0 S k (kidF x f)).map (fun l => (x.L ++ [f]) ++ l) = _
      congr 1
      funext l
      simp
    rw [e1, ih]
    by_cases hm : mayN c0 S x = true
    · have e3 : nextF c0 S (x :: L) = kidsF x ++ nextF c0 S L := by unfold nextF; rw [List.filter_cons, if_pos hm, List.flatMap_cons]
      rw [e3, ← e2]
      unfold lvs
      rw [List.findSome?_append]
    · have e3 : nextF c0 S (x :: L) = nextF c0 S L := by unfold nextF; rw [List.filter_cons, if_neg hm]
      have e4 : lv c0 S (k + 1) x = none := by
        rcases ho : lv c0 S (k + 1) x with _ | l
        · rfl
        · exact absurd (lv_may hx (by rw [ho]; simp)) hm
      rw [e3, e4]; try rfl
theorem next_ok {L : List FN} (h : ∀ x ∈ L, NOk c0 r0 x) : ∀ x ∈ nextF c0 S L, NOk c0 r0 x := by
  intro x hx
  unfold nextF at hx
  obtain ⟨y, hy, hxy⟩ := List.mem_flatMap.1 hx
  obtain ⟨f, hf, rfl⟩ := List.mem_map.1 hxy
  exact (h y (List.mem_filter.1 hy).1).kid hf
theorem bfs_lvs : ∀ (n : Nat) (L : List FN), (∀ x ∈ L, NOk c0 r0 x) → bfs c0 S n L = (List.range n).findSome? fun k => lvs c0 S k L
  | 0, _, _ => rfl
  | n + 1, L, h => by
    unfold bfs
    rw [hit_lvs h, bfs_lvs n _ (next_ok h), List.range_succ_eq_map, List.findSome?_cons, findSome_map]
    have e : (fun k => lvs c0 S (k + 1) L) = fun k => lvs c0 S k (nextF c0 S L) := by funext k; exact lvs_next k h
    rw [show (fun a => lvs c0 S (Nat.succ a) L) = fun k => lvs c0 S k (nextF c0 S L) from e]
    cases lvs c0 S 0 L <;> rfl
theorem bfs_none : ∀ n, bfs c0 S n [] = none
  | 0 => rfl
  | n + 1 => by unfold bfs; exact bfs_none n
theorem opts_one {C R : Nat} (hC : 1 ≤ C) (hR : 1 ≤ R) (h : C * R = 1) : C = 1 ∧ R = 1 := by
  have h1 : C * 1 ≤ C * R := Nat.mul_le_mul_left _ hR
  have h2 : 1 * R ≤ C * R := Nat.mul_le_mul_right _ hC
  omega
theorem srch_lv : ∀ (m : Nat) (x : FN), NOk c0 r0 x → (∀ j, j < m → lv c0 S j x = none) → srch c0 S m x = lv c0 S m x
  | 0, x, h, _ => by
    unfold srch lv readB
    by_cases h1 : x.C * x.R = 1
    · rw [if_pos h1]; simp [h1]
    · rw [if_neg h1, if_neg (by simp [h1])]
  | m + 1, x, h, hn => by
    unfold srch
    by_cases h1 : x.C * x.R = 1
    · have h0 := hn 0 (by omega)
      unfold lv readB at h0
      rw [if_pos h1]
      obtain ⟨hc, hr⟩ := opts_one h.hC.1 h.hR.1 h1
      have ho : optsF x.C x.R = [] := by rw [hc, hr]; try rfl
      unfold lv
      rw [ho]
      simp [h1] at h0
      rw [if_neg (by simp [h0])]; rfl
    · rw [if_neg h1]
      unfold lv
      refine findSome_congr ?_
      intro f hf
      rw [srch_lv m (kidF x f) (h.kid hf) (fun j hj => ?_)]
      have := hn (j + 1) (by omega)
      unfold lv at this
      have := (List.findSome?_eq_none_iff.1 this) f hf
      simpa using this
where
  findSome_congr {α β : Type} {l : List α} {f g : α → Option β} (h : ∀ a ∈ l, f a = g a) : l.findSome? f = l.findSome? g := by
    induction l with
    | nil => rfl
    | cons a l ih => rw [List.findSome?_cons, List.findSome?_cons, h a List.mem_cons_self, ih (fun b hb => h b (List.mem_cons_of_mem _ hb))]
theorem srch_len : ∀ (m : Nat) (x : FN) (l : List Fold), srch c0 S m x = some l → l.length ≤ m
  | 0, x, l, h => by
    unfold srch at h
    split at h
    · split at h
      · cases h; exact Nat.le_refl _
      · cases h
    · cases h
  | m + 1, x, l, h => by
    unfold srch at h
    split at h
    · split at h
      · cases h; exact Nat.zero_le _
      · cases h
    · obtain ⟨f, hf, he⟩ := List.exists_of_findSome?_eq_some h
      obtain ⟨l2, h2, rfl⟩ := Option.map_eq_some_iff.1 he
      have := srch_len m _ _ h2
      rw [List.length_cons]; omega
theorem lv_end : ∀ (k : Nat) (x : FN), NOk c0 r0 x → x.C + x.R ≤ k + 1 → lv c0 S k x = none
  | 0, x, h, hk => by have := h.hC; have := h.hR; omega
  | k + 1, x, h, hk => by
    unfold lv
    rw [List.findSome?_eq_none_iff]
    intro f hf
    have kk := h.kidOk hf
    have := lv_end k (kidF x f) (h.kid hf) (show (afterC x.C f).toNat + (afterR x.R f).toNat ≤ k + 1 by have := kk.sum; have := kk.c1; omega)
    rw [this]; try rfl
/-- Both searches find the same. -/
theorem srch_range (h : NOk c0 r0 x) : ∀ n, (List.range n).findSome? (fun m => srch c0 S m x) = (List.range n).findSome? fun m => lv c0 S m x
  | 0 => rfl
  | n + 1 => by
    rw [List.range_succ, List.findSome?_append, List.findSome?_append, srch_range h n]
    rcases ho : (List.range n).findSome? fun m => lv c0 S m x with _ | l
    · rw [List.findSome?_eq_none_iff] at ho
      have := srch_lv n x h (fun j hj => ho j (List.mem_range.2 hj))
      simp [this]
    · rfl
theorem range_more (h : NOk c0 r0 x) {n : Nat} (hn : x.C + x.R ≤ n + 1) : ∀ d, (List.range (n + d)).findSome? (fun m => lv c0 S m x) = (List.range n).findSome? fun m => lv c0 S m x
  | 0 => rfl
  | d + 1 => by
    rw [← Nat.add_assoc, List.range_succ, List.findSome?_append, range_more h hn d]
    have := lv_end (S := S) (n + d) x h (by omega)
    simp [this]
theorem lvs_one (k : Nat) (h : x.L = []) : lvs c0 S k [x] = lv c0 S k x := by
  unfold lvs
  rw [List.findSome?_cons, h]
  rcases lv c0 S k x with _ | l <;> rfl
/-- What the program finds is what the reference finds. -/
theorem bfs_srch (h : NOk c0 r0 x) (hL : x.L = []) {n : Nat} (hn : x.C + x.R ≤ n + 1) : bfs c0 S n [x] = (List.range (x.C + x.R - 1)).findSome? fun m => srch c0 S m x := by
  rw [bfs_lvs n [x] (by intro y hy; rw [List.mem_singleton.1 hy]; exact h), srch_range h]
  have e : (fun k => lvs c0 S k [x]) = fun k => lv c0 S k x := by funext k; exact lvs_one k hL
  rw [e]
  have := range_more (S := S) h (n := x.C + x.R - 1) (by have := h.hC; omega) (n - (x.C + x.R - 1))
  rw [show x.C + x.R - 1 + (n - (x.C + x.R - 1)) = n by have := h.hC; omega] at this
  exact this
/-- What is found are folds, by which it is read in order. -/
theorem lv_sound : ∀ (k : Nat) (x : FN) (l : List Fold), NOk c0 r0 x → lv c0 S k x = some l → l.length = k ∧ (∀ i, (foldsErr x.C x.R l i).2 = 0) ∧ inOrd (((runF x.C x.R x.P l).2.2.getD 0 []).flatMap (rdP c0 S)) = true ∧ ∀ f ∈ l, 1 ≤ f.c ∧ f.c ≤ 4
  | 0, x, l, h, hl => by
    unfold lv at hl
    split at hl
    · rename_i hr
      cases hl
      unfold readB at hr
      simp only [Bool.and_eq_true, decide_eq_true_eq] at hr
      refine ⟨rfl, fun i => ?_, hr.2, fun f hf => absurd hf List.not_mem_nil⟩
      have : ¬ 1 < (x.C : Int) * x.R := by have : ((x.C * x.R : Nat) : Int) = 1 := by rw [hr.1]; try rfl
                                           push_cast at this; omega
      unfold foldsErr; rw [if_neg this]
    · cases hl
  | k + 1, x, l, h, hl => by
    unfold lv at hl
    obtain ⟨f, hf, he⟩ := List.exists_of_findSome?_eq_some hl
    obtain ⟨l2, h2, rfl⟩ := Option.map_eq_some_iff.1 he
    have kk := h.kidOk hf
    obtain ⟨i1, i2, i3, i4⟩ := lv_sound k (kidF x f) l2 (h.kid hf) h2
    refine ⟨by rw [List.length_cons, i1], fun i => ?_, i3, fun g hg => ?_⟩
    · have e : foldsErr x.C x.R (f :: l2) i = foldsErr (afterC x.C f) (afterR x.R f) l2 (i + 1) := by
        show (if _ then _ else _) = _
        rw [if_neg (by simp [kk.err])]
      rw [e, kk.eC, kk.eR]
      exact i2 (i + 1)
    · rcases List.mem_cons.1 hg with rfl | hg
      · exact kk.c1
      · exact i4 g hg
theorem lv_complete : ∀ (l : List Fold) (x : FN) (i : Int), NOk c0 r0 x → (foldsErr x.C x.R l i).2 = 0 → (∀ f ∈ l, 1 ≤ f.k ∧ f.k ≤ 4) → inOrd (((runF x.C x.R x.P l).2.2.getD 0 []).flatMap (rdP c0 S)) = true → lv c0 S l.length x ≠ none
  | [], x, i, h, he, _, ho => by
    unfold foldsErr at he
    have h1 : ¬ 1 < (x.C : Int) * x.R := fun e => by rw [if_pos e] at he; simp at he
    have h2 : x.C * x.R ≤ 1 := by
      have : ((x.C * x.R : Nat) : Int) ≤ 1 := by push_cast; omega
      omega
    have h3 : 1 * 1 ≤ x.C * x.R := Nat.mul_le_mul h.hC.1 h.hR.1
    show lv c0 S 0 x ≠ none
    unfold lv readB
    rw [if_pos (by simp only [Bool.and_eq_true, decide_eq_true_eq]; exact ⟨by omega, ho⟩)]
    simp
  | f :: l, x, i, h, he, hk, ho => by
    obtain ⟨h1, h2⟩ := foldsErr_ok (L := f :: l) (k := 0) (Nat.succ_pos _) he
    have h1 : foldErr x.C x.R f = 0 := h1
    have hf : f ∈ optsF x.C x.R := optsF_err.2 ⟨hk f List.mem_cons_self, h1⟩
    have kk := h.kidOk hf
    have h2 : (foldsErr (afterC x.C f) (afterR x.R f) l (i + 1)).2 = 0 := h2
    rw [kk.eC, kk.eR] at h2
    have ih := lv_complete l (kidF x f) (i + 1) (h.kid hf) h2 (fun g hg => hk g (List.mem_cons_of_mem _ hg)) ho
    show lv c0 S (l.length + 1) x ≠ none
    unfold lv
    intro e
    have := (List.findSome?_eq_none_iff.1 e) f hf
    simp at this
    exact ih this
end
/-- How many folded sheets come of one. -/
def tot : Nat → Nat → Nat → Nat
  | 0, _, _ => 1
  | n + 1, C, R => 1 + ((optsF C R).map fun f => tot n (afterC C f).toNat (afterR R f).toNat).sum
theorem tot_pos (n C R : Nat) : 1 ≤ tot n C R := by cases n <;> unfold tot <;> omega
theorem tot_small : ∀ C, C < 9 → ∀ R, R < 9 → C * R ≤ 12 → tot 10 C R ≤ 900000 := by decide +kernel
def totL (n : Nat) (L : List FN) : Nat := (L.map fun x => tot n x.C x.R).sum
theorem totL_app (n : Nat) (a b : List FN) : totL n (a ++ b) = totL n a + totL n b := by unfold totL; rw [List.map_append, List.sum_append_nat]
theorem totL_len (n : Nat) : ∀ L : List FN, L.length ≤ totL n L
  | [] => Nat.le_refl _
  | x :: L => by
    have := totL_len n L; have := tot_pos n x.C x.R
    show L.length + 1 ≤ tot n x.C x.R + totL n L
    omega
theorem totL_kids (n : Nat) (x : FN) : totL n (kidsF x) + 1 = tot (n + 1) x.C x.R := by
  rw [show tot (n + 1) x.C x.R = 1 + ((optsF x.C x.R).map fun f => tot n (afterC x.C f).toNat (afterR x.R f).toNat).sum from rfl]
  unfold totL kidsF
  rw [List.map_map]
  exact Nat.add_comm _ _
theorem totL_next {c0 : Int} {S : List Cell} (n : Nat) : ∀ L : List FN, totL n (nextF c0 S L) ≤ totL (n + 1) L
  | [] => Nat.le_refl _
  | x :: L => by
    have ih := totL_next (c0 := c0) (S := S) n L
    have hk := totL_kids n x
    show _ ≤ tot (n + 1) x.C x.R + totL (n + 1) L
    by_cases hm : mayN c0 S x = true
    · have e3 : nextF c0 S (x :: L) = kidsF x ++ nextF c0 S L := by unfold nextF; rw [List.filter_cons, if_pos hm, List.flatMap_cons]
      rw [e3, totL_app]; omega
    · have e3 : nextF c0 S (x :: L) = nextF c0 S L := by unfold nextF; rw [List.filter_cons, if_neg hm]
      rw [e3]; omega
end Go.Proofs.Ytmolejpbpcodbaa

namespace Go.Proofs.Ytmolejpbpcodbaa
open Go.RowKit

/-- A slice of structs of the call's own; each has n cells. -/
def OwnG {α : Type} (n : Nat) (E : TypeId) (g : α → List Value) (w : World) (B : Nat) (v : Value) (L : List α) : Prop := w.ownsRow B E n v L.length (L.flatMap g)
/-- A slice of structs, read. -/
def RowsG {α : Type} (n : Nat) (g : α → List Value) (w : World) (a : Option Addr) (L : List α) : Prop :=
  ∀ k (hk : k < L.length), ∃ ad, a = some ad ∧ ad.block < w.heap.size ∧ ∀ j, j < n → w.cell? (fld (ad.add (k * n)) j) = some ((g L[k]).getD j (.int .i64 0))
/-- What is known of an element type and its slice type. -/
structure ElG (n by_ : Nat) (ST E : TypeId) (z : Value) : Prop where
  sl : Try.prog.underlying ST = some (.slice E)
  info : (Try.prog.info? E).map (fun i => (i.zero, i.size, i.bytes)) = some (some z, n, by_)
  zs : z.cells.size = n
  pos : 0 < n
  by64 : by_ ≤ 64
theorem flatG_len {α : Type} {n : Nat} {g : α → List Value} (hg : ∀ x, (g x).length = n) : ∀ L : List α, (L.flatMap g).length = L.length * n
  | [] => by simp
  | x :: L => by rw [List.flatMap_cons, List.length_append, hg x, flatG_len hg L, List.length_cons, Nat.succ_mul]; omega
theorem flatG_at {α : Type} {n : Nat} {g : α → List Value} (hg : ∀ x, (g x).length = n) : ∀ (L : List α) (k j : Nat) (hk : k < L.length), j < n → (L.flatMap g)[k * n + j]? = some ((g L[k]).getD j (.int .i64 0))
  | [], _, _, hk, _ => absurd hk (Nat.not_lt_zero _)
  | x :: L, 0, j, _, hj => by
    rw [List.flatMap_cons, Nat.zero_mul, Nat.zero_add, List.getElem?_append_left (by rw [hg x]; exact hj), List.getD_eq_getElem?_getD, List.getElem?_eq_getElem (by rw [hg x]; exact hj)]
    simp [List.getElem?_eq_getElem (show j < (g x).length by rw [hg x]; exact hj)]
  | x :: L, k + 1, j, hk, hj => by
    rw [List.flatMap_cons, List.getElem?_append_right (by rw [hg x, Nat.succ_mul]; omega), hg x, show (k + 1) * n + j - n = k * n + j by rw [Nat.succ_mul]; omega]
    exact flatG_at hg L k j (by simpa using hk) hj
theorem flatG_one {α : Type} {g : α → List Value} (ho : ∀ x, ∀ u ∈ g x, u.oneCell' = true) (L : List α) : ∀ u ∈ L.flatMap g, u.oneCell' = true := by
  intro u hu
  obtain ⟨x, _, hx⟩ := List.mem_flatMap.1 hu
  exact ho x u hx
section
variable {α : Type} {n by_ : Nat} {ST E : TypeId} {z : Value} {g : α → List Value} {w w' : World} {B B' : Nat} {v : Value} {L : List α} {a : Option Addr}
theorem RowsG.below (h : RowsG n g w a L) (hb : Below w.heap.size w w') : RowsG n g w' a L := fun k hk => by
  obtain ⟨ad, e, hlt, hs⟩ := h k hk
  exact ⟨ad, e, Nat.lt_of_lt_of_le hlt hb.size, fun j hj => (hb.cell (by rw [fld_block, add_block]; exact hlt)).trans (hs j hj)⟩
theorem RowsG.alloc (h : RowsG n g w a L) (o : Obj) : RowsG n g (w.alloc o) a L := h.below ((Below.refl _ _).alloc (Nat.le_refl _) o)
theorem RowsG.drop_none (h : RowsG n g w none L) : L = [] := by
  cases L with
  | nil => rfl
  | cons x r => obtain ⟨ad, e, _⟩ := h 0 (Nat.succ_pos _); cases e
theorem OwnG.nil (w : World) (B : Nat) : OwnG n E g w B (.slice none 0 0) [] := World.ownsRow_nil _ _ _ _
theorem OwnG.rows (h : OwnG n E g w B v L) (hg : ∀ x, (g x).length = n) : ∃ (a : Option Addr) (c : Nat), v = .slice a L.length c ∧ RowsG n g w a L ∧ (a = none → c = 0) ∧ ∀ ad, a = some ad → B ≤ ad.block := by
  have h' : w.ownsRow B E n v L.length (L.flatMap g) := h
  rcases h'.2 with ⟨e1, e2⟩ | ⟨gg, cap, cur, e1, hB, hh, hc, hm, _⟩
  · exact ⟨none, 0, by rw [e1, e2], fun k hk => by omega, fun _ => rfl, fun _ e => (by cases e)⟩
  · subst e1
    refine ⟨_, cap, rfl, fun k hk => ⟨_, rfl, (h'.lt gg rfl).2, fun j hj => ?_⟩, fun e => (by cases e), fun ad e => (by cases e; exact hB)⟩
    rw [add0, fld_own]
    have e1 := h'.cells (g := gg) rfl (k * n + j) ((g L[k]).getD j (.int .i64 0)) (flatG_at hg L k j hk hj)
    rw [add0] at e1; exact e1
theorem OwnG.lt (h : OwnG n E g w B v L) : ∀ k, v.ownBlock = some k → B ≤ k ∧ k < w.heap.size := World.ownsRow.lt h
theorem OwnG.below (h : OwnG n E g w B v L) (hb : Below w.heap.size w w') : OwnG n E g w' B v L := by
  rcases h.2 with ⟨e1, e2⟩ | ⟨gg, cap, cur, e1, e2, e3, e4⟩
  · exact ⟨h.1, Or.inl ⟨e1, e2⟩⟩
  · exact ⟨h.1, Or.inr ⟨gg, cap, cur, e1, e2, (hb.block gg ((h.lt gg (by rw [e1]; try rfl)).2)).trans e3, e4⟩⟩
theorem OwnG.mono (h : OwnG n E g w B v L) (hB : B' ≤ B) : OwnG n E g w B' v L := by
  rcases h.2 with ⟨e1, e2⟩ | ⟨gg, cap, cur, e1, e2, e3, e4⟩
  · exact ⟨h.1, Or.inl ⟨e1, e2⟩⟩
  · exact ⟨h.1, Or.inr ⟨gg, cap, cur, e1, Nat.le_trans hB e2, e3, e4⟩⟩
theorem OwnG.drew (h : OwnG n E g w B v L) : OwnG n E g w.drew B v L := h
theorem OwnG.alloc (h : OwnG n E g w B v L) (o : Obj) : OwnG n E g (w.alloc o) B v L := h.below ((Below.refl _ _).alloc (Nat.le_refl _) o)
theorem OwnG.set (h : OwnG n E g w B v L) {p : Addr} (hp : v.ownBlock ≠ some p.block) (u : Value) : OwnG n E g (w.setCell p u) B v L := by
  rcases h.2 with ⟨e1, e2⟩ | ⟨gg, cap, cur, e1, e2, e3, e4⟩
  · exact ⟨h.1, Or.inl ⟨e1, e2⟩⟩
  · exact ⟨h.1, Or.inr ⟨gg, cap, cur, e1, e2, (Below.heap_setCell _ _ _ _ (fun e => hp (by rw [e1]; show some gg = _; rw [e]))).trans e3, e4⟩⟩
theorem OwnG.grown (h : OwnG n E g w B v L) {row : Option Nat} (hg : w.grownBy w' row) (hne : ∀ q, v.ownBlock = some q → some q ≠ row) : OwnG n E g w' B v L := by
  rcases h.2 with ⟨e1, e2⟩ | ⟨gg, cap, cur, e1, e2, e3, e4⟩
  · exact ⟨h.1, Or.inl ⟨e1, e2⟩⟩
  · exact ⟨h.1, Or.inr ⟨gg, cap, cur, e1, e2, (hg.block gg ((h.lt gg (by rw [e1]; try rfl)).2) (hne gg (by rw [e1]; try rfl))).trans e3, e4⟩⟩
/-- 'append(l, x)' at a slice of the call's own, x lying in a block made ahead of it. -/
theorem wpList_appG1 (T : ElG n by_ ST E z) (hg : ∀ x, (g x).length = n) (ho1 : ∀ x, ∀ u ∈ g x, u.oneCell' = true) {ops : Array Oper} {rest : List Oper} {o : Oper} {a : Act} {Q : Exit → Act → World → Prop} (w0 : World) (x : α) (cs : Array Value) (hcs : cs = (g x).toArray) (hgd : o.guard = none) (s xo : Operand)
    (ho : o.op = .call { callee := .builtin .append, args := #[s, xo], argTypes := #[ST, ST] }) (B : Nat) (v : Value) (L : List α) (hs : a.eval s = v) (hown : OwnG n E g w0 B v L)
    (hx : a.eval xo = .slice (some ⟨w0.heap.size, 0, none⟩) 1 1) (hl : L.length ≤ 1000000) (hB : B ≤ w0.heap.size)
    (h : ∀ v' w', OwnG n E g w' B v' (L ++ [x]) → w0.grownBy w' v.ownBlock → Below B w0 w' → (v'.ownBlock = v.ownBlock ∨ ∃ q, v'.ownBlock = some q ∧ w0.heap.size ≤ q) → wpList Try.prog ops Q rest (a.put o.dst v') w') :
    wpList Try.prog ops Q (o :: rest) a (w0.alloc (.cells cs E)) := by
  obtain ⟨i0, hi0, hz0, hz1, hz2⟩ := info_parts T.info
  subst hcs
  have hbl := T.by64
  refine wpList_append_lies _ hgd s xo ST ho B E i0 z n by_ T.sl hi0 hz0 hz1 hz2 T.zs T.pos v L.length (L.flatMap g) hs (World.ownsRow.alloc hown _) ⟨w0.heap.size, 0, none⟩ 1 1 (g x) hx (by simp [hg x])
    (by simpa using World.news_of_block (cs := (g x).toArray) (t := E) (fr := (0, 0)) (heap_alloc_new w0 _)) (ho1 x) (by omega) (by unfold maxLen; omega) (Nat.le_trans (Nat.mul_le_mul_left _ hbl) (by omega)) (by simp; omega) (w0.heap.size + 1) (by simp) ?_
  intro gg cap w' hown' hgrow' hor _
  rw [show L.flatMap g ++ g x = (L ++ [x]).flatMap g by simp] at hown'
  refine h (.slice (some ⟨gg, 0, none⟩) (L.length + 1) cap) w' (by unfold OwnG; rw [List.length_append]; exact hown') ((World.grownBy_alloc w0 _ _).trans hgrow') (((Below.refl B w0).alloc hB _).grown hgrow' (by simp; omega) (fun k hk => (hown.lt k hk).1)) ?_
  rcases hor with hor | hor
  · exact Or.inl hor.symm
  · exact Or.inr ⟨gg, rfl, by omega⟩
/-- 'append(l, m...)' at a slice of the call's own. -/
theorem wpList_appG (T : ElG n by_ ST E z) (hg : ∀ x, (g x).length = n) (ho1 : ∀ x, ∀ u ∈ g x, u.oneCell' = true) {ops : Array Oper} {rest : List Oper} {o : Oper} {a : Act} {Q : Exit → Act → World → Prop} (w : World) (hgd : o.guard = none) (s xo : Operand)
    (ho : o.op = .call { callee := .builtin .append, args := #[s, xo], argTypes := #[ST, ST] }) (B : Nat) (v : Value) (L : List α) (hs : a.eval s = v) (hown : OwnG n E g w B v L)
    (b : Option Addr) (M : List α) (m c : Nat) (hm : m = M.length) (hx : a.eval xo = .slice b m c) (hM : RowsG n g w b M) (hbc : b = none → c = 0) (hl : L.length ≤ 1000000) (hl2 : M.length ≤ 1000000) (hB : B ≤ w.heap.size)
    (h : ∀ v' w', OwnG n E g w' B v' (L ++ M) → w.grownBy w' v.ownBlock → Below B w w' → (v'.ownBlock = v.ownBlock ∨ v'.ownBlock = some w.heap.size) → wpList Try.prog ops Q rest (a.put o.dst v') w') :
    wpList Try.prog ops Q (o :: rest) a w := by
  subst hm
  obtain ⟨i0, hi0, hz0, hz1, hz2⟩ := info_parts T.info
  have hbl := T.by64
  cases b with
  | none =>
    have hM0 := hM.drop_none
    subst hM0
    have hc := hbc rfl
    subst hc
    refine wpList_append_own_none hgd s xo ST ho B E i0 n T.sl hi0 v L.length (L.flatMap g) hs hown hx (h v w (by rw [List.append_nil]; exact hown) ⟨rfl, rfl, rfl, Nat.le_refl _, fun _ _ _ => rfl⟩ (Below.refl _ _) (Or.inl rfl))
  | some ad =>
    refine wpList_plain hgd fun K hK => ?_
    obtain ⟨v', w', hr, h2, h3, h4, h5⟩ := run_append_own_at (P := Try.prog) w B ST o.type E i0 z n by_ T.sl hi0 hz0 hz1 hz2 T.zs T.pos v L.length (L.flatMap g) hown ad M.length c (M.flatMap g)
      (flatG_len hg M) (fun j u hj => by
        have hjl : j < M.length * n := by
          have := (List.getElem?_eq_some_iff.1 hj).1
          simpa [flatG_len hg M] using this
        have hn := T.pos
        have hk : j / n < M.length := Nat.div_lt_of_lt_mul (by rw [Nat.mul_comm]; exact hjl)
        have hjn : j % n < n := Nat.mod_lt _ hn
        have ej : j / n * n + j % n = j := by rw [Nat.mul_comm]; exact Nat.div_add_mod j n
        obtain ⟨ad', e, _, hs⟩ := hM (j / n) hk
        cases e
        have e1 := hs (j % n) hjn
        have e2 := flatG_at hg M (j / n) (j % n) hk hjn
        rw [ej] at e2
        rw [e2] at hj
        have e3 : fld (ad.add (j / n * n)) (j % n) = ad.add j := by
          rcases Nat.eq_zero_or_pos (j % n) with h0 | h0
          · rw [h0]; show ad.add _ = _; rw [← ej, h0, Nat.add_zero, Nat.mul_div_cancel _ hn]
          · obtain ⟨q, hq⟩ : ∃ q, j % n = q + 1 := ⟨j % n - 1, by omega⟩
            rw [hq]
            show (⟨(ad.add (j / n * n)).block, (ad.add (j / n * n)).off + (q + 1), none⟩ : Addr) = ad.add j
            rw [← hq]
            unfold Addr.add
            by_cases hz : j / n * n = 0
            · rw [if_pos hz, if_neg (by omega)]
              have : j % n = j := by omega
              rw [this]
            · rw [if_neg hz, if_neg (by omega)]
              show (⟨ad.block, ad.off + j / n * n + j % n, none⟩ : Addr) = ⟨ad.block, ad.off + j, none⟩
              rw [Nat.add_assoc, ej]
        rw [← e3, e1]; exact hj) (flatG_one ho1 M) (by unfold maxLen; omega) (Nat.le_trans (Nat.mul_le_mul_left _ hbl) (by omega)) hB
    unfold Oper.wp execOp
    simp only [ho, resolve, invoke, builtin, Sem.run_bind, Sem.run_pure, Result.andThen_ok, List.map_toArray, List.map_cons, List.map_nil, hs, hx, hr]
    refine hK _ _ (h v' w' ?_ h3 ((Below.refl B w).grown h3 hB (fun k hk => (hown.lt k hk).1)) h5)
    unfold OwnG
    rw [List.flatMap_append, List.length_append]
    exact h2
end
end Go.Proofs.Ytmolejpbpcodbaa

namespace Go.Proofs.Ytmolejpbpcodbaa
open Go.RowKit

/-- A folding in memory. -/
structure FS where
  C : Nat
  R : Nat
  A : Option Addr
  n : Nat
  c : Nat
  Ps : List PS
  b : Option Addr
  m : Nat
  d : Nat
  L : List Fold
def FS.node (x : FS) : FN := ⟨x.C, x.R, x.Ps.map (·.l), x.L⟩
def FS.vs (x : FS) : List Value := [.int .i64 x.C, .int .i64 x.R, .slice x.A x.n x.c, .slice x.b x.m x.d]
theorem fs_len (x : FS) : x.vs.length = 4 := rfl
theorem fs_one (x : FS) : ∀ u ∈ x.vs, u.oneCell' = true := by
  intro u hu
  simp only [FS.vs, List.mem_cons, List.not_mem_nil, or_false] at hu
  rcases hu with rfl | rfl | rfl | rfl <;> rfl
theorem tFs : ElG 4 64 75 74 (.agg #[.int .i64 0, .int .i64 0, .slice none 0 0, .slice none 0 0]) := ⟨Try.underlying75, by kernel_rfl, rfl, by decide, by decide⟩
structure FRow (w : World) (x : FS) : Prop where
  n : x.n = x.Ps.length
  pl : PlacesAt w x.A x.Ps
  m : x.m = x.L.length
  fo : RowsAt 2 Fold.l w x.b x.L
  bd : x.b = none → x.d = 0
  uA : ∀ ad, x.A = some ad → ad.block < w.heap.size
  uP : ∀ y ∈ x.Ps, ∀ ad, y.a = some ad → ad.block < w.heap.size
  ub : ∀ ad, x.b = some ad → ad.block < w.heap.size
/-- All of it lies from block B on. -/
def FS.frm (x : FS) (B : Nat) : Prop := (∀ ad, x.A = some ad → B ≤ ad.block) ∧ (∀ y ∈ x.Ps, ∀ ad, y.a = some ad → B ≤ ad.block) ∧ ∀ ad, x.b = some ad → B ≤ ad.block
/-- None of it lies in block q. -/
def FS.off (x : FS) (q : Nat) : Prop := (∀ ad, x.A = some ad → ad.block ≠ q) ∧ (∀ y ∈ x.Ps, ∀ ad, y.a = some ad → ad.block ≠ q) ∧ ∀ ad, x.b = some ad → ad.block ≠ q
section
variable {w w' : World} {x : FS}
theorem FS.frm.mono {B B' : Nat} (h : x.frm B) (hB : B' ≤ B) : x.frm B' := ⟨fun ad e => Nat.le_trans hB (h.1 ad e), fun y hy ad e => Nat.le_trans hB (h.2.1 y hy ad e), fun ad e => Nat.le_trans hB (h.2.2 ad e)⟩
theorem FS.frm.off {B q : Nat} (h : x.frm B) (hq : q < B) : x.off q :=
  ⟨fun ad e h2 => by have := h.1 ad e; omega, fun y hy ad e h2 => by have := h.2.1 y hy ad e; omega, fun ad e h2 => by have := h.2.2 ad e; omega⟩
theorem FRow.off (h : FRow w x) {q : Nat} (hq : w.heap.size ≤ q) : x.off q :=
  ⟨fun ad e h2 => by have := h.uA ad e; omega, fun y hy ad e h2 => by have := h.uP y hy ad e; omega, fun ad e h2 => by have := h.ub ad e; omega⟩
theorem FRow.below (h : FRow w x) (hb : Below w.heap.size w w') : FRow w' x :=
  ⟨h.n, h.pl.below hb, h.m, h.fo.below hb, h.bd, fun ad e => Nat.lt_of_lt_of_le (h.uA ad e) hb.size, fun y hy ad e => Nat.lt_of_lt_of_le (h.uP y hy ad e) hb.size, fun ad e => Nat.lt_of_lt_of_le (h.ub ad e) hb.size⟩
theorem FRow.alloc (h : FRow w x) (o : Obj) : FRow (w.alloc o) x := h.below ((Below.refl _ _).alloc (Nat.le_refl _) o)
theorem grown_cell {row : Option Nat} (hg : w.grownBy w' row) {p : Addr} {v : Value} (hp : p.block < w.heap.size) (hr : ∀ q, row = some q → p.block ≠ q) (h : w.cell? p = some v) : w'.cell? p = some v :=
  (cell_block (hg.block p.block hp (fun e => hr _ e.symm rfl))).trans h
theorem RowsAt.grownR {α : Type} {n : Nat} {g : α → List Int} {a : Option Addr} {L : List α} {row : Option Nat} (h : RowsAt n g w a L) (hg : w.grownBy w' row) (hr : ∀ q, row = some q → ∀ ad, a = some ad → ad.block ≠ q) : RowsAt n g w' a L := fun k hk => by
  obtain ⟨ad, e, hlt, hs⟩ := h k hk
  exact ⟨ad, e, Nat.lt_of_lt_of_le hlt hg.size, fun j hj => grown_cell hg (by rw [fld_block, add_block]; exact hlt) (fun q e2 => by rw [fld_block, add_block]; exact hr q e2 ad e) (hs j hj)⟩
theorem FRow.grown (h : FRow w x) {row : Option Nat} (hg : w.grownBy w' row) (hr : ∀ q, row = some q → x.off q) : FRow w' x := by
  refine ⟨h.n, fun k hk => ?_, h.m, h.fo.grownR hg (fun q e => (hr q e).2.2), h.bd, fun ad e => Nat.lt_of_lt_of_le (h.uA ad e) hg.size, fun y hy ad e => Nat.lt_of_lt_of_le (h.uP y hy ad e) hg.size, fun ad e => Nat.lt_of_lt_of_le (h.ub ad e) hg.size⟩
  obtain ⟨ad, e, hlt, hc, hrw, hn⟩ := h.pl k hk
  exact ⟨ad, e, Nat.lt_of_lt_of_le hlt hg.size, grown_cell hg (by rw [add_block]; exact hlt) (fun q e2 => by rw [add_block]; exact (hr q e2).1 ad e) hc,
    hrw.grownR hg (fun q e2 => (hr q e2).2.1 _ (List.getElem_mem hk)), hn⟩
end
/-- 'append(l, m...)' at a slice of structs of the call's own, at a step of a region that draws. -/
theorem step_appG {α : Type} {n by_ : Nat} {ST E : TypeId} {z : Value} {g : α → List Value} (T : ElG n by_ ST E z) (hg : ∀ x, (g x).length = n) (ho1 : ∀ x, ∀ u ∈ g x, u.oneCell' = true) {ops : Array Oper} {o : Oper} {a : Act} {K : Act → World → Prop} {Q : Exit → Act → World → Prop} {E0 : Prop} (w : World) (hgd : o.guard = none) (s xo : Operand)
    (ho : o.op = .call { callee := .builtin .append, args := #[s, xo], argTypes := #[ST, ST] }) (B : Nat) (v : Value) (L : List α) (hs : a.eval s = v) (hown : OwnG n E g w B v L)
    (b : Option Addr) (M : List α) (m c : Nat) (hm : m = M.length) (hx : a.eval xo = .slice b m c) (hM : RowsG n g w b M) (hbc : b = none → c = 0) (hl : L.length ≤ 1000000) (hl2 : M.length ≤ 1000000) (hB : B ≤ w.heap.size)
    (h : ∀ v' w', OwnG n E g w' B v' (L ++ M) → w.grownBy w' v.ownBlock → Below B w w' → (v'.ownBlock = v.ownBlock ∨ v'.ownBlock = some w.heap.size) → K (a.put o.dst v') w') :
    if Region.wanted o (yielded ops a.tmps) = true then Oper.wp Try.prog o a w K Q else E0 := by
  subst hm
  have hw : Region.wanted o (yielded ops a.tmps) = true := by simp [Region.wanted, hgd]
  rw [if_pos hw]
  obtain ⟨i0, hi0, hz0, hz1, hz2⟩ := info_parts T.info
  have hbl := T.by64
  cases b with
  | none =>
    have hM0 := hM.drop_none
    subst hM0
    have hc := hbc rfl
    subst hc
    have hrun := run_append_owned_none (P := Try.prog) (w := w) B ST o.type E i0 n T.sl hi0 v L.length (L.flatMap g) hown
    unfold Oper.wp
    simp [execOp, ho, resolve, invoke, builtin, hs, hx, hrun, Result.andThen]
    exact h v w (by rw [List.append_nil]; exact hown) ⟨rfl, rfl, rfl, Nat.le_refl _, fun _ _ _ => rfl⟩ (Below.refl _ _) (Or.inl rfl)
  | some ad =>
    obtain ⟨v', w', hr, h2, h3, h4, h5⟩ := run_append_own_at (P := Try.prog) w B ST o.type E i0 z n by_ T.sl hi0 hz0 hz1 hz2 T.zs T.pos v L.length (L.flatMap g) hown ad M.length c (M.flatMap g)
      (flatG_len hg M) (fun j u hj => by
        have hjl : j < M.length * n := by
          have := (List.getElem?_eq_some_iff.1 hj).1
          simpa [flatG_len hg M] using this
        have hn := T.pos
        have hk : j / n < M.length := Nat.div_lt_of_lt_mul (by rw [Nat.mul_comm]; exact hjl)
        have hjn : j % n < n := Nat.mod_lt _ hn
        have ej : j / n * n + j % n = j := by rw [Nat.mul_comm]; exact Nat.div_add_mod j n
        obtain ⟨ad', e, _, hs⟩ := hM (j / n) hk
        cases e
        have e1 := hs (j % n) hjn
        have e2 := flatG_at hg M (j / n) (j % n) hk hjn
        rw [ej] at e2
        rw [e2] at hj
        rw [← fldj, ej] at e1
        rw [e1]; exact hj) (flatG_one ho1 M) (by unfold maxLen; omega) (Nat.le_trans (Nat.mul_le_mul_left _ hbl) (by omega)) hB
    unfold Oper.wp execOp
    simp only [ho, resolve, invoke, builtin, Sem.run_bind, Sem.run_pure, Result.andThen_ok, List.map_toArray, List.map_cons, List.map_nil, hs, hx, hr]
    refine h v' w' ?_ h3 ((Below.refl B w).grown h3 hB (fun k hk => (hown.lt k hk).1)) h5
    unfold OwnG
    rw [List.flatMap_append, List.length_append]
    exact h2
theorem rowsG_one {α : Type} {n : Nat} {g : α → List Value} (hg : ∀ x, (g x).length = n) (w : World) (x : α) (E : TypeId) : RowsG n g (w.alloc (.cells (g x).toArray E)) (some ⟨w.heap.size, 0, none⟩) [x] := fun k hk => by
  have hk : k = 0 := by simp at hk; omega
  subst hk
  refine ⟨_, rfl, by simp, fun j hj => ?_⟩
  rw [add0, fld_own, Nat.zero_mul, Nat.zero_add]
  rw [cell_of_row _ w.heap.size j _ _ (0, 0) (heap_alloc_new w _)]
  have : j < (g x).length := by rw [hg x]; exact hj
  simp [List.getElem?_eq_getElem this, List.getD_eq_getElem?_getD]
/-- A scheme that is right, in memory. -/
structure ScR (c0 r0 : Nat) (S : List Cell) (n : Nat) : Prop where
  hC : 1 ≤ c0 ∧ c0 ≤ 8
  hR : 1 ≤ r0 ∧ r0 ≤ 8
  hn : n = S.length
  hl : S.length = c0 * r0
  hb : ∀ x ∈ S, Bit x.ft ∧ Bit x.bt
end Go.Proofs.Ytmolejpbpcodbaa
