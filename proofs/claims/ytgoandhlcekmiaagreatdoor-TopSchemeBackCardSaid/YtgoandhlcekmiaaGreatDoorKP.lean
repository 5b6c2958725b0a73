/-
  Calls of a law told by names (the short theorems of SG and RK, without their walks).
-/
import Derived.Test.YtgoandhlcekmiaaGreatDoorKJ
import Derived.Test.YtgoandhlcekmiaaGreatDoorKH
import Derived.Test.YtgoandhlcekmiaaGreatDoorKL
import Derived.Test.YtgoandhlcekmiaaGreatDoorRM
import Derived.Test.YtgoandhlcekmiaaGreatDoorKQ2
namespace Go.Proofs.YtgoandhlcekmiaaGreatDoor
open Go.RowKit

theorem refCheckFo_n (C R : Int) (a : Option Addr) (n : Nat) (L : List Fold) (c : Nat) (w : World) (hn : n = L.length) (hL : RowsAt 2 Fold.l w a L) (hl : L.length ≤ maxLen) {p q : Int} (h1 : (checkFo C R L).1 = p) (h2 : (checkFo C R L).2 = q) :
    Calls Tryz.prog 5 #[.agg #[.int .i64 C, .int .i64 R], .slice a n c] w fun e w' => e = .returned (.tuple #[.int .i64 p, .int .i64 q]) ∧ Below w.heap.size w w' := by
  subst hn; rw [← h1, ← h2]; exact refCheckFolds_any C R a L c w hL hl
theorem rows_box {v : World} {a : Option Addr} {M : List Cell} {b : Nat} {x0 x1 x2 u0 u1 u2 : Value} {T : TypeId} (h : RowsAt 4 Cell.l v a M) (hb : BoxAt v b #[x0, x1, x2] T) : RowsAt 4 Cell.l (((v.setCell ⟨b, 0, none⟩ u0).setCell ⟨b, 1, none⟩ u1).setCell ⟨b, 2, none⟩ u2) a M := by
  intro k hk
  obtain ⟨ad, e, hlt, hs⟩ := h k hk
  have hne : ad.block ≠ b := fun e2 => by
    have h3 := hs 3 (by decide)
    have e4 : fld (ad.add (k * 4)) 3 = ⟨b, (ad.add (k * 4)).off + 3, none⟩ := by
      show (⟨(ad.add (k * 4)).block, (ad.add (k * 4)).off + 3, none⟩ : Addr) = _
      rw [add_block, e2]
    rw [e4, hb.cell] at h3
    simp at h3
  have hq : (((v.setCell ⟨b, 0, none⟩ u0).setCell ⟨b, 1, none⟩ u1).setCell ⟨b, 2, none⟩ u2).heap[ad.block]? = v.heap[ad.block]? :=
    (Below.heap_setCell _ _ _ _ hne).trans ((Below.heap_setCell _ _ _ _ hne).trans (Below.heap_setCell _ _ _ _ hne))
  exact ⟨ad, e, by simpa using hlt, fun j hj => (cell_block (by rw [fld_block, add_block]; exact hq)).trans (hs j hj)⟩
theorem copySc_n (C R : Int) (a : Option Addr) (n : Nat) (L : List Cell) (c : Nat) (w : World) (hn : n = L.length) (hL : RowsAt 4 Cell.l w a L) (hl : L.length ≤ 1000000) (hc : a = none → c = 0) :
    Calls Tryz.prog 8 #[.agg #[.int .i64 C, .int .i64 R, .slice a n c]] w (CopySchemePost C R L w) := by
  subst hn; exact copyScheme_any C R a L c w hL hl hc
theorem sc_fin1 {w1 v : World} {sa : Option Addr} {M : List Cell} {D1 D2 : Int} {sn sc : Nat} (hq : Below w1.heap.size w1 v) (h : RowsAt 4 Cell.l v sa M) (q : Int) :
    Value.int .i64 q = Value.int .i64 q ∧ ∃ b5, Value.pointer (some ⟨v.heap.size, 0, none⟩) = .pointer (some ⟨b5, 0, none⟩) ∧ BoxAt (v.alloc (.cells #[.int .i64 D1, .int .i64 D2, .slice sa sn sc] 29)) b5 #[.int .i64 D1, .int .i64 D2, .slice sa sn sc] 29 ∧ RowsAt 4 Cell.l (v.alloc (.cells #[.int .i64 D1, .int .i64 D2, .slice sa sn sc] 29)) sa M ∧ Below w1.heap.size w1 (v.alloc (.cells #[.int .i64 D1, .int .i64 D2, .slice sa sn sc] 29)) :=
  ⟨rfl, _, rfl, BoxAt.new _ _ _, h.alloc _, hq.alloc hq.size _⟩
theorem sc_fin2 {w1 v : World} {b : Nat} {x0 x1 x2 : Value} {sa : Option Addr} {M : List Cell} {D1 D2 : Int} {sn sc : Nat} (hb : BoxAt v b #[x0, x1, x2] 29) (hle : w1.heap.size ≤ b) (hq : Below w1.heap.size w1 v) (h : RowsAt 4 Cell.l v sa M) (q : Int) :
    Value.int .i64 q = Value.int .i64 q ∧ ∃ b5, Value.pointer (some ⟨b, 0, none⟩) = .pointer (some ⟨b5, 0, none⟩) ∧ BoxAt (((v.setCell ⟨b, 0, none⟩ (.int .i64 D1)).setCell ⟨b, 1, none⟩ (.int .i64 D2)).setCell ⟨b, 2, none⟩ (.slice sa sn sc)) b5 #[.int .i64 D1, .int .i64 D2, .slice sa sn sc] 29 ∧
      RowsAt 4 Cell.l (((v.setCell ⟨b, 0, none⟩ (.int .i64 D1)).setCell ⟨b, 1, none⟩ (.int .i64 D2)).setCell ⟨b, 2, none⟩ (.slice sa sn sc)) sa M ∧ Below w1.heap.size w1 (((v.setCell ⟨b, 0, none⟩ (.int .i64 D1)).setCell ⟨b, 1, none⟩ (.int .i64 D2)).setCell ⟨b, 2, none⟩ (.slice sa sn sc)) :=
  ⟨rfl, _, rfl, ((hb.set 0 _).set 1 _).set 2 _, rows_box h hb, ((hq.setCell (p := ⟨b, 0, none⟩) hle _).setCell (p := ⟨b, 1, none⟩) hle _).setCell (p := ⟨b, 2, none⟩) hle _⟩
theorem schemeOf_n (C R : Int) (a : Option Addr) (n : Nat) (L : List Fold) (c : Nat) (w : World) (hn : n = L.length) (hL : RowsAt 2 Fold.l w a L) (hl : L.length ≤ maxLen) (hI : ∀ x ∈ L, OkI x.c) {q : Int} {D : Int × Int} {M : List Cell} (h1 : (checkFo C R L).2 = q) (h2 : schemeD C R L = D) (h3 : schemeC C R L = M) :
    Calls Tryz.prog 6 #[.agg #[.int .i64 C, .int .i64 R], .slice a n c] w fun e w' => ∃ (a : Option Addr) (n c : Nat), e = .returned (.tuple #[.agg #[.int .i64 D.1, .int .i64 D.2, .slice a n c], .int .i64 q]) ∧ n = M.length ∧ RowsAt 4 Cell.l w' a M ∧ (a = none → c = 0) ∧ Below w.heap.size w w' := by
  subst hn; rw [← h1, ← h2, ← h3]; exact schemeOf_any C R a L c w hL hl hI
end Go.Proofs.YtgoandhlcekmiaaGreatDoor

namespace Go.Proofs.YtgoandhlcekmiaaGreatDoor
open Go.RowKit

theorem sch_all {m : Int} : ∀ (L : List Cell) (S : List Int) (i : Int), (schErr m L S i).2 = 0 → ∀ x ∈ L, cellB m x = true := by
  intro L
  induction L with
  | nil => intro _ _ _ x hx; simp at hx
  | cons y L ih =>
    intro S i h x hx
    unfold schErr at h
    by_cases h1 : cellB m y = false
    · rw [if_pos h1] at h; simp at h
    · rw [if_neg h1] at h
      by_cases h2 : dblB S y = true
      · rw [if_pos h2] at h; simp at h
      · rw [if_neg h2] at h
        rcases List.mem_cons.1 hx with rfl | hx
        · simpa using h1
        · exact ih _ _ h x hx
theorem sc_pages {cn rn : Nat} {L : List Cell} (h : (checkSc cn rn L).2 = 0) : (1 ≤ cn ∧ cn ≤ 8) ∧ (1 ≤ rn ∧ rn ≤ 8) ∧ L.length = cn * rn ∧ ∀ x ∈ L, (1 ≤ x.f ∧ x.f ≤ 200) ∧ Bit x.ft ∧ (1 ≤ x.b ∧ x.b ≤ 200) ∧ Bit x.bt := by
  have hce : cellsErr cn rn L.length = 0 := by
    have h' := h
    unfold checkSc at h'
    by_cases h1 : cellsErr cn rn L.length = 0
    · exact h1
    · rw [if_pos h1] at h'; exact absurd h' h1
  obtain ⟨hs, hn⟩ := cells_ok hce
  obtain ⟨sC, sR, sm⟩ := side_ok hs
  have hlen : L.length = cn * rn := by
    have : (L.length : Int) = ((cn * rn : Nat) : Int) := by rw [hn, Int.natCast_mul]
    omega
  refine ⟨by omega, by omega, hlen, fun x hx => ?_⟩
  unfold checkSc at h
  rw [if_neg (by simp [hce])] at h
  have h3 := sch_all L _ _ h x hx
  unfold cellB pageB at h3
  simp at h3
  have a1 := inB_iff.1 h3.1.1; have a2 := inB_iff.1 h3.1.2; have a3 := inB_iff.1 h3.2.1; have a4 := inB_iff.1 h3.2.2
  have hl32 : (L.length : Int) ≤ 32 := by rw [hn]; exact sm
  unfold Bit
  omega
theorem sc_bits {cn rn : Nat} {L : List Cell} (h : (checkSc cn rn L).2 = 0) : ∀ x ∈ L, Bit x.ft ∧ Bit x.bt := fun x hx => by
  have := (sc_pages h).2.2.2 x hx; exact ⟨this.2.1, this.2.2.2⟩
theorem cbPage_fine {cn rn p : Nat} {b : Bool} {L : List Cell} (h : (checkSc cn rn L).2 = 0) (hp : p < cC cn b * cR rn b) : (1 ≤ (cbPage cn rn b L p).p ∧ (cbPage cn rn b L p).p ≤ 200) ∧ Bit (cbPage cn rn b L p).t := by
  obtain ⟨hC, hR, hlen, hx⟩ := sc_pages h
  have key : ∀ q, cbPrim cn rn (cC cn b) q = true → cbSrc cn (cC cn b) q < L.length := fun q hq => by
    unfold cbPrim at hq
    have h := of_decide_eq_true hq
    unfold cbSrc; rw [hlen]; exact mul_lt h.2 h.1
  unfold cbPage
  by_cases h1 : cbPrim cn rn (cC cn b) p = true
  · rw [if_pos h1]
    have := hx _ (mem_getD (d := default) (key p h1))
    exact ⟨this.1, this.2.1⟩
  · rw [if_neg h1]
    have h2 : cbPrim cn rn (cC cn b) (oppN (cC cn b) (cR rn b) p b) = true := by rw [cb_opp hC.1 hp]; simpa using h1
    have := hx _ (mem_getD (d := default) (key _ h2))
    exact ⟨this.2.2.1, xr_bit _ _⟩
theorem page_fine {x : Page} (h : (1 ≤ x.p ∧ x.p ≤ 200) ∧ Bit x.t) : pageB 4000 x = true := by
  unfold pageB
  have h1 : inB x.p 1 4000 = true := inB_iff.2 (by omega)
  have h2 : inB x.t 0 1 = true := inB_iff.2 (by have := h.2; unfold Bit at this; omega)
  rw [h1, h2]; try rfl
/-- A right scheme, printed on both halves: what is printed is right, and its halves are the scheme. -/
theorem cb_right {cn rn : Nat} {L : List Cell} {b : Bool} (hq : (checkSc cn rn L).2 = 0) (he : cbErr cn rn L b = 0) :
    twErr (cC cn b : Nat) (cR rn b : Nat) (cbAll cn rn b L) = 0 ∧ twD (cC cn b : Nat) (cR rn b : Nat) (cbAll cn rn b L) = (((cC cn b : Nat) : Int), ((cR rn b : Nat) : Int)) ∧
    hvErr (cC cn b : Nat) (cR rn b : Nat) (twL (cC cn b : Nat) (cR rn b : Nat) (cbAll cn rn b L) b) b = 0 ∧ hvD (cC cn b : Nat) (cR rn b : Nat) (twL (cC cn b : Nat) (cR rn b : Nat) (cbAll cn rn b L) b) b = ((cn : Int), (rn : Int)) ∧
    hv1 (cC cn b : Nat) (cR rn b : Nat) (twL (cC cn b : Nat) (cR rn b : Nat) (cbAll cn rn b L) b) b = L ∧ hv2 (cC cn b : Nat) (cR rn b : Nat) (twL (cC cn b : Nat) (cR rn b : Nat) (cbAll cn rn b L) b) b = L := by
  obtain ⟨hC, hR, hlen, hx⟩ := sc_pages hq
  have hse : sideErr (cC cn b : Nat) (cR rn b : Nat) = 0 := by
    unfold cbErr at he
    rw [hq, if_neg (by simp), Int.toNat_natCast, Int.toNat_natCast] at he
    by_cases h1 : sideErr (cC cn b : Nat) (cR rn b : Nat) = 0
    · exact h1
    · rw [if_pos h1] at he; simp at he
  have hVl : ((cbAll cn rn b L).length : Int) = ((cC cn b : Nat) : Int) * ((cR rn b : Nat) : Int) := by rw [cbAll_len, Int.natCast_mul]
  have hce : cellsErr (cC cn b : Nat) (cR rn b : Nat) (cbAll cn rn b L).length = 0 := by unfold cellsErr; rw [if_neg (by simp [hse]), if_neg (by rw [hVl]; simp)]
  have hall : (cbAll cn rn b L).all (pageB 4000) = true := by
    rw [List.all_eq_true]
    intro x hx
    obtain ⟨p, hp, rfl⟩ := List.mem_map.1 hx
    exact page_fine (cbPage_fine hq (List.mem_range.1 hp))
  have h1 : twErr (cC cn b : Nat) (cR rn b : Nat) (cbAll cn rn b L) = 0 := by unfold twErr; rw [if_neg (by simp [hce]), if_pos hall]
  have hX : twL (cC cn b : Nat) (cR rn b : Nat) (cbAll cn rn b L) b = twTo (cC cn b) (cR rn b) (cbAll cn rn b L) b (cbAll cn rn b L).length := by unfold twL; rw [if_pos h1, Int.toNat_natCast, Int.toNat_natCast]
  have hXl : (twTo (cC cn b) (cR rn b) (cbAll cn rn b L) b (cbAll cn rn b L).length).length = (cbAll cn rn b L).length := twTo_len (Nat.le_refl _)
  have hXa : (twTo (cC cn b) (cR rn b) (cbAll cn rn b L) b (cbAll cn rn b L).length).all cellPB = true := by
    rw [List.all_eq_true]
    intro x hx
    obtain ⟨p, hp, rfl⟩ := List.getElem_of_mem hx
    have hpV : p < (cbAll cn rn b L).length := by rw [hXl] at hp; exact hp
    have hp2 : p < cC cn b * cR rn b := by rw [cbAll_len] at hpV; exact hpV
    have ho := oppN_lt (C := cC cn b) (R := cR rn b) (k := p) b (cC_pos hC.1) hp2
    have e := twTo_at (C := cC cn b) (R := cR rn b) (L := cbAll cn rn b L) (b := b) hpV
    rw [getD_in default hp] at e
    rw [e]
    unfold twCell
    rw [cbAll_at hp2, cbAll_at ho]
    have f1 := cbPage_fine (b := b) hq hp2
    have f2 := cbPage_fine (b := b) hq ho
    unfold cellPB
    have g1 : pageB 4000 ⟨(cbPage cn rn b L p).p, (cbPage cn rn b L p).t⟩ = true := page_fine f1
    have g2 : pageB 4000 ⟨(cbPage cn rn b L (oppN (cC cn b) (cR rn b) p b)).p, xr (cbPage cn rn b L (oppN (cC cn b) (cR rn b) p b)).t (roundB b)⟩ = true := page_fine ⟨f2.1, xr_bit _ _⟩
    simp only [g1, g2]; rfl
  have hhc : halfC (cC cn b) b = cn := by
    unfold halfC cC; cases b
    · rw [if_neg (by simp), if_neg (by simp)]; omega
    · rw [if_pos rfl, if_pos rfl]
  have hhr : halfR (cR rn b) b = rn := by
    unfold halfR cR; cases b
    · rw [if_neg (by simp), if_neg (by simp)]
    · rw [if_pos rfl, if_pos rfl]; omega
  have hev : evenB (cC cn b) (cR rn b) b = true := by
    unfold evenB cC cR; cases b
    · rw [if_neg (by simp), if_neg (by simp)]; simp
    · rw [if_pos rfl, if_pos rfl]; simp
  have h3 : hvErr (cC cn b : Nat) (cR rn b : Nat) (twTo (cC cn b) (cR rn b) (cbAll cn rn b L) b (cbAll cn rn b L).length) b = 0 := by
    unfold hvErr
    rw [hXl, if_neg (by simp [hce]), if_pos hXa, Int.toNat_natCast, Int.toNat_natCast, if_pos hev]
  have hh := cb_halves (b := b) hC.1 hlen (sc_bits hq)
  refine ⟨h1, ?_, ?_, ?_, ?_, ?_⟩
  · unfold twD; rw [if_pos h1]
  · rw [hX]; exact h3
  · rw [hX]; unfold hvD; rw [if_pos h3, Int.toNat_natCast, Int.toNat_natCast, hhc, hhr]
  · rw [hX]; unfold hv1; rw [if_pos h3, Int.toNat_natCast, Int.toNat_natCast, hhc, hhr]; exact hh.1
  · rw [hX]; unfold hv2; rw [if_pos h3, Int.toNat_natCast, Int.toNat_natCast, hhc, hhr]; exact hh.2
theorem cbL_len (C R : Int) (L : List Cell) (b : Bool) : (cbL C R L b).length ≤ 64 := by
  unfold cbL
  by_cases h : cbErr C R L b = 0
  · rw [if_pos h, cbAll_len]
    unfold cbErr at h
    by_cases h1 : (checkSc C R L).2 = 0
    · rw [if_neg (by simp [h1])] at h
      by_cases h2 : sideErr (cC C.toNat b : Nat) (cR R.toNat b : Nat) = 0
      · obtain ⟨s1, s2, -⟩ := side_ok h2
        exact Nat.mul_le_mul (show cC C.toNat b ≤ 8 by omega) (show cR R.toNat b ≤ 8 by omega)
      · rw [if_pos h2] at h; simp at h
    · rw [if_pos h1] at h; exact absurd h h1
  · rw [if_neg h]; exact Nat.zero_le _
end Go.Proofs.YtgoandhlcekmiaaGreatDoor
