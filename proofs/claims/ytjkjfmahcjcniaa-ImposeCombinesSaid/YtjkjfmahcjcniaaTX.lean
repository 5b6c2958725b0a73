/-
  The law on halves: what its walk is made of.
-/
import Derived.Test.YtjkjfmahcjcniaaTC
import Derived.Test.YtjkjfmahcjcniaaY4
import Derived.Test.YtjkjfmahcjcniaaTW
namespace Go.Proofs.Ytjkjfmahcjcniaa
open Go.RowKit

set_option maxRecDepth 100000 in
set_option maxHeartbeats 2000000 in
theorem copyOwn_any (C R : Int) (a : Option Addr) (L : List Cell) (c : Nat) (w : World) (hL : RowsAt 4 Cell.l w a L) (hl : L.length ≤ 1000000) (hn : a = none → c = 0) :
    Calls Try.prog 29 #[.agg #[.int .i64 C, .int .i64 R, .slice a L.length c]] w fun e w' => ∃ v, e = .returned (.agg #[.int .i64 C, .int .i64 R, v]) ∧ OwnR 4 91 Cell.l w' w.heap.size v L ∧ Below w.heap.size w w' := by
  obtain ⟨w2, hw2⟩ : ∃ w2, w2 = (w.alloc (.cells #[.int .i64 C, .int .i64 R, .slice a L.length c] 43)).alloc (.cells #[.int .i64 0, .int .i64 0, .slice none 0 0] 43) := ⟨_, rfl⟩
  have hsz : w2.heap.size = w.heap.size + 1 + 1 := by rw [hw2]; simp
  have bx0 : BoxAt w2 w.heap.size #[.int .i64 C, .int .i64 R, .slice a L.length c] 43 := by rw [hw2]; exact (BoxAt.new w _ _).alloc _
  have br0 : BoxAt w2 (w.heap.size + 1) #[.int .i64 0, .int .i64 0, .slice none 0 0] 43 := by
    rw [hw2]
    have := BoxAt.new (w.alloc (.cells #[.int .i64 C, .int .i64 R, .slice a L.length c] 43)) #[.int .i64 0, .int .i64 0, .slice none 0 0] 43
    simpa using this
  have hB2 : Below w.heap.size w w2 := by rw [hw2]; exact ((Below.refl w.heap.size w).alloc (Nat.le_refl _) _).alloc (by simp) _
  have hL2 := hL.below hB2
  have hm := World.ownsRow_made (e := 91) (size := 4) (base := w2.heap.size) w2 #[] 0 (Nat.le_refl _) (Nat.zero_le _) rfl
  have hown : OwnR 4 91 Cell.l (w2.alloc (.cells #[] 91)) w2.heap.size (.slice (some ⟨w2.heap.size, 0, none⟩) 0 0) [] := hm
  rw [hsz] at hown
  have bx1 := bx0.alloc (.cells #[] 91)
  have br1 := br0.alloc (.cells #[] 91)
  have hB3 := hB2.alloc hB2.size (.cells #[] 91)
  have HL := Lib.hid (hL2.alloc (.cells #[] 91))
  rw [hw2] at bx1 br1 hown hB3 HL
  clear hm hL hL2 bx0 br0 hB2 hw2 hsz
  have c2 := bx1.cell 2
  simp at c2
  go_enter Try.func29, Try.ntmps29
  go_wp2_with (at_builtin; refine wpList_appL tCell cell_l _ (by rfl) _ _ (by rfl) (w.heap.size + 1 + 1) _ [] (by rfl) hown a L c (by rfl) HL.out hn (by simp) hl (by simp) ?_; intro v' w' hown' hg' hB' hor'; have bx3 := bx1.grown hg' (by simp [Value.ownBlock]; try omega); have br3 := br1.grown hg' (by simp [Value.ownBlock]; try omega); have fz := bx3.free 2; have d0 := bx3.cell 0; have d1 := bx3.cell 1; have d2 := bx3.cell 2; have hbl := bx3.lt; have hrl := br3.lt; simp at d0 d1 d2; have r0 := br3.cell 0; have r1 := br3.cell 1; have r2 := br3.cell 2; simp at r0 r1 r2; have z := fun j => br3.free j; obtain ⟨a6, d6, e6, -, -, -, -, -⟩ := hown'.rows cell_l; obtain ⟨n6, hn6⟩ : ∃ n, n = ([] ++ L).length := ⟨_, rfl⟩; rw [← hn6] at e6; subst e6; clear hn6)
  refine bodyPost_ret (v := .agg #[.int .i64 C, .int .i64 R, .slice a6 n6 d6]) ?_ rfl ?_
  · simp [results, Try.results29, go_sem, r0, r1, r2]
  · refine ⟨.slice a6 n6 d6, rfl, ?_, ?_⟩
    · have hown6 : OwnR 4 91 Cell.l w' (w.heap.size + 1 + 1) (.slice a6 n6 d6) L := hown'
      have hap0 : (Value.slice a6 n6 d6).ownBlock ≠ some w.heap.size := fun e => by have := (hown6.lt _ e).1; omega
      have hap : (Value.slice a6 n6 d6).ownBlock ≠ some (w.heap.size + 1) := fun e => by have := (hown6.lt _ e).1; omega
      exact ((((hown6.set (p := ⟨w.heap.size, 2, none⟩) hap0 _).set (p := ⟨w.heap.size + 1, 0, none⟩) hap _).set (p := ⟨w.heap.size + 1, 1, none⟩) hap _).set (p := ⟨w.heap.size + 1, 2, none⟩) hap _).mono (by omega)
    · exact ((((hB3.trans (hB'.mono (B' := w.heap.size) (by omega))).setCell (p := ⟨w.heap.size, 2, none⟩) (Nat.le_refl _) _).setCell (p := ⟨w.heap.size + 1, 0, none⟩) (by show w.heap.size ≤ w.heap.size + 1; omega) _).setCell (p := ⟨w.heap.size + 1, 1, none⟩) (by show w.heap.size ≤ w.heap.size + 1; omega) _).setCell (p := ⟨w.heap.size + 1, 2, none⟩) (by show w.heap.size ≤ w.heap.size + 1; omega) _
theorem copySc2 (C R : Int) (a : Option Addr) (n : Nat) (L : List Cell) (c : Nat) (w : World) (hn : n = L.length) (hL : RowsAt 4 Cell.l w a L) (hl : L.length ≤ 1000000) (hc : a = none → c = 0) :
    Calls Try.prog 29 #[.agg #[.int .i64 C, .int .i64 R, .slice a n c]] w (CopySchemePost C R L w) := by
  subst hn; exact copyScheme_any C R a L c w hL hl hc
theorem sameSc2 (C R : Int) (L : List Cell) (a1 a2 : Option Addr) (n1 n2 c1 c2 : Nat) (w : World) (e1 : n1 = L.length) (e2 : n2 = L.length) (h1 : RowsAt 4 Cell.l w a1 L) (h2 : RowsAt 4 Cell.l w a2 L) (hl : L.length ≤ maxLen) :
    Calls Try.prog 26 #[.agg #[.int .i64 C, .int .i64 R, .slice a1 n1 c1], .agg #[.int .i64 C, .int .i64 R, .slice a2 n2 c2]] w fun e w' => e = .returned (.bool true) ∧ Below w.heap.size w w' := by
  subst e1; subst e2
  refine (same_any ⟨C, R, L⟩ a1 c1 ⟨C, R, L⟩ a2 c2 w h1 h2 hl hl).mono fun e w' ⟨he, hb⟩ => ⟨?_, hb⟩
  rw [he]; exact ret_bool (by unfold sameS; simp)
theorem hv_ok {C R : Int} {L : List Cell} {b : Bool} (h : hvErr C R L b = 0) : cellsErr C R L.length = 0 ∧ L.all cellPB = true ∧ evenB C.toNat R.toNat b = true := by
  unfold hvErr at h
  by_cases h1 : cellsErr C R L.length = 0
  · rw [if_neg (by simp [h1])] at h
    by_cases h2 : L.all cellPB = true
    · rw [if_pos h2] at h
      by_cases h3 : evenB C.toNat R.toNat b = true
      · exact ⟨h1, h2, h3⟩
      · rw [if_neg h3] at h; simp at h
    · rw [if_neg h2] at h; simp at h
  · rw [if_pos h1] at h; exact absurd h h1
theorem hv_len (C R : Int) (L : List Cell) (b : Bool) : (hv1 C R L b).length ≤ 64 ∧ (hv2 C R L b).length ≤ 64 := by
  unfold hv1 hv2
  by_cases h : hvErr C R L b = 0
  · rw [if_pos h, if_pos h, hOne_len, hTwo_len]
    obtain ⟨h1, -, -⟩ := hv_ok h
    obtain ⟨hs, -⟩ := cells_ok h1
    obtain ⟨sC, sR, -⟩ := side_ok hs
    have e1 : halfC C.toNat b ≤ 8 := by unfold halfC; split <;> omega
    have e2 : halfR R.toNat b ≤ 8 := by unfold halfR; split <;> omega
    have := Nat.mul_le_mul e2 e1
    omega
  · rw [if_neg h, if_neg h]; exact ⟨Nat.zero_le _, Nat.zero_le _⟩
/-- The halves of the sheet turned over. -/
theorem hv_over {cn rn : Nat} {L : List Cell} (h : hvErr cn rn L false = 0) : hvErr cn rn (ovTo cn rn L L.length) false = 0 ∧ hvD cn rn (ovTo cn rn L L.length) false = hvD cn rn L false ∧ hv1 cn rn (ovTo cn rn L L.length) false = hv2 cn rn L false ∧ hv2 cn rn (ovTo cn rn L L.length) false = hv1 cn rn L false := by
  obtain ⟨h1, h2, h3⟩ := hv_ok h
  obtain ⟨hs, hn⟩ := cells_ok h1
  obtain ⟨sC, sR, -⟩ := side_ok hs
  have hlen : L.length = cn * rn := by
    have : (L.length : Int) = ((cn * rn : Nat) : Int) := by rw [hn, Int.natCast_mul]
    omega
  have hO : hvErr cn rn (ovTo cn rn L L.length) false = 0 := by
    unfold hvErr
    rw [ovTo_len, if_neg (by simp [h1]), if_pos (ov_right (by omega) hlen h2), if_pos h3]
  have hh := half_over (C := cn) (R := rn) (w := halfC cn false) (y := halfR rn false) (L := L) (by omega) (by unfold halfC; rw [if_neg (by simp)]; omega) (by unfold halfR; rw [if_neg (by simp)]; exact Nat.le_refl _) hlen h2
  refine ⟨hO, ?_, ?_, ?_⟩
  · unfold hvD; rw [if_pos hO, if_pos h]
  · unfold hv1 hv2; rw [if_pos hO, if_pos h, Int.toNat_natCast, Int.toNat_natCast]; exact hh.1
  · unfold hv1 hv2; rw [if_pos hO, if_pos h, Int.toNat_natCast, Int.toNat_natCast]; exact hh.2
end Go.Proofs.Ytjkjfmahcjcniaa

namespace Go.Proofs.Ytjkjfmahcjcniaa
open Go.RowKit

theorem sch_all {m : Int} : ∀ (L : List Cell) (S : List Int) (i : Int), (schErr m L S i).2 = 0 → ∀ x ∈ L, cellB m x = true := by
  intro L
  induction L with
  | nil => intro _ _ _ x hx; simp at hx
  | cons y L ih =>
    intro S i h x hx
    unfold schErr at h
    by_cases h1 : cellB m y = false
    · rw [if_pos h1] at h; simp at h
    · rw [if_neg h1] at h
      by_cases h2 : dblB S y = true
      · rw [if_pos h2] at h; simp at h
      · rw [if_neg h2] at h
        rcases List.mem_cons.1 hx with rfl | hx
        · simpa using h1
        · exact ih _ _ h x hx
theorem sc_pages {cn rn : Nat} {L : List Cell} (h : (checkSc cn rn L).2 = 0) : (1 ≤ cn ∧ cn ≤ 8) ∧ (1 ≤ rn ∧ rn ≤ 8) ∧ L.length = cn * rn ∧ ∀ x ∈ L, (1 ≤ x.f ∧ x.f ≤ 200) ∧ Bit x.ft ∧ (1 ≤ x.b ∧ x.b ≤ 200) ∧ Bit x.bt := by
  have hce : cellsErr cn rn L.length = 0 := by
    have h' := h
    unfold checkSc at h'
    by_cases h1 : cellsErr cn rn L.length = 0
    · exact h1
    · rw [if_pos h1] at h'; exact absurd h' h1
  obtain ⟨hs, hn⟩ := cells_ok hce
  obtain ⟨sC, sR, sm⟩ := side_ok hs
  have hlen : L.length = cn * rn := by
    have : (L.length : Int) = ((cn * rn : Nat) : Int) := by rw [hn, Int.natCast_mul]
    omega
  refine ⟨by omega, by omega, hlen, fun x hx => ?_⟩
  unfold checkSc at h
  rw [if_neg (by simp [hce])] at h
  have h3 := sch_all L _ _ h x hx
  unfold cellB pageB at h3
  simp at h3
  have a1 := inB_iff.1 h3.1.1; have a2 := inB_iff.1 h3.1.2; have a3 := inB_iff.1 h3.2.1; have a4 := inB_iff.1 h3.2.2
  have hl32 : (L.length : Int) ≤ 32 := by rw [hn]; exact sm
  unfold Bit
  omega
theorem sc_bits {cn rn : Nat} {L : List Cell} (h : (checkSc cn rn L).2 = 0) : ∀ x ∈ L, Bit x.ft ∧ Bit x.bt := fun x hx => by
  have := (sc_pages h).2.2.2 x hx; exact ⟨this.2.1, this.2.2.2⟩
theorem cbPage_fine {cn rn p : Nat} {b : Bool} {L : List Cell} (h : (checkSc cn rn L).2 = 0) (hp : p < cC cn b * cR rn b) : (1 ≤ (cbPage cn rn b L p).p ∧ (cbPage cn rn b L p).p ≤ 200) ∧ Bit (cbPage cn rn b L p).t := by
  obtain ⟨hC, hR, hlen, hx⟩ := sc_pages h
  have key : ∀ q, cbPrim cn rn (cC cn b) q = true → cbSrc cn (cC cn b) q < L.length := fun q hq => by
    unfold cbPrim at hq
    have h := of_decide_eq_true hq
    unfold cbSrc; rw [hlen]; exact mul_lt h.2 h.1
  unfold cbPage
  by_cases h1 : cbPrim cn rn (cC cn b) p = true
  · rw [if_pos h1]
    have := hx _ (mem_getD (d := default) (key p h1))
    exact ⟨this.1, this.2.1⟩
  · rw [if_neg h1]
    have h2 : cbPrim cn rn (cC cn b) (oppN (cC cn b) (cR rn b) p b) = true := by rw [cb_opp hC.1 hp]; simpa using h1
    have := hx _ (mem_getD (d := default) (key _ h2))
    exact ⟨this.2.2.1, xr_bit _ _⟩
theorem page_fine {x : Page} (h : (1 ≤ x.p ∧ x.p ≤ 200) ∧ Bit x.t) : pageB 4000 x = true := by
  unfold pageB
  have h1 : inB x.p 1 4000 = true := inB_iff.2 (by omega)
  have h2 : inB x.t 0 1 = true := inB_iff.2 (by have := h.2; unfold Bit at this; omega)
  rw [h1, h2]; try rfl
/-- A right scheme, printed on both halves: what is printed is right, and its halves are the scheme. -/
theorem cb_right {cn rn : Nat} {L : List Cell} {b : Bool} (hq : (checkSc cn rn L).2 = 0) (he : cbErr cn rn L b = 0) :
    twErr (cC cn b : Nat) (cR rn b : Nat) (cbAll cn rn b L) = 0 ∧ twD (cC cn b : Nat) (cR rn b : Nat) (cbAll cn rn b L) = (((cC cn b : Nat) : Int), ((cR rn b : Nat) : Int)) ∧
    hvErr (cC cn b : Nat) (cR rn b : Nat) (twL (cC cn b : Nat) (cR rn b : Nat) (cbAll cn rn b L) b) b = 0 ∧ hvD (cC cn b : Nat) (cR rn b : Nat) (twL (cC cn b : Nat) (cR rn b : Nat) (cbAll cn rn b L) b) b = ((cn : Int), (rn : Int)) ∧
    hv1 (cC cn b : Nat) (cR rn b : Nat) (twL (cC cn b : Nat) (cR rn b : Nat) (cbAll cn rn b L) b) b = L ∧ hv2 (cC cn b : Nat) (cR rn b : Nat) (twL (cC cn b : Nat) (cR rn b : Nat) (cbAll cn rn b L) b) b = L := by
  obtain ⟨hC, hR, hlen, hx⟩ := sc_pages hq
  have hse : sideErr (cC cn b : Nat) (cR rn b : Nat) = 0 := by
    unfold cbErr at he
    rw [hq, if_neg (by simp), Int.toNat_natCast, Int.toNat_natCast] at he
    by_cases h1 : sideErr (cC cn b : Nat) (cR rn b : Nat) = 0
    · exact h1
    · rw [if_pos h1] at he; simp at he
  have hVl : ((cbAll cn rn b L).length : Int) = ((cC cn b : Nat) : Int) * ((cR rn b : Nat) : Int) := by rw [cbAll_len, Int.natCast_mul]
  have hce : cellsErr (cC cn b : Nat) (cR rn b : Nat) (cbAll cn rn b L).length = 0 := by unfold cellsErr; rw [if_neg (by simp [hse]), if_neg (by rw [hVl]; simp)]
  have hall : (cbAll cn rn b L).all (pageB 4000) = true := by
    rw [List.all_eq_true]
    intro x hx
    obtain ⟨p, hp, rfl⟩ := List.mem_map.1 hx
    exact page_fine (cbPage_fine hq (List.mem_range.1 hp))
  have h1 : twErr (cC cn b : Nat) (cR rn b : Nat) (cbAll cn rn b L) = 0 := by unfold twErr; rw [if_neg (by simp [hce]), if_pos hall]
  have hX : twL (cC cn b : Nat) (cR rn b : Nat) (cbAll cn rn b L) b = twTo (cC cn b) (cR rn b) (cbAll cn rn b L) b (cbAll cn rn b L).length := by unfold twL; rw [if_pos h1, Int.toNat_natCast, Int.toNat_natCast]
  have hXl : (twTo (cC cn b) (cR rn b) (cbAll cn rn b L) b (cbAll cn rn b L).length).length = (cbAll cn rn b L).length := twTo_len (Nat.le_refl _)
  have hXa : (twTo (cC cn b) (cR rn b) (cbAll cn rn b L) b (cbAll cn rn b L).length).all cellPB = true := by
    rw [List.all_eq_true]
    intro x hx
    obtain ⟨p, hp, rfl⟩ := List.getElem_of_mem hx
    have hpV : p < (cbAll cn rn b L).length := by rw [hXl] at hp; exact hp
    have hp2 : p < cC cn b * cR rn b := by rw [cbAll_len] at hpV; exact hpV
    have ho := oppN_lt (C := cC cn b) (R := cR rn b) (k := p) b (cC_pos hC.1) hp2
    have e := twTo_at (C := cC cn b) (R := cR rn b) (L := cbAll cn rn b L) (b := b) hpV
    rw [getD_in default hp] at e
    rw [e]
    unfold twCell
    rw [cbAll_at hp2, cbAll_at ho]
    have f1 := cbPage_fine (b := b) hq hp2
    have f2 := cbPage_fine (b := b) hq ho
    unfold cellPB
    have g1 : pageB 4000 ⟨(cbPage cn rn b L p).p, (cbPage cn rn b L p).t⟩ = true := page_fine f1
    have g2 : pageB 4000 ⟨(cbPage cn rn b L (oppN (cC cn b) (cR rn b) p b)).p, xr (cbPage cn rn b L (oppN (cC cn b) (cR rn b) p b)).t (roundB b)⟩ = true := page_fine ⟨f2.1, xr_bit _ _⟩
    simp only [g1, g2]; rfl
  have hhc : halfC (cC cn b) b = cn := by
    unfold halfC cC; cases b
    · rw [if_neg (by simp), if_neg (by simp)]; omega
    · rw [if_pos rfl, if_pos rfl]
  have hhr : halfR (cR rn b) b = rn := by
    unfold halfR cR; cases b
    · rw [if_neg (by simp), if_neg (by simp)]
    · rw [if_pos rfl, if_pos rfl]; omega
  have hev : evenB (cC cn b) (cR rn b) b = true := by
    unfold evenB cC cR; cases b
    · rw [if_neg (by simp), if_neg (by simp)]; simp
    · rw [if_pos rfl, if_pos rfl]; simp
  have h3 : hvErr (cC cn b : Nat) (cR rn b : Nat) (twTo (cC cn b) (cR rn b) (cbAll cn rn b L) b (cbAll cn rn b L).length) b = 0 := by
    unfold hvErr
    rw [hXl, if_neg (by simp [hce]), if_pos hXa, Int.toNat_natCast, Int.toNat_natCast, if_pos hev]
  have hh := cb_halves (b := b) hC.1 hlen (sc_bits hq)
  refine ⟨h1, ?_, ?_, ?_, ?_, ?_⟩
  · unfold twD; rw [if_pos h1]
  · rw [hX]; exact h3
  · rw [hX]; unfold hvD; rw [if_pos h3, Int.toNat_natCast, Int.toNat_natCast, hhc, hhr]
  · rw [hX]; unfold hv1; rw [if_pos h3, Int.toNat_natCast, Int.toNat_natCast, hhc, hhr]; exact hh.1
  · rw [hX]; unfold hv2; rw [if_pos h3, Int.toNat_natCast, Int.toNat_natCast, hhc, hhr]; exact hh.2
theorem sameVw2 (C R : Int) (L : List Page) (a1 a2 : Option Addr) (n1 n2 c1 c2 : Nat) (w : World) (e1 : n1 = L.length) (e2 : n2 = L.length) (h1 : RowsAt 2 Page.l w a1 L) (h2 : RowsAt 2 Page.l w a2 L) (hl : L.length ≤ maxLen) :
    Calls Try.prog 37 #[.agg #[.int .i64 C, .int .i64 R, .slice a1 n1 c1], .agg #[.int .i64 C, .int .i64 R, .slice a2 n2 c2]] w fun e w' => e = .returned (.bool true) ∧ Below w.heap.size w w' := by
  subst e1; subst e2
  refine (sameViews_any ⟨C, R, L⟩ a1 c1 ⟨C, R, L⟩ a2 c2 w h1 h2 hl hl).mono fun e w' ⟨he, hb⟩ => ⟨?_, hb⟩
  rw [he]; exact ret_bool (by unfold sameV; simp)
theorem cbL_len (C R : Int) (L : List Cell) (b : Bool) : (cbL C R L b).length ≤ 64 := by
  unfold cbL
  by_cases h : cbErr C R L b = 0
  · rw [if_pos h, cbAll_len]
    unfold cbErr at h
    by_cases h1 : (checkSc C R L).2 = 0
    · rw [if_neg (by simp [h1])] at h
      by_cases h2 : sideErr (cC C.toNat b : Nat) (cR R.toNat b : Nat) = 0
      · obtain ⟨s1, s2, -⟩ := side_ok h2
        exact Nat.mul_le_mul (show cC C.toNat b ≤ 8 by omega) (show cR R.toNat b ≤ 8 by omega)
      · rw [if_pos h2] at h; simp at h
    · rw [if_pos h1] at h; exact absurd h h1
  · rw [if_neg h]; exact Nat.zero_le _
end Go.Proofs.Ytjkjfmahcjcniaa
