/-
  Package impose: maths of a scheme printed on both halves of a sheet.
-/
import Derived.Test.YtgoandhlcekmiaaGreatDoorKO
import Derived.Test.YtgoandhlcekmiaaGreatDoorKH
namespace Go.Proofs.YtgoandhlcekmiaaGreatDoor
open Go.RowKit

def cC (C : Nat) (b : Bool) : Nat := if b = true then C else 2 * C
def cR (R : Nat) (b : Bool) : Nat := if b = true then 2 * R else R
def cbPrim (C R C2 p : Nat) : Bool := decide (p % C2 < C ∧ p / C2 < R)
def cbSrc (C C2 p : Nat) : Nat := p / C2 * C + p % C2
def cbPage (C R : Nat) (b : Bool) (L : List Cell) (p : Nat) : Page :=
  if cbPrim C R (cC C b) p = true then ⟨(L.getD (cbSrc C (cC C b) p) default).f, (L.getD (cbSrc C (cC C b) p) default).ft⟩
  else ⟨(L.getD (cbSrc C (cC C b) (oppN (cC C b) (cR R b) p b)) default).b, xr (L.getD (cbSrc C (cC C b) (oppN (cC C b) (cR R b) p b)) default).bt (roundB b)⟩
def cbKey (C R : Nat) (b : Bool) (p : Nat) : Nat := if cbPrim C R (cC C b) p = true then cbSrc C (cC C b) p else cbSrc C (cC C b) (oppN (cC C b) (cR R b) p b)
/-- The pages, those of the first j cells laid. -/
def cbMid (C R : Nat) (b : Bool) (L : List Cell) (j : Nat) : List Page := (List.range (cC C b * cR R b)).map fun p => if cbKey C R b p < j then cbPage C R b L p else ⟨0, 0⟩
def cbAll (C R : Nat) (b : Bool) (L : List Cell) : List Page := (List.range (cC C b * cR R b)).map (cbPage C R b L)
theorem cC_pos {C : Nat} {b : Bool} (h : 1 ≤ C) : 1 ≤ cC C b := by unfold cC; split <;> omega
theorem cC_le (C : Nat) (b : Bool) : C ≤ cC C b := by unfold cC; split <;> omega
theorem cR_le (R : Nat) (b : Bool) : R ≤ cR R b := by unfold cR; split <;> omega
theorem cbMid_len (C R : Nat) (b : Bool) (L : List Cell) (j : Nat) : (cbMid C R b L j).length = cC C b * cR R b := by simp [cbMid]
theorem cbAll_len (C R : Nat) (b : Bool) (L : List Cell) : (cbAll C R b L).length = cC C b * cR R b := by simp [cbAll]
theorem cbMid_zero (C R : Nat) (b : Bool) (L : List Cell) : cbMid C R b L 0 = List.replicate (cC C b * cR R b) ⟨0, 0⟩ := by
  apply List.ext_getElem
  · simp [cbMid]
  · intro i h1 h2; simp [cbMid]
theorem cb_at {C R y x : Nat} {b : Bool} (hx : x < C) (hy : y < R) :
    cbPrim C R (cC C b) (y * cC C b + x) = true ∧ cbSrc C (cC C b) (y * cC C b + x) = y * C + x ∧ y * cC C b + x < cC C b * cR R b := by
  have h1 := divmod_at (w := cC C b) (y := y) (x := x) (Nat.lt_of_lt_of_le hx (cC_le C b))
  refine ⟨?_, ?_, mul_lt (Nat.lt_of_lt_of_le hy (cR_le R b)) (Nat.lt_of_lt_of_le hx (cC_le C b))⟩
  · unfold cbPrim; rw [h1.1, h1.2]; exact decide_eq_true ⟨hx, hy⟩
  · unfold cbSrc; rw [h1.1, h1.2]
theorem cb_opp {C R p : Nat} {b : Bool} (hC : 1 ≤ C) (hp : p < cC C b * cR R b) : cbPrim C R (cC C b) (oppN (cC C b) (cR R b) p b) = !cbPrim C R (cC C b) p := by
  have hm : p % cC C b < cC C b := Nat.mod_lt _ (cC_pos hC)
  have hd : p / cC C b < cR R b := Nat.div_lt_of_lt_mul hp
  have hi : p / cC C b * cC C b + p % cC C b = p := by rw [Nat.mul_comm]; exact Nat.div_add_mod p _
  obtain ⟨y, hy⟩ : ∃ y, p / cC C b = y := ⟨_, rfl⟩
  obtain ⟨x, hx⟩ : ∃ x, p % cC C b = x := ⟨_, rfl⟩
  have e0 : cbPrim C R (cC C b) p = decide (x < C ∧ y < R) := by unfold cbPrim; rw [hy, hx]
  rw [hy] at hd hi
  rw [hx] at hm hi
  rw [e0, ← hi]
  cases b
  · have e1 := (opp_at (C := cC C false) (R := cR R false) (y := y) (x := x) hm).1
    rw [e1]
    have h2 := divmod_at (w := cC C false) (y := y) (x := cC C false - 1 - x) (by omega)
    unfold cbPrim
    rw [h2.1, h2.2]
    have e2 : cC C false = 2 * C := rfl
    have e3 : cR R false = R := rfl
    rw [e2] at hm ⊢
    rw [e3] at hd
    by_cases h : x < C
    · rw [decide_eq_true (show x < C ∧ y < R from ⟨h, hd⟩), decide_eq_false (by omega)]; try rfl
    · rw [decide_eq_false (show ¬ (x < C ∧ y < R) by omega), decide_eq_true (by omega)]; try rfl
  · have e1 := (opp_at (C := cC C true) (R := cR R true) (y := y) (x := x) hm).2
    rw [e1]
    have h2 := divmod_at (w := cC C true) (y := cR R true - 1 - y) (x := x) hm
    unfold cbPrim
    rw [h2.1, h2.2]
    have e2 : cC C true = C := rfl
    have e3 : cR R true = 2 * R := rfl
    rw [e2] at hm
    rw [e3] at hd ⊢
    by_cases h : y < R
    · rw [decide_eq_true (show x < C ∧ y < R from ⟨hm, h⟩), decide_eq_false (by omega)]; try rfl
    · rw [decide_eq_false (show ¬ (x < C ∧ y < R) by omega), decide_eq_true (by omega)]; try rfl
theorem cb_uniq {C R y x p : Nat} {b : Bool} (hx : x < C) (hpr : cbPrim C R (cC C b) p = true) (hk : cbSrc C (cC C b) p = y * C + x) : p = y * cC C b + x := by
  unfold cbPrim at hpr
  have h := of_decide_eq_true hpr
  unfold cbSrc at hk
  have h1 := divmod_at (w := C) (y := p / cC C b) (x := p % cC C b) h.1
  have h2 := divmod_at (w := C) (y := y) (x := x) hx
  rw [hk] at h1
  have e1 : p / cC C b = y := by rw [← h1.1, h2.1]
  have e2 : p % cC C b = x := by rw [← h1.2, h2.2]
  rw [← e1, ← e2, Nat.mul_comm]; exact (Nat.div_add_mod p _).symm
theorem cbPage_front {C R y x : Nat} {b : Bool} {L : List Cell} (hx : x < C) (hy : y < R) : cbPage C R b L (y * cC C b + x) = ⟨(L.getD (y * C + x) default).f, (L.getD (y * C + x) default).ft⟩ := by
  have h := cb_at (b := b) hx hy
  unfold cbPage
  rw [if_pos h.1, h.2.1]
theorem cbPage_back {C R y x : Nat} {b : Bool} {L : List Cell} (hC : 1 ≤ C) (hx : x < C) (hy : y < R) : cbPage C R b L (oppN (cC C b) (cR R b) (y * cC C b + x) b) = ⟨(L.getD (y * C + x) default).b, xr (L.getD (y * C + x) default).bt (roundB b)⟩ := by
  have h := cb_at (b := b) hx hy
  unfold cbPage
  rw [if_neg (by rw [cb_opp hC h.2.2, h.1]; simp), opp_opp b (cC_pos hC) h.2.2, h.2.1]
theorem cbMid_get (C R : Nat) (b : Bool) (L : List Cell) (j : Nat) {i : Nat} (h : i < (cbMid C R b L j).length) : (cbMid C R b L j)[i] = if cbKey C R b i < j then cbPage C R b L i else ⟨0, 0⟩ := by simp [cbMid]
theorem cbMid_set {C R y x : Nat} {b : Bool} {L : List Cell} (hC : 1 ≤ C) (hx : x < C) (hy : y < R) :
    ((cbMid C R b L (y * C + x)).set (y * cC C b + x) ⟨(L.getD (y * C + x) default).f, (L.getD (y * C + x) default).ft⟩).set (oppN (cC C b) (cR R b) (y * cC C b + x) b) ⟨(L.getD (y * C + x) default).b, xr (L.getD (y * C + x) default).bt (roundB b)⟩ = cbMid C R b L (y * C + x + 1) := by
  have h := cb_at (b := b) hx hy
  have ho := oppN_lt (C := cC C b) (R := cR R b) (k := y * cC C b + x) b (cC_pos hC) h.2.2
  apply List.ext_getElem
  · rw [List.length_set, List.length_set, cbMid_len, cbMid_len]
  · intro i h1 h2
    have hi : i < cC C b * cR R b := by rw [cbMid_len] at h2; exact h2
    rw [List.getElem_set, List.getElem_set, cbMid_get, cbMid_get]
    by_cases e1 : oppN (cC C b) (cR R b) (y * cC C b + x) b = i
    · have hk : cbKey C R b i = y * C + x := by
        unfold cbKey
        rw [← e1, if_neg (by rw [cb_opp hC h.2.2, h.1]; simp), opp_opp b (cC_pos hC) h.2.2, h.2.1]
      rw [if_pos e1, hk, if_pos (by omega), ← e1, cbPage_back hC hx hy]
    · rw [if_neg e1]
      by_cases e2 : y * cC C b + x = i
      · have hk : cbKey C R b i = y * C + x := by unfold cbKey; rw [← e2, if_pos h.1, h.2.1]
        rw [if_pos e2, hk, if_pos (by omega), ← e2, cbPage_front hx hy]
      · rw [if_neg e2]
        have hk : cbKey C R b i ≠ y * C + x := by
          intro hk
          unfold cbKey at hk
          by_cases hp : cbPrim C R (cC C b) i = true
          · rw [if_pos hp] at hk; exact e2 (cb_uniq hx hp hk).symm
          · rw [if_neg hp] at hk
            have hp2 : cbPrim C R (cC C b) (oppN (cC C b) (cR R b) i b) = true := by rw [cb_opp hC hi]; simpa using hp
            have := cb_uniq hx hp2 hk
            exact e1 (by rw [← this]; exact opp_opp b (cC_pos hC) hi)
        by_cases hlt : cbKey C R b i < y * C + x
        · rw [if_pos hlt, if_pos (by omega)]
        · rw [if_neg hlt, if_neg (by omega)]
theorem cbKey_lt {C R p : Nat} {b : Bool} (hC : 1 ≤ C) (hp : p < cC C b * cR R b) : cbKey C R b p < R * C := by
  have key : ∀ q, cbPrim C R (cC C b) q = true → cbSrc C (cC C b) q < R * C := fun q hq => by
    unfold cbPrim at hq
    have h := of_decide_eq_true hq
    unfold cbSrc; rw [Nat.mul_comm R C]; exact mul_lt h.2 h.1
  unfold cbKey
  by_cases h : cbPrim C R (cC C b) p = true
  · rw [if_pos h]; exact key p h
  · rw [if_neg h]; exact key _ (by rw [cb_opp hC hp]; simpa using h)
theorem cbMid_end {C R : Nat} {b : Bool} {L : List Cell} (hC : 1 ≤ C) : cbMid C R b L (R * C) = cbAll C R b L := by
  unfold cbMid cbAll
  apply List.map_congr_left
  intro p hp
  rw [if_pos (cbKey_lt hC (List.mem_range.1 hp))]
theorem cbAll_at {C R p : Nat} {b : Bool} {L : List Cell} (hp : p < cC C b * cR R b) : (cbAll C R b L).getD p default = cbPage C R b L p := by
  rw [getD_in default (by rw [cbAll_len]; exact hp)]
  simp [cbAll]
theorem hOne_get (C w : Nat) (L : List Cell) (y x : Nat) {p : Nat} (h : p < (hOne C w L y x).length) : (hOne C w L y x)[p] = h1Cell C w L p := by simp [hOne]
theorem hTwo_get (C R w : Nat) (b : Bool) (L : List Cell) (y x : Nat) {p : Nat} (h : p < (hTwo C R w b L y x).length) : (hTwo C R w b L y x)[p] = h2Cell C R w b L p := by simp [hTwo]
/-- Printed on both sides, both halves are the scheme. -/
theorem cb_halves {C R : Nat} {b : Bool} {L : List Cell} (hC : 1 ≤ C) (hlen : L.length = C * R) (hb : ∀ x ∈ L, Bit x.ft ∧ Bit x.bt) :
    hOne (cC C b) C (twTo (cC C b) (cR R b) (cbAll C R b L) b (cbAll C R b L).length) R 0 = L ∧ hTwo (cC C b) (cR R b) C b (twTo (cC C b) (cR R b) (cbAll C R b L) b (cbAll C R b L).length) R 0 = L := by
  have key : ∀ p, p < R * C → ∃ y x, x < C ∧ y < R ∧ p / C = y ∧ p % C = x ∧ y * C + x = p ∧ p < L.length := fun p hp => by
    refine ⟨p / C, p % C, Nat.mod_lt _ hC, Nat.div_lt_of_lt_mul (by rw [Nat.mul_comm]; exact hp), rfl, rfl, by rw [Nat.mul_comm]; exact Nat.div_add_mod p C, by rw [hlen, Nat.mul_comm]; exact hp⟩
  constructor
  · apply List.ext_getElem
    · rw [hOne_len, hlen, Nat.mul_comm]; try rfl
    · intro p h1 h2
      obtain ⟨y, x, hx, hy, e1, e2, e3, hpl⟩ := key p (by rw [hOne_len] at h1; exact h1)
      have h := cb_at (b := b) hx hy
      have ho := oppN_lt (C := cC C b) (R := cR R b) (k := y * cC C b + x) b (cC_pos hC) h.2.2
      have hbp := hb L[p] (List.getElem_mem hpl)
      have g1 : (hOne (cC C b) C (twTo (cC C b) (cR R b) (cbAll C R b L) b (cbAll C R b L).length) R 0)[p] = twCell (cC C b) (cR R b) (cbAll C R b L) b (y * cC C b + x) := by
        rw [hOne_get]
        unfold h1Cell
        rw [e1, e2, twTo_at (by rw [cbAll_len]; exact h.2.2)]
      rw [g1]
      unfold twCell
      rw [cbAll_at h.2.2, cbAll_at ho, cbPage_front hx hy, cbPage_back hC hx hy, e3, getD_in default hpl]
      simp only [xr_twice hbp.2 (roundB_bit b)]
  · apply List.ext_getElem
    · rw [hTwo_len, hlen, Nat.mul_comm]; try rfl
    · intro p h1 h2
      obtain ⟨y, x, hx, hy, e1, e2, e3, hpl⟩ := key p (by rw [hTwo_len] at h1; exact h1)
      have h := cb_at (b := b) hx hy
      have ho := oppN_lt (C := cC C b) (R := cR R b) (k := y * cC C b + x) b (cC_pos hC) h.2.2
      have hbp := hb L[p] (List.getElem_mem hpl)
      have g1 : (hTwo (cC C b) (cR R b) C b (twTo (cC C b) (cR R b) (cbAll C R b L) b (cbAll C R b L).length) R 0)[p] = ovCell b (twCell (cC C b) (cR R b) (cbAll C R b L) b (oppN (cC C b) (cR R b) (y * cC C b + x) b)) := by
        rw [hTwo_get]
        unfold h2Cell
        rw [e1, e2, twTo_at (by rw [cbAll_len]; exact ho)]
      rw [g1]
      unfold twCell
      rw [opp_opp b (cC_pos hC) h.2.2, cbAll_at h.2.2, cbAll_at ho, cbPage_front hx hy, cbPage_back hC hx hy, e3, getD_in default hpl]
      unfold ovCell
      simp only [xr_twice hbp.2 (roundB_bit b), xr_twice hbp.1 (roundB_bit b)]
end Go.Proofs.YtgoandhlcekmiaaGreatDoor

namespace Go.Proofs.YtgoandhlcekmiaaGreatDoor
open Go.RowKit

def cbErr (C R : Int) (L : List Cell) (b : Bool) : Int := if (checkSc C R L).2 ≠ 0 then (checkSc C R L).2 else if sideErr (cC C.toNat b : Nat) (cR R.toNat b : Nat) ≠ 0 then 8 else 0
def cbD (C R : Int) (L : List Cell) (b : Bool) : Int × Int := if cbErr C R L b = 0 then ((cC C.toNat b : Nat), (cR R.toNat b : Nat)) else (0, 0)
def cbL (C R : Int) (L : List Cell) (b : Bool) : List Page := if cbErr C R L b = 0 then cbAll C.toNat R.toNat b L else []
def CombPost (w : World) (q : Value) (D : Int × Int) (V : List Page) (e : Ending) (w' : World) : Prop :=
  ∃ (a : Option Addr) (n c : Nat), e = .returned (.tuple #[.agg #[.int .i64 D.1, .int .i64 D.2, .slice a n c], q]) ∧ n = V.length ∧ RowsAt 2 Page.l w' a V ∧ (a = none → c = 0) ∧ Below w.heap.size w w'
theorem cell_set2p {w : World} {al i j : Nat} {A B : Value} {p : Addr} {v : Value} (h : w.cell? p = some v) (hp : p.block ≠ al) : ((w.setCell ⟨al, i, none⟩ A).setCell ⟨al, j, none⟩ B).cell? p = some v := by
  rw [World.cell?_setCell_other _ _ _ _ (fun e => hp (congrArg Addr.block e).symm), World.cell?_setCell_other _ _ _ _ (fun e => hp (congrArg Addr.block e).symm), h]
structure CbEnv (w : World) (C R C2 R2 : Nat) (a : Option Addr) (L : List Cell) (c g8 g9 gp g10 N2 : Nat) (M : List Page) (wr : World) : Prop where
  bs : BoxAt wr w.heap.size #[.int .i64 C, .int .i64 R, .slice a L.length c] 29
  br : BoxAt wr (w.heap.size + 1) #[.int .i64 0, .int .i64 0, .slice none 0 0] 45
  b8 : BoxAt wr g8 #[.int .i64 C, .int .i64 R] 73
  b9 : BoxAt wr g9 #[.int .i64 C2, .int .i64 R2] 73
  bv : BoxAt wr g10 #[.int .i64 C2, .int .i64 R2, .slice (some ⟨gp, 0, none⟩) N2 N2] 45
  own : OwnR 2 79 Page.l wr gp (.slice (some ⟨gp, 0, none⟩) N2 N2) M
  low : Below w.heap.size w wr
section
variable {w wr wm : World} {C R C2 R2 : Nat} {a : Option Addr} {L : List Cell} {c g8 g9 gp g10 N2 : Nat} {M : List Page}
theorem CbEnv.below (E : CbEnv w C R C2 R2 a L c g8 g9 gp g10 N2 M wr) (hb : Below wr.heap.size wr wm) : CbEnv w C R C2 R2 a L c g8 g9 gp g10 N2 M wm :=
  ⟨E.bs.below hb, E.br.below hb, E.b8.below hb, E.b9.below hb, E.bv.below hb, E.own.below hb, E.low.trans (hb.mono E.low.size)⟩
theorem CbEnv.put (E : CbEnv w C R C2 R2 a L c g8 g9 gp g10 N2 M wr) (h1 : w.heap.size + 1 < g8) (h2 : g8 < g9) (h3 : g9 < gp) (h4 : gp < g10) (hm : N2 = M.length) {k : Nat} (hk : k < M.length) (x : Page) :
    CbEnv w C R C2 R2 a L c g8 g9 gp g10 N2 (M.set k x) ((wr.setCell ⟨gp, k * 2, none⟩ (.int .i64 x.p)).setCell ⟨gp, k * 2 + 1, none⟩ (.int .i64 x.t)) := by
  refine ⟨?_, ?_, ?_, ?_, ?_, E.own.put2p hm hk x, ?_⟩
  · exact (E.bs.set_other (p := ⟨gp, k * 2, none⟩) (by show w.heap.size ≠ gp; omega) _).set_other (p := ⟨gp, k * 2 + 1, none⟩) (by show w.heap.size ≠ gp; omega) _
  · exact (E.br.set_other (p := ⟨gp, k * 2, none⟩) (by show w.heap.size + 1 ≠ gp; omega) _).set_other (p := ⟨gp, k * 2 + 1, none⟩) (by show w.heap.size + 1 ≠ gp; omega) _
  · exact (E.b8.set_other (p := ⟨gp, k * 2, none⟩) (by show g8 ≠ gp; omega) _).set_other (p := ⟨gp, k * 2 + 1, none⟩) (by show g8 ≠ gp; omega) _
  · exact (E.b9.set_other (p := ⟨gp, k * 2, none⟩) (by show g9 ≠ gp; omega) _).set_other (p := ⟨gp, k * 2 + 1, none⟩) (by show g9 ≠ gp; omega) _
  · exact (E.bv.set_other (p := ⟨gp, k * 2, none⟩) (by show g10 ≠ gp; omega) _).set_other (p := ⟨gp, k * 2 + 1, none⟩) (by show g10 ≠ gp; omega) _
  · exact (E.low.setCell (p := ⟨gp, k * 2, none⟩) (by show w.heap.size ≤ gp; omega) _).setCell (p := ⟨gp, k * 2 + 1, none⟩) (by show w.heap.size ≤ gp; omega) _
end
/-- The result's three cells are set. -/
def set3 (v : World) (b : Nat) (x0 x1 x2 : Value) : World := ((v.setCell ⟨b, 0, none⟩ x0).setCell ⟨b, 1, none⟩ x1).setCell ⟨b, 2, none⟩ x2
theorem below_set3 {w v : World} (hB : Below w.heap.size w v) {b : Nat} (hb : w.heap.size ≤ b) (x0 x1 x2 : Value) : Below w.heap.size w (set3 v b x0 x1 x2) :=
  ((hB.setCell (p := ⟨b, 0, none⟩) hb _).setCell (p := ⟨b, 1, none⟩) hb _).setCell (p := ⟨b, 2, none⟩) hb _
theorem cb_fail {w v : World} (hB : Below w.heap.size w v) {q : Value} {D : Int × Int} {V : List Page} (hD : D = (0, 0)) (h1 : V = []) :
    CombPost w q D V (.returned (.tuple #[.agg #[.int .i64 0, .int .i64 0, .slice none 0 0], q])) v := by
  subst hD h1
  exact ⟨none, 0, 0, rfl, rfl, RowsAt.nil _ _, fun _ => rfl, hB⟩
theorem cb_rows {w v : World} {a1 : Option Addr} {n1 c1 : Nat} {V : List Page} {B : Nat} (hO : OwnR 2 79 Page.l v B (.slice a1 n1 c1) V) (hB : w.heap.size + 1 < B) (hb : Below w.heap.size w v) (q : Value) (D1 D2 : Int) (hn : n1 = V.length) (x0 x1 x2 : Value) :
    CombPost w q (D1, D2) V (.returned (.tuple #[.agg #[.int .i64 D1, .int .i64 D2, .slice a1 n1 c1], q])) (set3 v (w.heap.size + 1) x0 x1 x2) := by
  obtain ⟨b1, d1, f1, r1, -, -, k1, g1⟩ := hO.rows page_l
  injection f1 with f1 f1' f1''
  subst f1 f1''
  have hap : ∀ ad, a1 = some ad → ad.block ≠ w.heap.size + 1 := fun ad e => by have := g1 ad e; omega
  exact ⟨a1, n1, c1, rfl, hn, ((r1.set (p := ⟨w.heap.size + 1, 0, none⟩) hap _).set (p := ⟨w.heap.size + 1, 1, none⟩) hap _).set (p := ⟨w.heap.size + 1, 2, none⟩) hap _, k1, below_set3 hb (by omega) _ _ _⟩
end Go.Proofs.YtgoandhlcekmiaaGreatDoor

namespace Go.Proofs.YtgoandhlcekmiaaGreatDoor
open Go.RowKit

set_option maxRecDepth 100000 in
set_option maxHeartbeats 2000000 in
theorem copyOwn_any (C R : Int) (a : Option Addr) (L : List Cell) (c : Nat) (w : World) (hL : RowsAt 4 Cell.l w a L) (hl : L.length ≤ 1000000) (hn : a = none → c = 0) :
    Calls Tryz.prog 8 #[.agg #[.int .i64 C, .int .i64 R, .slice a L.length c]] w fun e w' => ∃ v, e = .returned (.agg #[.int .i64 C, .int .i64 R, v]) ∧ OwnR 4 57 Cell.l w' w.heap.size v L ∧ Below w.heap.size w w' := by
  obtain ⟨w2, hw2⟩ : ∃ w2, w2 = (w.alloc (.cells #[.int .i64 C, .int .i64 R, .slice a L.length c] 29)).alloc (.cells #[.int .i64 0, .int .i64 0, .slice none 0 0] 29) := ⟨_, rfl⟩
  have hsz : w2.heap.size = w.heap.size + 1 + 1 := by rw [hw2]; simp
  have bx0 : BoxAt w2 w.heap.size #[.int .i64 C, .int .i64 R, .slice a L.length c] 29 := by rw [hw2]; exact (BoxAt.new w _ _).alloc _
  have br0 : BoxAt w2 (w.heap.size + 1) #[.int .i64 0, .int .i64 0, .slice none 0 0] 29 := by
    rw [hw2]
    have := BoxAt.new (w.alloc (.cells #[.int .i64 C, .int .i64 R, .slice a L.length c] 29)) #[.int .i64 0, .int .i64 0, .slice none 0 0] 29
    simpa using this
  have hB2 : Below w.heap.size w w2 := by rw [hw2]; exact ((Below.refl w.heap.size w).alloc (Nat.le_refl _) _).alloc (by simp) _
  have hL2 := hL.below hB2
  have hm := World.ownsRow_made (e := 57) (size := 4) (base := w2.heap.size) w2 #[] 0 (Nat.le_refl _) (Nat.zero_le _) rfl
  have hown : OwnR 4 57 Cell.l (w2.alloc (.cells #[] 57)) w2.heap.size (.slice (some ⟨w2.heap.size, 0, none⟩) 0 0) [] := hm
  rw [hsz] at hown
  have bx1 := bx0.alloc (.cells #[] 57)
  have br1 := br0.alloc (.cells #[] 57)
  have hB3 := hB2.alloc hB2.size (.cells #[] 57)
  have HL := Lib.hid (hL2.alloc (.cells #[] 57))
  rw [hw2] at bx1 br1 hown hB3 HL
  clear hm hL hL2 bx0 br0 hB2 hw2 hsz
  have c2 := bx1.cell 2
  simp at c2
  go_enter Tryz.func8, Tryz.ntmps8
  go_wp2_with (at_builtin; refine wpList_appL tCell cell_l _ (by rfl) _ _ (by rfl) (w.heap.size + 1 + 1) _ [] (by rfl) hown a L c (by rfl) HL.out hn (by simp) hl (by simp) ?_; intro v' w' hown' hg' hB' hor'; have bx3 := bx1.grown hg' (by simp [Value.ownBlock]; try omega); have br3 := br1.grown hg' (by simp [Value.ownBlock]; try omega); have fz := bx3.free 2; have d0 := bx3.cell 0; have d1 := bx3.cell 1; have d2 := bx3.cell 2; have hbl := bx3.lt; have hrl := br3.lt; simp at d0 d1 d2; have r0 := br3.cell 0; have r1 := br3.cell 1; have r2 := br3.cell 2; simp at r0 r1 r2; have z := fun j => br3.free j; obtain ⟨a6, d6, e6, -, -, -, -, -⟩ := hown'.rows cell_l; obtain ⟨n6, hn6⟩ : ∃ n, n = ([] ++ L).length := ⟨_, rfl⟩; rw [← hn6] at e6; subst e6; clear hn6)
  refine bodyPost_ret (v := .agg #[.int .i64 C, .int .i64 R, .slice a6 n6 d6]) ?_ rfl ?_
  · simp [results, Tryz.results8, go_sem, r0, r1, r2]
  · refine ⟨.slice a6 n6 d6, rfl, ?_, ?_⟩
    · have hown6 : OwnR 4 57 Cell.l w' (w.heap.size + 1 + 1) (.slice a6 n6 d6) L := hown'
      have hap0 : (Value.slice a6 n6 d6).ownBlock ≠ some w.heap.size := fun e => by have := (hown6.lt _ e).1; omega
      have hap : (Value.slice a6 n6 d6).ownBlock ≠ some (w.heap.size + 1) := fun e => by have := (hown6.lt _ e).1; omega
      exact ((((hown6.set (p := ⟨w.heap.size, 2, none⟩) hap0 _).set (p := ⟨w.heap.size + 1, 0, none⟩) hap _).set (p := ⟨w.heap.size + 1, 1, none⟩) hap _).set (p := ⟨w.heap.size + 1, 2, none⟩) hap _).mono (by omega)
    · exact ((((hB3.trans (hB'.mono (B' := w.heap.size) (by omega))).setCell (p := ⟨w.heap.size, 2, none⟩) (Nat.le_refl _) _).setCell (p := ⟨w.heap.size + 1, 0, none⟩) (by show w.heap.size ≤ w.heap.size + 1; omega) _).setCell (p := ⟨w.heap.size + 1, 1, none⟩) (by show w.heap.size ≤ w.heap.size + 1; omega) _).setCell (p := ⟨w.heap.size + 1, 2, none⟩) (by show w.heap.size ≤ w.heap.size + 1; omega) _
theorem copySc2 (C R : Int) (a : Option Addr) (n : Nat) (L : List Cell) (c : Nat) (w : World) (hn : n = L.length) (hL : RowsAt 4 Cell.l w a L) (hl : L.length ≤ 1000000) (hc : a = none → c = 0) :
    Calls Tryz.prog 8 #[.agg #[.int .i64 C, .int .i64 R, .slice a n c]] w (CopySchemePost C R L w) := by
  subst hn; exact copyScheme_any C R a L c w hL hl hc
theorem sameSc2 (C R : Int) (L : List Cell) (a1 a2 : Option Addr) (n1 n2 c1 c2 : Nat) (w : World) (e1 : n1 = L.length) (e2 : n2 = L.length) (h1 : RowsAt 4 Cell.l w a1 L) (h2 : RowsAt 4 Cell.l w a2 L) (hl : L.length ≤ maxLen) :
    Calls Tryz.prog 12 #[.agg #[.int .i64 C, .int .i64 R, .slice a1 n1 c1], .agg #[.int .i64 C, .int .i64 R, .slice a2 n2 c2]] w fun e w' => e = .returned (.bool true) ∧ Below w.heap.size w w' := by
  subst e1; subst e2
  refine (same_any ⟨C, R, L⟩ a1 c1 ⟨C, R, L⟩ a2 c2 w h1 h2 hl hl).mono fun e w' ⟨he, hb⟩ => ⟨?_, hb⟩
  rw [he]; exact ret_bool (by unfold sameS; simp)
theorem hv_ok {C R : Int} {L : List Cell} {b : Bool} (h : hvErr C R L b = 0) : cellsErr C R L.length = 0 ∧ L.all cellPB = true ∧ evenB C.toNat R.toNat b = true := by
  unfold hvErr at h
  by_cases h1 : cellsErr C R L.length = 0
  · rw [if_neg (by simp [h1])] at h
    by_cases h2 : L.all cellPB = true
    · rw [if_pos h2] at h
      by_cases h3 : evenB C.toNat R.toNat b = true
      · exact ⟨h1, h2, h3⟩
      · rw [if_neg h3] at h; simp at h
    · rw [if_neg h2] at h; simp at h
  · rw [if_pos h1] at h; exact absurd h h1
theorem hv_len (C R : Int) (L : List Cell) (b : Bool) : (hv1 C R L b).length ≤ 64 ∧ (hv2 C R L b).length ≤ 64 := by
  unfold hv1 hv2
  by_cases h : hvErr C R L b = 0
  · rw [if_pos h, if_pos h, hOne_len, hTwo_len]
    obtain ⟨h1, -, -⟩ := hv_ok h
    obtain ⟨hs, -⟩ := cells_ok h1
    obtain ⟨sC, sR, -⟩ := side_ok hs
    have e1 : halfC C.toNat b ≤ 8 := by unfold halfC; split <;> omega
    have e2 : halfR R.toNat b ≤ 8 := by unfold halfR; split <;> omega
    have := Nat.mul_le_mul e2 e1
    omega
  · rw [if_neg h, if_neg h]; exact ⟨Nat.zero_le _, Nat.zero_le _⟩
/-- The halves of the sheet turned over. -/
theorem hv_over {cn rn : Nat} {L : List Cell} (h : hvErr cn rn L false = 0) : hvErr cn rn (ovTo cn rn L L.length) false = 0 ∧ hvD cn rn (ovTo cn rn L L.length) false = hvD cn rn L false ∧ hv1 cn rn (ovTo cn rn L L.length) false = hv2 cn rn L false ∧ hv2 cn rn (ovTo cn rn L L.length) false = hv1 cn rn L false := by
  obtain ⟨h1, h2, h3⟩ := hv_ok h
  obtain ⟨hs, hn⟩ := cells_ok h1
  obtain ⟨sC, sR, -⟩ := side_ok hs
  have hlen : L.length = cn * rn := by
    have : (L.length : Int) = ((cn * rn : Nat) : Int) := by rw [hn, Int.natCast_mul]
    omega
  have hO : hvErr cn rn (ovTo cn rn L L.length) false = 0 := by
    unfold hvErr
    rw [ovTo_len, if_neg (by simp [h1]), if_pos (ov_right (by omega) hlen h2), if_pos h3]
  have hh := half_over (C := cn) (R := rn) (w := halfC cn false) (y := halfR rn false) (L := L) (by omega) (by unfold halfC; rw [if_neg (by simp)]; omega) (by unfold halfR; rw [if_neg (by simp)]; exact Nat.le_refl _) hlen h2
  refine ⟨hO, ?_, ?_, ?_⟩
  · unfold hvD; rw [if_pos hO, if_pos h]
  · unfold hv1 hv2; rw [if_pos hO, if_pos h, Int.toNat_natCast, Int.toNat_natCast]; exact hh.1
  · unfold hv1 hv2; rw [if_pos hO, if_pos h, Int.toNat_natCast, Int.toNat_natCast]; exact hh.2
end Go.Proofs.YtgoandhlcekmiaaGreatDoor
