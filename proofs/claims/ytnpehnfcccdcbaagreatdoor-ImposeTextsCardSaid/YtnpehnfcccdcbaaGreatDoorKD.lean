/-
  Package impose: Pile.
-/
import Derived.Test.YtnpehnfcccdcbaaGreatDoorIN
namespace Go.Proofs.YtnpehnfcccdcbaaGreatDoor
open Go.RowKit

def pileE (C R : Int) (L : List Fold) : List Leaf := if (checkFo C R L).2 = 0 then pileP C R L else []
def PilePost (w : World) (C R : Int) (L : List Fold) (e : Ending) (w' : World) : Prop :=
  ∃ (a : Option Addr) (n c : Nat), e = .returned (.tuple #[.slice a n c, .int .i64 (checkFo C R L).2]) ∧ n = (pileE C R L).length ∧ RowsAt 4 Leaf.l w' a (pileE C R L) ∧ (a = none → c = 0) ∧ Below w.heap.size w w'
set_option maxRecDepth 100000 in
set_option maxHeartbeats 2000000 in
theorem pile_any (C R : Int) (a : Option Addr) (L : List Fold) (c : Nat) (w : World) (hL : RowsAt 2 Fold.l w a L) (hl : L.length ≤ maxLen) (hI : ∀ x ∈ L, OkI x.c) :
    Calls Tryz.prog 32 #[.agg #[.int .i64 C, .int .i64 R], .slice a L.length c] w (PilePost w C R L) := by
  by_cases h1 : (checkFo C R L).2 = 0
  · have HE := Lib.hid (show pileE C R L = pileP C R L by unfold pileE; rw [if_pos h1])
    have HI := Lib.hid hI
    obtain ⟨hs, hl12, hfe⟩ := checkFo_ok h1
    obtain ⟨sC, sR, sm⟩ := side_ok hs
    obtain ⟨cn, rfl⟩ : ∃ n : Nat, C = n := ⟨C.toNat, by omega⟩
    obtain ⟨rn, rfl⟩ : ∃ n : Nat, R = n := ⟨R.toNat, by omega⟩
    have hC8 : 1 ≤ cn ∧ cn ≤ 8 := by omega
    have hR8 : 1 ≤ rn ∧ rn ≤ 8 := by omega
    have H1 := Lib.hid h1; have HFE := Lib.hid hfe; have HC8 := Lib.hid hC8; have HR8 := Lib.hid hR8
    have hcf := fun W hW => checkFolds_any (cn : Int) (rn : Int) a L c W hW hl hI
    rw [h1] at hcf
    have HCF := Lib.hid hcf
    clear h1 hfe sC sR sm hC8 hR8 hs hI hcf
    go_enter Tryz.func32, Tryz.ntmps32
    go_wp2_with fail
    refine (HCF.out _ (hL.alloc _)).mono ?_
    rintro e w1 ⟨rfl, hb1⟩
    have hB1 := ((Below.refl w.heap.size w).alloc (Nat.le_refl _) (.cells #[.int .i64 cn, .int .i64 rn] 42)).trans (hb1.mono (B' := w.heap.size) (by simp))
    have bx1 := (BoxAt.new w #[.int .i64 cn, .int .i64 rn] 42).below hb1
    have c0 := bx1.cell 0; have c1 := bx1.cell 1
    have hbl := bx1.lt
    simp at c0 c1
    clear hb1
    go_wp2_with fail
    refine (sizeOf_any _ _ _).mono ?_
    rintro e w2 ⟨rfl, hb2⟩
    have hB2 := hB1.trans (hb2.mono (B' := w.heap.size) hB1.size)
    clear hb2 c0 c1 hbl bx1 hB1
    go_wp2_with fail
    refine (flat_any cn rn _ HC8.out HR8.out).mono ?_
    rintro e w3 ⟨A, n, cp, Ps, rfl, hn, hP3, hF3, hPs, hb3⟩
    have hB3 := hB2.trans (hb3.mono (B' := w.heap.size) hB2.size)
    clear hb3 hB2
    obtain ⟨bp, hbp⟩ : ∃ bp, w3.heap.size = bp := ⟨_, rfl⟩
    have hPs0 : Hid (Ps.map (·.l) = flatP cn (cn * rn)) := hPs
    have bp0 : BoxAt (w3.alloc (.cells #[.int .i64 cn, .int .i64 rn, .slice A n cp] 119)) bp #[.int .i64 cn, .int .i64 rn, .slice A n cp] 119 := by rw [← hbp]; exact BoxAt.new _ _ _
    have hP4 := hP3.alloc (.cells #[.int .i64 cn, .int .i64 rn, .slice A n cp] 119)
    have hB4 := hB3.alloc hB3.size (.cells #[.int .i64 cn, .int .i64 rn, .slice A n cp] 119)
    have hwbp : w.heap.size ≤ bp := by rw [← hbp]; exact hB3.size
    have hOk : Hid (PileOk cn rn (Ps.map (·.l))) := Lib.hid (by rw [hPs]; exact PileOk.flat HC8.out HR8.out)
    have HN := Lib.hid hn
    clear hn hPs hP3 hB3
    go_wp2_with fail
    have HBP := Lib.hid hbp
    clear hbp
    go_loopw [25] (fun i wr => ∃ (k C' R' : Nat) (A : Option Addr) (n cp : Nat) (Ps : List PS), k ≤ L.length ∧ i = .int .i64 k ∧ BoxAt wr bp #[.int .i64 C', .int .i64 R', .slice A n cp] 119 ∧ Hid (n = Ps.length) ∧ PlacesAt wr A Ps ∧ Hid ((1 ≤ C' ∧ C' ≤ 8) ∧ (1 ≤ R' ∧ R' ≤ 8)) ∧ Hid (PileOk C' R' (Ps.map (·.l))) ∧ Hid ((foldsErr C' R' (L.drop k) k).2 = 0) ∧ Hid (runF cn rn (flatP cn (cn * rn)) (L.drop 0) = runF C' R' (Ps.map (·.l)) (L.drop k)) ∧ Below w.heap.size w wr) (fun i _ => L.length - (intOf i).toNat)
    case atStart => exact ⟨0, cn, rn, A, n, cp, Ps, Nat.zero_le _, rfl, bp0, HN, hP4, Lib.hid ⟨HC8.out, HR8.out⟩, hOk, HFE, Lib.hid (by rw [hPs0.out]), hB4⟩
    case round =>
      obtain ⟨k, C', R', A, n, cp, Ps, hk, rfl, bx, HN, hP, HS, HOK, HFE', HR, hB⟩ := hrel
      clear bp0 hP4 hB4 hF3
      have c0 := bx.cell 0; have c1 := bx.cell 1; have c2 := bx.cell 2
      have z := fun j => bx.free j
      have hbl := bx.lt
      simp at c0 c1 c2
      by_cases hlt : k < L.length
      · obtain ⟨ad, rfl, had, s0, s1⟩ := (hL.below hB).fold hlt
        obtain ⟨f, ef⟩ : ∃ x, x = L[k] := ⟨_, rfl⟩
        rw [← ef] at s0 s1
        obtain ⟨hfe1, hfe2⟩ := foldsErr_ok hlt HFE'.out
        rw [← ef] at hfe1 hfe2
        have ha := after_ok (C := (C' : Int)) (R := (R' : Int)) (f := f) (by have := HS.out; omega) (by have := HS.out; omega) hfe1
        obtain ⟨C2, hC2⟩ : ∃ n : Nat, afterC C' f = n := ⟨(afterC C' f).toNat, by omega⟩
        obtain ⟨R2, hR2⟩ : ∃ n : Nat, afterR R' f = n := ⟨(afterR R' f).toNat, by omega⟩
        rw [hC2, hR2] at ha hfe2
        have hok2 := Lib.hid (HOK.out.fold HS.out.1 HS.out.2 hfe1 hC2 hR2)
        have hrs : Hid (runF C' R' (Ps.map (·.l)) (L.drop k) = runF C2 R2 (outF C' R' C2 R2 f (Ps.map (·.l))) (L.drop (k + 1))) := Lib.hid (by
          rw [runF_step hlt, ← ef, hC2, hR2, Int.toNat_natCast, Int.toNat_natCast])
        have hfd := fun W hW => folded_any C' R' C2 R2 A n cp f Ps W HS.out.1 HS.out.2 hfe1 hC2 hR2 HN.out hW (by have := HOK.out.len; rw [List.length_map] at this; exact this) (fun x hx => HOK.out.pos _ (List.mem_map.2 ⟨x, hx, rfl⟩)) HOK.out.sum (fun x hx => HOK.out.bits _ (List.mem_map.2 ⟨x, hx, rfl⟩))
        rw [accF_out HS.out.1 HS.out.2 hfe1 hC2 hR2] at hfd
        have HFD := Lib.hid hfd
        have HS2 : Hid ((1 ≤ C2 ∧ C2 ≤ 8) ∧ (1 ≤ R2 ∧ R2 ≤ 8)) := Lib.hid (by have := HS.out; omega)
        have HF2 : Hid ((foldsErr C2 R2 (L.drop (k + 1)) ((k + 1 : Nat) : Int)).2 = 0) := Lib.hid (by push_cast; exact hfe2)
        have hk12 : k ≤ 12 := by omega
        clear hfd ef ha hfe1 hfe2 hC2 hR2
        go_wp2_with fail
        refine (HFD.out _ (hP.alloc _)).mono ?_
        rintro e w5 ⟨A2, n2, cp2, Ps2, rfl, hn2, hP2, hF2, hPs2, hb5⟩
        have bx5 := (bx.alloc _).below hb5
        have hB5 := (hB.alloc hB.size _).trans (hb5.mono (B' := w.heap.size) (by have := hB.size; simp; omega))
        have hFb : FromB (bp + 1) A2 Ps2 := by
          have : bp + 1 ≤ (wr.alloc (.cells #[.int .i64 f.k, .int .i64 f.c] 98)).heap.size := by simp; omega
          exact ⟨fun ad e => Nat.le_trans this (hF2.1 ad e), fun x hx ad e => Nat.le_trans this (hF2.2 x hx ad e)⟩
        have HN2 := Lib.hid hn2
        have HP2 := Lib.hid hPs2
        clear c0 c1 c2 z hbl s0 s1 hb5 hn2 hPs2 hF2 hP
        have c0 := bx5.cell 0; have c1 := bx5.cell 1; have c2 := bx5.cell 2
        have z := fun j => bx5.free j
        have hbl := bx5.lt
        simp at c0 c1 c2
        go_wp2_with fail
        go_roundw
        case rel =>
          refine ⟨k + 1, C2, R2, A2, n2, cp2, Ps2, by omega, by go_num, ((bx5.set 0 _).set 1 _).set 2 _, HN2, ((hP2.set hFb (Nat.lt_succ_self bp) 0 _).set hFb (Nat.lt_succ_self bp) 1 _).set hFb (Nat.lt_succ_self bp) 2 _, HS2, Lib.hid (by rw [HP2.out]; exact hok2.out), HF2, Lib.hid (by rw [HR.out, hrs.out, HP2.out]), ((hB5.setCell (p := ⟨bp, 0, none⟩) hwbp _).setCell (p := ⟨bp, 1, none⟩) hwbp _).setCell (p := ⟨bp, 2, none⟩) hwbp _⟩
        case measure => simp [intOf]; omega
      · have hone := foldsErr_one hlt HFE'.out
        have hend := runF_end (C := C') (R := R') (P := Ps.map (·.l)) hlt
        have hlen1 : Ps.length = 1 := by
          have h1 := HOK.out.len
          rw [List.length_map] at h1
          have h2 : C' * R' ≤ 1 := by
            have : ((C' * R' : Nat) : Int) ≤ 1 := by push_cast; omega
            omega
          have h3 := HS.out
          have h4 : 1 * 1 ≤ C' * R' := Nat.mul_le_mul h3.1.1 h3.2.1
          omega
        obtain ⟨x, rfl⟩ := List.length_eq_one_iff.1 hlen1
        obtain ⟨ad, rfl, had, hcell, hrow, hnil⟩ := hP 0 (Nat.zero_lt_one)
        have hn1 : n = 1 := HN.out
        have HX : Hid (pileE cn rn L = x.l) := Lib.hid (by
          rw [HE.out]; unfold pileP
          rw [Int.toNat_natCast, Int.toNat_natCast, ← List.drop_zero (l := L), HR.out, hend]; try rfl)
        simp only [List.getElem_cons_zero] at hcell hrow hnil
        unfold PS.sl at hcell
        rw [show ad.add 0 = ad by unfold Addr.add; rw [if_pos rfl]] at hcell
        subst hn1
        clear hone hend
        go_wp2_with fail
        go_ret2
        exact ⟨x.a, x.l.length, x.c, by rw [H1.out]; try rfl, by rw [HX.out], by rw [HX.out]; exact hrow, hnil, hB⟩
  · have HE := Lib.hid (show pileE C R L = [] by unfold pileE; rw [if_neg h1])
    have heb : ((checkFo C R L).2 != 0) = true := by simpa using h1
    clear h1
    go_enter Tryz.func32, Tryz.ntmps32
    go_wp2_with fail
    refine (checkFolds_any C R a L c _ (hL.alloc _) hl hI).mono ?_
    rintro e w1 ⟨rfl, hb1⟩
    have hB1 := ((Below.refl w.heap.size w).alloc (Nat.le_refl _) (.cells #[.int .i64 C, .int .i64 R] 42)).trans (hb1.mono (B' := w.heap.size) (by simp))
    go_wp2_with fail
    go_ret2
    exact ⟨none, 0, 0, rfl, by rw [HE.out]; try rfl, by rw [HE.out]; exact RowsAt.nil _ _, fun _ => rfl, hB1⟩
end Go.Proofs.YtnpehnfcccdcbaaGreatDoor

namespace Go.Proofs.YtnpehnfcccdcbaaGreatDoor
open Go.RowKit

theorem outF_all {Q : Leaf → Prop} (hQ : ∀ o t x, Q x → Q (turnX o t x)) {C R C' R' : Nat} {f : Fold} {P : List (List Leaf)} (h : ∀ x ∈ P, ∀ y ∈ x, Q y) : ∀ x ∈ outF C R C' R' f P, ∀ y ∈ x, Q y := by
  have hg : ∀ k, ∀ y ∈ P.getD k [], Q y := fun k y hy => by
    rw [List.getD_eq_getElem?_getD] at hy
    cases he : P[k]? with
    | none => rw [he] at hy; cases hy
    | some x => rw [he] at hy; exact h x (List.mem_of_getElem? he) y hy
  have ht : ∀ o t k, ∀ y ∈ turnL o t (P.getD k []), Q y := fun o t k y hy => by
    have hy : y ∈ (P.getD k []).map (turnX o t) := by unfold turnL at hy; split at hy <;> simpa using hy
    obtain ⟨z, hz, rfl⟩ := List.mem_map.1 hy
    exact hQ _ _ _ (hg k z hz)
  intro x hx y hy
  obtain ⟨j, _, rfl⟩ := List.mem_map.1 hx
  unfold placeF at hy
  rcases List.mem_append.1 hy with hy | hy
  · split at hy
    · cases hy
    · exact ht _ _ _ y hy
  · split at hy
    · cases hy
    · exact ht _ _ _ y hy
theorem runF_all {Q : Leaf → Prop} (hQ : ∀ o t x, Q x → Q (turnX o t x)) : ∀ (L : List Fold) (C R : Nat) (P : List (List Leaf)), (∀ x ∈ P, ∀ y ∈ x, Q y) → ∀ x ∈ (runF C R P L).2.2, ∀ y ∈ x, Q y
  | [], _, _, _, h => h
  | _ :: L, _, _, _, h => runF_all hQ L _ _ _ (outF_all hQ h)
theorem pileP_all {Q : Leaf → Prop} (hQ : ∀ o t x, Q x → Q (turnX o t x)) {C R : Int} {L : List Fold} (h : ∀ x ∈ flatP C.toNat (C.toNat * R.toNat), ∀ y ∈ x, Q y) : ∀ y ∈ pileP C R L, Q y := by
  intro y hy
  unfold pileP at hy
  rw [List.getD_eq_getElem?_getD] at hy
  cases he : (runF C.toNat R.toNat (flatP C.toNat (C.toNat * R.toNat)) L).2.2[0]? with
  | none => rw [he] at hy; cases hy
  | some x => rw [he] at hy; exact runF_all hQ L _ _ _ h x (List.mem_of_getElem? he) y hy
/-- A leaf of a sheet. -/
def LeafIn (C R : Int) (x : Leaf) : Prop := (0 ≤ x.c ∧ x.c < C) ∧ (0 ≤ x.r ∧ x.r < R) ∧ LeafBits x
theorem pileP_in {C R : Int} {L : List Fold} (hC : 1 ≤ C) (hR : 1 ≤ R) : ∀ y ∈ pileP C R L, LeafIn C R y := by
  refine pileP_all (fun o t x hx => ⟨hx.1, hx.2.1, xr_bit _ _, xr_bit _ _⟩) ?_
  intro x hx y hy
  obtain ⟨j, hj, rfl⟩ := List.mem_map.1 hx
  rw [List.mem_singleton.1 hy]
  have hj : j < C.toNat * R.toNat := by simpa using hj
  have h1 : j % C.toNat < C.toNat := Nat.mod_lt _ (by omega)
  have h2 : j / C.toNat < R.toNat := Nat.div_lt_of_lt_mul hj
  unfold LeafIn leafAt
  simp only
  generalize j % C.toNat = u at *
  generalize j / C.toNat = v at *
  exact ⟨by omega, by omega, Or.inl rfl, Or.inl rfl⟩
/-- How many leaves there are stays so. -/
theorem runF_sum : ∀ (L : List Fold) (C R : Nat) (P : List (List Leaf)) (i : Int), (1 ≤ C ∧ C ≤ 8) → (1 ≤ R ∧ R ≤ 8) → PileOk C R P → (foldsErr C R L i).2 = 0 → sumL (runF C R P L).2.2 = sumL P ∧ (runF C R P L).2.2.length = 1
  | [], C, R, P, i, hC, hR, hP, h => by
    refine ⟨rfl, ?_⟩
    have h1 : ¬ 1 < (C : Int) * R := fun h1 => by
      have e : foldsErr C R [] i = (i, 25) := by show (if _ then _ else _) = _; rw [if_pos h1]
      rw [e] at h; simp at h
    have h2 := hP.len
    have h3 : C * R ≤ 1 := by
      have : ((C * R : Nat) : Int) ≤ 1 := by push_cast; omega
      omega
    have h4 : 1 * 1 ≤ C * R := Nat.mul_le_mul hC.1 hR.1
    show P.length = 1
    omega
  | f :: L, C, R, P, i, hC, hR, hP, h => by
    obtain ⟨h1, h2⟩ := foldsErr_ok (L := f :: L) (k := 0) (Nat.succ_pos _) h
    have h1 : foldErr C R f = 0 := h1
    have ha := after_ok (C := (C : Int)) (R := (R : Int)) (f := f) (by omega) (by omega) h1
    obtain ⟨C2, hC2⟩ : ∃ n : Nat, afterC C f = n := ⟨(afterC C f).toNat, by omega⟩
    obtain ⟨R2, hR2⟩ : ∃ n : Nat, afterR R f = n := ⟨(afterR R f).toNat, by omega⟩
    have h2 : (foldsErr (afterC C f) (afterR R f) L (i + 1)).2 = 0 := h2
    rw [hC2, hR2] at h2 ha
    have hr : runF C R P (f :: L) = runF C2 R2 (outF C R C2 R2 f P) L := by
      show runF (afterC C f).toNat (afterR R f).toNat (outF C R (afterC C f).toNat (afterR R f).toNat f P) L = _
      rw [hC2, hR2, Int.toNat_natCast, Int.toNat_natCast]
    rw [hr]
    have ih := runF_sum L C2 R2 (outF C R C2 R2 f P) (i + 1) (by omega) (by omega) (hP.fold hC hR h1 hC2 hR2) h2
    refine ⟨ih.1.trans ?_, ih.2⟩
    rw [← accF_out hC hR h1 hC2 hR2, accF_sum hC hR h1 hC2 hR2 hP.len _ (Nat.le_refl _), List.take_of_length_le (by rw [hP.len]; exact Nat.le_refl _)]
theorem pileP_len {C R : Int} {L : List Fold} (h : (checkFo C R L).2 = 0) : (pileP C R L).length = C.toNat * R.toNat := by
  obtain ⟨hs, _, hf⟩ := checkFo_ok h
  obtain ⟨sC, sR, _⟩ := side_ok hs
  obtain ⟨cn, rfl⟩ : ∃ n : Nat, C = n := ⟨C.toNat, by omega⟩
  obtain ⟨rn, rfl⟩ : ∃ n : Nat, R = n := ⟨R.toNat, by omega⟩
  have := runF_sum L cn rn (flatP cn (cn * rn)) 0 (by omega) (by omega) (PileOk.flat (by omega) (by omega)) hf
  rw [sumL_flat] at this
  unfold pileP
  rw [Int.toNat_natCast, Int.toNat_natCast]
  obtain ⟨x, hx⟩ := List.length_eq_one_iff.1 this.2
  rw [hx] at this ⊢
  have h1 : x.length + 0 = cn * rn := this.1
  show x.length = _
  omega
/-- The cell of the i-th leaf of a pile. -/
def cellP (i : Nat) (x : Leaf) : Cell := if x.o = 1 then ⟨2 * i + 2, x.t, 2 * i + 1, x.t⟩ else ⟨2 * i + 1, x.t, 2 * i + 2, x.t⟩
/-- The cells when the first i leaves have been laid. -/
def cellsP (C : Int) (N : Nat) (l : List Leaf) : Nat → List Cell
  | 0 => List.replicate N ⟨0, 0, 0, 0⟩
  | i + 1 => (cellsP C N l i).set (((l.getD i default).r * C + (l.getD i default).c).toNat) (cellP i (l.getD i default))
theorem cellsP_len (C : Int) (N : Nat) (l : List Leaf) : ∀ i, (cellsP C N l i).length = N
  | 0 => by simp [cellsP]
  | i + 1 => by unfold cellsP; rw [List.length_set]; exact cellsP_len C N l i
def schemeP (C R : Int) (L : List Fold) : List Cell := cellsP C (C.toNat * R.toNat) (pileP C R L) (pileP C R L).length
end Go.Proofs.YtnpehnfcccdcbaaGreatDoor
