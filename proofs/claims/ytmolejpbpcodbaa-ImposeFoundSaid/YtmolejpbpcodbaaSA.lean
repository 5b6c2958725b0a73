/-
  Package impose: Reads.
-/
import Derived.Test.YtmolejpbpcodbaaRM
import Derived.Test.YtmolejpbpcodbaaY5
import Derived.Test.YtmolejpbpcodbaaYD
namespace Go.Proofs.Ytmolejpbpcodbaa
open Go.RowKit

theorem scOk {C R : Int} {L : List Cell} (h : (checkSc C R L).2 = 0) : cellsErr C R L.length = 0 := by
  unfold checkSc at h
  by_cases h1 : cellsErr C R L.length = 0
  · exact h1
  · rw [if_pos h1] at h; exact absurd h h1
theorem scN (C R : Int) (a : Option Addr) (n : Nat) (L : List Cell) (c : Nat) (w : World) (hn : n = L.length) (hL : RowsAt 4 Cell.l w a L) (hl : L.length ≤ 1000000) {p q : Int} (h1 : (checkSc C R L).1 = p) (h2 : (checkSc C R L).2 = q) :
    Calls Try.prog 24 #[.agg #[.int .i64 C, .int .i64 R, .slice a n c]] w fun e w' => e = .returned (.tuple #[.int .i64 p, .int .i64 q]) ∧ Below w.heap.size w w' := by
  subst hn; rw [← h1, ← h2]; exact checkScheme_any C R a L c w hL hl
theorem refScN (C R : Int) (a : Option Addr) (L : List Cell) (c : Nat) (w : World) (hL : RowsAt 4 Cell.l w a L) (hl : L.length ≤ 1000000) {p q : Int} (h1 : (checkSc C R L).1 = p) (h2 : (checkSc C R L).2 = q) :
    Calls Try.prog 10 #[.agg #[.int .i64 C, .int .i64 R, .slice a L.length c]] w fun e w' => e = .returned (.tuple #[.int .i64 p, .int .i64 q]) ∧ Below w.heap.size w w' := by
  rw [← h1, ← h2]; exact refCheckScheme_any C R a L c w hL hl
theorem sch_bits {m : Int} : ∀ (L : List Cell) (S : List Int) (i : Int), (schErr m L S i).2 = 0 → ∀ x ∈ L, Bit x.ft ∧ Bit x.bt
  | [], _, _, _, x, hx => by cases hx
  | y :: L, S, i, h, x, hx => by
    unfold schErr at h
    by_cases h1 : cellB m y = false
    · rw [if_pos h1] at h; exact absurd h (by simp)
    · rw [if_neg h1] at h
      by_cases h2 : dblB S y = true
      · rw [if_pos h2] at h; exact absurd h (by simp)
      · rw [if_neg h2] at h
        rcases List.mem_cons.1 hx with rfl | hx
        · simp [cellB, pageB, inB] at h1
          unfold Bit; omega
        · exact sch_bits L _ _ h x hx
theorem checkSc_bits {C R : Int} {L : List Cell} (h : (checkSc C R L).2 = 0) : ∀ x ∈ L, Bit x.ft ∧ Bit x.bt := by
  have h1 := scOk h
  unfold checkSc at h
  rw [if_neg (by simp [h1])] at h
  exact sch_bits _ _ _ h
/-- What folds read of a scheme, and the error. -/
def readP (C R : Int) (L : List Cell) (F : List Fold) : List Page := if (checkSc C R L).2 = 0 ∧ (checkFo C R F).2 = 0 then rdTo C L (pileP C R F) (pileP C R F).length else []
def readE (C R : Int) (L : List Cell) (F : List Fold) : Int := if (checkSc C R L).2 = 0 then (checkFo C R F).2 else (checkSc C R L).2
def ReadsPost (w : World) (q : Int) (P : List Page) (e : Ending) (w' : World) : Prop :=
  ∃ (a : Option Addr) (n c : Nat), e = .returned (.tuple #[.slice a n c, .int .i64 q]) ∧ n = P.length ∧ RowsAt 2 Page.l w' a P ∧ (a = none → c = 0) ∧ Below w.heap.size w w'
structure SideOk (C R : Int) (L : List Cell) (cn rn : Nat) : Prop where
  eC : C = cn
  eR : R = rn
  c8 : 1 ≤ cn ∧ cn ≤ 8
  r8 : 1 ≤ rn ∧ rn ≤ 8
  len : L.length = cn * rn
theorem sc_side {C R : Int} {L : List Cell} (h : (checkSc C R L).2 = 0) : ∃ cn rn : Nat, SideOk C R L cn rn := by
  obtain ⟨hs, hnn⟩ := cells_ok (scOk h)
  obtain ⟨sC, sR, -⟩ := side_ok hs
  obtain ⟨cn, rfl⟩ : ∃ n : Nat, C = n := ⟨C.toNat, by omega⟩
  obtain ⟨rn, rfl⟩ : ∃ n : Nat, R = n := ⟨R.toNat, by omega⟩
  refine ⟨cn, rn, rfl, rfl, by omega, by omega, ?_⟩
  have : (L.length : Int) = ((cn * rn : Nat) : Int) := by rw [hnn, Int.natCast_mul]
  omega
theorem pile_fine {cn rn : Nat} {F : List Fold} (hc : 1 ≤ cn ∧ cn ≤ 8) (hr : 1 ≤ rn ∧ rn ≤ 8) (h : (checkFo cn rn F).2 = 0) : (∀ y ∈ pileP cn rn F, LeafIn cn rn y) ∧ (pileP cn rn F).length ≤ 64 := by
  refine ⟨pileP_in (by omega) (by omega), ?_⟩
  have h1 := pileP_len h
  have h2 : cn * rn ≤ 8 * 8 := Nat.mul_le_mul (by omega) (by omega)
  simp at h1; omega
set_option maxRecDepth 100000 in
set_option maxHeartbeats 4000000 in
theorem reads_any (C R : Int) (a : Option Addr) (n : Nat) (L : List Cell) (c : Nat) (fa : Option Addr) (fn : Nat) (F : List Fold) (fc : Nat) (w : World) (hn : n = L.length) (hL : RowsAt 4 Cell.l w a L) (hl : L.length ≤ 1000000)
    (hfn : fn = F.length) (hF : RowsAt 2 Fold.l w fa F) (hfl : F.length ≤ maxLen) (hI : ∀ z ∈ F, OkI z.c) :
    Calls Try.prog 17 #[.agg #[.int .i64 C, .int .i64 R, .slice a n c], .slice fa fn fc] w (ReadsPost w (readE C R L F) (readP C R L F)) := by
  have HN := Lib.hid hn; have HLL := Lib.hid hl; have HFN := Lib.hid hfn; have HFL := Lib.hid hfl; have HI := Lib.hid hI
  obtain ⟨p1, hp1⟩ : ∃ x, (checkSc C R L).1 = x := ⟨_, rfl⟩
  obtain ⟨q1, hq1⟩ : ∃ x, (checkSc C R L).2 = x := ⟨_, rfl⟩
  have HP1 := Lib.hid hp1; have HQ1 := Lib.hid hq1
  have bx := BoxAt.new w #[.int .i64 C, .int .i64 R, .slice a n c] 24
  have hB := (Below.refl w.heap.size w).alloc (Nat.le_refl _) (.cells #[.int .i64 C, .int .i64 R, .slice a n c] 24)
  have hLa := hL.alloc (.cells #[.int .i64 C, .int .i64 R, .slice a n c] 24)
  have hFa := hF.alloc (.cells #[.int .i64 C, .int .i64 R, .slice a n c] 24)
  clear hn hl hfn hfl hI hp1 hq1
  go_enter Try.func17, Try.ntmps17
  go_wp2_with fail
  refine (scN C R a n L c _ HN.out hLa HLL.out HP1.out HQ1.out).mono ?_
  rintro e w1 ⟨rfl, hb1⟩
  have bx1 := bx.below hb1
  have hB1 := hB.trans (hb1.mono (B' := w.heap.size) hB.size)
  have hL1 := hLa.below hb1; have hF1 := hFa.below hb1
  clear hb1 bx hB hLa hFa
  have c0 := bx1.cell 0; have c1 := bx1.cell 1; have c2 := bx1.cell 2
  simp at c0 c1 c2
  by_cases h1 : q1 = 0
  · subst h1
    obtain ⟨q2, hq2⟩ : ∃ x, (checkFo C R F).2 = x := ⟨_, rfl⟩
    have HQ2 := Lib.hid hq2
    have HE : Hid (readE C R L F = q2) := Lib.hid (by unfold readE; rw [if_pos HQ1.out, hq2])
    clear hq2
    go_wp2_with fail
    refine (pile_n C R fa fn F fc _ HFN.out hF1 HFL.out HI.out).mono ?_
    rintro e w2 ⟨pa, pn, pc, rfl, hpn, hpr, -, hb2⟩
    rw [HQ2.out]
    have bx2 := bx1.below hb2
    have hB2 := hB1.trans (hb2.mono (B' := w.heap.size) hB1.size)
    have hL2 := hL1.below hb2
    have HPN := Lib.hid hpn
    clear hb2 bx1 hB1 c0 c1 c2 hF1 hL1 hpn
    have c0 := bx2.cell 0; have c1 := bx2.cell 1; have c2 := bx2.cell 2
    simp at c0 c1 c2
    by_cases h2 : q2 = 0
    · subst h2
      obtain ⟨cn, rn, hs⟩ := sc_side HQ1.out
      obtain ⟨rfl, rfl, h8, r8, hlen⟩ := hs
      have hE : pileE cn rn F = pileP cn rn F := by unfold pileE; rw [if_pos HQ2.out]
      have HP : Hid (readP cn rn L F = rdTo cn L (pileP cn rn F) (pileP cn rn F).length) := Lib.hid (by unfold readP; rw [if_pos ⟨HQ1.out, HQ2.out⟩])
      have HS := Lib.hid (And.intro h8 r8); have HLEN := Lib.hid hlen
      have HPF := Lib.hid (pile_fine h8 r8 HQ2.out)
      have HPN2 : Hid (pn = (pileP cn rn F).length) := Lib.hid (by rw [← hE]; exact HPN.out)
      rw [hE] at hpr
      clear h8 r8 hlen hE
      go_wp2_with fail
      refine (pagesOf_any cn rn a L n c pa (pileP cn rn F) pn pc _ HS.out.1 HS.out.2 HN.out HLEN.out hL2 (checkSc_bits HQ1.out) HPN2.out hpr HPF.out.1 (Nat.le_trans HPF.out.2 (by decide))).mono ?_
      rintro e w3 ⟨ra, rn', rc, rfl, hrn, hrr, hrnil, hb3⟩
      have HRN := Lib.hid hrn
      clear hrn c0 c1 c2
      go_wp2
      go_ret2
      exact ⟨ra, rn', rc, by rw [HE.out]; rfl, by rw [HP.out]; exact HRN.out, by rw [HP.out]; exact hrr, hrnil, hB2.trans (hb3.mono (B' := w.heap.size) hB2.size)⟩
    · have HP : Hid (readP C R L F = []) := Lib.hid (by unfold readP; rw [if_neg (fun h => h2 (by rw [← HQ2.out]; exact h.2))])
      go_wp2
      go_ret2
      exact ⟨none, 0, 0, by rw [HE.out]; rfl, by rw [HP.out]; rfl, by rw [HP.out]; exact RowsAt.nil _ _, fun _ => rfl, hB2⟩
  · have HE : Hid (readE C R L F = q1) := Lib.hid (by unfold readE; rw [if_neg (by rw [HQ1.out]; exact h1), HQ1.out])
    have HP : Hid (readP C R L F = []) := Lib.hid (by unfold readP; rw [if_neg (fun h => h1 (by rw [← HQ1.out]; exact h.1))])
    go_wp2
    go_ret2
    exact ⟨none, 0, 0, by rw [HE.out]; rfl, by rw [HP.out]; rfl, by rw [HP.out]; exact RowsAt.nil _ _, fun _ => rfl, hB1⟩
theorem reads_n (C R : Int) (a : Option Addr) (n : Nat) (L : List Cell) (c : Nat) (fa : Option Addr) (fn : Nat) (F : List Fold) (fc : Nat) (w : World) (hn : n = L.length) (hL : RowsAt 4 Cell.l w a L) (hl : L.length ≤ 1000000)
    (hfn : fn = F.length) (hF : RowsAt 2 Fold.l w fa F) (hfl : F.length ≤ maxLen) (hI : ∀ z ∈ F, OkI z.c) {E : Int} {P : List Page} (h1 : readE C R L F = E) (h2 : readP C R L F = P) :
    Calls Try.prog 17 #[.agg #[.int .i64 C, .int .i64 R, .slice a n c], .slice fa fn fc] w (ReadsPost w E P) := by
  rw [← h1, ← h2]; exact reads_any C R a n L c fa fn F fc w hn hL hl hfn hF hfl hI
end Go.Proofs.Ytmolejpbpcodbaa
