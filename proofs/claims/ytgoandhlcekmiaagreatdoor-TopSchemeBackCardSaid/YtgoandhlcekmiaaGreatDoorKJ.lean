/-
  Package impose: Reads.
-/
import Derived.Test.YtgoandhlcekmiaaGreatDoorRM
import Derived.Test.YtgoandhlcekmiaaGreatDoorKH
import Derived.Test.YtgoandhlcekmiaaGreatDoorKI
import Derived.Test.YtgoandhlcekmiaaGreatDoorKD
import Derived.Test.YtgoandhlcekmiaaGreatDoorKE
import Derived.Test.YtgoandhlcekmiaaGreatDoorKF
import Derived.Test.YtgoandhlcekmiaaGreatDoorKG
namespace Go.Proofs.YtgoandhlcekmiaaGreatDoor
open Go.RowKit

theorem scOk {C R : Int} {L : List Cell} (h : (checkSc C R L).2 = 0) : cellsErr C R L.length = 0 := by
  unfold checkSc at h
  by_cases h1 : cellsErr C R L.length = 0
  · exact h1
  · rw [if_pos h1] at h; exact absurd h h1
theorem scN (C R : Int) (a : Option Addr) (n : Nat) (L : List Cell) (c : Nat) (w : World) (hn : n = L.length) (hL : RowsAt 4 Cell.l w a L) (hl : L.length ≤ 1000000) {p q : Int} (h1 : (checkSc C R L).1 = p) (h2 : (checkSc C R L).2 = q) :
    Calls Tryz.prog 28 #[.agg #[.int .i64 C, .int .i64 R, .slice a n c]] w fun e w' => e = .returned (.tuple #[.int .i64 p, .int .i64 q]) ∧ Below w.heap.size w w' := by
  subst hn; rw [← h1, ← h2]; exact checkScheme_any C R a L c w hL hl
theorem sch_bits {m : Int} : ∀ (L : List Cell) (S : List Int) (i : Int), (schErr m L S i).2 = 0 → ∀ x ∈ L, Bit x.ft ∧ Bit x.bt
  | [], _, _, _, x, hx => by cases hx
  | y :: L, S, i, h, x, hx => by
    unfold schErr at h
    by_cases h1 : cellB m y = false
    · rw [if_pos h1] at h; exact absurd h (by simp)
    · rw [if_neg h1] at h
      by_cases h2 : dblB S y = true
      · rw [if_pos h2] at h; exact absurd h (by simp)
      · rw [if_neg h2] at h
        rcases List.mem_cons.1 hx with rfl | hx
        · simp [cellB, pageB, inB] at h1
          unfold Bit; omega
        · exact sch_bits L _ _ h x hx
theorem checkSc_bits {C R : Int} {L : List Cell} (h : (checkSc C R L).2 = 0) : ∀ x ∈ L, Bit x.ft ∧ Bit x.bt := by
  have h1 := scOk h
  unfold checkSc at h
  rw [if_neg (by simp [h1])] at h
  exact sch_bits _ _ _ h
/-- What folds read of a scheme, and the error. -/
def readP (C R : Int) (L : List Cell) (F : List Fold) : List Page := if (checkSc C R L).2 = 0 ∧ (checkFo C R F).2 = 0 then rdTo C L (pileP C R F) (pileP C R F).length else []
def readE (C R : Int) (L : List Cell) (F : List Fold) : Int := if (checkSc C R L).2 = 0 then (checkFo C R F).2 else (checkSc C R L).2
def ReadsPost (w : World) (q : Int) (P : List Page) (e : Ending) (w' : World) : Prop :=
  ∃ (a : Option Addr) (n c : Nat), e = .returned (.tuple #[.slice a n c, .int .i64 q]) ∧ n = P.length ∧ RowsAt 2 Page.l w' a P ∧ (a = none → c = 0) ∧ Below w.heap.size w w'
structure SideOk (C R : Int) (L : List Cell) (cn rn : Nat) : Prop where
  eC : C = cn
  eR : R = rn
  c8 : 1 ≤ cn ∧ cn ≤ 8
  r8 : 1 ≤ rn ∧ rn ≤ 8
  len : L.length = cn * rn
theorem sc_side {C R : Int} {L : List Cell} (h : (checkSc C R L).2 = 0) : ∃ cn rn : Nat, SideOk C R L cn rn := by
  obtain ⟨hs, hnn⟩ := cells_ok (scOk h)
  obtain ⟨sC, sR, -⟩ := side_ok hs
  obtain ⟨cn, rfl⟩ : ∃ n : Nat, C = n := ⟨C.toNat, by omega⟩
  obtain ⟨rn, rfl⟩ : ∃ n : Nat, R = n := ⟨R.toNat, by omega⟩
  refine ⟨cn, rn, rfl, rfl, by omega, by omega, ?_⟩
  have : (L.length : Int) = ((cn * rn : Nat) : Int) := by rw [hnn, Int.natCast_mul]
  omega
theorem pile_fine {cn rn : Nat} {F : List Fold} (hc : 1 ≤ cn ∧ cn ≤ 8) (hr : 1 ≤ rn ∧ rn ≤ 8) (h : (checkFo cn rn F).2 = 0) : (∀ y ∈ pileP cn rn F, LeafIn cn rn y) ∧ (pileP cn rn F).length ≤ 64 := by
  refine ⟨pileP_in (by omega) (by omega), ?_⟩
  have h1 := pileP_len h
  have h2 : cn * rn ≤ 8 * 8 := Nat.mul_le_mul (by omega) (by omega)
  simp at h1; omega
set_option maxRecDepth 100000 in
set_option maxHeartbeats 4000000 in
theorem reads_any (C R : Int) (a : Option Addr) (n : Nat) (L : List Cell) (c : Nat) (fa : Option Addr) (fn : Nat) (F : List Fold) (fc : Nat) (w : World) (hn : n = L.length) (hL : RowsAt 4 Cell.l w a L) (hl : L.length ≤ 1000000)
    (hfn : fn = F.length) (hF : RowsAt 2 Fold.l w fa F) (hfl : F.length ≤ maxLen) (hI : ∀ z ∈ F, OkI z.c) :
    Calls Tryz.prog 17 #[.agg #[.int .i64 C, .int .i64 R, .slice a n c], .slice fa fn fc] w (ReadsPost w (readE C R L F) (readP C R L F)) := by
  have HN := Lib.hid hn; have HLL := Lib.hid hl; have HFN := Lib.hid hfn; have HFL := Lib.hid hfl; have HI := Lib.hid hI
  obtain ⟨p1, hp1⟩ : ∃ x, (checkSc C R L).1 = x := ⟨_, rfl⟩
  obtain ⟨q1, hq1⟩ : ∃ x, (checkSc C R L).2 = x := ⟨_, rfl⟩
  have HP1 := Lib.hid hp1; have HQ1 := Lib.hid hq1
  have bx := BoxAt.new w #[.int .i64 C, .int .i64 R, .slice a n c] 29
  have hB := (Below.refl w.heap.size w).alloc (Nat.le_refl _) (.cells #[.int .i64 C, .int .i64 R, .slice a n c] 29)
  have hLa := hL.alloc (.cells #[.int .i64 C, .int .i64 R, .slice a n c] 29)
  have hFa := hF.alloc (.cells #[.int .i64 C, .int .i64 R, .slice a n c] 29)
  clear hn hl hfn hfl hI hp1 hq1
  go_enter Tryz.func17, Tryz.ntmps17
  go_wp2_with fail
  refine (scN C R a n L c _ HN.out hLa HLL.out HP1.out HQ1.out).mono ?_
  rintro e w1 ⟨rfl, hb1⟩
  have bx1 := bx.below hb1
  have hB1 := hB.trans (hb1.mono (B' := w.heap.size) hB.size)
  have hL1 := hLa.below hb1; have hF1 := hFa.below hb1
  clear hb1 bx hB hLa hFa
  have c0 := bx1.cell 0; have c1 := bx1.cell 1; have c2 := bx1.cell 2
  simp at c0 c1 c2
  by_cases h1 : q1 = 0
  · subst h1
    obtain ⟨q2, hq2⟩ : ∃ x, (checkFo C R F).2 = x := ⟨_, rfl⟩
    have HQ2 := Lib.hid hq2
    have HE : Hid (readE C R L F = q2) := Lib.hid (by unfold readE; rw [if_pos HQ1.out, hq2])
    clear hq2
    go_wp2_with fail
    refine (pile_n C R fa fn F fc _ HFN.out hF1 HFL.out HI.out).mono ?_
    rintro e w2 ⟨pa, pn, pc, rfl, hpn, hpr, -, hb2⟩
    rw [HQ2.out]
    have bx2 := bx1.below hb2
    have hB2 := hB1.trans (hb2.mono (B' := w.heap.size) hB1.size)
    have hL2 := hL1.below hb2
    have HPN := Lib.hid hpn
    clear hb2 bx1 hB1 c0 c1 c2 hF1 hL1 hpn
    have c0 := bx2.cell 0; have c1 := bx2.cell 1; have c2 := bx2.cell 2
    simp at c0 c1 c2
    by_cases h2 : q2 = 0
    · subst h2
      obtain ⟨cn, rn, hs⟩ := sc_side HQ1.out
      obtain ⟨rfl, rfl, h8, r8, hlen⟩ := hs
      have hE : pileE cn rn F = pileP cn rn F := by unfold pileE; rw [if_pos HQ2.out]
      have HP : Hid (readP cn rn L F = rdTo cn L (pileP cn rn F) (pileP cn rn F).length) := Lib.hid (by unfold readP; rw [if_pos ⟨HQ1.out, HQ2.out⟩])
      have HS := Lib.hid (And.intro h8 r8); have HLEN := Lib.hid hlen
      have HPF := Lib.hid (pile_fine h8 r8 HQ2.out)
      have HPN2 : Hid (pn = (pileP cn rn F).length) := Lib.hid (by rw [← hE]; exact HPN.out)
      rw [hE] at hpr
      clear h8 r8 hlen hE
      go_wp2_with fail
      refine (pagesOf_any cn rn a L n c pa (pileP cn rn F) pn pc _ HS.out.1 HS.out.2 HN.out HLEN.out hL2 (checkSc_bits HQ1.out) HPN2.out hpr HPF.out.1 (Nat.le_trans HPF.out.2 (by decide))).mono ?_
      rintro e w3 ⟨ra, rn', rc, rfl, hrn, hrr, hrnil, hb3⟩
      have HRN := Lib.hid hrn
      clear hrn c0 c1 c2
      go_wp2
      go_ret2
      exact ⟨ra, rn', rc, by rw [HE.out]; try rfl, by rw [HP.out]; exact HRN.out, by rw [HP.out]; exact hrr, hrnil, hB2.trans (hb3.mono (B' := w.heap.size) hB2.size)⟩
    · have HP : Hid (readP C R L F = []) := Lib.hid (by unfold readP; rw [if_neg (fun h => h2 (by rw [← HQ2.out]; exact h.2))])
      go_wp2
      go_ret2
      exact ⟨none, 0, 0, by rw [HE.out]; try rfl, by rw [HP.out]; try rfl, by rw [HP.out]; exact RowsAt.nil _ _, fun _ => rfl, hB2⟩
  · have HE : Hid (readE C R L F = q1) := Lib.hid (by unfold readE; rw [if_neg (by rw [HQ1.out]; exact h1), HQ1.out])
    have HP : Hid (readP C R L F = []) := Lib.hid (by unfold readP; rw [if_neg (fun h => h1 (by rw [← HQ1.out]; exact h.1))])
    go_wp2
    go_ret2
    exact ⟨none, 0, 0, by rw [HE.out]; try rfl, by rw [HP.out]; try rfl, by rw [HP.out]; exact RowsAt.nil _ _, fun _ => rfl, hB1⟩
theorem reads_n (C R : Int) (a : Option Addr) (n : Nat) (L : List Cell) (c : Nat) (fa : Option Addr) (fn : Nat) (F : List Fold) (fc : Nat) (w : World) (hn : n = L.length) (hL : RowsAt 4 Cell.l w a L) (hl : L.length ≤ 1000000)
    (hfn : fn = F.length) (hF : RowsAt 2 Fold.l w fa F) (hfl : F.length ≤ maxLen) (hI : ∀ z ∈ F, OkI z.c) {E : Int} {P : List Page} (h1 : readE C R L F = E) (h2 : readP C R L F = P) :
    Calls Tryz.prog 17 #[.agg #[.int .i64 C, .int .i64 R, .slice a n c], .slice fa fn fc] w (ReadsPost w E P) := by
  rw [← h1, ← h2]; exact reads_any C R a n L c fa fn F fc w hn hL hl hfn hF hfl hI
end Go.Proofs.YtgoandhlcekmiaaGreatDoor

namespace Go.Proofs.YtgoandhlcekmiaaGreatDoor
open Go.RowKit

def keysF (g : Leaf → Int) (P : List (List Leaf)) : List Int := P.flatMap fun L => L.map g
theorem keysF_set {g : Leaf → Int} : ∀ {P : List (List Leaf)} {j : Nat} (hj : j < P.length) (X Y : List Leaf), (X.map g).Perm (Y.map g ++ P[j].map g) → (keysF g (P.set j X)).Perm (Y.map g ++ keysF g P)
  | [], _, hj, _, _, _ => absurd hj (Nat.not_lt_zero _)
  | L :: P, 0, _, X, Y, h => by
    show (X.map g ++ keysF g P).Perm (Y.map g ++ (L.map g ++ keysF g P))
    have h : (X.map g).Perm (Y.map g ++ L.map g) := h
    rw [← List.append_assoc]
    exact h.append_right _
  | L :: P, j + 1, hj, X, Y, h => by
    have ih := keysF_set (g := g) (P := P) (j := j) (by simpa using hj) X Y h
    show (L.map g ++ keysF g (P.set j X)).Perm (Y.map g ++ (L.map g ++ keysF g P))
    refine (List.Perm.append_left _ ih).trans ?_
    rw [← List.append_assoc, ← List.append_assoc]
    exact List.Perm.append_right _ List.perm_append_comm
theorem keysF_snoc (g : Leaf → Int) (P : List (List Leaf)) (L : List Leaf) : keysF g (P ++ [L]) = keysF g P ++ L.map g := by
  unfold keysF; rw [List.flatMap_append]; simp
theorem keysF_rep (g : Leaf → Int) (n : Nat) : keysF g (List.replicate n []) = [] := by
  unfold keysF
  rw [List.flatMap_eq_nil_iff]
  intro x hx
  rw [(List.mem_replicate.1 hx).2]; try rfl
theorem turnL_keys {g : Leaf → Int} (hg : ∀ o t x, g (turnX o t x) = g x) (o t : Int) (L : List Leaf) : ((turnL o t L).map g).Perm (L.map g) := by
  unfold turnL
  have h : (L.map (turnX o t)).map g = L.map g := by
    rw [List.map_map]; exact List.map_congr_left fun x _ => hg o t x
  split
  · rw [List.map_reverse, h]; exact List.reverse_perm _
  · rw [h]
section
variable {C R C' R' : Nat} {f : Fold} {P : List (List Leaf)}
theorem accF_keys {g : Leaf → Int} (hg : ∀ o t x, g (turnX o t x) = g x) (hC : 1 ≤ C ∧ C ≤ 8) (hR : 1 ≤ R ∧ R ≤ 8) (h : foldErr C R f = 0) (hC' : afterC C f = C') (hR' : afterR R f = R') (hP : P.length = C * R) : ∀ m, m ≤ C * R → (keysF g (accF C R C' R' f P m)).Perm (keysF g (P.take m)) := by
  intro m
  induction m with
  | zero => intro _; unfold accF; rw [List.range_zero, List.foldl_nil, keysF_rep]; exact List.Perm.refl _
  | succ m ih =>
    intro hm
    obtain ⟨mc, mr, hmC, hmR, hme⟩ : ∃ mc mr, mc < C ∧ mr < R ∧ mr * C + mc = m :=
      ⟨m % C, m / C, Nat.mod_lt _ (by omega), Nat.div_lt_of_lt_mul (by omega), by rw [Nat.mul_comm]; exact Nat.div_add_mod m C⟩
    have hwo := way_ok (C := C) (R := R) (f := f) (c := (mc : Int)) (r := (mr : Int)) (by omega) (by omega) h (by omega) (by omega)
    rw [hC', hR'] at hwo
    obtain ⟨q, hq⟩ : ∃ q, q = wayOf C R f (mc : Int) (mr : Int) := ⟨_, rfl⟩
    rw [← hq] at hwo
    obtain ⟨qc, qr, qo, qt⟩ := q
    obtain ⟨⟨o1, o2⟩, ⟨o3, o4⟩, o5, o6⟩ := hwo
    have o1 : 0 ≤ qc := o1
    have o2 : qc < C' := o2
    have o3 : 0 ≤ qr := o3
    have o4 : qr < R' := o4
    obtain ⟨uc, rfl⟩ : ∃ u : Nat, qc = u := ⟨qc.toNat, by omega⟩
    obtain ⟨ur, rfl⟩ : ∃ u : Nat, qr = u := ⟨qr.toNat, by omega⟩
    have hul : ur * C' + uc < (accF C R C' R' f P m).length := by rw [accF_len]; exact mul_lt (by omega) (by omega)
    rw [accF_succ, stepF_eq (C' := C') (j := ur * C' + uc) (P := P) (acc := accF C R C' R' f P m) hme hmC hq (by push_cast; rfl)]
    have h1 := ih (by omega)
    have h3 := getD_in (L := accF C R C' R' f P m) [] hul
    have h4 := getD_in (L := P) (k := m) [] (by omega)
    rw [h3, h4, List.take_succ_eq_append_getElem (by omega), keysF_snoc]
    have hfin : ∀ X : List Leaf, (X.map g).Perm (P[m].map g ++ (accF C R C' R' f P m)[ur * C' + uc].map g) → (keysF g ((accF C R C' R' f P m).set (ur * C' + uc) X)).Perm (keysF g (P.take m) ++ P[m].map g) := fun X hX =>
      (keysF_set hul X P[m] hX).trans (List.perm_append_comm.trans (h1.append_right _))
    split
    · refine hfin _ ?_
      rw [List.map_append]
      exact (turnL_keys hg _ _ _).append_right _
    · refine hfin _ ?_
      rw [List.map_append]
      exact List.perm_append_comm.trans ((turnL_keys hg _ _ _).append_right _)
end
theorem runF_keys {g : Leaf → Int} (hg : ∀ o t x, g (turnX o t x) = g x) : ∀ (L : List Fold) (C R : Nat) (P : List (List Leaf)) (i : Int), (1 ≤ C ∧ C ≤ 8) → (1 ≤ R ∧ R ≤ 8) → PileOk C R P → (foldsErr C R L i).2 = 0 →
    (keysF g (runF C R P L).2.2).Perm (keysF g P) ∧ (runF C R P L).2.2.length = 1
  | [], C, R, P, i, hC, hR, hP, h => by
    refine ⟨List.Perm.refl _, ?_⟩
    have h1 := foldsErr_one (L := []) (k := 0) (by simp) h
    show P.length = 1
    rw [hP.len]
    have h2 : (C : Int) * R = ((C * R : Nat) : Int) := by rw [Int.natCast_mul]
    rw [h2] at h1
    have : 1 ≤ C * R := Nat.mul_pos (by omega) (by omega)
    omega
  | f :: L, C, R, P, i, hC, hR, hP, h => by
    obtain ⟨h1, h2⟩ := foldsErr_cons h
    obtain ⟨g1, g2⟩ := after_ok (C := (C : Int)) (R := (R : Int)) (f := f) (by omega) (by omega) h1
    obtain ⟨C2, hC2⟩ : ∃ n : Nat, afterC C f = n := ⟨(afterC C f).toNat, by omega⟩
    obtain ⟨R2, hR2⟩ : ∃ n : Nat, afterR R f = n := ⟨(afterR R f).toNat, by omega⟩
    rw [hC2] at g1; rw [hR2] at g2
    rw [hC2, hR2] at h2
    have hr : runF C R P (f :: L) = runF C2 R2 (outF C R C2 R2 f P) L := by
      show runF (afterC C f).toNat (afterR R f).toNat (outF C R (afterC C f).toNat (afterR R f).toNat f P) L = _
      rw [hC2, hR2, Int.toNat_natCast, Int.toNat_natCast]
    rw [hr]
    have ih := runF_keys hg L C2 R2 (outF C R C2 R2 f P) (i + 1) (by omega) (by omega) (hP.fold hC hR h1 hC2 hR2) h2
    refine ⟨ih.1.trans ?_, ih.2⟩
    have h3 := accF_keys (P := P) hg hC hR h1 hC2 hR2 hP.len (C * R) (Nat.le_refl _)
    rw [accF_out hC hR h1 hC2 hR2, List.take_of_length_le (by rw [hP.len]; exact Nat.le_refl _)] at h3
    exact h3
def cellKey (C : Int) (x : Leaf) : Int := x.r * C + x.c
theorem flat_keys (C s : Nat) : keysF (cellKey C) (flatP C s) = (List.range s).map fun i : Nat => (i : Int) := by
  unfold keysF flatP
  rw [List.flatMap_map]
  induction s with
  | zero => rfl
  | succ s ih =>
    rw [List.range_succ, List.flatMap_append, ih, List.map_append]
    congr 1
    show [cellKey C (leafAt C s)] = [(s : Int)]
    unfold cellKey leafAt
    have : s / C * C + s % C = s := by rw [Nat.mul_comm]; exact Nat.div_add_mod s C
    have h2 : ((s / C : Nat) : Int) * (C : Int) + ((s % C : Nat) : Int) = (s : Int) := by rw [← Int.natCast_mul, ← Int.natCast_add, this]
    exact congrArg (fun x => [x]) h2
/-- A pile has each cell once. -/
theorem pile_once {C R : Int} {L : List Fold} (h : (checkFo C R L).2 = 0) : ((pileP C R L).map (cellKey C)).Nodup := by
  obtain ⟨h1, h12, h3⟩ := checkFo_ok h
  obtain ⟨sC, sR, sm⟩ := side_ok h1
  obtain ⟨cn, rfl⟩ : ∃ n : Nat, C = n := ⟨C.toNat, by omega⟩
  obtain ⟨rn, rfl⟩ : ∃ n : Nat, R = n := ⟨R.toNat, by omega⟩
  obtain ⟨hk, hl⟩ := runF_keys (g := cellKey cn) (fun _ _ _ => rfl) L cn rn (flatP cn (cn * rn)) 0 (by omega) (by omega) (PileOk.flat (by omega) (by omega)) h3
  unfold pileP
  rw [Int.toNat_natCast, Int.toNat_natCast]
  obtain ⟨M, hM⟩ : ∃ M, (runF cn rn (flatP cn (cn * rn)) L).2.2 = M := ⟨_, rfl⟩
  rw [hM] at hk hl ⊢
  match M, hl with
  | [X], _ =>
    have h4 : keysF (cellKey cn) [X] = X.map (cellKey cn) := by unfold keysF; simp
    rw [h4, flat_keys cn _] at hk
    show (X.map _).Nodup
    refine hk.nodup_iff.2 ?_
    rw [List.nodup_iff_pairwise_ne, List.pairwise_map]
    refine (List.nodup_iff_pairwise_ne.1 List.nodup_range).imp ?_
    intro a b hab e
    exact hab (by omega)
end Go.Proofs.YtgoandhlcekmiaaGreatDoor

namespace Go.Proofs.YtgoandhlcekmiaaGreatDoor
open Go.RowKit

theorem pile_keys {cn rn : Nat} {F : List Fold} (h : (checkFo cn rn F).2 = 0) : ((pileP cn rn F).map (cellKey cn)).Perm ((List.range (cn * rn)).map fun i : Nat => (i : Int)) := by
  obtain ⟨h1, h12, h3⟩ := checkFo_ok h
  obtain ⟨sC, sR, sm⟩ := side_ok h1
  have := runF_keys (g := cellKey cn) (fun _ _ _ => rfl) F cn rn (flatP cn (cn * rn)) 0 (by omega) (by omega) (PileOk.flat (by omega) (by omega)) h3
  rw [flat_keys] at this
  unfold pileP
  rw [Int.toNat_natCast, Int.toNat_natCast]
  obtain ⟨x, hx⟩ := List.length_eq_one_iff.1 this.2
  rw [hx] at this ⊢
  have h1 := this.1
  unfold keysF at h1
  simpa using h1
theorem cellsP_at {C : Int} {N : Nat} {l : List Leaf} (hnd : (l.map (cellKey C)).Nodup) (hb : ∀ x ∈ l, 0 ≤ cellKey C x ∧ cellKey C x < N) : ∀ i, i ≤ l.length → ∀ k, k < i → ∀ (hkl : k < l.length), (cellsP C N l i)[(cellKey C l[k]).toNat]? = some (cellP k l[k]) := by
  intro i
  induction i with
  | zero => intro _ k hk; omega
  | succ i ih =>
    intro hi k hk hkl
    have hil : i < l.length := by omega
    have he : l.getD i default = l[i] := getD_in default hil
    have hs : cellsP C N l (i + 1) = (cellsP C N l i).set (cellKey C l[i]).toNat (cellP i l[i]) := by
      show (cellsP C N l i).set (((l.getD i default).r * C + (l.getD i default).c).toNat) (cellP i (l.getD i default)) = _
      rw [he]; try rfl
    rw [hs]
    by_cases hki : k = i
    · subst hki
      have h1 := hb _ (List.getElem_mem hil)
      rw [List.getElem?_set_self (by rw [cellsP_len]; omega)]
    · have h1 := hb _ (List.getElem_mem hil); have h2 := hb _ (List.getElem_mem hkl)
      have hne : ¬ (cellKey C l[i]).toNat = (cellKey C l[k]).toNat := fun e => by
        have e2 : cellKey C l[k] = cellKey C l[i] := by omega
        have h3 := List.nodup_iff_pairwise_ne.1 hnd
        have h4 := List.pairwise_iff_getElem.1 h3 k i (by rw [List.length_map]; exact hkl) (by rw [List.length_map]; exact hil) (by omega)
        rw [List.getElem_map, List.getElem_map] at h4
        exact h4 e2
      rw [List.getElem?_set_ne hne]
      exact ih (by omega) k (by omega) hkl
theorem key_in {cn rn : Nat} {F : List Fold} (h : (checkFo cn rn F).2 = 0) : ∀ x ∈ pileP cn rn F, 0 ≤ cellKey cn x ∧ cellKey cn x < ((cn * rn : Nat) : Int) := by
  intro x hx
  have h1 := (pile_keys h).mem_iff.1 (List.mem_map_of_mem (f := cellKey cn) hx)
  obtain ⟨i, hi, e⟩ := List.mem_map.1 h1
  have := List.mem_range.1 hi
  omega
theorem schemeP_at {cn rn : Nat} {F : List Fold} (h : (checkFo cn rn F).2 = 0) {k : Nat} (hk : k < (pileP cn rn F).length) : (schemeP cn rn F)[(cellKey cn (pileP cn rn F)[k]).toNat]? = some (cellP k (pileP cn rn F)[k]) := by
  unfold schemeP
  rw [Int.toNat_natCast, Int.toNat_natCast]
  exact cellsP_at (pile_once h) (key_in h) _ (Nat.le_refl _) k hk hk
theorem schemeP_len (cn rn : Nat) (F : List Fold) : (schemeP cn rn F).length = cn * rn := by unfold schemeP; rw [cellsP_len, Int.toNat_natCast, Int.toNat_natCast]
/-- Each cell is the cell of a leaf. -/
theorem schemeP_leaf {cn rn : Nat} {F : List Fold} (h : (checkFo cn rn F).2 = 0) {i : Nat} (hi : i < (schemeP cn rn F).length) : ∃ k, ∃ hk : k < (pileP cn rn F).length, (cellKey cn (pileP cn rn F)[k]).toNat = i ∧ (schemeP cn rn F)[i] = cellP k (pileP cn rn F)[k] := by
  have hi2 : i < cn * rn := by rw [← schemeP_len cn rn F]; exact hi
  have h1 : (i : Int) ∈ (pileP cn rn F).map (cellKey cn) := (pile_keys h).mem_iff.2 (List.mem_map.2 ⟨i, List.mem_range.2 hi2, rfl⟩)
  obtain ⟨x, hx, e⟩ := List.mem_map.1 h1
  obtain ⟨k, hk, rfl⟩ := List.getElem_of_mem hx
  have e2 : (cellKey cn (pileP cn rn F)[k]).toNat = i := by omega
  refine ⟨k, hk, e2, ?_⟩
  have h2 := schemeP_at h hk
  rw [e2, List.getElem?_eq_getElem hi] at h2
  exact Option.some.inj h2
def ordP (n : Nat) : List Page := (List.range n).map fun i : Nat => ⟨(i : Int) + 1, 0⟩
theorem xr_self (a : Int) : xr a a = 0 := by unfold xr; rw [if_pos rfl]
theorem rd_ord {cn rn : Nat} {F : List Fold} (h : (checkFo cn rn F).2 = 0) : ∀ k, k ≤ (pileP cn rn F).length → rdTo cn (schemeP cn rn F) (pileP cn rn F) k = ordP (2 * k) := by
  intro k
  induction k with
  | zero => intro _; rfl
  | succ k ih =>
    intro hk
    have hkl : k < (pileP cn rn F).length := by omega
    rw [← rdTo_succ hkl, ih (by omega)]
    have hc : cellAt cn (schemeP cn rn F) (pileP cn rn F)[k] = cellP k (pileP cn rn F)[k] := by
      unfold cellAt
      rw [List.getD_eq_getElem?_getD]
      have := schemeP_at h hkl
      unfold cellKey at this
      rw [this]; try rfl
    have ho : rdP cn (schemeP cn rn F) (pileP cn rn F)[k] = [⟨2 * (k : Int) + 1, 0⟩, ⟨2 * (k : Int) + 2, 0⟩] := by
      unfold rdP
      rw [hc]
      unfold cellP
      by_cases e : (pileP cn rn F)[k].o = 1
      · rw [if_pos e, if_pos e]; simp only [xr_self]
      · rw [if_neg e, if_neg e]; simp only [xr_self]
    rw [ho]
    unfold ordP
    rw [show 2 * (k + 1) = 2 * k + 1 + 1 by omega, List.range_succ, List.range_succ]
    simp
    omega
theorem cell_pages {k : Nat} {x : Leaf} {p : Int} (h : p ∈ [(cellP k x).f, (cellP k x).b]) : p = 2 * k + 1 ∨ p = 2 * k + 2 := by
  unfold cellP at h
  by_cases e : x.o = 1
  · rw [if_pos e] at h; simp at h; omega
  · rw [if_neg e] at h; simp at h; omega
theorem sch_fine {m : Int} : ∀ (L : List Cell) (S : List Int) (i : Int), (∀ x ∈ L, cellB m x = true) → (S ++ L.flatMap fun x => [x.f, x.b]).Nodup → (schErr m L S i).2 = 0
  | [], _, _, _, _ => rfl
  | y :: L, S, i, hc, hd => by
    unfold schErr
    rw [if_neg (by rw [hc y List.mem_cons_self]; simp)]
    have e : S ++ (y :: L).flatMap (fun x => [x.f, x.b]) = (S ++ [y.f, y.b]) ++ L.flatMap fun x => [x.f, x.b] := by rw [List.flatMap_cons, List.append_assoc]
    rw [e] at hd
    have h1 := (List.nodup_append.1 hd).1
    have h2 := List.nodup_append.1 h1
    have hdb : ¬ dblB S y = true := by
      intro hb
      unfold dblB at hb
      simp only [Bool.or_eq_true, List.contains_iff_mem, beq_iff_eq] at hb
      rcases hb with (hb | hb) | hb
      · exact h2.2.2 _ hb y.f (by simp) rfl
      · exact h2.2.2 _ hb y.b (by simp) rfl
      · have := h2.2.1; rw [hb] at this; simp at this
    rw [if_neg hdb]
    exact sch_fine L _ _ (fun x hx => hc x (List.mem_cons_of_mem _ hx)) hd
theorem schemeP_right {cn rn : Nat} {F : List Fold} (h : (checkFo cn rn F).2 = 0) : (checkSc cn rn (schemeP cn rn F)).2 = 0 := by
  obtain ⟨h1, h12, h3⟩ := checkFo_ok h
  obtain ⟨sC, sR, sm⟩ := side_ok h1
  have hpl := pileP_len h
  rw [Int.toNat_natCast, Int.toNat_natCast] at hpl
  have hin := pileP_in (C := (cn : Int)) (R := (rn : Int)) (L := F) (by omega) (by omega)
  have hce : cellsErr cn rn ((schemeP cn rn F).length : Nat) = 0 := by
    unfold cellsErr
    rw [if_neg (by simp [h1]), if_neg (by rw [schemeP_len]; push_cast; simp)]
  unfold checkSc
  rw [if_neg (by simp [hce])]
  refine sch_fine _ _ _ ?_ ?_
  · intro x hx
    obtain ⟨i, hi, rfl⟩ := List.getElem_of_mem hx
    obtain ⟨k, hk, -, e⟩ := schemeP_leaf h hi
    have hb := (hin _ (List.getElem_mem hk)).2.2.2
    rw [e, schemeP_len]
    unfold cellP cellB
    generalize (pileP cn rn F)[k] = z at hb ⊢
    rw [hpl] at hk
    unfold Bit at hb
    have hk2 : (k : Int) < ((cn * rn : Nat) : Int) := by omega
    generalize cn * rn = N at hk2 ⊢
    by_cases e1 : z.o = 1
    · rw [if_pos e1]; simp [pageB, inB]; omega
    · rw [if_neg e1]; simp [pageB, inB]; omega
  · rw [List.nil_append]
    refine List.nodup_iff_pairwise_ne.2 (List.pairwise_flatMap.2 ⟨?_, ?_⟩)
    · intro x hx
      obtain ⟨i, hi, rfl⟩ := List.getElem_of_mem hx
      obtain ⟨k, hk, -, e⟩ := schemeP_leaf h hi
      rw [e]
      unfold cellP
      split <;> simp <;> omega
    · refine List.pairwise_iff_getElem.2 ?_
      intro i j hi hj hij p hp q hq epq
      obtain ⟨k, hk, ek, e⟩ := schemeP_leaf h hi
      obtain ⟨k2, hk2, ek2, e2⟩ := schemeP_leaf h hj
      rw [e] at hp; rw [e2] at hq
      have a1 := cell_pages hp; have a2 := cell_pages hq
      have : k = k2 := by omega
      subst this
      omega
end Go.Proofs.YtgoandhlcekmiaaGreatDoor

namespace Go.Proofs.YtgoandhlcekmiaaGreatDoor
open Go.RowKit

theorem ordP_len (m : Nat) : (ordP m).length = m := by unfold ordP; rw [List.length_map, List.length_range]
set_option maxRecDepth 100000 in
set_option maxHeartbeats 2000000 in
theorem inOrder_any (a : Option Addr) (n m c : Nat) (w : World) (hn : n = m) (h : RowsAt 2 Page.l w a (ordP m)) (hm : m ≤ 1000) :
    Calls Tryz.prog 18 #[.slice a n c] w fun e w' => e = .returned (.bool true) ∧ Below w.heap.size w w' := by
  subst hn
  go_enter Tryz.func18, Tryz.ntmps18
  go_wp2
  go_loopw [3] (fun i wr => ∃ k : Nat, k ≤ n ∧ i = .int .i64 k ∧ Below w.heap.size w wr) (fun i _ => n - (intOf i).toNat)
  case atStart => exact ⟨0, Nat.zero_le _, rfl, Below.refl _ _⟩
  case round =>
    obtain ⟨k, hk, rfl, hB⟩ := hrel
    by_cases hlt : k < n
    · have hkl : (k : Int) < (n : Int) := by omega
      obtain ⟨p1, rfl, hp1, x0, x1⟩ := (h.below hB).page (k := k) (by rw [ordP_len]; exact hlt)
      have e0 : ((ordP n)[k]'(by rw [ordP_len]; exact hlt)) = ⟨(k : Int) + 1, 0⟩ := by unfold ordP; rw [List.getElem_map, List.getElem_range]
      rw [e0] at x0 x1
      simp only at x0 x1
      clear e0
      go_wp2_with fail
      go_roundw
      case rel => exact ⟨k + 1, by omega, by go_num, hB⟩
      case measure => simp [intOf]; omega
    · have hkI : ¬ (k : Int) < (n : Int) := by omega
      go_wp2
      go_ret
      exact ⟨rfl, hB⟩
end Go.Proofs.YtgoandhlcekmiaaGreatDoor

namespace Go.Proofs.YtgoandhlcekmiaaGreatDoor
open Go.RowKit

theorem exB1 : readE 2 1 [⟨3, 0, 4, 0⟩, ⟨2, 0, 1, 0⟩] [⟨1, 1⟩] = 0 := by decide +kernel
theorem exB2 : readP 2 1 [⟨3, 0, 4, 0⟩, ⟨2, 0, 1, 0⟩] [⟨1, 1⟩] = ordP 4 := by decide +kernel
theorem exB3 : (checkFo 2 2 [⟨1, 1⟩]).1 = 1 := by decide +kernel
theorem exB4 : (checkFo 2 2 [⟨1, 1⟩]).2 = 25 := by decide +kernel
theorem okI_one : ∀ x ∈ [(⟨1, 1⟩ : Fold)], OkI x.c := by
  intro x hx
  rw [List.mem_singleton.1 hx]; exact (by decide : (Lit.int .i64 1).wf = true)
theorem checkFo_n (C R : Int) (a : Option Addr) (n : Nat) (L : List Fold) (c : Nat) (w : World) (hn : n = L.length) (hL : RowsAt 2 Fold.l w a L) (hl : L.length ≤ maxLen) (hI : ∀ x ∈ L, OkI x.c) {p q : Int} (h1 : (checkFo C R L).1 = p) (h2 : (checkFo C R L).2 = q) :
    Calls Tryz.prog 19 #[.agg #[.int .i64 C, .int .i64 R], .slice a n c] w fun e w' => e = .returned (.tuple #[.int .i64 p, .int .i64 q]) ∧ Below w.heap.size w w' := by
  subst hn; rw [← h1, ← h2]; exact checkFolds_any C R a L c w hL hl hI
def exS : List Cell := [⟨3, 0, 4, 0⟩, ⟨2, 0, 1, 0⟩]
def exF : List Fold := [⟨1, 1⟩]
theorem exReads (a b : Addr) (W : World) (h1 : RowsAt 4 Cell.l W (some a) exS) (h2 : RowsAt 2 Fold.l W (some b) exF) :
    Calls Tryz.prog 17 #[.agg #[.int .i64 2, .int .i64 1, .slice (some a) 2 2], .slice (some b) 1 1] W (ReadsPost W 0 (ordP 4)) :=
  reads_n 2 1 (some a) 2 exS 2 (some b) 1 exF 1 W rfl h1 (by decide) rfl h2 (by decide) okI_one exB1 exB2
theorem exCheck (a : Addr) (W : World) (h : RowsAt 2 Fold.l W (some a) exF) :
    Calls Tryz.prog 19 #[.agg #[.int .i64 2, .int .i64 2], .slice (some a) 1 2] W fun e w' => e = .returned (.tuple #[.int .i64 1, .int .i64 25]) ∧ Below W.heap.size W w' :=
  checkFo_n 2 2 (some a) 1 exF 2 W rfl h (by decide) okI_one exB3 exB4
theorem exW1 (w : World) : RowsAt 4 Cell.l (w.alloc (.cells #[.int .i64 3, .int .i64 0, .int .i64 4, .int .i64 0, .int .i64 2, .int .i64 0, .int .i64 1, .int .i64 0] 57)) (some ⟨w.heap.size, 0, none⟩) exS := rows_lit cell_l w _ exS _ rfl
theorem exW2 (w : World) : RowsAt 2 Fold.l (w.alloc (.cells #[.int .i64 1, .int .i64 1] 59)) (some ⟨w.heap.size, 0, none⟩) exF := rows_lit fold_l w _ exF _ rfl
set_option maxRecDepth 100000 in
set_option maxHeartbeats 4000000 in
theorem imposed_any (w : World) : Calls Tryz.prog 4 #[] w fun e w' => e = .returned (.bool true) ∧ Below w.heap.size w w' := by
  go_enter Tryz.func4, Tryz.ntmps4
  go_wp2_with fail
  obtain ⟨wa, ha⟩ : ∃ wa, wa = w.alloc (.cells #[.int .i64 3, .int .i64 0, .int .i64 4, .int .i64 0, .int .i64 2, .int .i64 0, .int .i64 1, .int .i64 0] 57) := ⟨_, rfl⟩
  have hs : wa.heap.size = w.heap.size + 1 := by rw [ha]; simp
  have k2 := exW2 wa
  rw [hs] at k2
  have k1 : RowsAt 4 Cell.l wa (some ⟨w.heap.size, 0, none⟩) exS := by rw [ha]; exact exW1 w
  rw [← ha]
  refine (exReads ⟨w.heap.size, 0, none⟩ ⟨w.heap.size + 1, 0, none⟩ _ (k1.alloc _) k2).mono ?_
  clear k1 k2 hs
  rintro e w1 ⟨a1, n1, c1, rfl, hn1, hr1, -, hb1⟩
  have hB0 := ((Below.refl w.heap.size w).alloc (Nat.le_refl _) (.cells #[.int .i64 3, .int .i64 0, .int .i64 4, .int .i64 0, .int .i64 2, .int .i64 0, .int .i64 1, .int .i64 0] 57)).alloc (by simp) (.cells #[.int .i64 1, .int .i64 1] 59)
  rw [← ha] at hB0
  have hB1 := hB0.trans (hb1.mono (B' := w.heap.size) hB0.size)
  have hn1' : n1 = 4 := by rw [hn1]; exact ordP_len 4
  subst hn1'
  clear hb1 hB0 hn1
  go_wp2_with fail
  refine (quarto_any _).mono ?_
  rintro e w2 ⟨rfl, hw2⟩
  have hr2 : RowsAt 2 Fold.l w2 (some ⟨w1.heap.size, 0, none⟩) quartoL := by rw [hw2]; exact rows_lit fold_l w1 _ quartoL _ rfl
  have hb2 : Below w1.heap.size w1 w2 := by rw [hw2]; exact (Below.refl _ _).alloc (Nat.le_refl _) _
  clear hw2
  have hB2 := hB1.trans (hb2.mono (B' := w.heap.size) hB1.size)
  have hr12 := hr1.below hb2
  have hcut : ∀ W, (Instr.sliceAt 23 (.slice (some ⟨w1.heap.size, 0, none⟩) 2 2) none (some (.int .i64 1)) none).run Tryz.prog W = .ok (.slice (some ⟨w1.heap.size, 0, none⟩) 1 2) W := fun W => cut_low _ _ 2 2 1 foldsUnder 2 foldSize (by decide) W
  clear hb2 hB1 hr1
  go_wp2_with fail
  refine (exCheck _ _ (hr2.take 1)).mono ?_
  rintro e w3 ⟨rfl, hb3⟩
  have hr3 := hr12.below hb3
  have hB3 := hB2.trans (hb3.mono (B' := w.heap.size) hB2.size)
  clear hb3 hB2 hr12 hr2
  go_wp2_with (go_at_call 18; refine (inOrder_any a1 4 4 c1 _ rfl hr3 (by decide)).mono ?_; rintro e v ⟨rfl, hbv⟩; have hB4 := hB3.trans (hbv.mono (B' := w.heap.size) hB3.size))
  go_ret
  exact ⟨rfl, hB4⟩
end Go.Proofs.YtgoandhlcekmiaaGreatDoor
