/-
  Package impose: a pile has each cell of its sheet once. No program is walked here.
-/
import Derived.Test.YtmolejpbpcodbaaI4
import Derived.Test.YtmolejpbpcodbaaIP
namespace Go.Proofs.Ytmolejpbpcodbaa
open Go.RowKit

def keysF (g : Leaf → Int) (P : List (List Leaf)) : List Int := P.flatMap fun L => L.map g
theorem keysF_set {g : Leaf → Int} : ∀ {P : List (List Leaf)} {j : Nat} (hj : j < P.length) (X Y : List Leaf), (X.map g).Perm (Y.map g ++ P[j].map g) → (keysF g (P.set j X)).Perm (Y.map g ++ keysF g P)
  | [], _, hj, _, _, _ => absurd hj (Nat.not_lt_zero _)
  | L :: P, 0, _, X, Y, h => by
    show (X.map g ++ keysF g P).Perm (Y.map g ++ (L.map g ++ keysF g P))
    have h : (X.map g).Perm (Y.map g ++ L.map g) := h
    rw [← List.append_assoc]
    exact h.append_right _
  | L :: P, j + 1, hj, X, Y, h => by
    have ih := keysF_set (g := g) (P := P) (j := j) (by simpa using hj) X Y h
    show (L.map g ++ keysF g (P.set j X)).Perm (Y.map g ++ (L.map g ++ keysF g P))
    refine (List.Perm.append_left _ ih).trans ?_
    rw [← List.append_assoc, ← List.append_assoc]
    exact List.Perm.append_right _ List.perm_append_comm
theorem keysF_snoc (g : Leaf → Int) (P : List (List Leaf)) (L : List Leaf) : keysF g (P ++ [L]) = keysF g P ++ L.map g := by
  unfold keysF; rw [List.flatMap_append]; simp
theorem keysF_rep (g : Leaf → Int) (n : Nat) : keysF g (List.replicate n []) = [] := by
  unfold keysF
  rw [List.flatMap_eq_nil_iff]
  intro x hx
  rw [(List.mem_replicate.1 hx).2]; rfl
theorem turnL_keys {g : Leaf → Int} (hg : ∀ o t x, g (turnX o t x) = g x) (o t : Int) (L : List Leaf) : ((turnL o t L).map g).Perm (L.map g) := by
  unfold turnL
  have h : (L.map (turnX o t)).map g = L.map g := by
    rw [List.map_map]; exact List.map_congr_left fun x _ => hg o t x
  split
  · rw [List.map_reverse, h]; exact List.reverse_perm _
  · rw [h]
section
variable {C R C' R' : Nat} {f : Fold} {P : List (List Leaf)}
theorem accF_keys {g : Leaf → Int} (hg : ∀ o t x, g (turnX o t x) = g x) (hC : 1 ≤ C ∧ C ≤ 8) (hR : 1 ≤ R ∧ R ≤ 8) (h : foldErr C R f = 0) (hC' : afterC C f = C') (hR' : afterR R f = R') (hP : P.length = C * R) : ∀ m, m ≤ C * R → (keysF g (accF C R C' R' f P m)).Perm (keysF g (P.take m)) := by
  intro m
  induction m with
  | zero => intro _; unfold accF; rw [List.range_zero, List.foldl_nil, keysF_rep]; exact List.Perm.refl _
  | succ m ih =>
    intro hm
    obtain ⟨mc, mr, hmC, hmR, hme⟩ : ∃ mc mr, mc < C ∧ mr < R ∧ mr * C + mc = m :=
      ⟨m % C, m / C, Nat.mod_lt _ (by omega), Nat.div_lt_of_lt_mul (by omega), by rw [Nat.mul_comm]; exact Nat.div_add_mod m C⟩
    have hwo := way_ok (C := C) (R := R) (f := f) (c := (mc : Int)) (r := (mr : Int)) (by omega) (by omega) h (by omega) (by omega)
    rw [hC', hR'] at hwo
    obtain ⟨q, hq⟩ : ∃ q, q = wayOf C R f (mc : Int) (mr : Int) := ⟨_, rfl⟩
    rw [← hq] at hwo
    obtain ⟨qc, qr, qo, qt⟩ := q
    obtain ⟨⟨o1, o2⟩, ⟨o3, o4⟩, o5, o6⟩ := hwo
    have o1 : 0 ≤ qc := o1
    have o2 : qc < C' := o2
    have o3 : 0 ≤ qr := o3
    have o4 : qr < R' := o4
    obtain ⟨uc, rfl⟩ : ∃ u : Nat, qc = u := ⟨qc.toNat, by omega⟩
    obtain ⟨ur, rfl⟩ : ∃ u : Nat, qr = u := ⟨qr.toNat, by omega⟩
    have hul : ur * C' + uc < (accF C R C' R' f P m).length := by rw [accF_len]; exact mul_lt (by omega) (by omega)
    rw [accF_succ, stepF_eq (C' := C') (j := ur * C' + uc) (P := P) (acc := accF C R C' R' f P m) hme hmC hq (by push_cast; rfl)]
    have h1 := ih (by omega)
    have h3 := getD_in (L := accF C R C' R' f P m) [] hul
    have h4 := getD_in (L := P) (k := m) [] (by omega)
    rw [h3, h4, List.take_succ_eq_append_getElem (by omega), keysF_snoc]
    have hfin : ∀ X : List Leaf, (X.map g).Perm (P[m].map g ++ (accF C R C' R' f P m)[ur * C' + uc].map g) → (keysF g ((accF C R C' R' f P m).set (ur * C' + uc) X)).Perm (keysF g (P.take m) ++ P[m].map g) := fun X hX =>
      (keysF_set hul X P[m] hX).trans (List.perm_append_comm.trans (h1.append_right _))
    split
    · refine hfin _ ?_
      rw [List.map_append]
      exact (turnL_keys hg _ _ _).append_right _
    · refine hfin _ ?_
      rw [List.map_append]
      exact List.perm_append_comm.trans ((turnL_keys hg _ _ _).append_right _)
end
theorem runF_keys {g : Leaf → Int} (hg : ∀ o t x, g (turnX o t x) = g x) : ∀ (L : List Fold) (C R : Nat) (P : List (List Leaf)) (i : Int), (1 ≤ C ∧ C ≤ 8) → (1 ≤ R ∧ R ≤ 8) → PileOk C R P → (foldsErr C R L i).2 = 0 →
    (keysF g (runF C R P L).2.2).Perm (keysF g P) ∧ (runF C R P L).2.2.length = 1
  | [], C, R, P, i, hC, hR, hP, h => by
    refine ⟨List.Perm.refl _, ?_⟩
    have h1 := foldsErr_one (L := []) (k := 0) (by simp) h
    show P.length = 1
    rw [hP.len]
    have h2 : (C : Int) * R = ((C * R : Nat) : Int) := by rw [Int.natCast_mul]
    rw [h2] at h1
    have : 1 ≤ C * R := Nat.mul_pos (by omega) (by omega)
    omega
  | f :: L, C, R, P, i, hC, hR, hP, h => by
    obtain ⟨h1, h2⟩ := foldsErr_cons h
    obtain ⟨g1, g2⟩ := after_ok (C := (C : Int)) (R := (R : Int)) (f := f) (by omega) (by omega) h1
    obtain ⟨C2, hC2⟩ : ∃ n : Nat, afterC C f = n := ⟨(afterC C f).toNat, by omega⟩
    obtain ⟨R2, hR2⟩ : ∃ n : Nat, afterR R f = n := ⟨(afterR R f).toNat, by omega⟩
    rw [hC2] at g1; rw [hR2] at g2
    rw [hC2, hR2] at h2
    have hr : runF C R P (f :: L) = runF C2 R2 (outF C R C2 R2 f P) L := by
      show runF (afterC C f).toNat (afterR R f).toNat (outF C R (afterC C f).toNat (afterR R f).toNat f P) L = _
      rw [hC2, hR2, Int.toNat_natCast, Int.toNat_natCast]
    rw [hr]
    have ih := runF_keys hg L C2 R2 (outF C R C2 R2 f P) (i + 1) (by omega) (by omega) (hP.fold hC hR h1 hC2 hR2) h2
    refine ⟨ih.1.trans ?_, ih.2⟩
    have h3 := accF_keys (P := P) hg hC hR h1 hC2 hR2 hP.len (C * R) (Nat.le_refl _)
    rw [accF_out hC hR h1 hC2 hR2, List.take_of_length_le (by rw [hP.len]; exact Nat.le_refl _)] at h3
    exact h3
def cellKey (C : Int) (x : Leaf) : Int := x.r * C + x.c
theorem flat_keys (C s : Nat) : keysF (cellKey C) (flatP C s) = (List.range s).map fun i : Nat => (i : Int) := by
  unfold keysF flatP
  rw [List.flatMap_map]
  induction s with
  | zero => rfl
  | succ s ih =>
    rw [List.range_succ, List.flatMap_append, ih, List.map_append]
    congr 1
    show [cellKey C (leafAt C s)] = [(s : Int)]
    unfold cellKey leafAt
    have : s / C * C + s % C = s := by rw [Nat.mul_comm]; exact Nat.div_add_mod s C
    have h2 : ((s / C : Nat) : Int) * (C : Int) + ((s % C : Nat) : Int) = (s : Int) := by rw [← Int.natCast_mul, ← Int.natCast_add, this]
    exact congrArg (fun x => [x]) h2
/-- A pile has each cell once. -/
theorem pile_once {C R : Int} {L : List Fold} (h : (checkFo C R L).2 = 0) : ((pileP C R L).map (cellKey C)).Nodup := by
  obtain ⟨h1, h12, h3⟩ := checkFo_ok h
  obtain ⟨sC, sR, sm⟩ := side_ok h1
  obtain ⟨cn, rfl⟩ : ∃ n : Nat, C = n := ⟨C.toNat, by omega⟩
  obtain ⟨rn, rfl⟩ : ∃ n : Nat, R = n := ⟨R.toNat, by omega⟩
  obtain ⟨hk, hl⟩ := runF_keys (g := cellKey cn) (fun _ _ _ => rfl) L cn rn (flatP cn (cn * rn)) 0 (by omega) (by omega) (PileOk.flat (by omega) (by omega)) h3
  unfold pileP
  rw [Int.toNat_natCast, Int.toNat_natCast]
  obtain ⟨M, hM⟩ : ∃ M, (runF cn rn (flatP cn (cn * rn)) L).2.2 = M := ⟨_, rfl⟩
  rw [hM] at hk hl ⊢
  match M, hl with
  | [X], _ =>
    have h4 : keysF (cellKey cn) [X] = X.map (cellKey cn) := by unfold keysF; simp
    rw [h4, flat_keys cn _] at hk
    show (X.map _).Nodup
    refine hk.nodup_iff.2 ?_
    rw [List.nodup_iff_pairwise_ne, List.pairwise_map]
    refine (List.nodup_iff_pairwise_ne.1 List.nodup_range).imp ?_
    intro a b hab e
    exact hab (by omega)
end Go.Proofs.Ytmolejpbpcodbaa
