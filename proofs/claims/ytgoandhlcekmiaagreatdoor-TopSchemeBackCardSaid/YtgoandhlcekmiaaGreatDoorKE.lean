/-
  Package impose: what is true of all leaves of a pile; the scheme of folds, told.
-/
import Derived.Test.YtgoandhlcekmiaaGreatDoorKC
import Derived.Laws.ResultCell
namespace Go.Proofs.YtgoandhlcekmiaaGreatDoor
open Go.RowKit

theorem outF_all {Q : Leaf → Prop} (hQ : ∀ o t x, Q x → Q (turnX o t x)) {C R C' R' : Nat} {f : Fold} {P : List (List Leaf)} (h : ∀ x ∈ P, ∀ y ∈ x, Q y) : ∀ x ∈ outF C R C' R' f P, ∀ y ∈ x, Q y := by
  have hg : ∀ k, ∀ y ∈ P.getD k [], Q y := fun k y hy => by
    rw [List.getD_eq_getElem?_getD] at hy
    cases he : P[k]? with
    | none => rw [he] at hy; cases hy
    | some x => rw [he] at hy; exact h x (List.mem_of_getElem? he) y hy
  have ht : ∀ o t k, ∀ y ∈ turnL o t (P.getD k []), Q y := fun o t k y hy => by
    have hy : y ∈ (P.getD k []).map (turnX o t) := by unfold turnL at hy; split at hy <;> simpa using hy
    obtain ⟨z, hz, rfl⟩ := List.mem_map.1 hy
    exact hQ _ _ _ (hg k z hz)
  intro x hx y hy
  obtain ⟨j, _, rfl⟩ := List.mem_map.1 hx
  unfold placeF at hy
  rcases List.mem_append.1 hy with hy | hy
  · split at hy
    · cases hy
    · exact ht _ _ _ y hy
  · split at hy
    · cases hy
    · exact ht _ _ _ y hy
theorem runF_all {Q : Leaf → Prop} (hQ : ∀ o t x, Q x → Q (turnX o t x)) : ∀ (L : List Fold) (C R : Nat) (P : List (List Leaf)), (∀ x ∈ P, ∀ y ∈ x, Q y) → ∀ x ∈ (runF C R P L).2.2, ∀ y ∈ x, Q y
  | [], _, _, _, h => h
  | _ :: L, _, _, _, h => runF_all hQ L _ _ _ (outF_all hQ h)
theorem pileP_all {Q : Leaf → Prop} (hQ : ∀ o t x, Q x → Q (turnX o t x)) {C R : Int} {L : List Fold} (h : ∀ x ∈ flatP C.toNat (C.toNat * R.toNat), ∀ y ∈ x, Q y) : ∀ y ∈ pileP C R L, Q y := by
  intro y hy
  unfold pileP at hy
  rw [List.getD_eq_getElem?_getD] at hy
  cases he : (runF C.toNat R.toNat (flatP C.toNat (C.toNat * R.toNat)) L).2.2[0]? with
  | none => rw [he] at hy; cases hy
  | some x => rw [he] at hy; exact runF_all hQ L _ _ _ h x (List.mem_of_getElem? he) y hy
/-- A leaf of a sheet. -/
def LeafIn (C R : Int) (x : Leaf) : Prop := (0 ≤ x.c ∧ x.c < C) ∧ (0 ≤ x.r ∧ x.r < R) ∧ LeafBits x
theorem pileP_in {C R : Int} {L : List Fold} (hC : 1 ≤ C) (hR : 1 ≤ R) : ∀ y ∈ pileP C R L, LeafIn C R y := by
  refine pileP_all (fun o t x hx => ⟨hx.1, hx.2.1, xr_bit _ _, xr_bit _ _⟩) ?_
  intro x hx y hy
  obtain ⟨j, hj, rfl⟩ := List.mem_map.1 hx
  rw [List.mem_singleton.1 hy]
  have hj : j < C.toNat * R.toNat := by simpa using hj
  have h1 : j % C.toNat < C.toNat := Nat.mod_lt _ (by omega)
  have h2 : j / C.toNat < R.toNat := Nat.div_lt_of_lt_mul hj
  unfold LeafIn leafAt
  simp only
  generalize j % C.toNat = u at *
  generalize j / C.toNat = v at *
  exact ⟨by omega, by omega, Or.inl rfl, Or.inl rfl⟩
/-- How many leaves there are stays so. -/
theorem runF_sum : ∀ (L : List Fold) (C R : Nat) (P : List (List Leaf)) (i : Int), (1 ≤ C ∧ C ≤ 8) → (1 ≤ R ∧ R ≤ 8) → PileOk C R P → (foldsErr C R L i).2 = 0 → sumL (runF C R P L).2.2 = sumL P ∧ (runF C R P L).2.2.length = 1
  | [], C, R, P, i, hC, hR, hP, h => by
    refine ⟨rfl, ?_⟩
    have h1 : ¬ 1 < (C : Int) * R := fun h1 => by
      have e : foldsErr C R [] i = (i, 25) := by show (if _ then _ else _) = _; rw [if_pos h1]
      rw [e] at h; simp at h
    have h2 := hP.len
    have h3 : C * R ≤ 1 := by
      have : ((C * R : Nat) : Int) ≤ 1 := by push_cast; omega
      omega
    have h4 : 1 * 1 ≤ C * R := Nat.mul_le_mul hC.1 hR.1
    show P.length = 1
    omega
  | f :: L, C, R, P, i, hC, hR, hP, h => by
    obtain ⟨h1, h2⟩ := foldsErr_ok (L := f :: L) (k := 0) (Nat.succ_pos _) h
    have h1 : foldErr C R f = 0 := h1
    have ha := after_ok (C := (C : Int)) (R := (R : Int)) (f := f) (by omega) (by omega) h1
    obtain ⟨C2, hC2⟩ : ∃ n : Nat, afterC C f = n := ⟨(afterC C f).toNat, by omega⟩
    obtain ⟨R2, hR2⟩ : ∃ n : Nat, afterR R f = n := ⟨(afterR R f).toNat, by omega⟩
    have h2 : (foldsErr (afterC C f) (afterR R f) L (i + 1)).2 = 0 := h2
    rw [hC2, hR2] at h2 ha
    have hr : runF C R P (f :: L) = runF C2 R2 (outF C R C2 R2 f P) L := by
      show runF (afterC C f).toNat (afterR R f).toNat (outF C R (afterC C f).toNat (afterR R f).toNat f P) L = _
      rw [hC2, hR2, Int.toNat_natCast, Int.toNat_natCast]
    rw [hr]
    have ih := runF_sum L C2 R2 (outF C R C2 R2 f P) (i + 1) (by omega) (by omega) (hP.fold hC hR h1 hC2 hR2) h2
    refine ⟨ih.1.trans ?_, ih.2⟩
    rw [← accF_out hC hR h1 hC2 hR2, accF_sum hC hR h1 hC2 hR2 hP.len _ (Nat.le_refl _), List.take_of_length_le (by rw [hP.len]; exact Nat.le_refl _)]
theorem pileP_len {C R : Int} {L : List Fold} (h : (checkFo C R L).2 = 0) : (pileP C R L).length = C.toNat * R.toNat := by
  obtain ⟨hs, _, hf⟩ := checkFo_ok h
  obtain ⟨sC, sR, _⟩ := side_ok hs
  obtain ⟨cn, rfl⟩ : ∃ n : Nat, C = n := ⟨C.toNat, by omega⟩
  obtain ⟨rn, rfl⟩ : ∃ n : Nat, R = n := ⟨R.toNat, by omega⟩
  have := runF_sum L cn rn (flatP cn (cn * rn)) 0 (by omega) (by omega) (PileOk.flat (by omega) (by omega)) hf
  rw [sumL_flat] at this
  unfold pileP
  rw [Int.toNat_natCast, Int.toNat_natCast]
  obtain ⟨x, hx⟩ := List.length_eq_one_iff.1 this.2
  rw [hx] at this ⊢
  have h1 : x.length + 0 = cn * rn := this.1
  show x.length = _
  omega
/-- The cell of the i-th leaf of a pile. -/
def cellP (i : Nat) (x : Leaf) : Cell := if x.o = 1 then ⟨2 * i + 2, x.t, 2 * i + 1, x.t⟩ else ⟨2 * i + 1, x.t, 2 * i + 2, x.t⟩
/-- The cells when the first i leaves have been laid. -/
def cellsP (C : Int) (N : Nat) (l : List Leaf) : Nat → List Cell
  | 0 => List.replicate N ⟨0, 0, 0, 0⟩
  | i + 1 => (cellsP C N l i).set (((l.getD i default).r * C + (l.getD i default).c).toNat) (cellP i (l.getD i default))
theorem cellsP_len (C : Int) (N : Nat) (l : List Leaf) : ∀ i, (cellsP C N l i).length = N
  | 0 => by simp [cellsP]
  | i + 1 => by unfold cellsP; rw [List.length_set]; exact cellsP_len C N l i
def schemeP (C R : Int) (L : List Fold) : List Cell := cellsP C (C.toNat * R.toNat) (pileP C R L) (pileP C R L).length
end Go.Proofs.YtgoandhlcekmiaaGreatDoor

namespace Go.Proofs.YtgoandhlcekmiaaGreatDoor
open Go.RowKit

def Page.v (x : Page) : Value := .agg #[.int .i64 x.p, .int .i64 x.t]
def Cell.v (x : Cell) : Value := .agg #[.int .i64 x.f, .int .i64 x.ft, .int .i64 x.b, .int .i64 x.bt]
set_option maxHeartbeats 1000000 in
theorem frontOf_any (x : Cell) (w : World) : Calls Tryz.prog 42 #[.agg #[.int .i64 x.f, .int .i64 x.ft, .int .i64 x.b, .int .i64 x.bt]] w (AggPost (.agg #[.int .i64 x.f, .int .i64 x.ft]) w) := by
  go_enter Tryz.func42, Tryz.ntmps42
  go_wp2
  refine bodyPost_ret (v := .agg #[.int .i64 x.f, .int .i64 x.ft]) (by simp [results, Tryz.results42, go_sem]) rfl ⟨rfl, ?_⟩
  (repeat (first | exact Below.refl _ _ | refine Below.alloc ?_ (by simp <;> omega) _ | refine Below.setCell ?_ (by simp <;> omega) _ | refine below_drewN ?_ _ | refine Below.drew ?_))
set_option maxHeartbeats 1000000 in
theorem backOf_any (x : Cell) (w : World) : Calls Tryz.prog 44 #[.agg #[.int .i64 x.f, .int .i64 x.ft, .int .i64 x.b, .int .i64 x.bt]] w (AggPost (.agg #[.int .i64 x.b, .int .i64 x.bt]) w) := by
  go_enter Tryz.func44, Tryz.ntmps44
  go_wp2
  refine bodyPost_ret (v := .agg #[.int .i64 x.b, .int .i64 x.bt]) (by simp [results, Tryz.results44, go_sem]) rfl ⟨rfl, ?_⟩
  (repeat (first | exact Below.refl _ _ | refine Below.alloc ?_ (by simp <;> omega) _ | refine Below.setCell ?_ (by simp <;> omega) _ | refine below_drewN ?_ _ | refine Below.drew ?_))
set_option maxHeartbeats 1000000 in
theorem cellOf_any (x y : Page) (w : World) : Calls Tryz.prog 26 #[.agg #[.int .i64 x.p, .int .i64 x.t], .agg #[.int .i64 y.p, .int .i64 y.t]] w (AggPost (.agg #[.int .i64 x.p, .int .i64 x.t, .int .i64 y.p, .int .i64 y.t]) w) := by
  go_enter Tryz.func26, Tryz.ntmps26
  go_wp2
  refine bodyPost_ret (v := .agg #[.int .i64 x.p, .int .i64 x.t, .int .i64 y.p, .int .i64 y.t]) (by simp [results, Tryz.results26, go_sem]) rfl ⟨rfl, ?_⟩
  (repeat (first | exact Below.refl _ _ | refine Below.alloc ?_ (by simp <;> omega) _ | refine Below.setCell ?_ (by simp <;> omega) _ | refine below_drewN ?_ _ | refine Below.drew ?_))
set_option maxHeartbeats 1000000 in
theorem sizeOfScheme_any (C R : Int) (v : Value) (hv : ∃ a n c, v = .slice a n c) (w : World) : Calls Tryz.prog 39 #[.agg #[.int .i64 C, .int .i64 R, v]] w (AggPost (.agg #[.int .i64 C, .int .i64 R]) w) := by
  obtain ⟨a, n, c, rfl⟩ := hv
  go_enter Tryz.func39, Tryz.ntmps39
  go_wp2
  refine bodyPost_ret (v := .agg #[.int .i64 C, .int .i64 R]) (by simp [results, Tryz.results39, go_sem]) rfl ⟨rfl, ?_⟩
  (repeat (first | exact Below.refl _ _ | refine Below.alloc ?_ (by simp <;> omega) _ | refine Below.setCell ?_ (by simp <;> omega) _ | refine below_drewN ?_ _ | refine Below.drew ?_))
theorem info_cell : (Tryz.prog.info? 57).map (fun i => (i.zero, i.size, i.bytes)) = some (some (.agg #[.int .i64 0, .int .i64 0, .int .i64 0, .int .i64 0]), 4, 32) := by kernel_rfl
/-- make of a row of structs. -/
theorem run_make_rowX {t e : TypeId} {z : Value} {size bytes : Nat} (ht : Tryz.prog.underlying t = some (.slice e)) (hinfo : (Tryz.prog.info? e).map (fun i => (i.zero, i.size, i.bytes)) = some (some z, size, bytes)) (kl kc : IntKind) (n : Nat) (hbytes : bytes * n ≤ 281474976710656) (h63 : n ≤ 9223372036854775807) (w : World) :
    (Instr.makeSlice t (.int kl (n : Int)) (.int kc (n : Int))).run Tryz.prog w = .ok (.slice (some ⟨w.heap.size, 0, none⟩) n n) (w.alloc (.cells (madeCells z.cells (n * size)) e)) := by
  obtain ⟨i, hi, hzz⟩ := Option.map_eq_some_iff.1 hinfo
  simp only [Prod.mk.injEq] at hzz
  obtain ⟨hz, hs, hb⟩ := hzz
  have hb' : (i.bytes : Int) * (n : Int) ≤ 281474976710656 := by
    have h : ((i.bytes * n : Nat) : Int) ≤ 281474976710656 := by rw [hb]; omega
    rwa [Int.natCast_mul] at h
  have hr := run_make (P := Tryz.prog) w t e i z ht hi hz kl kc n n (by omega) (Int.le_refl _) hb' (by omega)
  simp only [Int.toNat_natCast, hs] at hr
  exact hr
theorem OwnR.made4 {α : Type} {E : TypeId} {g : α → List Int} (hg : ∀ x, (g x).length = 4) (w : World) (x : α) (hx : g x = [0, 0, 0, 0]) (n : Nat) (hn : n ≤ 1000000) : OwnR 4 E g (w.alloc (.cells (madeCells #[.int .i64 0, .int .i64 0, .int .i64 0, .int .i64 0] (n * 4)) E)) w.heap.size (.slice (some ⟨w.heap.size, 0, none⟩) n n) (List.replicate n x) := by
  unfold OwnR
  rw [List.length_replicate]
  have hs : (madeCells #[.int .i64 0, .int .i64 0, .int .i64 0, .int .i64 0] (n * 4)).size = n * 4 := size_madeCells _ _
  refine ⟨by simp [vals, flat_len hg], Or.inr ⟨w.heap.size, n, _, rfl, Nat.le_refl _, heap_alloc_new w _, Nat.le_refl _, by unfold maxLen; omega, hs, ?_⟩⟩
  rw [List.take_of_length_le (by rw [Array.length_toList, hs]; exact Nat.le_refl _)]
  apply List.ext_getElem
  · rw [Array.length_toList, hs]; simp [vals, flat_len hg]
  · intro i h1 h2
    have hi : i < n * 4 := by rw [Array.length_toList, hs] at h1; exact h1
    have e1 : (vals ((List.replicate n x).flatMap g))[i]? = some (.int .i64 0) := by
      have hk : i / 4 < (List.replicate n x).length := by rw [List.length_replicate]; omega
      have h3 := flat_at hg (List.replicate n x) (i / 4) (i % 4) hk (by omega)
      rw [show i / 4 * 4 + i % 4 = i by omega] at h3
      unfold vals
      rw [List.getElem?_map, h3, List.getElem_replicate, hx]
      have : i % 4 = 0 ∨ i % 4 = 1 ∨ i % 4 = 2 ∨ i % 4 = 3 := by omega
      rcases this with e | e | e | e <;> rw [e] <;> rfl
    rw [List.getElem?_eq_getElem h2] at e1
    rw [Option.some.inj e1]
    simp only [madeCells, Array.getElem_toList, Array.getElem_map, Array.getElem_range]
    have : i % 4 = 0 ∨ i % 4 = 1 ∨ i % 4 = 2 ∨ i % 4 = 3 := by omega
    rcases this with e | e | e | e <;> simp [e]
theorem OwnR.put4c {E : TypeId} {w : World} {B b m c : Nat} {M : List Cell} (h : OwnR 4 E Cell.l w B (.slice (some ⟨b, 0, none⟩) m c) M) (hm : m = M.length) {k : Nat} (hk : k < M.length) (x : Cell) :
    OwnR 4 E Cell.l ((((w.setCell ⟨b, k * 4, none⟩ (.int .i64 x.f)).setCell ⟨b, k * 4 + 1, none⟩ (.int .i64 x.ft)).setCell ⟨b, k * 4 + 2, none⟩ (.int .i64 x.b)).setCell ⟨b, k * 4 + 3, none⟩ (.int .i64 x.bt)) B (.slice (some ⟨b, 0, none⟩) m c) (M.set k x) := by
  have h1 := h.put cell_l hm hk (j := 0) (by decide) ⟨x.f, M[k].ft, M[k].b, M[k].bt⟩ x.f rfl
  have h2 := h1.put cell_l (by rw [List.length_set]; exact hm) (by rw [List.length_set]; exact hk) (j := 1) (by decide) ⟨x.f, x.ft, M[k].b, M[k].bt⟩ x.ft (by rw [List.getElem_set_self]; try rfl)
  rw [List.set_set] at h2
  have h3 := h2.put cell_l (by rw [List.length_set]; exact hm) (by rw [List.length_set]; exact hk) (j := 2) (by decide) ⟨x.f, x.ft, x.b, M[k].bt⟩ x.b (by rw [List.getElem_set_self]; try rfl)
  rw [List.set_set] at h3
  have h4 := h3.put cell_l (by rw [List.length_set]; exact hm) (by rw [List.length_set]; exact hk) (j := 3) (by decide) x x.bt (by rw [List.getElem_set_self]; try rfl)
  rw [List.set_set] at h4
  exact h4
end Go.Proofs.YtgoandhlcekmiaaGreatDoor
