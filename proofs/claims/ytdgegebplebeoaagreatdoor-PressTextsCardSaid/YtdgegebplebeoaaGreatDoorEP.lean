/-
  Package press: slices of a schedule; one more of them.
-/
import Derived.Test.YtdgegebplebeoaaGreatDoorEO
namespace Go.Proofs.YtdgegebplebeoaaGreatDoor
open Go.RowKit

theorem flat_set {α : Type} {n : Nat} {g : α → List Int} (hg : ∀ x, (g x).length = n) (x' : α) (y : Int) : ∀ (L : List α) (k j : Nat) (hk : k < L.length), j < n → g x' = (g L[k]).set j y → (L.flatMap g).set (k * n + j) y = (L.set k x').flatMap g
  | [], _, _, hk, _, _ => absurd hk (Nat.not_lt_zero _)
  | x :: L, 0, j, _, hj, h => by
    rw [List.set_cons_zero, List.flatMap_cons, List.flatMap_cons, Nat.zero_mul, Nat.zero_add, List.set_append_left _ _ (by rw [hg x]; exact hj), h]; rfl
  | x :: L, k + 1, j, hk, hj, h => by
    rw [List.set_cons_succ, List.flatMap_cons, List.flatMap_cons, List.set_append_right _ _ (by rw [hg x, Nat.succ_mul]; omega), hg x, show (k + 1) * n + j - n = k * n + j by rw [Nat.succ_mul]; omega,
      flat_set hg x' y L k j (by simpa using hk) hj h]
theorem own_cell {w : World} {base e n size g c : Nat} {xs : List Value} (h : w.ownsRow base e size (.slice (some ⟨g, 0, none⟩) n c) n xs) (j : Nat) (u : Value) : (w.setCell ⟨g, j, none⟩ u).ownsRow base e size (.slice (some ⟨g, 0, none⟩) n c) n (xs.set j u) := by
  rcases h.2 with ⟨e1, _⟩ | ⟨g', cap, cur, e1, h1, h2, h3, h4, h5, h6⟩
  · cases e1
  · cases e1
    refine ⟨by rw [List.length_set]; exact h.1, Or.inr ⟨g, c, cur.setIfInBounds j u, rfl, h1, heap_setCell_same w g j cur e u h2, h3, h4, by rw [Array.size_setIfInBounds]; exact h5, ?_⟩⟩
    rw [Array.toList_setIfInBounds, List.take_set, h6]
/-- A store of one number into a row of the call's own. -/
theorem OwnR.put {α : Type} {n : Nat} {E : TypeId} {g : α → List Int} {w : World} {B b m c : Nat} {L : List α} (h : OwnR n E g w B (.slice (some ⟨b, 0, none⟩) m c) L) (hg : ∀ x, (g x).length = n) (hm : m = L.length) {k j : Nat} (hk : k < L.length) (hj : j < n) (x' : α) (y : Int) (hx : g x' = (g L[k]).set j y) :
    OwnR n E g (w.setCell ⟨b, k * n + j, none⟩ (.int .i64 y)) B (.slice (some ⟨b, 0, none⟩) m c) (L.set k x') := by
  subst hm
  have h1 := own_cell (n := L.length) h (k * n + j) (.int .i64 y)
  unfold OwnR
  rw [List.length_set, ← flat_set hg x' y L k j hk hj hx]
  unfold vals
  rw [List.map_set]
  exact h1
theorem OwnR.block {α : Type} {n : Nat} {E : TypeId} {g : α → List Int} {w : World} {B b m c : Nat} {L : List α} (h : OwnR n E g w B (.slice (some ⟨b, 0, none⟩) m c) L) : ∃ cur, w.heap[b]? = some (.cells cur E (0, 0)) := by
  rcases h.2 with ⟨e1, _⟩ | ⟨g', cap, cur, e1, h1, h2, _⟩
  · cases e1
  · cases e1; exact ⟨cur, h2⟩
theorem OwnR.free {α : Type} {n : Nat} {E : TypeId} {g : α → List Int} {w : World} {B b m c : Nat} {L : List α} (h : OwnR n E g w B (.slice (some ⟨b, 0, none⟩) m c) L) (j : Nat) : w.frozen? ⟨b, j, none⟩ = false := by
  obtain ⟨cur, hc⟩ := h.block
  simp [World.frozen?, hc]
/-- The form of a slice of the call's own that is not empty. -/
theorem OwnR.form {α : Type} {n : Nat} {E : TypeId} {g : α → List Int} {w : World} {B : Nat} {v : Value} {L : List α} (h : OwnR n E g w B v L) (hp : 0 < L.length) : ∃ b c, v = .slice (some ⟨b, 0, none⟩) L.length c ∧ B ≤ b ∧ b < w.heap.size := World.ownsRow.form h hp
structure Sl where
  job : Int
  from_ : Int
  mins : Int
instance : DecidableEq Sl := fun x y => if h : x.job = y.job ∧ x.from_ = y.from_ ∧ x.mins = y.mins then isTrue (by cases x; cases y; simp_all) else isFalse (fun e => h (by rw [e]; exact ⟨rfl, rfl, rfl⟩))
def Sl.l (x : Sl) : List Int := [x.job, x.from_, x.mins]
theorem sl_l : ∀ x : Sl, x.l.length = 3 := fun _ => rfl
theorem tSl : ElT 3 24 57 134 (.agg #[.int .i64 0, .int .i64 0, .int .i64 0]) := ⟨Tryz.underlying57, by kernel_rfl, rfl, by decide, by decide⟩
def noSl : Sl := ⟨0, 0, 0⟩
/-- A schedule with one slice more. -/
def wsl (S : List Sl) (s : Sl) : List Sl :=
  if 0 < S.length ∧ (S.getD (S.length - 1) noSl).job = s.job ∧ (S.getD (S.length - 1) noSl).from_ + (S.getD (S.length - 1) noSl).mins = s.from_
  then S.set (S.length - 1) ⟨(S.getD (S.length - 1) noSl).job, (S.getD (S.length - 1) noSl).from_, (S.getD (S.length - 1) noSl).mins + s.mins⟩ else S ++ [s]
def WslPost (B : Nat) (v : Value) (S : List Sl) (w : World) (e : Ending) (w' : World) : Prop :=
  ∃ gg c, e = .returned (.slice (some ⟨gg, 0, none⟩) S.length c) ∧ OwnR 3 134 Sl.l w' B (.slice (some ⟨gg, 0, none⟩) S.length c) S ∧ w.grownBy w' v.ownBlock ∧ Below B w w'
theorem sl_getD {S : List Sl} {k : Nat} (h : k < S.length) : S.getD k noSl = S[k] := by rw [List.getD_eq_getElem?_getD, List.getElem?_eq_getElem h]; rfl
theorem OwnR.sl {w : World} {B g n c : Nat} {S : List Sl} (h : OwnR 3 134 Sl.l w B (.slice (some ⟨g, 0, none⟩) n c) S) {k : Nat} (hk : k < S.length) :
    w.cell? ⟨g, k * 3, none⟩ = some (.int .i64 S[k].job) ∧ w.cell? ⟨g, k * 3 + 1, none⟩ = some (.int .i64 S[k].from_) ∧ w.cell? ⟨g, k * 3 + 2, none⟩ = some (.int .i64 S[k].mins) := by
  obtain ⟨a, c', ev, hr, -⟩ := h.rows sl_l
  obtain ⟨ad, e, hlt, hs⟩ := hr k hk
  injection ev with e1 e2 e3
  rw [e] at e1
  injection e1 with e1
  subst e1
  have h0 := hs 0 (by decide); have h1 := hs 1 (by decide); have h2 := hs 2 (by decide)
  rw [add0, fld_own] at h0 h1 h2
  exact ⟨h0, h1, h2⟩
theorem grown_refl (w : World) (row : Option Nat) : w.grownBy w row := ⟨rfl, rfl, rfl, Nat.le_refl _, fun _ _ _ => rfl⟩
theorem grown_drewN {w w' : World} {row : Option Nat} (h : w.grownBy w' row) (n : Nat) : w.grownBy (w'.drewN n) row := ⟨h.os, h.tape, h.output, h.size, h.block⟩
theorem grown_drew {w w' : World} {row : Option Nat} (h : w.grownBy w' row) : w.grownBy w'.drew row := ⟨h.os, h.tape, h.output, h.size, h.block⟩
theorem grown_below {w w1 w' : World} {row : Option Nat} (h : w.grownBy w1 row) (hb : Below w1.heap.size w1 w') : w.grownBy w' row :=
  ⟨hb.os.trans h.os, hb.tape.trans h.tape, hb.output.trans h.output, Nat.le_trans h.size hb.size, fun k hk hn => (hb.block k (Nat.lt_of_lt_of_le hk h.size)).trans (h.block k hk hn)⟩
theorem grown_set {w w1 : World} {g j : Nat} {row : Option Nat} (h : w.grownBy w1 row) (hr : row = some g) (u : Value) : w.grownBy (w1.setCell ⟨g, j, none⟩ u) row :=
  ⟨h.os, h.tape, h.output, by rw [World.size_setCell]; exact h.size, fun k hk hn => (Below.heap_setCell _ _ _ _ (fun e => hn (by rw [hr, e]))).trans (h.block k hk hn)⟩
set_option maxRecDepth 100000 in
set_option maxHeartbeats 4000000 in
theorem withSlice_any (B : Nat) (v : Value) (S : List Sl) (j f n : Int) (w : World) (hO : OwnR 3 134 Sl.l w B v S) (hB : B ≤ w.heap.size) (hl : S.length ≤ 400000)
    (hf : ∀ s ∈ S, (0 ≤ s.from_ ∧ s.from_ ≤ 1000000000) ∧ (0 ≤ s.mins ∧ s.mins ≤ 1000000000)) (hn : 0 ≤ n ∧ n ≤ 1000000000) :
    Calls Tryz.prog 74 #[v, .agg #[.int .i64 j, .int .i64 f, .int .i64 n]] w (WslPost B v (wsl S ⟨j, f, n⟩) w) := by
  have bx := BoxAt.new w #[.int .i64 j, .int .i64 f, .int .i64 n] 134
  have hOb := hO.alloc (.cells #[.int .i64 j, .int .i64 f, .int .i64 n] 134)
  have hgb := World.grownBy_alloc w (.cells #[.int .i64 j, .int .i64 f, .int .i64 n] 134) v.ownBlock
  have hBb := (Below.refl B w).alloc hB (.cells #[.int .i64 j, .int .i64 f, .int .i64 n] 134)
  have HF := Lib.hid hf; clear hf
  by_cases h0 : S.length = 0
  · have HE := Lib.hid (show wsl S ⟨j, f, n⟩ = S ++ [⟨j, f, n⟩] by unfold wsl; rw [if_neg (by omega)])
    obtain ⟨a, c, ev, -, -, -, -, -⟩ := hO.rows sl_l
    have hS := List.eq_nil_of_length_eq_zero h0
    subst hS
    rw [HE.out]
    subst ev
    go_enter Tryz.func74, Tryz.ntmps74
    go_wp2_with (at_builtin; refine wpList_appX tSl sl_l _ ⟨j, f, n⟩ _ rfl rfl _ _ rfl B _ [] rfl hOb (by show Value.slice (some ⟨w.heap.size + 1, 0, none⟩) 1 1 = _; simp) (by simp) (by simp; omega) ?_; intro gg cg wg hOg hgg hBg)
    go_ret
    exact ⟨gg, cg, rfl, hOg, hgb.trans hgg, hBb.trans hBg⟩
  obtain ⟨q, hq⟩ : ∃ q, S.length = q + 1 := ⟨S.length - 1, by omega⟩
  obtain ⟨g, c, ev, hgB, hgl⟩ := hO.form (by omega)
  have hql : q < S.length := by omega
  obtain ⟨l0, l1, l2⟩ := (show OwnR 3 134 Sl.l w B (.slice (some ⟨g, 0, none⟩) S.length c) S by rw [← ev]; exact hO).sl hql
  have HL := Lib.hid (show S.getD (S.length - 1) noSl = S[q] by rw [show S.length - 1 = q by omega, sl_getD hql])
  obtain ⟨⟨y1, y2⟩, y3, y4⟩ := HF.out _ (List.getElem_mem hql)
  obtain ⟨y, ey⟩ : ∃ y, y = S[q] := ⟨_, rfl⟩
  have HEY := Lib.hid (show S.getD q noSl = y by rw [sl_getD hql]; exact ey.symm)
  rw [← ey] at l0 l1 l2 HL y1 y2 y3 y4
  obtain ⟨yj, yf, yn⟩ := y
  have l0 : w.cell? ⟨g, q * 3, none⟩ = some (.int .i64 yj) := l0
  have l1 : w.cell? ⟨g, q * 3 + 1, none⟩ = some (.int .i64 yf) := l1
  have l2 : w.cell? ⟨g, q * 3 + 2, none⟩ = some (.int .i64 yn) := l2
  dsimp only at y1 y2 y3 y4
  subst ev
  have HQ := Lib.hid hq
  rw [hq] at hO hOb ⊢
  have hfz : w.frozen? ⟨g, q * 3 + 2, none⟩ = false := hO.free _
  have hqb : q ≤ 400000 := by omega
  have x0 : (w.alloc (.cells #[.int .i64 j, .int .i64 f, .int .i64 n] 134)).cell? ⟨g, q * 3, none⟩ = some (.int .i64 yj) := by rw [World.cell?_alloc_past _ _ _ hgl]; exact l0
  have x1 : (w.alloc (.cells #[.int .i64 j, .int .i64 f, .int .i64 n] 134)).cell? ⟨g, q * 3 + 1, none⟩ = some (.int .i64 yf) := by rw [World.cell?_alloc_past _ _ _ hgl]; exact l1
  have x2 : (w.alloc (.cells #[.int .i64 j, .int .i64 f, .int .i64 n] 134)).cell? ⟨g, q * 3 + 2, none⟩ = some (.int .i64 yn) := by rw [World.cell?_alloc_past _ _ _ hgl]; exact l2
  have X0 := Lib.hid x0; have X1 := Lib.hid x1; have X2 := Lib.hid x2
  clear ey hq hql h0 hl x0 x1 x2
  by_cases h1 : yj = j
  · by_cases h2 : yf + yn = f
    · have HE := Lib.hid (show wsl S ⟨j, f, n⟩ = S.set q ⟨yj, yf, yn + n⟩ by unfold wsl; rw [HL.out, if_pos ⟨by have := HQ.out; omega, h1, h2⟩, show S.length - 1 = q by have := HQ.out; omega])
      have h1' : (yj == j) = true := by simpa using h1
      have h2' : (yf + yn == f) = true := by simpa using h2
      have HLE := Lib.hid (show (wsl S ⟨j, f, n⟩).length = q + 1 by rw [HE.out, List.length_set, HQ.out])
      clear h1 h2
      go_enter Tryz.func74, Tryz.ntmps74
      go_wp2_with fail
      go_region_held3 (fun w' => w'.cell? ⟨g, q * 3, none⟩ = some (.int .i64 yj) ∧ w'.cell? ⟨g, q * 3 + 1, none⟩ = some (.int .i64 yf) ∧ w'.cell? ⟨g, q * 3 + 2, none⟩ = some (.int .i64 yn) ∧ w'.cell? ⟨w.heap.size, 0, none⟩ = some (.int .i64 j) ∧ w'.cell? ⟨w.heap.size, 1, none⟩ = some (.int .i64 f) ∧ w'.cell? ⟨w.heap.size, 2, none⟩ = some (.int .i64 n)) (go_keep)
        ((go_at_call 75; refine (endOf_any _ _ _ _ y1 y2 y3 y4).mono ?_; rintro e w8 ⟨rfl, hb8⟩; have m0 := (hb8.cell (p := ⟨g, q * 3, none⟩) (by simp; omega)).trans X0.out; have m1 := (hb8.cell (p := ⟨g, q * 3 + 1, none⟩) (by simp; omega)).trans X1.out; have m2 := (hb8.cell (p := ⟨g, q * 3 + 2, none⟩) (by simp; omega)).trans X2.out; have k0 := (bx.drew.below hb8).cell 0; have k1 := (bx.drew.below hb8).cell 1; have k2 := (bx.drew.below hb8).cell 2; simp at k0 k1 k2))
      have hO8 := hOb.drew.below hb8
      have f2 := hO8.free (q * 3 + 2)
      have bx8 := bx.drew.below hb8
      have c0 := bx8.cell 0; have c1 := bx8.cell 1; have c2 := bx8.cell 2
      simp at c0 c1 c2
      have hbl := bx8.lt
      have hgl8 : g < w8.heap.size := by have := hb8.size; simp at this; omega
      have hw9 : IntKind.i64.wrap (yn + n) = yn + n := IntWalk.i64_in _ (by omega)
      have hne : ¬ g = w.heap.size := by omega
      have hne2 : ¬ w.heap.size = g := by omega
      have hql : q < S.length := by rw [HQ.out]; omega
      have hput := hO8.put sl_l HQ.out.symm hql (j := 2) (by decide) ⟨yj, yf, yn + n⟩ (yn + n) (by rw [← sl_getD hql, HEY.out]; rfl)
      have HPUT := Lib.hid hput
      clear hput hql
      go_wp2_with fail
      go_region
      go_wp2
      go_ret
      exact ⟨g, c, by rw [HLE.out]; rfl, by rw [HLE.out, HE.out]; exact HPUT.out, grown_drew (grown_set (grown_below (grown_drew hgb) hb8) rfl _), ((hBb.drew.trans (hb8.mono (B' := B) (by simp; omega))).setCell (p := ⟨g, q * 3 + 2, none⟩) hgB _).drew⟩
    · have HE := Lib.hid (show wsl S ⟨j, f, n⟩ = S ++ [⟨j, f, n⟩] by unfold wsl; rw [HL.out, if_neg (fun h => h2 h.2.2)])
      have h1' : (yj == j) = true := by simpa using h1
      have h2' : (yf + yn == f) = false := by simpa using h2
      have HLE := Lib.hid (show (wsl S ⟨j, f, n⟩).length = q + 1 + 1 by rw [HE.out, List.length_append, HQ.out]; rfl)
      clear h1 h2
      go_enter Tryz.func74, Tryz.ntmps74
      go_wp2_with fail
      go_region_held3 (fun w' => w'.cell? ⟨g, q * 3, none⟩ = some (.int .i64 yj) ∧ w'.cell? ⟨g, q * 3 + 1, none⟩ = some (.int .i64 yf) ∧ w'.cell? ⟨g, q * 3 + 2, none⟩ = some (.int .i64 yn) ∧ w'.cell? ⟨w.heap.size, 0, none⟩ = some (.int .i64 j) ∧ w'.cell? ⟨w.heap.size, 1, none⟩ = some (.int .i64 f) ∧ w'.cell? ⟨w.heap.size, 2, none⟩ = some (.int .i64 n)) (go_keep)
        ((go_at_call 75; refine (endOf_any _ _ _ _ y1 y2 y3 y4).mono ?_; rintro e w8 ⟨rfl, hb8⟩; have m0 := (hb8.cell (p := ⟨g, q * 3, none⟩) (by simp; omega)).trans X0.out; have m1 := (hb8.cell (p := ⟨g, q * 3 + 1, none⟩) (by simp; omega)).trans X1.out; have m2 := (hb8.cell (p := ⟨g, q * 3 + 2, none⟩) (by simp; omega)).trans X2.out; have k0 := (bx.drew.below hb8).cell 0; have k1 := (bx.drew.below hb8).cell 1; have k2 := (bx.drew.below hb8).cell 2; simp at k0 k1 k2))
      have hO8 := hOb.drew.below hb8
      have bx8 := bx.drew.below hb8
      have c0 := bx8.cell 0; have c1 := bx8.cell 1; have c2 := bx8.cell 2
      simp at c0 c1 c2
      have hbl := bx8.lt
      go_wp2_with (at_builtin; refine wpList_appX tSl sl_l _ ⟨j, f, n⟩ _ rfl rfl _ _ rfl B _ S rfl hO8 rfl (by rw [HQ.out]; omega) (by have := hb8.size; simp at this; omega) ?_; intro gg cg wg hOg hgg hBg)
      rw [HQ.out] at hOg
      go_ret
      exact ⟨gg, cg, by rw [HLE.out, ← HQ.out]; rfl, by rw [HLE.out, HE.out]; exact hOg, (grown_below (grown_drew hgb) hb8).trans hgg, (hBb.drew.trans (hb8.mono (B' := B) (by simp; omega))).trans hBg⟩
  · have HE := Lib.hid (show wsl S ⟨j, f, n⟩ = S ++ [⟨j, f, n⟩] by unfold wsl; rw [HL.out, if_neg (fun h => h1 h.2.1)])
    have h1' : (yj == j) = false := by simpa using h1
    have HLE := Lib.hid (show (wsl S ⟨j, f, n⟩).length = q + 1 + 1 by rw [HE.out, List.length_append, HQ.out]; rfl)
    clear h1
    go_enter Tryz.func74, Tryz.ntmps74
    go_wp2_with fail
    go_quiet (fail)
    go_wp2_with (at_builtin; refine wpList_appX tSl sl_l _ ⟨j, f, n⟩ _ rfl rfl _ _ rfl B _ S rfl (hOb.drewN _) (by show Value.slice (some ⟨w.heap.size + 1, 0, none⟩) 1 1 = _; simp) (by rw [HQ.out]; omega) (by simp; omega) ?_; intro gg cg wg hOg hgg hBg)
    rw [HQ.out] at hOg
    go_ret
    exact ⟨gg, cg, by rw [HLE.out, ← HQ.out]; rfl, by rw [HLE.out, HE.out]; exact hOg, (grown_drewN hgb _).trans hgg, (below_drewN hBb _).trans hBg⟩
end Go.Proofs.YtdgegebplebeoaaGreatDoor
