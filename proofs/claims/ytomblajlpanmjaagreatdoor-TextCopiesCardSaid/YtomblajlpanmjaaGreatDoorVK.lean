/-
  As few sorts as print a piece: the contract.
-/
import Derived.Test.YtomblajlpanmjaaGreatDoorVJ
namespace Go.Proofs.YtomblajlpanmjaaGreatDoor
open Go.RowKit Go.Maps Go.Shelf
attribute [local go_sem] Oper.semAt_some

/-- What lies between two rounds. -/
structure FS (w : World) (p : PC) (g b4 b6 pl : Nat) (v : Value) (acc : List Int) (Ds : List Nat) (W : World) : Prop where
  b0 : W.heap[w.heap.size]? = some (.cells p.cells 175 (0, 0))
  row : RowX W g (lcL p)
  h4 : W.heap[b4]? = some (.cells #[.slice (some ⟨g, 0, none⟩) (p.t.size + 1) (p.t.size + 1)] 63 (0, 0))
  h5 : W.heap[b4 + 1]? = some (.cells #[v] 63 (0, 0))
  own : IRow W (b4 + 2) v acc
  h6 : W.heap[b6]? = some (.cells #[.int .i64 (pl : Int)] 3 (0, 0))
  ne : v.ownBlock ≠ some b6
  low : Below w.heap.size w W
  mks : Marks (b4 + 2) Ds W
  o6 : b4 + 2 ≤ b6
theorem own_setOther {w : World} {base e b n size : Nat} {v : Value} {xs : List Value} (h : w.ownsRow base e size v n xs) (hb : v.ownBlock ≠ some b) (j : Nat) (u : Value) : (w.setCell ⟨b, j, none⟩ u).ownsRow base e size v n xs := by
  obtain ⟨h1, h2⟩ := h
  refine ⟨h1, ?_⟩
  rcases h2 with h2 | ⟨g, cap, cur, hv, hg, hh, q⟩
  · exact .inl h2
  · refine .inr ⟨g, cap, cur, hv, hg, (Below.heap_setCell _ _ _ _ (fun e => hb ?_)).trans hh, q⟩
    rw [hv, e]; rfl
section
variable {w W : World} {p : PC} {g b4 b6 pl : Nat} {v : Value} {acc : List Int} {Ds : List Nat}
theorem FS.p0 (h : FS w p g b4 b6 pl v acc Ds W) : W.cell? ⟨w.heap.size, 0, none⟩ = some (.string p.f.name) := by rw [cell_of_row W _ 0 _ _ (0, 0) h.b0]; rfl
theorem FS.p1 (h : FS w p g b4 b6 pl v acc Ds W) : W.cell? ⟨w.heap.size, 1, none⟩ = some (.int .i64 p.f.body) := by rw [cell_of_row W _ 1 _ _ (0, 0) h.b0]; rfl
theorem FS.p2 (h : FS w p g b4 b6 pl v acc Ds W) : W.cell? ⟨w.heap.size, 2, none⟩ = some (.slice p.a p.f.sorts.length p.c) := by rw [cell_of_row W _ 2 _ _ (0, 0) h.b0]; rfl
theorem FS.p3 (h : FS w p g b4 b6 pl v acc Ds W) : W.cell? ⟨w.heap.size, 3, none⟩ = some (.string p.t) := by rw [cell_of_row W _ 3 _ _ (0, 0) h.b0]; rfl
theorem FS.p4 (h : FS w p g b4 b6 pl v acc Ds W) : W.cell? ⟨w.heap.size, 4, none⟩ = some (.slice p.ba p.bl.length p.bc) := by rw [cell_of_row W _ 4 _ _ (0, 0) h.b0]; rfl
theorem FS.c4 (h : FS w p g b4 b6 pl v acc Ds W) : W.cell? ⟨b4, 0, none⟩ = some (.slice (some ⟨g, 0, none⟩) (p.t.size + 1) (p.t.size + 1)) := by rw [cell_of_row W _ 0 _ _ (0, 0) h.h4]; rfl
theorem FS.c5 (h : FS w p g b4 b6 pl v acc Ds W) : W.cell? ⟨b4 + 1, 0, none⟩ = some v := by rw [cell_of_row W _ 0 _ _ (0, 0) h.h5]; rfl
theorem FS.c6 (h : FS w p g b4 b6 pl v acc Ds W) : W.cell? ⟨b6, 0, none⟩ = some (.int .i64 (pl : Int)) := by rw [cell_of_row W _ 0 _ _ (0, 0) h.h6]; rfl
theorem FS.f5 (h : FS w p g b4 b6 pl v acc Ds W) : W.frozen? ⟨b4 + 1, 0, none⟩ = false := by simp [World.frozen?, h.h5]
theorem FS.f6 (h : FS w p g b4 b6 pl v acc Ds W) : W.frozen? ⟨b6, 0, none⟩ = false := by simp [World.frozen?, h.h6]
theorem IRow.cellsAt {base : Nat} (h : IRow W base v acc) {k : Nat} (e : v.ownBlock = some k) : ∃ cs T fr, W.heap[k]? = some (.cells cs T fr) := by
  rcases h.2 with ⟨e1, _⟩ | ⟨g, cap, cur, e1, _, hg, _⟩
  · rw [e1] at e; cases e
  · rw [e1] at e; cases e; exact ⟨_, _, _, hg⟩
theorem IRow.still {base : Nat} {W' : World} (h : IRow W base v acc) (hk : ∀ (k : Nat) (cs : Array Value) (T : TypeId) (fr : Nat × Nat), W.heap[k]? = some (Obj.cells cs T fr) → W'.heap[k]? = some (Obj.cells cs T fr)) : IRow W' base v acc := by
  refine ⟨h.1, ?_⟩
  rcases h.2 with hn | ⟨g, cap, cur, e1, hb, hg, hr⟩
  · exact .inl hn
  · exact .inr ⟨g, cap, cur, e1, hb, hk _ _ _ _ hg, hr⟩
theorem FS.still {W' : World} (h : FS w p g b4 b6 pl v acc Ds W) (hk : ∀ (k : Nat) (cs : Array Value) (T : TypeId) (fr : Nat × Nat), W.heap[k]? = some (Obj.cells cs T fr) → W'.heap[k]? = some (Obj.cells cs T fr)) (hl : Below w.heap.size w W') (hm : Marks (b4 + 2) Ds W') : FS w p g b4 b6 pl v acc Ds W' :=
  ⟨hk _ _ _ _ h.b0, hk _ _ _ _ h.row, hk _ _ _ _ h.h4, hk _ _ _ _ h.h5, h.own.still hk, hk _ _ _ _ h.h6, h.ne, hl, hm, h.o6⟩
theorem FS.lo (h : FS w p g b4 b6 pl v acc Ds W) : w.heap.size < W.heap.size := heap_lt h.b0
theorem FS.alloc (h : FS w p g b4 b6 pl v acc Ds W) (o : Obj) : FS w p g b4 b6 pl v acc Ds (W.alloc o) :=
  h.still (fun _ _ _ _ e => heap_keep e) (h.low.alloc (Nat.le_of_lt h.lo) o) (h.mks.kept (fun _ hD => Below.heap_alloc _ _ _ (h.mks.lt hD)))
theorem FS.drew (h : FS w p g b4 b6 pl v acc Ds W) : FS w p g b4 b6 pl v acc Ds W.drew :=
  h.still (fun _ _ _ _ e => e) ⟨h.low.os, h.low.tape, h.low.output, h.low.size, h.low.block⟩ (h.mks.kept (fun _ _ => rfl))
theorem FS.grown {W' : World} {row : Option Nat} {B : Nat} (h : FS w p g b4 b6 pl v acc Ds W) (hD : ∀ D, D ∈ Ds → D < B) (hB : w.heap.size ≤ B) (hg : W.grownBy W' row) (hr : ∀ r, row = some r → B ≤ r ∧ ∃ o : Obj, W.heap[r]? = some o ∧ o.isCells = false) : FS w p g b4 b6 pl v acc Ds W' :=
  h.still (fun _ _ _ _ e => cells_kept hg hr e) (h.low.grown hg h.low.size (fun k e => Nat.le_trans hB (hr k e).1)) (h.mks.kept (fun D hm => hg.block D (h.mks.lt hm) (fun e => by have := (hr D e.symm).1; have := hD D hm; omega)))
theorem FS.took {A W9 : World} {g9 c9 : Nat} {n : Int} (h : FS w p g b4 b6 pl v acc Ds A) (hgb : g < b4) (hn0 : w.heap.size < b4) (hg : A.grownBy W9 v.ownBlock) (hr : IRow W9 (b4 + 2) (.slice (some ⟨g9, 0, none⟩) (acc.length + 1) c9) (acc ++ [n]))
    (hnew : v.ownBlock = some g9 ∨ A.heap.size ≤ g9) (pl' : Nat) :
    FS w p g b4 b6 pl' (.slice (some ⟨g9, 0, none⟩) (acc.length + 1) c9) (acc ++ [n]) Ds ((W9.setCell ⟨b4 + 1, 0, none⟩ (.slice (some ⟨g9, 0, none⟩) (acc.length + 1) c9)).setCell ⟨b6, 0, none⟩ (.int .i64 (pl' : Int))) := by
  have hox : ∀ k, v.ownBlock = some k → b4 + 2 ≤ k := fun k e => (h.own.lt k e).1
  have ho6 := h.o6
  have hl6 := heap_lt h.h6
  have keep : ∀ k, k < A.heap.size → some k ≠ v.ownBlock → k ≠ b4 + 1 → k ≠ b6 → ((W9.setCell ⟨b4 + 1, 0, none⟩ (.slice (some ⟨g9, 0, none⟩) (acc.length + 1) c9)).setCell ⟨b6, 0, none⟩ (.int .i64 (pl' : Int))).heap[k]? = A.heap[k]? := fun k hk hn h1 h2 =>
    ((Below.heap_setCell _ _ _ _ h2).trans (Below.heap_setCell _ _ _ _ h1)).trans (hg.block k hk hn)
  have hne : g9 ≠ b6 := by
    rcases hnew with e | e
    · intro e2; subst e2; exact h.ne e
    · omega
  refine ⟨(keep _ (heap_lt h.b0) (fun e => by have := hox _ e.symm; omega) (by omega) (by omega)).trans h.b0, (keep _ h.row.lt (fun e => by have := hox _ e.symm; omega) (by omega) (by omega)).trans h.row,
    (keep _ (heap_lt h.h4) (fun e => by have := hox _ e.symm; omega) (by omega) (by omega)).trans h.h4, ?_, ?_, ?_, ?_, ?_, ?_, h.o6⟩
  · exact (Below.heap_setCell _ _ _ _ (by show b4 + 1 ≠ b6; omega)).trans (pat_set ((hg.block _ (heap_lt h.h5) (fun e => by have := hox _ e.symm; omega)).trans h.h5) 0 _)
  · exact own_setOther (own_set hr (by omega) 0 _) (fun e => hne (by cases e; rfl)) 0 _
  · exact pat_set ((Below.heap_setCell _ _ _ _ (by show b6 ≠ b4 + 1; omega)).trans ((hg.block _ hl6 (fun e => h.ne e.symm)).trans h.h6)) 0 _
  · exact fun e => hne (by cases e; rfl)
  · exact ((h.low.grown hg h.low.size (fun k e => by have := hox k e; omega)).setCell (p := ⟨b4 + 1, 0, none⟩) (by show w.heap.size ≤ b4 + 1; omega) _).setCell (p := ⟨b6, 0, none⟩) (by show w.heap.size ≤ b6; omega) _
  · refine h.mks.kept (fun D hD => keep D (h.mks.lt hD) (fun e => ?_) (by have := (h.mks.at_ D hD).1; omega) (fun e => ?_))
    · obtain ⟨cs, T, fr, hc⟩ := h.own.cellsAt e.symm
      rw [(h.mks.at_ D hD).2] at hc; cases hc
    · have hc := (h.mks.at_ D hD).2
      rw [e, h.h6] at hc; cases hc
theorem FS.took_keeps {A W9 : World} (h : FS w p g b4 b6 pl v acc Ds A) (hg : A.grownBy W9 v.ownBlock) (q1 q2 : Addr) (u1 u2 : Value) : KeepsOthers A ((W9.setCell q1 u1).setCell q2 u2) := by
  refine KeepsOthers.trans ?_ ((KeepsOthers.setCell _ _ _).trans (KeepsOthers.setCell _ _ _))
  refine ⟨hg.size, fun k o hk ho => (hg.block k (heap_lt hk) (fun e => ?_)).trans hk⟩
  obtain ⟨cs, T, fr, hc⟩ := h.own.cellsAt e.symm
  rw [hk] at hc; cases hc; cases ho
end
def fsMu (n : Nat) (a : Act) (W : World) : Nat := match a.tmps.getD 6 undef with
  | .pointer (some ad) => n - (intOf ((W.cell? ad).getD undef)).toNat
  | _ => 0
theorem fsMu_at {m : Nat} {a : Act} {W : World} {b n : Nat} (h : a.tmps.getD 6 undef = .pointer (some ⟨b, 0, none⟩)) (hb : W.heap[b]? = some (.cells #[.int .i64 (n : Int)] 3 (0, 0))) : fsMu m a W = m - n := by
  unfold fsMu
  rw [h]
  show m - (intOf ((W.cell? ⟨b, 0, none⟩).getD undef)).toNat = _
  rw [cell_of_row W b 0 _ _ (0, 0) hb]
  rfl
set_option maxRecDepth 100000 in
set_option maxHeartbeats 1600000 in
theorem fewest_any (p : PC) (w : World) (hp : p.at_ w) (hf : p.Fine) :
    Calls Tryz.prog 95 #[.agg p.cells] w (SetPost w (fewP p)) := by
  have HLC := Lib.hid (leastCounts_any p (w.alloc (pcBox p)) (hp.below ((Below.refl _ _).alloc (Nat.le_refl _) _)) hf)
  obtain ⟨hpt, hts, hns⟩ := hf
  have HTS := Lib.hid hts
  have HP := Lib.hid hp
  clear hts hp
  have hlc := lcTo_ok p p.t.size
  change LcOk _ (lcL p) at hlc
  refine (callsIn_wide (n := 9)).1 ?_
  refine callsIn_of_wp_marks Tryz.func95 rfl trivial ?_ rfl
  simp only [Tryz.ntmps95, List.size_toArray, List.length_cons, List.length_nil, Nat.reduceAdd, Nat.reduceSub, Array.replicate_succ, Array.replicate_zero, List.push_toArray, List.append_toArray, List.nil_append, List.cons_append]
  unfold pcBox PC.cells at *
  obtain ⟨L0, hL0⟩ : ∃ L0, L0 = (lcL p).getD 0 0 := ⟨_, rfl⟩
  have HL0 := Lib.hid hL0
  by_cases hcase : L0 = 31
  · have hfew : fewP p = none := by unfold fewP; rw [if_pos (by rw [← hL0]; exact hcase)]
    have HF := Lib.hid hfew
    clear hL0 hfew
    gi_wp2_with (refine ⟨trivial, ?_⟩; gi_at_call 132; refine (callsIn_wide.2 HLC.out).mono ?_; rintro e w1 ⟨g, rfl, hrow, hg, hb1⟩; have cg := hrow.cell (j := 0) (by rw [hlc.1]; omega); rw [← HL0.out, hcase] at cg; have hgl := hrow.lt; have ig : (0 : Int) < ((p.t.size + 1 : Nat) : Int) := (by omega); have ig2 : (0 : Int) < (p.t.size : Int) + 1 := (by omega))
    refine ⟨.tuple #[.slice none 0 0, .bool false], by simp [results, Tryz.results95, go_sem], ?_⟩
    rw [HF.out]
    exact ⟨(((Below.refl _ _).alloc (Nat.le_refl _) _).trans (hb1.mono (by simp))).alloc (by have := hb1.size; simp at this; omega) _, rfl⟩
  · have hd : (L0 == 31) = false := by rw [beq_eq_false_iff_ne]; exact hcase
    have hfew : fewP p = fewSet p (lcL p) (p.t.size + 1) 0 [] := by unfold fewP; rw [if_neg (by rw [← hL0]; exact hcase)]
    have HF := Lib.hid hfew
    clear hL0 hfew
    gi_wp2_with (refine ⟨trivial, ?_⟩; gi_at_call 132; refine (callsIn_wide.2 HLC.out).mono ?_; rintro e w1 ⟨g, rfl, hrow, hg, hb1⟩; have cg := hrow.cell (j := 0) (by rw [hlc.1]; omega); rw [← HL0.out] at cg; have hgl := hrow.lt; have ig : (0 : Int) < ((p.t.size + 1 : Nat) : Int) := (by omega); have ig2 : (0 : Int) < (p.t.size : Int) + 1 := (by omega))
    have hz1 := hb1.size
    simp at hz1 hg
    have n0 : w1.heap[w.heap.size]? = some (.cells p.cells 175 (0, 0)) := (hb1.block _ (by simp)).trans (heap_new w _)
    have hlow1 : Below w.heap.size w w1 := ((Below.refl _ _).alloc (Nat.le_refl _) (.cells #[.string p.f.name, .int .i64 p.f.body, .slice p.a p.f.sorts.length p.c, .string p.t, .slice p.ba p.bl.length p.bc] 175)).trans (hb1.mono (by simp))
    have e0 : (lcL p).getD 0 0 ≠ 31 := by rw [← HL0.out]; exact hcase
    have F0 : FS w p g w1.heap.size (w1.heap.size + 2) 0 (.slice none 0 0) [] [] (((w1.alloc (.cells #[.slice (some ⟨g, 0, none⟩) (p.t.size + 1) (p.t.size + 1)] 63)).alloc (.cells #[.slice none 0 0] 63)).alloc (.cells #[.int .i64 0] 3)) := by
      refine ⟨heap_keep (heap_keep (heap_keep n0)), RowX.below (RowX.below (RowX.below hrow ((Below.refl _ _).alloc (Nat.le_refl _) _)) ((Below.refl _ _).alloc (Nat.le_refl _) _)) ((Below.refl _ _).alloc (Nat.le_refl _) _), heap_keep (heap_keep (heap_new w1 _)), ?_, IRow.nil _ _, ?_, by simp [Value.ownBlock], ?_, Marks.nil _ _, Nat.le_refl _⟩
      · have h := heap_new (w1.alloc (.cells #[.slice (some ⟨g, 0, none⟩) (p.t.size + 1) (p.t.size + 1)] 63)) (.cells #[.slice none 0 0] 63)
        rw [World.size_alloc] at h
        exact heap_keep h
      · have h := heap_new ((w1.alloc (.cells #[.slice (some ⟨g, 0, none⟩) (p.t.size + 1) (p.t.size + 1)] 63)).alloc (.cells #[.slice none 0 0] 63)) (.cells #[.int .i64 0] 3)
        rw [World.size_alloc, World.size_alloc] at h
        exact h
      · exact ((hlow1.alloc (by omega) _).alloc (by simp; omega) _).alloc (by simp; omega) _
    clear HLC
    refine wpIn_loop (fun a W => ∃ (Ds : List Nat) (b6 pl k : Nat) (v : Value) (acc : List Int) (u15 u16 u17 u18 u19 u20 u21 u22 u45 : Value), pl ≤ p.t.size ∧ p.t.size < k + pl ∧ acc.length ≤ pl ∧ (lcL p).getD pl 0 ≠ 31 ∧ Hid (fewP p = fewSet p (lcL p) k pl acc) ∧ a = { tmps := #[.agg #[.string p.f.name, .int .i64 p.f.body, .slice p.a p.f.sorts.length p.c, .string p.t, .slice p.ba p.bl.length p.bc], .pointer (some ⟨w.heap.size, 0, none⟩), .slice none 0 0, .bool false, .pointer (some ⟨w1.heap.size, 0, none⟩), .pointer (some ⟨w1.heap.size + 1, 0, none⟩), .pointer (some ⟨b6, 0, none⟩), undef, undef, .agg #[.string p.f.name, .int .i64 p.f.body, .slice p.a p.f.sorts.length p.c, .string p.t, .slice p.ba p.bl.length p.bc], .slice (some ⟨g, 0, none⟩) (p.t.size + 1) (p.t.size + 1), .slice (some ⟨g, 0, none⟩) (p.t.size + 1) (p.t.size + 1), .pointer (some ⟨g, 0, none⟩), .int .i64 L0, .bool false, u15, u16, u17, u18, u19, u20, u21, u22, undef, undef, undef, undef, undef, undef, undef, undef, undef, undef, undef, undef, undef, undef, undef, undef, undef, undef, undef, undef, undef, undef, u45, undef], defers := marksOf Ds } ∧ FS w p g w1.heap.size b6 pl v acc Ds W) (fsMu p.t.size)
      ⟨[], w1.heap.size + 2, 0, p.t.size + 1, .slice none 0 0, [], undef, undef, undef, undef, undef, undef, undef, undef, undef, Nat.zero_le _, by omega, Nat.le_refl _, e0, HF, rfl, F0⟩ ?_
    clear F0 HF hcase HL0 hd e0 n0 cg
    rintro a W ⟨Ds, b6, pl, k, v, acc, u15, u16, u17, u18, u19, u20, u21, u22, u45, hpl, hk, hacc, hne, HR, rfl, hF⟩
    have c6 : W.cell? ⟨b6, 0, none⟩ = some (.int .i64 (pl : Int)) := by rw [cell_of_row W _ 0 _ _ (0, 0) hF.h6]; rfl
    have p0 := hF.p0
    have p1 := hF.p1
    have p2 := hF.p2
    have p3 := hF.p3
    have p4 := hF.p4
    obtain ⟨k, rfl⟩ : ∃ k', k = k' + 1 := ⟨k - 1, by omega⟩
    by_cases hlt : pl < p.t.size
    · have hlt' : (pl : Int) < (p.t.size : Int) := by omega
      have hmu := fsMu_at (m := p.t.size) (a := { tmps := #[.agg #[.string p.f.name, .int .i64 p.f.body, .slice p.a p.f.sorts.length p.c, .string p.t, .slice p.ba p.bl.length p.bc], .pointer (some ⟨w.heap.size, 0, none⟩), .slice none 0 0, .bool false, .pointer (some ⟨w1.heap.size, 0, none⟩), .pointer (some ⟨w1.heap.size + 1, 0, none⟩), .pointer (some ⟨b6, 0, none⟩), undef, undef, .agg #[.string p.f.name, .int .i64 p.f.body, .slice p.a p.f.sorts.length p.c, .string p.t, .slice p.ba p.bl.length p.bc], .slice (some ⟨g, 0, none⟩) (p.t.size + 1) (p.t.size + 1), .slice (some ⟨g, 0, none⟩) (p.t.size + 1) (p.t.size + 1), .pointer (some ⟨g, 0, none⟩), .int .i64 L0, .bool false, u15, u16, u17, u18, u19, u20, u21, u22, undef, undef, undef, undef, undef, undef, undef, undef, undef, undef, undef, undef, undef, undef, undef, undef, undef, undef, undef, undef, undef, undef, u45, undef], defers := marksOf Ds }) rfl hF.h6
      refine wpIn_hide2 (fun Q' HQ0 => ?_)
      have HQ := Lib.hid HQ0
      rw [hmu] at HQ
      clear HQ0 hmu
      have HSA := Lib.hid (sortsAt_any p pl)
      unfold pcBox PC.cells at HSA
      gi_wp2_with (refine ⟨trivial, ?_⟩; gi_at_call 133; refine (callsIn_wide.2 (HSA.out _)).mono ?_; rintro e w' ⟨rfl, rfl⟩)
      obtain ⟨V3, hV3⟩ : ∃ V3, V3 = (W.alloc (pcBox p)).alloc (.cells #[.int .i64 (pl : Int)] 3) := ⟨_, rfl⟩
      have s3 : V3.heap.size = W.heap.size + 2 := by rw [hV3]; simp
      have F3 : FS w p g w1.heap.size b6 pl v acc Ds V3 := by rw [hV3]; exact (hF.alloc _).alloc _
      have hb3 : V3.heap[W.heap.size]? = some (.cells p.cells 175 (0, 0)) := by rw [hV3]; exact heap_keep (heap_new W (pcBox p))
      have hb4 : V3.heap[W.heap.size + 1]? = some (.cells #[.int .i64 (pl : Int)] 3 (0, 0)) := by
        have h := heap_new (W.alloc (pcBox p)) (.cells #[.int .i64 (pl : Int)] 3); rwa [World.size_alloc, ← hV3] at h
      have hDs : ∀ D, D ∈ Ds → D < V3.heap.size := fun D hD => by have := hF.mks.lt hD; omega
      change Code.wpIn _ _ _ _ _ _ ((W.alloc (pcBox p)).alloc (.cells #[.int .i64 (pl : Int)] 3))
      rw [← hV3]
      have hle : w.heap.size ≤ V3.heap.size := Nat.le_of_lt F3.lo
      clear hV3 p0 p1 p2 p3 p4 c6
      refine wpIn_rangeFunc_ownG rfl (by omega) (gf := 161) (lb := #[.pointer (some ⟨W.heap.size, 0, none⟩), .pointer (some ⟨W.heap.size + 1, 0, none⟩)]) rfl trivial (enters_of Tryz.func161 (by kernel_rfl) rfl)
        (sortsAt_stops p pl w.heap.size _ _ _ w V3 HP.out rfl F3.low hle hb3 hb4 (by omega) hpt HTS.out hns) (fun h k => h.trans k)
        (fun W l o o' hl h h1 h2 => ⟨belowK_b hle W l o o' hl h h1 h2, World.putObj_heap_other (fun e => by omega), World.putObj_heap_other (fun e => by omega)⟩)
        (Below.refl _ _) (fun _ => rfl)
        (fun pre V => (FS w p g w1.heap.size b6 pl v acc Ds V ∧ V3.heap.size ≤ V.heap.size) ∧ ∀ y, y ∈ pre → leB p (lcL p) pl y.1 = false)
        (fun c pre V => ∃ (pre' : List (MayIx p pl)) (x : MayIx p pl) (v' : Value), pre = pre' ++ [x] ∧ c = .exit 2 ∧ (∀ y, y ∈ pre' → leB p (lcL p) pl y.1 = false) ∧ leB p (lcL p) pl x.1 = true ∧ FS w p g w1.heap.size b6 (pl + tsize p x.1) v' (acc ++ [(x.1 : Int)]) Ds V)
        (fun s A B row hs hg hr => ⟨⟨hs.1.1.grown hDs hle hg hr, Nat.le_trans hs.1.2 hg.size⟩, hs.2⟩)
        (fun c s A B row hs hg hr => by obtain ⟨pre', x, v', h1, h2, h3, h4, h5⟩ := hs; exact ⟨pre', x, v', h1, h2, h3, h4, h5.grown hDs hle hg hr⟩)
        ⟨⟨F3, Nat.le_refl _⟩, fun _ h => by cases h⟩
        (fun x => { tmps := #[.agg #[.string p.f.name, .int .i64 p.f.body, .slice p.a p.f.sorts.length p.c, .string p.t, .slice p.ba p.bl.length p.bc], .pointer (some ⟨w.heap.size, 0, none⟩), .slice none 0 0, .bool false, .pointer (some ⟨w1.heap.size, 0, none⟩), .pointer (some ⟨w1.heap.size + 1, 0, none⟩), .pointer (some ⟨b6, 0, none⟩), .int .i64 (x.1 : Int), undef, .agg #[.string p.f.name, .int .i64 p.f.body, .slice p.a p.f.sorts.length p.c, .string p.t, .slice p.ba p.bl.length p.bc], .slice (some ⟨g, 0, none⟩) (p.t.size + 1) (p.t.size + 1), .slice (some ⟨g, 0, none⟩) (p.t.size + 1) (p.t.size + 1), .pointer (some ⟨g, 0, none⟩), .int .i64 L0, .bool false, .int .i64 (pl : Int), .pointer (some ⟨w.heap.size, 3, none⟩), .string p.t, .int .i64 (p.t.size : Int), .bool true, .agg #[.string p.f.name, .int .i64 p.f.body, .slice p.a p.f.sorts.length p.c, .string p.t, .slice p.ba p.bl.length p.bc], .int .i64 (pl : Int), .func (.func 161) #[] #[.pointer (some ⟨W.heap.size, 0, none⟩), .pointer (some ⟨W.heap.size + 1, 0, none⟩)], .int .i64 (x.1 : Int), undef, undef, undef, undef, undef, undef, undef, undef, undef, undef, undef, undef, undef, undef, undef, undef, undef, undef, undef, undef, undef, u45, undef], defers := [] }) ?assign ?body ?done ?stop
      case assign =>
        intro l x V K hK
        gi_wp2
        exact hK
      case body =>
        rintro l pre x V ⟨⟨hV, hzV⟩, hpre⟩ hlt2
        refine wpIn_block ?_
        refine wpIn_seq ?_
        have hpV := HP.out.below hV.low
        have hfit := may_fits x.2.2 (show pl ≤ p.t.size by omega)
        have HPR := Lib.hid (printed_any p x.1 V.drew (hpV.below (show Below V.heap.size V V.drew from ⟨rfl, rfl, rfl, Nat.le_refl _, fun _ _ => rfl⟩)) x.2.1)
        unfold pcBox PC.cells at HPR
        obtain ⟨tx, htxe⟩ : ∃ t, t = (p.f.sorts.getD x.1 noTS).text := ⟨_, rfl⟩
        have htsz : tsize p x.1 = tx.size := by rw [htxe]; rfl
        rw [← htxe] at HPR hfit
        have HTZ := Lib.hid htsz
        obtain ⟨c1, hc1e⟩ : ∃ c, c = (lcL p).getD pl 0 := ⟨_, rfl⟩
        obtain ⟨c2, hc2e⟩ : ∃ c, c = (lcL p).getD (pl + tx.size) 0 := ⟨_, rfl⟩
        have hc1 := hlc.2 pl
        have hc2 := hlc.2 (pl + tx.size)
        rw [← hc1e] at hc1
        rw [← hc2e] at hc2
        have HEQ := Lib.hid (And.intro hc1e hc2e)
        have hle1 : leB p (lcL p) pl x.1 = (c2 == c1 - 1) := by unfold leB; rw [htsz, ← hc1e, ← hc2e]
        have HLE := Lib.hid hle1
        have j0 : (0 : Int) ≤ (pl : Int) + (tx.size : Int) := by omega
        have j1 : (pl : Int) + (tx.size : Int) < ((p.t.size + 1 : Nat) : Int) := by omega
        have j2 : (pl : Int) + (tx.size : Int) < (p.t.size : Int) + 1 := by omega
        have j3 : IntKind.i64.wrap ((pl : Int) + (tx.size : Int)) = (pl : Int) + (tx.size : Int) := by rw [IntKind.wrap_i64]; omega
        have j4 : IntKind.i64.wrap (c1 - 1) = c1 - 1 := by rw [IntKind.wrap_i64]; omega
        have j5 : ((pl : Int) + (tx.size : Int)).toNat = pl + tx.size := by omega
        have i0 : (0 : Int) ≤ (pl : Int) := by omega
        have i1 : (pl : Int) < ((p.t.size + 1 : Nat) : Int) := by omega
        have i2 : (pl : Int) < (p.t.size : Int) + 1 := by omega
        clear htxe htsz hc1e hc2e hle1
        have c6 := hV.c6
        have p0 := hV.p0
        have p1 := hV.p1
        have p2 := hV.p2
        have p3 := hV.p3
        have p4 := hV.p4
        refine wpIn_round_held (S := fun Z => Z.cell? ⟨b6, 0, none⟩ = some (.int .i64 (pl : Int)) ∧ Z.cell? ⟨w.heap.size, 0, none⟩ = some (.string p.f.name) ∧ Z.cell? ⟨w.heap.size, 1, none⟩ = some (.int .i64 p.f.body) ∧ Z.cell? ⟨w.heap.size, 2, none⟩ = some (.slice p.a p.f.sorts.length p.c) ∧ Z.cell? ⟨w.heap.size, 3, none⟩ = some (.string p.t) ∧ Z.cell? ⟨w.heap.size, 4, none⟩ = some (.slice p.ba p.bl.length p.bc)) (by kernel_rfl) (by rfl) (fun ⟨_, _, h⟩ => h) ⟨c6, p0, p1, p2, p3, p4⟩ (fun hS => ?_)
        refine takeL (i := 0) (v := .int .i64 (pl : Int)) rfl (by kernel_rfl) (by kernel_rfl) (by kernel_rfl) (fun _ _ _ h => h) (Or.inl ⟨by rfl, fun V9 h9 => by dsimp only at h9; go_simp⟩) (by assumption) ?_
        try simp only [Act.put, List.setIfInBounds_toArray, List.set_cons_zero, List.set_cons_succ]
        refine takeL (i := 1) (v := .agg #[.string p.f.name, .int .i64 p.f.body, .slice p.a p.f.sorts.length p.c, .string p.t, .slice p.ba p.bl.length p.bc]) rfl (by kernel_rfl) (by kernel_rfl) (by kernel_rfl) (fun _ _ _ h => h) (Or.inl ⟨by rfl, fun V9 h9 => by dsimp only at h9; go_simp⟩) (by assumption) ?_
        try simp only [Act.put, List.setIfInBounds_toArray, List.set_cons_zero, List.set_cons_succ]
        refine takeL (i := 2) (v := .int .i64 (x.1 : Int)) rfl (by kernel_rfl) (by kernel_rfl) (by kernel_rfl) (fun _ _ _ h => h) (Or.inl ⟨by rfl, fun V9 h9 => by dsimp only at h9; go_simp⟩) (by assumption) ?_
        try simp only [Act.put, List.setIfInBounds_toArray, List.set_cons_zero, List.set_cons_succ]
        refine wpAnyH_ready (rs := [3]) (by kernel_rfl) (by simp) (consL rfl (fun K hK => ?_) AllReadyH.nil)
        go_simp
        refine HPR.out.mono ?_
        rintro e W5 ⟨rfl, hW5⟩
        have F5 : FS w p g w1.heap.size b6 pl v acc Ds W5 := by rw [hW5]; exact hV.drew.alloc _
        have ko5 : KeepsOthers V W5 := by rw [hW5]; exact (KeepsOthers.drew _).trans (KeepsOthers.alloc _ _)
        have hb5 : Below V.heap.size V W5 := by rw [hW5]; exact Below.alloc (B := V.heap.size) (⟨rfl, rfl, rfl, Nat.le_refl _, fun _ _ => rfl⟩ : Below V.heap.size V V.drew) (Nat.le_refl _) _
        clear hW5 hS
        have hS : W5.cell? ⟨b6, 0, none⟩ = some (.int .i64 (pl : Int)) ∧ W5.cell? ⟨w.heap.size, 0, none⟩ = some (.string p.f.name) ∧ W5.cell? ⟨w.heap.size, 1, none⟩ = some (.int .i64 p.f.body) ∧ W5.cell? ⟨w.heap.size, 2, none⟩ = some (.slice p.a p.f.sorts.length p.c) ∧ W5.cell? ⟨w.heap.size, 3, none⟩ = some (.string p.t) ∧ W5.cell? ⟨w.heap.size, 4, none⟩ = some (.slice p.ba p.bl.length p.bc) := ⟨F5.c6, F5.p0, F5.p1, F5.p2, F5.p3, F5.p4⟩
        refine hK.out _ _ hS (fun _ => ?_)
        clear hK K
        try simp only [Act.put, List.setIfInBounds_toArray, List.set_cons_zero, List.set_cons_succ]
        refine takeL (i := 4) (v := .int .i64 (tx.size : Int)) rfl (by kernel_rfl) (by kernel_rfl) (by kernel_rfl) (fun _ _ _ h => h) (Or.inl ⟨by rfl, fun V9 h9 => by dsimp only at h9; go_simp⟩) (by assumption) ?_
        try simp only [Act.put, List.setIfInBounds_toArray, List.set_cons_zero, List.set_cons_succ]
        refine takeL (i := 5) (v := .int .i64 ((pl : Int) + (tx.size : Int))) rfl (by kernel_rfl) (by kernel_rfl) (by kernel_rfl) (fun _ _ _ h => h) (Or.inl ⟨by rfl, fun V9 h9 => by dsimp only at h9; go_simp⟩) (by assumption) ?_
        try simp only [Act.put, List.setIfInBounds_toArray, List.set_cons_zero, List.set_cons_succ]
        refine takeL (i := 6) (v := .int .i64 ((pl : Int) + (tx.size : Int))) rfl (by kernel_rfl) (by kernel_rfl) (by kernel_rfl) (fun _ _ _ h => h) (Or.inl ⟨by rfl, fun V9 h9 => by dsimp only at h9; go_simp⟩) (by assumption) ?_
        try simp only [Act.put, List.setIfInBounds_toArray, List.set_cons_zero, List.set_cons_succ]
        refine wpAnyH_done (by kernel_rfl) ?_ _
        change Code.wpIn _ _ _ (Code.seq _ _) _ _ _
        clear hS c6 p0 p1 p2 p3 p4
        refine wpIn_seq ?_
        have ca := F5.row.cell (j := pl) (by rw [hlc.1]; omega)
        have cb := F5.row.cell (j := pl + tx.size) (by rw [hlc.1]; omega)
        rw [← HEQ.out.1] at ca
        rw [← HEQ.out.2] at cb
        refine wpIn_round_held (S := fun Z => Z.cell? ⟨w1.heap.size, 0, none⟩ = some (.slice (some ⟨g, 0, none⟩) (p.t.size + 1) (p.t.size + 1)) ∧ Z.cell? ⟨b6, 0, none⟩ = some (.int .i64 (pl : Int)) ∧ Z.cell? ⟨g, pl, none⟩ = some (.int .i64 c1) ∧ Z.cell? ⟨g, pl + tx.size, none⟩ = some (.int .i64 c2)) (by kernel_rfl) (by rfl) (fun ⟨_, _, h⟩ => h) ⟨F5.c4, F5.c6, ca, cb⟩ (fun hS => ?_)
        refine takeL (i := 0) (v := .slice (some ⟨g, 0, none⟩) (p.t.size + 1) (p.t.size + 1)) rfl (by kernel_rfl) (by kernel_rfl) (by kernel_rfl) (fun _ _ _ h => h) (Or.inl ⟨by rfl, fun V9 h9 => by dsimp only at h9; go_simp⟩) (by assumption) ?_
        try simp only [Act.put, List.setIfInBounds_toArray, List.set_cons_zero, List.set_cons_succ]
        refine takeL (i := 1) (v := .int .i64 ((pl : Int) + (tx.size : Int))) rfl (by kernel_rfl) (by kernel_rfl) (by kernel_rfl) (fun _ _ _ h => h) (Or.inl ⟨by rfl, fun V9 h9 => by dsimp only at h9; go_simp⟩) (by assumption) ?_
        try simp only [Act.put, List.setIfInBounds_toArray, List.set_cons_zero, List.set_cons_succ]
        refine takeL (i := 2) (v := .pointer (some ⟨g, pl + tx.size, none⟩)) rfl (by kernel_rfl) (by kernel_rfl) (by kernel_rfl) (fun _ _ _ h => h) (Or.inl ⟨by rfl, fun V9 h9 => by dsimp only at h9; go_simp⟩) (by assumption) ?_
        try simp only [Act.put, List.setIfInBounds_toArray, List.set_cons_zero, List.set_cons_succ]
        refine takeL (i := 3) (v := .int .i64 c2) rfl (by kernel_rfl) (by kernel_rfl) (by kernel_rfl) (fun _ _ _ h => h) (Or.inl ⟨by rfl, fun V9 h9 => by dsimp only at h9; go_simp⟩) (by assumption) ?_
        try simp only [Act.put, List.setIfInBounds_toArray, List.set_cons_zero, List.set_cons_succ]
        refine takeL (i := 4) (v := .slice (some ⟨g, 0, none⟩) (p.t.size + 1) (p.t.size + 1)) rfl (by kernel_rfl) (by kernel_rfl) (by kernel_rfl) (fun _ _ _ h => h) (Or.inl ⟨by rfl, fun V9 h9 => by dsimp only at h9; go_simp⟩) (by assumption) ?_
        try simp only [Act.put, List.setIfInBounds_toArray, List.set_cons_zero, List.set_cons_succ]
        refine takeL (i := 5) (v := .int .i64 (pl : Int)) rfl (by kernel_rfl) (by kernel_rfl) (by kernel_rfl) (fun _ _ _ h => h) (Or.inl ⟨by rfl, fun V9 h9 => by dsimp only at h9; go_simp⟩) (by assumption) ?_
        try simp only [Act.put, List.setIfInBounds_toArray, List.set_cons_zero, List.set_cons_succ]
        refine takeL (i := 6) (v := .pointer (some ⟨g, pl, none⟩)) rfl (by kernel_rfl) (by kernel_rfl) (by kernel_rfl) (fun _ _ _ h => h) (Or.inl ⟨by rfl, fun V9 h9 => by dsimp only at h9; go_simp⟩) (by assumption) ?_
        try simp only [Act.put, List.setIfInBounds_toArray, List.set_cons_zero, List.set_cons_succ]
        refine takeL (i := 7) (v := .int .i64 c1) rfl (by kernel_rfl) (by kernel_rfl) (by kernel_rfl) (fun _ _ _ h => h) (Or.inl ⟨by rfl, fun V9 h9 => by dsimp only at h9; go_simp⟩) (by assumption) ?_
        try simp only [Act.put, List.setIfInBounds_toArray, List.set_cons_zero, List.set_cons_succ]
        refine takeL (i := 8) (v := .int .i64 (c1 - 1)) rfl (by kernel_rfl) (by kernel_rfl) (by kernel_rfl) (fun _ _ _ h => h) (Or.inl ⟨by rfl, fun V9 h9 => by dsimp only at h9; go_simp⟩) (by assumption) ?_
        try simp only [Act.put, List.setIfInBounds_toArray, List.set_cons_zero, List.set_cons_succ]
        refine takeL (i := 9) (v := .bool (c2 == c1 - 1)) rfl (by kernel_rfl) (by kernel_rfl) (by kernel_rfl) (fun _ _ _ h => h) (Or.inl ⟨by rfl, fun V9 h9 => by dsimp only at h9; go_simp⟩) (by assumption) ?_
        try simp only [Act.put, List.setIfInBounds_toArray, List.set_cons_zero, List.set_cons_succ]
        refine wpAnyH_done (by kernel_rfl) ?_ _
        change Code.wpIn _ _ _ (Code.cond _ _ _) _ _ _
        refine wpIn_cond (t := (c2 == c1 - 1)) rfl ?_
        have F6 := F5.drew
        have ko6 : KeepsOthers V W5.drew := ko5.trans (KeepsOthers.drew _)
        have hb6 : Below V.heap.size V W5.drew := ⟨hb5.os, hb5.tape, hb5.output, hb5.size, hb5.block⟩
        clear hS ca cb
        cases hq : (c2 == c1 - 1)
        · refine wpIn_skip ?_
          refine ⟨ko6.from _, ⟨hb6.mono (Nat.le_of_lt hV.lo), hb6.block _ (by omega), hb6.block _ (by omega)⟩, ⟨F6, Nat.le_trans hzV hb6.size⟩, fun y hy => ?_⟩
          rcases List.mem_append.1 hy with h | h
          · exact hpre y h
          · rw [List.mem_singleton.1 h]; exact HLE.out.trans hq
        · refine wpIn_seq ?_
          refine wpIn_round_plain (by rfl) (fun ⟨_, _, h⟩ => h) ?_
          have hbase := heap_lt F6.h6
          have ho6 := F6.o6
          obtain ⟨a9, d9, hv9, -, -, -⟩ := F6.own.shape
          subst hv9
          have c5 := F6.c5
          have hox := fun k (e : (Value.slice a9 acc.length d9).ownBlock = some k) => (F6.own.lt k e).1
          have hoc := fun k (e : (Value.slice a9 acc.length d9).ownBlock = some k) => F6.own.cellsAt e
          have hq1 : w1.heap.size + 2 ≤ W5.drew.heap.size := by omega
          have hq2 : acc.length ≤ 1000000 := by omega
          have hq3 : some (w1.heap.size + 1) ≠ (Value.slice a9 acc.length d9).ownBlock := fun e => by have := hox _ e.symm; omega
          go_wp2_with ((at_builtin; refine wpList_app2 W5.drew _ rfl _ _ rfl (w1.heap.size + 2) _ acc rfl F6.own rfl hq2 hq1 ?_; intro g9 c9 W9 hrow9 hgrow9 hnew9; have q5 : W9.cell? ⟨w1.heap.size + 1, 0, none⟩ = some (.slice a9 acc.length d9) := (World.cell?_of_block (hgrow9.block _ (heap_lt F6.h5) hq3)).trans c5; have qf5 : W9.frozen? ⟨w1.heap.size + 1, 0, none⟩ = false := (World.frozen?_of_block (hgrow9.block _ (heap_lt F6.h5) hq3)).trans F6.f5))
          have hb6n : some b6 ≠ (Value.slice a9 acc.length d9).ownBlock := fun e => F6.ne e.symm
          have q6 : W9.cell? ⟨b6, 0, none⟩ = some (.int .i64 (pl : Int)) := (World.cell?_of_block (hgrow9.block _ hbase hb6n)).trans F6.c6
          have qf6 : W9.frozen? ⟨b6, 0, none⟩ = false := (World.frozen?_of_block (hgrow9.block _ hbase hb6n)).trans F6.f6
          have hb61 : b6 ≠ w1.heap.size + 1 := by omega
          have hb62 : w1.heap.size + 1 ≠ b6 := by omega
          have F9 := Lib.hid (F6.took (by omega) (by omega) hgrow9 hrow9 hnew9 (pl + tx.size))
          have ko9 := F6.took_keeps hgrow9 ⟨w1.heap.size + 1, 0, none⟩ ⟨b6, 0, none⟩ (.slice (some ⟨g9, 0, none⟩) (acc.length + 1) c9) (.int .i64 ((pl + tx.size : Nat) : Int))
          have KO9 := Lib.hid ((ko6.trans ko9).from V3.heap.size)
          have HL := Lib.hid (HLE.out.trans hq)
          have HPE := Lib.hid hpre
          clear ko9 hq hgrow9 hrow9 hnew9 F6 F5 hV hpre hb6 hb5 ko5 ko6
          gi_wp2
          refine ⟨KO9.out, pre, x, .slice (some ⟨g9, 0, none⟩) (acc.length + 1) c9, rfl, rfl, HPE.out, HL.out, ?_⟩
          rw [HTZ.out]
          exact F9.out
      case done =>
        rintro D ys V hD rfl ⟨_, hys⟩ hKD
        obtain ⟨x, hx⟩ := leX_some hlt hne
        rw [leX_none hys] at hx
        cases hx
      case stop =>
        rintro D c pre V hD ⟨k9, hk9, hpre9⟩ ⟨pre', x, v', rfl, rfl, h3, h4, hF9⟩ hKD
        have hx := leX_hit hk9 hpre9 h3 h4
        have hst := HR.out.trans (fewSet_step (k := k) (acc := acc) hlt hx)
        have hfit : pl + tsize p x.1 ≤ p.t.size := may_fits x.2.2 (show pl ≤ p.t.size by omega)
        have hv4 : (lcL p).getD (pl + tsize p x.1) 0 = (lcL p).getD pl 0 - 1 := by unfold leB at h4; rwa [beq_iff_eq] at h4
        have hz1 : 1 ≤ tsize p x.1 := by
          rcases Nat.eq_zero_or_pos (tsize p x.1) with e | e
          · rw [e, Nat.add_zero] at hv4; omega
          · exact e
        have hb31 := (hlc.2 pl).2
        obtain ⟨pl', hpl'⟩ : ∃ q, q = pl + tsize p x.1 := ⟨_, rfl⟩
        rw [← hpl'] at hF9 hst hfit hv4
        have hgt : pl < pl' := by omega
        have hne' : (lcL p).getD pl' 0 ≠ 31 := by omega
        have HST := Lib.hid hst
        clear hst hx h3 h4 hpre9 hpl' hz1 hv4 hb31
        have c6 := hF9.c6
        have hnb := heap_new V (.cells #[.int .i64 (pl' : Int)] 3)
        gi_wp2
        refine HQ.out _ _ _ ⟨⟨D :: Ds, V.heap.size, pl', k, v', acc ++ [(x.1 : Int)], _, _, _, _, _, _, _, _, _, hfit, by omega, by simp; omega, hne', HST, rfl, ?_⟩, ?_⟩
        · have hA := hF9.alloc (.cells #[.int .i64 (pl' : Int)] 3)
          have hzD := heap_lt hKD
          have ho6 := hF9.o6
          have hl6 := heap_lt hF9.h6
          refine ⟨hA.b0, hA.row, hA.h4, hA.h5, hA.own, hnb, fun e => ?_, hA.low, hA.mks.cons ?_ ((Below.heap_alloc _ _ _ hzD).trans hKD) (fun hm => by have := hDs D hm; omega), by omega⟩
          · have := (hF9.own.lt _ e).2; omega
          · have := hF.o6; have := heap_lt hF.h6; omega
        · rw [fsMu_at rfl hnb]
          omega
    · have hlt' : ¬ (pl : Int) < (p.t.size : Int) := by omega
      have HE := Lib.hid (HR.out.trans (fewSet_end hlt))
      have c5 := hF.c5
      gi_wp2
      refine leaves_marks (B := w1.heap.size + 2) (v := .tuple #[v, .bool true]) Ds W hF.mks (fun w' hs hk' hb => ⟨by simp [results, Tryz.results95, go_sem], ?_⟩)
      rw [HE.out]
      refine ⟨hF.low.trans (hb.mono (by omega)), v, rfl, IRow.mono (hF.own.still (fun q cs T fr e => (hk' q (heap_lt e) (fun hm => ?_)).trans e)) (by omega)⟩
      rw [(hF.mks.at_ q hm).2] at e; cases e
end Go.Proofs.YtomblajlpanmjaaGreatDoor
