/-
  Package tympanref06: all turned over, all turned round.
-/
import Derived.Test.YtgoandhlcekmiaaGreatDoorRD
namespace Go.Proofs.YtgoandhlcekmiaaGreatDoor
open Go.RowKit

def mixL (f : List Leaf → List Leaf) (P : List (List Leaf)) (k : Nat) : List (List Leaf) := (P.take k).map f ++ P.drop k
theorem mixL_len (f : List Leaf → List Leaf) (P : List (List Leaf)) (k : Nat) : (mixL f P k).length = P.length := by
  unfold mixL; rw [List.length_append, List.length_map, List.length_take, List.length_drop]; omega
theorem mixL_zero (f : List Leaf → List Leaf) (P : List (List Leaf)) : mixL f P 0 = P := by simp [mixL]
theorem mixL_end (f : List Leaf → List Leaf) (P : List (List Leaf)) : mixL f P P.length = P.map f := by simp [mixL]
theorem mixL_at {f : List Leaf → List Leaf} {P : List (List Leaf)} {k : Nat} (hk : k < P.length) : (mixL f P k)[k]? = some P[k] := by
  unfold mixL
  rw [List.getElem?_append_right (by simp; omega)]
  simp [Nat.min_eq_left (Nat.le_of_lt hk)]
theorem mixL_step {f : List Leaf → List Leaf} {P : List (List Leaf)} {k : Nat} (hk : k < P.length) : (mixL f P k).set k (f P[k]) = mixL f P (k + 1) := by
  unfold mixL
  rw [List.set_append_right _ _ (by simp; omega), List.length_map, List.length_take, Nat.min_eq_left (Nat.le_of_lt hk), Nat.sub_self, List.drop_eq_getElem_cons hk, List.set_cons_zero, List.take_succ_eq_append_getElem hk, List.map_append, List.append_assoc]
  rfl
theorem Bld.form2 {B n c : Nat} {A : Option Addr} {Ps : List PS} {w : World} (h : Bld B Ps (.slice A n c) w) (hp : 0 < Ps.length) : ∃ g, A = some ⟨g, 0, none⟩ ∧ B ≤ g ∧ g < w.heap.size := by
  obtain ⟨b, k, e, h1, h2⟩ := World.ownsRow.form h.row hp
  injection e with e1 e2 e3
  exact ⟨b, e1, h1, h2⟩
theorem Bld.free {B b n c : Nat} {Ps : List PS} {w : World} (h : Bld B Ps (.slice (some ⟨b, 0, none⟩) n c) w) (j : Nat) : w.frozen? ⟨b, j, none⟩ = false := by
  obtain ⟨cs, hb⟩ := own_block h.row b rfl
  simp [World.frozen?, hb]
theorem bit0 : Bit 0 := Or.inl rfl
theorem bit1 : Bit 1 := Or.inr rfl
structure OEnv (w : World) (C R : Nat) (A : Option Addr) (n c gm g n' c' : Nat) (Ps : List PS) (wr : World) : Prop where
  bs : BoxAt wr w.heap.size #[.int .i64 C, .int .i64 R, .slice A n c] 66
  br : BoxAt wr (w.heap.size + 1) #[.int .i64 0, .int .i64 0, .slice none 0 0] 66
  bm : BoxAt wr gm #[.int .i64 C, .int .i64 R, .slice (some ⟨g, 0, none⟩) n' c'] 66
  own : Bld (w.heap.size + 1 + 1) Ps (.slice (some ⟨g, 0, none⟩) n' c') wr
  low : Below w.heap.size w wr
theorem OEnv.below {w : World} {C R : Nat} {A : Option Addr} {n c gm g n' c' : Nat} {Ps : List PS} {wr w1 : World} (h : OEnv w C R A n c gm g n' c' Ps wr) (hb : Below wr.heap.size wr w1) : OEnv w C R A n c gm g n' c' Ps w1 :=
  ⟨h.bs.below hb, h.br.below hb, h.bm.below hb, h.own.below hb, h.low.trans (hb.mono h.low.size)⟩
theorem OEnv.put {w : World} {C R : Nat} {A : Option Addr} {n c gm g n' c' : Nat} {Ps : List PS} {wr : World} (h : OEnv w C R A n c gm g n' c' Ps wr) {k : Nat} {x : PS} (hx : LRow wr x) : OEnv w C R A n c gm g n' c' (Ps.set k x) (wr.setCell ⟨g, k, none⟩ x.sl) := by
  have hg := (h.own.row.lt g rfl).1
  obtain ⟨cs, hb⟩ := own_block h.own.row g rfl
  refine ⟨h.bs.set_other (p := ⟨g, k, none⟩) (by show w.heap.size ≠ g; omega) _, h.br.set_other (p := ⟨g, k, none⟩) (by show w.heap.size + 1 ≠ g; omega) _, h.bm.set_other (p := ⟨g, k, none⟩) (fun e => ?_) _, h.own.put hx, h.low.setCell (p := ⟨g, k, none⟩) (by show w.heap.size ≤ g; omega) _⟩
  have e : gm = g := e
  have h2 := h.bm
  unfold BoxAt at h2
  rw [e, hb] at h2
  injection h2 with h2; injection h2 with _ h2; exact heap_place h2.symm
set_option maxRecDepth 100000 in
set_option maxHeartbeats 8000000 in
theorem over_any (C R : Nat) (A : Option Addr) (n c : Nat) (Ps : List PS) (w : World) (hC : 1 ≤ C ∧ C ≤ 8) (hR : 1 ≤ R ∧ R ≤ 8) (hn : n = Ps.length) (hlen : Ps.length = C * R) (hH : HeapAt w A Ps)
    (hbits : ∀ x ∈ Ps, ∀ y ∈ x.l, LeafBits y) (hsum : ∀ x ∈ Ps, x.l.length ≤ 1000) :
    Calls Tryz.prog 76 #[.agg #[.int .i64 C, .int .i64 R, .slice A n c]] w (HeapPost w C R ((mirP true false C R (Ps.map (·.l)) (R * C)).map (turnR 1 0))) := by
  have HLEN := Lib.hid hlen; have HNN := Lib.hid hn
  have HMB : Hid (∀ L ∈ mirP true false C R (Ps.map (·.l)) (R * C), L.length ≤ 1000 ∧ ∀ y ∈ L, LeafBits y) := Lib.hid (fun L hL => by
    unfold mirP at hL
    obtain ⟨j, _, rfl⟩ := List.mem_map.1 hL
    rw [List.getD_eq_getElem?_getD]
    cases e : (Ps.map (·.l))[mirI true false C R j]? with
    | none => exact ⟨by simp, fun y hy => by simp at hy⟩
    | some M =>
      rw [List.getElem?_map] at e
      obtain ⟨x, hx, rfl⟩ := Option.map_eq_some_iff.1 e
      have hm := List.mem_of_getElem? hx
      exact ⟨hsum x hm, hbits x hm⟩)
  obtain ⟨w2, hw2⟩ : ∃ w2, w2 = (w.alloc (.cells #[.int .i64 C, .int .i64 R, .slice A n c] 66)).alloc (.cells #[.int .i64 0, .int .i64 0, .slice none 0 0] 66) := ⟨_, rfl⟩
  have bs2 : BoxAt w2 w.heap.size #[.int .i64 C, .int .i64 R, .slice A n c] 66 := by rw [hw2]; exact (BoxAt.new w _ _).alloc _
  have br2 : BoxAt w2 (w.heap.size + 1) #[.int .i64 0, .int .i64 0, .slice none 0 0] 66 := by
    rw [hw2]
    have := BoxAt.new (w.alloc (.cells #[.int .i64 C, .int .i64 R, .slice A n c] 66)) #[.int .i64 0, .int .i64 0, .slice none 0 0] 66
    simpa using this
  have hB2 : Below w.heap.size w w2 := by rw [hw2]; exact ((Below.refl w.heap.size w).alloc (Nat.le_refl _) _).alloc (by simp) _
  have hsz : w2.heap.size = w.heap.size + 1 + 1 := by rw [hw2]; simp
  have W2 := Lib.hid hw2
  clear hw2 hbits hsum hn hlen
  go_enter Tryz.func76, Tryz.ntmps76
  go_wp2_with fail
  rw [← W2.out]
  refine (mirrored_any C R A n c Ps true false _ hC hR HNN.out HLEN.out (hH.below hB2)).mono ?_
  rintro e w3 ⟨A3, n3, c3, Ms, rfl, hO3, hM3, hb3⟩
  obtain ⟨P, hP⟩ : ∃ P, P = mirP true false C R (Ps.map (·.l)) (R * C) := ⟨_, rfl⟩
  have hPl : P.length = R * C := by rw [hP, mirP_len]
  rw [← hP] at HMB hM3
  have hml : Ms.length = R * C := by rw [← hPl, ← hM3, List.length_map]
  have hpos : 0 < R * C := Nat.mul_pos (by omega) (by omega)
  have hle : R * C ≤ 8 * 8 := Nat.mul_le_mul hR.2 hC.2
  obtain ⟨g, rfl, hg1, hg2⟩ := hO3.form2 (by omega)
  have hn3 := hO3.heap.1
  obtain ⟨gm, hgm⟩ : ∃ gm, w3.heap.size = gm := ⟨_, rfl⟩
  have E0 : OEnv w C R A n c gm g n3 c3 Ms (w3.alloc (.cells #[.int .i64 C, .int .i64 R, .slice (some ⟨g, 0, none⟩) n3 c3] 66)) :=
    ⟨(bs2.below hb3).alloc _, (br2.below hb3).alloc _, by rw [← hgm]; exact BoxAt.new _ _ _, (hO3.mono (by omega)).alloc _, (hB2.trans (hb3.mono (B' := w.heap.size) (by omega))).alloc (by have := hb3.size; omega) _⟩
  have hgw : w.heap.size + 1 + 1 ≤ gm := by rw [← hgm]; have := hb3.size; omega
  have hgg : g < gm := by rw [← hgm]; exact hg2
  have HP := Lib.hid hP; have HPL := Lib.hid hPl; have HML := Lib.hid hml; have HN3 := Lib.hid hn3
  have hM0 : Hid (Ms.map (·.l) = mixL (turnR 1 0) P 0) := Lib.hid (by rw [mixL_zero]; exact hM3)
  have hn64 : n3 ≤ 64 := by omega
  clear hb3 hO3 hM3 bs2 br2 hB2 hsz hP hPl hml hn3 hg2
  go_wp2_with fail
  clear hgm
  go_loopw [4] (fun i wr => ∃ (k : Nat) (Ms : List PS), k ≤ n3 ∧ i = .int .i64 k ∧ OEnv w C R A n c gm g n3 c3 Ms wr ∧ Hid (Ms.map (·.l) = mixL (turnR 1 0) P k)) (fun i _ => n3 - (intOf i).toNat)
  case atStart => exact ⟨0, Ms, Nat.zero_le _, rfl, E0, hM0⟩
  case round =>
    obtain ⟨k, Ns, hk, rfl, E, HQ⟩ := hrel
    clear E0 hM0
    have d2 := E.bm.cell 2
    have hml := E.bm.lt
    simp at d2
    by_cases hkl : k < n3
    · have hkI : (k : Int) < (n3 : Int) := by omega
      have hkP : k < P.length := by rw [HPL.out, ← HML.out, ← HN3.out]; exact hkl
      have hkN : k < Ns.length := by
        have h := congrArg List.length HQ.out
        rw [List.length_map, mixL_len] at h; omega
      obtain ⟨_, e1, _, hcell⟩ := (E.own.heap.2).1 k hkN
      cases e1
      have hlr := E.own.lv _ (List.getElem_mem hkN)
      have hxP : (Ns[k]).l = P[k] := by
        have h := mixL_at (f := (turnR 1 0)) hkP
        rw [← HQ.out, List.getElem?_map, List.getElem?_eq_getElem hkN] at h
        exact Option.some.inj h
      obtain ⟨x, ex⟩ : ∃ x, x = Ns[k] := ⟨_, rfl⟩
      rw [← ex] at hcell hlr hxP
      obtain ⟨xa, xc, xl⟩ := x
      have hxP : xl = P[k] := hxP
      obtain ⟨xm, hxm⟩ : ∃ m, m = xl.length := ⟨_, rfl⟩
      have hcell : wr.cell? ⟨g, k, none⟩ = some (.slice xa xm xc) := by rw [add0] at hcell; rw [hxm]; exact hcell
      have HXM := Lib.hid hxm
      have hxr : RowsAt 4 Leaf.l wr xa xl := hlr.1
      have hmem : P[k] ∈ P := List.getElem_mem hkP
      have HXL : Hid (xl.length ≤ 1000) := Lib.hid (by rw [hxP]; exact (HMB.out _ hmem).1)
      have HXB : Hid (∀ y ∈ xl, LeafBits y) := Lib.hid (by rw [hxP]; exact (HMB.out _ hmem).2)
      have HST : ∀ (a : Option Addr) (c : Nat), Hid ((Ns.set k (PS.mk a c (turnR 1 0 xl))).map (·.l) = mixL (turnR 1 0) P (k + 1)) := fun a c => Lib.hid (by
        rw [List.map_set, HQ.out, ← mixL_step hkP, ← hxP])
      have HYL : Hid ((turnR 0 1 xl).length ≤ 1000) := Lib.hid (by rw [turnR_len]; exact HXL.out)
      have z := fun j => E.own.free j
      have hgs := (E.own.row.lt g rfl).2
      have m1 : ¬ gm = g := by omega
      have m2 : ¬ g = gm := by omega
      clear ex hxm hxP hlr hmem
      go_wp2_with fail
      go_region_law ((go_simp; refine (refTurned_any xa xl xm xc 1 0 _ hxr.drew HXM.out HXL.out HXB.out (Or.inr rfl) (Or.inl rfl)).mono ?_; rintro e w4 ⟨vv, rfl, hO4, hb4⟩; obtain ⟨a4, k4, e4, -, -, -, -, -⟩ := hO4.rows leaf_l; obtain ⟨m4, hm4⟩ : ∃ m, m = (turnR 1 0 xl).length := ⟨_, rfl⟩; rw [← hm4] at e4; subst e4; have HM4 := Lib.hid hm4; clear hm4; have hr4 : RowsAt 4 Leaf.l w4 a4 (turnR 1 0 xl) := hO4.lrow.2.1; have hB4 : Below wr.heap.size wr w4 := (Below.refl _ wr).drew.trans hb4; have d4 := (hB4.cell (p := ⟨gm, 2, none⟩) hml).trans d2; have y4 := (hB4.cell (p := ⟨g, k, none⟩) hgs).trans hcell; have z4 : ∀ j, w4.frozen? ⟨g, j, none⟩ = false := fun j => ((E.below hB4).own.free j)))
      all_goals
        have hl4 := hO4.lrow
        have hE9 := (E.below hB4).put (k := k) hl4.2
        have hsl : (PS.mk a4 k4 (turnR 1 0 xl)).sl = .slice a4 m4 k4 := by rw [hl4.1]; try rfl
        rw [hsl] at hE9
        have HS9 := HST a4 k4
        clear hsl hl4 d2 hcell HST d4 y4 z4
        go_wp2
        go_roundw
        case rel => exact ⟨k + 1, _, by omega, by go_num, hE9, HS9⟩
        case measure => simp [intOf]; omega
    · have hkn : k = n3 := by omega
      have hkI : ¬ (k : Int) < (n3 : Int) := by omega
      have HFIN : Hid (Ns.map (·.l) = (mirP true false C R (Ps.map (·.l)) (R * C)).map (turnR 1 0)) := Lib.hid (by
        rw [HQ.out, hkn, show n3 = P.length from by rw [HN3.out, HML.out, HPL.out], mixL_end, HP.out])
      have r0 := E.br.cell 0; have r1 := E.br.cell 1; have r2 := E.br.cell 2
      have z := fun j => E.br.free j
      have d0 := E.bm.cell 0; have d1 := E.bm.cell 1
      have hrl := E.br.lt
      simp at r0 r1 r2 d0 d1
      clear hkn
      go_wp2
      refine bodyPost_ret (v := .agg #[.int .i64 C, .int .i64 R, .slice (some ⟨g, 0, none⟩) n3 c3]) (by simp [results, Tryz.results76, go_sem, r0, r1, r2]) rfl ?_
      have b1 := ((E.own.mono (B' := w.heap.size) (by omega)).set E.br heap_place heap_leaf 0 (.int .i64 C))
      have b2 := b1.set (E.br.set 0 _) heap_place heap_leaf 1 (.int .i64 R)
      have b3 := b2.set ((E.br.set 0 _).set 1 _) heap_place heap_leaf 2 (.slice (some ⟨g, 0, none⟩) n3 c3)
      exact ⟨_, _, _, _, rfl, b3, HFIN.out, ((E.low.setCell (p := ⟨w.heap.size + 1, 0, none⟩) (by show w.heap.size ≤ w.heap.size + 1; omega) _).setCell (p := ⟨w.heap.size + 1, 1, none⟩) (by show w.heap.size ≤ w.heap.size + 1; omega) _).setCell (p := ⟨w.heap.size + 1, 2, none⟩) (by show w.heap.size ≤ w.heap.size + 1; omega) _⟩
set_option maxRecDepth 100000 in
set_option maxHeartbeats 8000000 in
theorem round_any (C R : Nat) (A : Option Addr) (n c : Nat) (Ps : List PS) (w : World) (hC : 1 ≤ C ∧ C ≤ 8) (hR : 1 ≤ R ∧ R ≤ 8) (hn : n = Ps.length) (hlen : Ps.length = C * R) (hH : HeapAt w A Ps)
    (hbits : ∀ x ∈ Ps, ∀ y ∈ x.l, LeafBits y) (hsum : ∀ x ∈ Ps, x.l.length ≤ 1000) :
    Calls Tryz.prog 77 #[.agg #[.int .i64 C, .int .i64 R, .slice A n c]] w (HeapPost w C R ((mirP true true C R (Ps.map (·.l)) (R * C)).map (fun l => turnR 0 0 (turnR 0 1 l)))) := by
  have HLEN := Lib.hid hlen; have HNN := Lib.hid hn
  have HMB : Hid (∀ L ∈ mirP true true C R (Ps.map (·.l)) (R * C), L.length ≤ 1000 ∧ ∀ y ∈ L, LeafBits y) := Lib.hid (fun L hL => by
    unfold mirP at hL
    obtain ⟨j, _, rfl⟩ := List.mem_map.1 hL
    rw [List.getD_eq_getElem?_getD]
    cases e : (Ps.map (·.l))[mirI true true C R j]? with
    | none => exact ⟨by simp, fun y hy => by simp at hy⟩
    | some M =>
      rw [List.getElem?_map] at e
      obtain ⟨x, hx, rfl⟩ := Option.map_eq_some_iff.1 e
      have hm := List.mem_of_getElem? hx
      exact ⟨hsum x hm, hbits x hm⟩)
  obtain ⟨w2, hw2⟩ : ∃ w2, w2 = (w.alloc (.cells #[.int .i64 C, .int .i64 R, .slice A n c] 66)).alloc (.cells #[.int .i64 0, .int .i64 0, .slice none 0 0] 66) := ⟨_, rfl⟩
  have bs2 : BoxAt w2 w.heap.size #[.int .i64 C, .int .i64 R, .slice A n c] 66 := by rw [hw2]; exact (BoxAt.new w _ _).alloc _
  have br2 : BoxAt w2 (w.heap.size + 1) #[.int .i64 0, .int .i64 0, .slice none 0 0] 66 := by
    rw [hw2]
    have := BoxAt.new (w.alloc (.cells #[.int .i64 C, .int .i64 R, .slice A n c] 66)) #[.int .i64 0, .int .i64 0, .slice none 0 0] 66
    simpa using this
  have hB2 : Below w.heap.size w w2 := by rw [hw2]; exact ((Below.refl w.heap.size w).alloc (Nat.le_refl _) _).alloc (by simp) _
  have hsz : w2.heap.size = w.heap.size + 1 + 1 := by rw [hw2]; simp
  have W2 := Lib.hid hw2
  clear hw2 hbits hsum hn hlen
  go_enter Tryz.func77, Tryz.ntmps77
  go_wp2_with fail
  rw [← W2.out]
  refine (mirrored_any C R A n c Ps true true _ hC hR HNN.out HLEN.out (hH.below hB2)).mono ?_
  rintro e w3 ⟨A3, n3, c3, Ms, rfl, hO3, hM3, hb3⟩
  obtain ⟨P, hP⟩ : ∃ P, P = mirP true true C R (Ps.map (·.l)) (R * C) := ⟨_, rfl⟩
  have hPl : P.length = R * C := by rw [hP, mirP_len]
  rw [← hP] at HMB hM3
  have hml : Ms.length = R * C := by rw [← hPl, ← hM3, List.length_map]
  have hpos : 0 < R * C := Nat.mul_pos (by omega) (by omega)
  have hle : R * C ≤ 8 * 8 := Nat.mul_le_mul hR.2 hC.2
  obtain ⟨g, rfl, hg1, hg2⟩ := hO3.form2 (by omega)
  have hn3 := hO3.heap.1
  obtain ⟨gm, hgm⟩ : ∃ gm, w3.heap.size = gm := ⟨_, rfl⟩
  have E0 : OEnv w C R A n c gm g n3 c3 Ms (w3.alloc (.cells #[.int .i64 C, .int .i64 R, .slice (some ⟨g, 0, none⟩) n3 c3] 66)) :=
    ⟨(bs2.below hb3).alloc _, (br2.below hb3).alloc _, by rw [← hgm]; exact BoxAt.new _ _ _, (hO3.mono (by omega)).alloc _, (hB2.trans (hb3.mono (B' := w.heap.size) (by omega))).alloc (by have := hb3.size; omega) _⟩
  have hgw : w.heap.size + 1 + 1 ≤ gm := by rw [← hgm]; have := hb3.size; omega
  have hgg : g < gm := by rw [← hgm]; exact hg2
  have HP := Lib.hid hP; have HPL := Lib.hid hPl; have HML := Lib.hid hml; have HN3 := Lib.hid hn3
  have hM0 : Hid (Ms.map (·.l) = mixL (fun l => turnR 0 0 (turnR 0 1 l)) P 0) := Lib.hid (by rw [mixL_zero]; exact hM3)
  have hn64 : n3 ≤ 64 := by omega
  clear hb3 hO3 hM3 bs2 br2 hB2 hsz hP hPl hml hn3 hg2
  go_wp2_with fail
  clear hgm
  go_loopw [4] (fun i wr => ∃ (k : Nat) (Ms : List PS), k ≤ n3 ∧ i = .int .i64 k ∧ OEnv w C R A n c gm g n3 c3 Ms wr ∧ Hid (Ms.map (·.l) = mixL (fun l => turnR 0 0 (turnR 0 1 l)) P k)) (fun i _ => n3 - (intOf i).toNat)
  case atStart => exact ⟨0, Ms, Nat.zero_le _, rfl, E0, hM0⟩
  case round =>
    obtain ⟨k, Ns, hk, rfl, E, HQ⟩ := hrel
    clear E0 hM0
    have d2 := E.bm.cell 2
    have hml := E.bm.lt
    simp at d2
    by_cases hkl : k < n3
    · have hkI : (k : Int) < (n3 : Int) := by omega
      have hkP : k < P.length := by rw [HPL.out, ← HML.out, ← HN3.out]; exact hkl
      have hkN : k < Ns.length := by
        have h := congrArg List.length HQ.out
        rw [List.length_map, mixL_len] at h; omega
      obtain ⟨_, e1, _, hcell⟩ := (E.own.heap.2).1 k hkN
      cases e1
      have hlr := E.own.lv _ (List.getElem_mem hkN)
      have hxP : (Ns[k]).l = P[k] := by
        have h := mixL_at (f := (fun l => turnR 0 0 (turnR 0 1 l))) hkP
        rw [← HQ.out, List.getElem?_map, List.getElem?_eq_getElem hkN] at h
        exact Option.some.inj h
      obtain ⟨x, ex⟩ : ∃ x, x = Ns[k] := ⟨_, rfl⟩
      rw [← ex] at hcell hlr hxP
      obtain ⟨xa, xc, xl⟩ := x
      have hxP : xl = P[k] := hxP
      obtain ⟨xm, hxm⟩ : ∃ m, m = xl.length := ⟨_, rfl⟩
      have hcell : wr.cell? ⟨g, k, none⟩ = some (.slice xa xm xc) := by rw [add0] at hcell; rw [hxm]; exact hcell
      have HXM := Lib.hid hxm
      have hxr : RowsAt 4 Leaf.l wr xa xl := hlr.1
      have hmem : P[k] ∈ P := List.getElem_mem hkP
      have HXL : Hid (xl.length ≤ 1000) := Lib.hid (by rw [hxP]; exact (HMB.out _ hmem).1)
      have HXB : Hid (∀ y ∈ xl, LeafBits y) := Lib.hid (by rw [hxP]; exact (HMB.out _ hmem).2)
      have HST : ∀ (a : Option Addr) (c : Nat), Hid ((Ns.set k (PS.mk a c (turnR 0 0 (turnR 0 1 xl)))).map (·.l) = mixL (fun l => turnR 0 0 (turnR 0 1 l)) P (k + 1)) := fun a c => Lib.hid (by
        rw [List.map_set, HQ.out, ← mixL_step hkP, ← hxP])
      have HYL : Hid ((turnR 0 1 xl).length ≤ 1000) := Lib.hid (by rw [turnR_len]; exact HXL.out)
      have z := fun j => E.own.free j
      have hgs := (E.own.row.lt g rfl).2
      have m1 : ¬ gm = g := by omega
      have m2 : ¬ g = gm := by omega
      clear ex hxm hxP hlr hmem
      go_wp2_with fail
      go_region_law (first
        | (go_simp; (with_reducible refine (refTurned_any a4 (turnR 0 1 xl) m4 k4 0 0 _ hr4 HM4.out HYL.out turnR_bits bit0 bit0).mono ?_); rintro e w5 ⟨vv, rfl, hO5, hb5⟩; obtain ⟨a5, k5, e5, -, -, -, -, -⟩ := hO5.rows leaf_l; obtain ⟨m5, hm5⟩ : ∃ m, m = (turnR 0 0 (turnR 0 1 xl)).length := ⟨_, rfl⟩; rw [← hm5] at e5; subst e5; have HM5 := Lib.hid hm5; clear hm5; have hB5 : Below wr.heap.size wr w5 := hB4.trans (hb5.mono (B' := wr.heap.size) hB4.size); have d4 := (hB5.cell (p := ⟨gm, 2, none⟩) hml).trans d2; have y4 := (hB5.cell (p := ⟨g, k, none⟩) hgs).trans hcell; have z4 : ∀ j, w5.frozen? ⟨g, j, none⟩ = false := fun j => ((E.below hB5).own.free j))
        | (go_simp; refine (refTurned_any xa xl xm xc 0 1 _ hxr.drew HXM.out HXL.out HXB.out (Or.inl rfl) (Or.inr rfl)).mono ?_; rintro e w4 ⟨vv, rfl, hO4, hb4⟩; obtain ⟨a4, k4, e4, -, -, -, -, -⟩ := hO4.rows leaf_l; obtain ⟨m4, hm4⟩ : ∃ m, m = (turnR 0 1 xl).length := ⟨_, rfl⟩; rw [← hm4] at e4; subst e4; have HM4 := Lib.hid hm4; clear hm4; have hr4 : RowsAt 4 Leaf.l w4 a4 (turnR 0 1 xl) := hO4.lrow.2.1; have hB4 : Below wr.heap.size wr w4 := (Below.refl _ wr).drew.trans hb4; have d4 := (hB4.cell (p := ⟨gm, 2, none⟩) hml).trans d2; have y4 := (hB4.cell (p := ⟨g, k, none⟩) hgs).trans hcell; have z4 : ∀ j, w4.frozen? ⟨g, j, none⟩ = false := fun j => ((E.below hB4).own.free j)))
      all_goals
        have hl5 := hO5.lrow
        have hE9 := (E.below hB5).put (k := k) hl5.2
        have hsl : (PS.mk a5 k5 (turnR 0 0 (turnR 0 1 xl))).sl = .slice a5 m5 k5 := by rw [hl5.1]; try rfl
        rw [hsl] at hE9
        have HS9 := HST a5 k5
        clear hsl hl5 d2 hcell HST d4 y4 z4
        go_wp2
        go_roundw
        case rel => exact ⟨k + 1, _, by omega, by go_num, hE9, HS9⟩
        case measure => simp [intOf]; omega
    · have hkn : k = n3 := by omega
      have hkI : ¬ (k : Int) < (n3 : Int) := by omega
      have HFIN : Hid (Ns.map (·.l) = (mirP true true C R (Ps.map (·.l)) (R * C)).map (fun l => turnR 0 0 (turnR 0 1 l))) := Lib.hid (by
        rw [HQ.out, hkn, show n3 = P.length from by rw [HN3.out, HML.out, HPL.out], mixL_end, HP.out])
      have r0 := E.br.cell 0; have r1 := E.br.cell 1; have r2 := E.br.cell 2
      have z := fun j => E.br.free j
      have d0 := E.bm.cell 0; have d1 := E.bm.cell 1
      have hrl := E.br.lt
      simp at r0 r1 r2 d0 d1
      clear hkn
      go_wp2
      refine bodyPost_ret (v := .agg #[.int .i64 C, .int .i64 R, .slice (some ⟨g, 0, none⟩) n3 c3]) (by simp [results, Tryz.results77, go_sem, r0, r1, r2]) rfl ?_
      have b1 := ((E.own.mono (B' := w.heap.size) (by omega)).set E.br heap_place heap_leaf 0 (.int .i64 C))
      have b2 := b1.set (E.br.set 0 _) heap_place heap_leaf 1 (.int .i64 R)
      have b3 := b2.set ((E.br.set 0 _).set 1 _) heap_place heap_leaf 2 (.slice (some ⟨g, 0, none⟩) n3 c3)
      exact ⟨_, _, _, _, rfl, b3, HFIN.out, ((E.low.setCell (p := ⟨w.heap.size + 1, 0, none⟩) (by show w.heap.size ≤ w.heap.size + 1; omega) _).setCell (p := ⟨w.heap.size + 1, 1, none⟩) (by show w.heap.size ≤ w.heap.size + 1; omega) _).setCell (p := ⟨w.heap.size + 1, 2, none⟩) (by show w.heap.size ≤ w.heap.size + 1; omega) _⟩
end Go.Proofs.YtgoandhlcekmiaaGreatDoor

namespace Go.Proofs.YtgoandhlcekmiaaGreatDoor
open Go.RowKit

theorem map_get {f : Nat → List Leaf} {s j : Nat} (h : j < s) : ((List.range s).map f).getD j [] = f j := by
  rw [List.getD_eq_getElem?_getD, List.getElem?_map, List.getElem?_range h]; try rfl
theorem mirP_get {cs rs : Bool} {C R : Nat} {P : List (List Leaf)} {s r c : Nat} (hc : c < C) (h : r * C + c < s) : (mirP cs rs C R P s).getD (r * C + c) [] = P.getD ((if rs = true then R - 1 - r else r) * C + (if cs = true then C - 1 - c else c)) [] := by
  unfold mirP; rw [map_get h, mirI_at rfl hc]
theorem leftP_get {C b : Nat} {P : List (List Leaf)} {s r c : Nat} (hc : c < b) (h : r * b + c < s) : (leftP C b P s).getD (r * b + c) [] = (if 2 * b - 1 - c < C then turnR 1 0 (P.getD (r * C + (2 * b - 1 - c)) []) else []) ++ P.getD (r * C + c) [] := by
  have e1 : (r * b + c) % b = c := by rw [Nat.mul_comm, Nat.mul_add_mod, Nat.mod_eq_of_lt hc]
  have e2 : (r * b + c) / b = r := by rw [Nat.mul_comm, Nat.mul_add_div (by omega), Nat.div_eq_of_lt hc, Nat.add_zero]
  unfold leftP; rw [map_get h, e1, e2]
theorem upP_get {C R b : Nat} {P : List (List Leaf)} {s r c : Nat} (hc : c < C) (h : r * C + c < s) : (upP C R b P s).getD (r * C + c) [] = (if 2 * b - 1 - r < R then turnR 1 1 (P.getD ((2 * b - 1 - r) * C + c) []) else []) ++ P.getD (r * C + c) [] := by
  have e1 : (r * C + c) % C = c := by rw [Nat.mul_comm, Nat.mul_add_mod, Nat.mod_eq_of_lt hc]
  have e2 : (r * C + c) / C = r := by rw [Nat.mul_comm, Nat.mul_add_div (by omega), Nat.div_eq_of_lt hc, Nat.add_zero]
  unfold upP; rw [map_get h, e1, e2]
/-- Two rows of places are equal if they agree place by place. -/
theorem places_ext2 {C R : Nat} {P Q : List (List Leaf)} (hC : 1 ≤ C) (h1 : P.length = C * R) (h2 : Q.length = C * R) (h : ∀ r c, r < R → c < C → P.getD (r * C + c) [] = Q.getD (r * C + c) []) : P = Q := by
  apply List.ext_getElem (by rw [h1, h2])
  intro j ha hb
  have hj : j < C * R := by omega
  have he : j / C * C + j % C = j := by rw [Nat.mul_comm]; exact Nat.div_add_mod j C
  have := h (j / C) (j % C) (Nat.div_lt_of_lt_mul hj) (Nat.mod_lt _ (by omega))
  rw [he, getD_in [] ha, getD_in [] hb] at this
  exact this
theorem turnL_zero {L : List Leaf} (h : ∀ x ∈ L, LeafBits x) : turnL 0 0 L = L := by
  unfold turnL; rw [if_neg (by decide)]
  have : ∀ x ∈ L, turnX 0 0 x = x := fun x hx => by
    obtain ⟨h1, h2⟩ := h x hx
    unfold turnX; rw [xr_zero h1, xr_zero h2]
  rw [List.map_congr_left this]; simp
theorem getD_bits2 {P : List (List Leaf)} (h : ∀ x ∈ P, ∀ y ∈ x, LeafBits y) (j : Nat) : ∀ y ∈ P.getD j [], LeafBits y := fun y hy => by
  rw [List.getD_eq_getElem?_getD] at hy
  cases e : P[j]? with
  | none => rw [e] at hy; simp at hy
  | some L => rw [e] at hy; exact h L (List.mem_of_getElem? e) y hy
theorem mirTF {C R : Nat} {P : List (List Leaf)} {s r c : Nat} (hc : c < C) (h : r * C + c < s) : (mirP true false C R P s).getD (r * C + c) [] = P.getD (r * C + (C - 1 - c)) [] := by
  rw [mirP_get hc h, if_pos rfl, if_neg (by decide)]
theorem mirFT {C R : Nat} {P : List (List Leaf)} {s r c : Nat} (hc : c < C) (h : r * C + c < s) : (mirP false true C R P s).getD (r * C + c) [] = P.getD ((R - 1 - r) * C + c) [] := by
  rw [mirP_get hc h, if_pos rfl, if_neg (by decide)]
theorem mirTT {C R : Nat} {P : List (List Leaf)} {s r c : Nat} (hc : c < C) (h : r * C + c < s) : (mirP true true C R P s).getD (r * C + c) [] = P.getD ((R - 1 - r) * C + (C - 1 - c)) [] := by
  rw [mirP_get hc h, if_pos rfl, if_pos rfl]
theorem placeF_of {C R : Nat} {f : Fold} {P : List (List Leaf)} {c r : Nat} {p : Prop} [Decidable p] {x y : Nat × Nat} {t : Int} (h1 : overS C R f c r = if p then some x else none) (h2 : plainS C R f c r = some y) (h3 : overT f = t) (h4 : plainT f = 0) (hb : ∀ z ∈ P, ∀ y ∈ z, LeafBits y) :
    placeF C R f P c r = (if p then turnR 1 t (P.getD (x.2 * C + x.1) []) else []) ++ P.getD (y.2 * C + y.1) [] := by
  unfold placeF
  rw [h1, h2, h3, h4]
  by_cases h : p
  · rw [if_pos h, if_pos h]
    show turnL 1 t _ ++ turnL 0 0 _ = _
    rw [turnL_zero (getD_bits2 hb _), turnR_one]
  · rw [if_neg h, if_neg h]
    show [] ++ turnL 0 0 _ = _
    rw [turnL_zero (getD_bits2 hb _)]
/-- A fold as the reference does it. -/
def foldR (C R : Nat) (f : Fold) (P : List (List Leaf)) : List (List Leaf) :=
  if f.k = 1 then leftP C (C - f.c.toNat) P (R * (C - f.c.toNat))
  else if f.k = 2 then mirP true false (C - f.c.toNat) R (leftP C (C - f.c.toNat) (mirP true false C R P (R * C)) (R * (C - f.c.toNat))) (R * (C - f.c.toNat))
  else if f.k = 3 then upP C R (R - f.c.toNat) P ((R - f.c.toNat) * C)
  else if f.k = 4 then mirP false true C (R - f.c.toNat) (upP C R (R - f.c.toNat) (mirP false true C R P (R * C)) ((R - f.c.toNat) * C)) ((R - f.c.toNat) * C)
  else if f.k = 5 then (mirP true false C R P (R * C)).map (turnR 1 0)
  else (mirP true true C R P (R * C)).map fun l => turnR 0 0 (turnR 0 1 l)
theorem at_lt {r R C c : Nat} (hr : r < R) (hc : c < C) : r * C + c < R * C := by rw [Nat.mul_comm R C]; exact mul_lt hr hc
theorem map_getD2 {g : List Leaf → List Leaf} {P : List (List Leaf)} {j : Nat} (h : j < P.length) : (P.map g).getD j [] = g (P.getD j []) := by
  rw [List.getD_eq_getElem?_getD, List.getElem?_map, getD_in [] h, List.getElem?_eq_getElem h]; rfl
set_option maxHeartbeats 1000000 in
theorem foldR_out {C R C' R' : Nat} {f : Fold} {P : List (List Leaf)} (hC : 1 ≤ C ∧ C ≤ 8) (hR : 1 ≤ R ∧ R ≤ 8) (h : foldErr C R f = 0) (hC' : afterC C f = C') (hR' : afterR R f = R') (hP : PileOk C R P) : foldR C R f P = outF C R C' R' f P := by
  obtain ⟨a, b, d, e, g, i⟩ := fold_ok (by omega) (by omega) h
  have hb := hP.bits
  have ha := after_ok (C := (C : Int)) (R := (R : Int)) (f := f) (by omega) (by omega) h
  rw [hC', hR'] at ha
  obtain ⟨k, qi⟩ := f
  have a : 1 ≤ k ∧ k ≤ 6 := a
  have b : 0 ≤ qi ∧ qi ≤ 4 := b
  have d : k ≤ 4 → 1 ≤ qi := d
  have e : 5 ≤ k → qi = 0 := e
  have g : k ≤ 2 → 2 * qi ≤ C := g
  have i : 3 ≤ k → k ≤ 4 → 2 * qi ≤ R := i
  obtain ⟨q, rfl⟩ : ∃ q : Nat, qi = q := ⟨qi.toNat, by omega⟩
  have h6 : k = 1 ∨ k = 2 ∨ k = 3 ∨ k = 4 ∨ k = 5 ∨ k = 6 := by omega
  rcases h6 with rfl | rfl | rfl | rfl | rfl | rfl
  all_goals
    simp [afterC, afterR] at hC' hR'
  · have hc2 : C' = C - q := by omega
    have hr2 : R' = R := by omega
    subst hc2
    subst hr2
    have e1 : (foldR C R' ⟨1, q⟩ P) = leftP C (C - q) P (R' * (C - q)) := by simp [foldR]
    rw [e1]
    refine places_ext2 (C := C - q) (R := R') (by omega) (by rw [leftP_len, Nat.mul_comm]) outF_len fun r c hr hc => ?_
    rw [outF_at hc hr, leftP_get hc (at_lt hr hc), placeF_of (p := 2 * (C - q) - 1 - c < C) (x := (2 * (C - q) - 1 - c, r)) (y := (c, r)) (t := 0) rfl rfl rfl rfl hb]
  · have hc2 : C' = C - q := by omega
    have hr2 : R' = R := by omega
    subst hc2
    subst hr2
    have e1 : (foldR C R' ⟨2, q⟩ P) = mirP true false (C - q) R' (leftP C (C - q) (mirP true false C R' P (R' * C)) (R' * (C - q))) (R' * (C - q)) := by simp [foldR]
    rw [e1]
    refine places_ext2 (C := C - q) (R := R') (by omega) (by rw [mirP_len, Nat.mul_comm]) outF_len fun r c hr hc => ?_
    have hq : 2 * q ≤ C := by omega
    rw [outF_at hc hr, mirTF hc (at_lt hr hc), placeF_of (p := c < q) (x := (q - 1 - c, r)) (y := (q + c, r)) (t := 0) rfl rfl rfl rfl hb,
      leftP_get (r := r) (c := C - q - 1 - c) (by omega) (at_lt hr (by omega)), mirTF (r := r) (c := C - q - 1 - c) (by omega) (at_lt hr (by omega))]
    rw [show C - 1 - (C - q - 1 - c) = q + c by omega]
    congr 1
    by_cases h1 : c < q
    · rw [if_pos h1, if_pos (by omega), mirTF (r := r) (c := 2 * (C - q) - 1 - (C - q - 1 - c)) (by omega) (at_lt hr (by omega))]
      rw [show C - 1 - (2 * (C - q) - 1 - (C - q - 1 - c)) = q - 1 - c by omega]
    · rw [if_neg h1, if_neg (by omega)]
  · have hc2 : C' = C := by omega
    have hr2 : R' = R - q := by omega
    subst hc2
    subst hr2
    have e1 : (foldR C' R ⟨3, q⟩ P) = upP C' R (R - q) P ((R - q) * C') := by simp [foldR]
    rw [e1]
    refine places_ext2 (C := C') (R := R - q) (by omega) (by rw [upP_len, Nat.mul_comm]) outF_len fun r c hr hc => ?_
    rw [outF_at hc hr, upP_get hc (at_lt hr hc), placeF_of (p := 2 * (R - q) - 1 - r < R) (x := (c, 2 * (R - q) - 1 - r)) (y := (c, r)) (t := 1) rfl rfl rfl rfl hb]
  · have hc2 : C' = C := by omega
    have hr2 : R' = R - q := by omega
    subst hc2
    subst hr2
    have e1 : (foldR C' R ⟨4, q⟩ P) = mirP false true C' (R - q) (upP C' R (R - q) (mirP false true C' R P (R * C')) ((R - q) * C')) ((R - q) * C') := by simp [foldR]
    rw [e1]
    refine places_ext2 (C := C') (R := R - q) (by omega) (by rw [mirP_len, Nat.mul_comm]) outF_len fun r c hr hc => ?_
    have hq : 2 * q ≤ R := by omega
    rw [outF_at hc hr, mirFT hc (at_lt hr hc), placeF_of (p := r < q) (x := (c, q - 1 - r)) (y := (c, q + r)) (t := 1) rfl rfl rfl rfl hb,
      upP_get (r := R - q - 1 - r) (c := c) hc (at_lt (by omega) hc), mirFT (r := R - q - 1 - r) (c := c) hc (at_lt (by omega) hc)]
    rw [show R - 1 - (R - q - 1 - r) = q + r by omega]
    congr 1
    by_cases h1 : r < q
    · rw [if_pos h1, if_pos (by omega), mirFT (r := 2 * (R - q) - 1 - (R - q - 1 - r)) (c := c) hc (at_lt (by omega) hc)]
      rw [show R - 1 - (2 * (R - q) - 1 - (R - q - 1 - r)) = q - 1 - r by omega]
    · rw [if_neg h1, if_neg (by omega)]
  · have hc2 : C' = C := by omega
    have hr2 : R' = R := by omega
    subst hc2
    subst hr2
    have e1 : (foldR C' R' ⟨5, q⟩ P) = (mirP true false C' R' P (R' * C')).map (turnR 1 0) := by simp [foldR]
    rw [e1]
    refine places_ext2 (C := C') (R := R') (by omega) (by rw [List.length_map, mirP_len, Nat.mul_comm]) outF_len fun r c hr hc => ?_
    rw [outF_at hc hr, map_getD2 (by rw [mirP_len]; exact at_lt hr hc), mirTF hc (at_lt hr hc)]
    simp only [placeF, overS, plainS, overT, plainT]
    simp [turnR_one]
  · have hc2 : C' = C := by omega
    have hr2 : R' = R := by omega
    subst hc2
    subst hr2
    have e1 : (foldR C' R' ⟨6, q⟩ P) = (mirP true true C' R' P (R' * C')).map fun l => turnR 0 0 (turnR 0 1 l) := by simp [foldR]
    rw [e1]
    refine places_ext2 (C := C') (R := R') (by omega) (by rw [List.length_map, mirP_len, Nat.mul_comm]) outF_len fun r c hr hc => ?_
    rw [outF_at hc hr, map_getD2 (by rw [mirP_len]; exact at_lt hr hc), mirTT hc (at_lt hr hc)]
    simp only [placeF, overS, plainS, overT, plainT]
    simp [turnR_two]
end Go.Proofs.YtgoandhlcekmiaaGreatDoor
