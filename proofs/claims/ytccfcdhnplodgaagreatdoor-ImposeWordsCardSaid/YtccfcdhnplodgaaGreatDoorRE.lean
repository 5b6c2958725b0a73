/-
  Package tympanref06: all turned over, all turned round.
-/
import Derived.Test.YtccfcdhnplodgaaGreatDoorRD
namespace Go.Proofs.YtccfcdhnplodgaaGreatDoor
open Go.RowKit

def mixL (f : List Leaf → List Leaf) (P : List (List Leaf)) (k : Nat) : List (List Leaf) := (P.take k).map f ++ P.drop k
theorem mixL_len (f : List Leaf → List Leaf) (P : List (List Leaf)) (k : Nat) : (mixL f P k).length = P.length := by
  unfold mixL; rw [List.length_append, List.length_map, List.length_take, List.length_drop]; omega
theorem mixL_zero (f : List Leaf → List Leaf) (P : List (List Leaf)) : mixL f P 0 = P := by simp [mixL]
theorem mixL_end (f : List Leaf → List Leaf) (P : List (List Leaf)) : mixL f P P.length = P.map f := by simp [mixL]
theorem mixL_at {f : List Leaf → List Leaf} {P : List (List Leaf)} {k : Nat} (hk : k < P.length) : (mixL f P k)[k]? = some P[k] := by
  unfold mixL
  rw [List.getElem?_append_right (by simp; omega)]
  simp [Nat.min_eq_left (Nat.le_of_lt hk)]
theorem mixL_step {f : List Leaf → List Leaf} {P : List (List Leaf)} {k : Nat} (hk : k < P.length) : (mixL f P k).set k (f P[k]) = mixL f P (k + 1) := by
  unfold mixL
  rw [List.set_append_right _ _ (by simp; omega), List.length_map, List.length_take, Nat.min_eq_left (Nat.le_of_lt hk), Nat.sub_self, List.drop_eq_getElem_cons hk, List.set_cons_zero, List.take_succ_eq_append_getElem hk, List.map_append, List.append_assoc]
  rfl
theorem Bld.form2 {B n c : Nat} {A : Option Addr} {Ps : List PS} {w : World} (h : Bld B Ps (.slice A n c) w) (hp : 0 < Ps.length) : ∃ g, A = some ⟨g, 0, none⟩ ∧ B ≤ g ∧ g < w.heap.size := by
  obtain ⟨b, k, e, h1, h2⟩ := World.ownsRow.form h.row hp
  injection e with e1 e2 e3
  exact ⟨b, e1, h1, h2⟩
theorem Bld.free {B b n c : Nat} {Ps : List PS} {w : World} (h : Bld B Ps (.slice (some ⟨b, 0, none⟩) n c) w) (j : Nat) : w.frozen? ⟨b, j, none⟩ = false := by
  obtain ⟨cs, hb⟩ := own_block h.row b rfl
  simp [World.frozen?, hb]
theorem bit0 : Bit 0 := Or.inl rfl
theorem bit1 : Bit 1 := Or.inr rfl
structure OEnv (w : World) (C R : Nat) (A : Option Addr) (n c gm g n' c' : Nat) (Ps : List PS) (wr : World) : Prop where
  bs : BoxAt wr w.heap.size #[.int .i64 C, .int .i64 R, .slice A n c] 71
  br : BoxAt wr (w.heap.size + 1) #[.int .i64 0, .int .i64 0, .slice none 0 0] 71
  bm : BoxAt wr gm #[.int .i64 C, .int .i64 R, .slice (some ⟨g, 0, none⟩) n' c'] 71
  own : Bld (w.heap.size + 1 + 1) Ps (.slice (some ⟨g, 0, none⟩) n' c') wr
  low : Below w.heap.size w wr
theorem OEnv.below {w : World} {C R : Nat} {A : Option Addr} {n c gm g n' c' : Nat} {Ps : List PS} {wr w1 : World} (h : OEnv w C R A n c gm g n' c' Ps wr) (hb : Below wr.heap.size wr w1) : OEnv w C R A n c gm g n' c' Ps w1 :=
  ⟨h.bs.below hb, h.br.below hb, h.bm.below hb, h.own.below hb, h.low.trans (hb.mono h.low.size)⟩
theorem OEnv.put {w : World} {C R : Nat} {A : Option Addr} {n c gm g n' c' : Nat} {Ps : List PS} {wr : World} (h : OEnv w C R A n c gm g n' c' Ps wr) {k : Nat} {x : PS} (hx : LRow wr x) : OEnv w C R A n c gm g n' c' (Ps.set k x) (wr.setCell ⟨g, k, none⟩ x.sl) := by
  have hg := (h.own.row.lt g rfl).1
  obtain ⟨cs, hb⟩ := own_block h.own.row g rfl
  refine ⟨h.bs.set_other (p := ⟨g, k, none⟩) (by show w.heap.size ≠ g; omega) _, h.br.set_other (p := ⟨g, k, none⟩) (by show w.heap.size + 1 ≠ g; omega) _, h.bm.set_other (p := ⟨g, k, none⟩) (fun e => ?_) _, h.own.put hx, h.low.setCell (p := ⟨g, k, none⟩) (by show w.heap.size ≤ g; omega) _⟩
  have e : gm = g := e
  have h2 := h.bm
  unfold BoxAt at h2
  rw [e, hb] at h2
  injection h2 with h2; injection h2 with _ h2; exact heap_place h2.symm
set_option maxRecDepth 100000 in
set_option maxHeartbeats 8000000 in
theorem over_any (C R : Nat) (A : Option Addr) (n c : Nat) (Ps : List PS) (w : World) (hC : 1 ≤ C ∧ C ≤ 8) (hR : 1 ≤ R ∧ R ≤ 8) (hn : n = Ps.length) (hlen : Ps.length = C * R) (hH : HeapAt w A Ps)
    (hbits : ∀ x ∈ Ps, ∀ y ∈ x.l, LeafBits y) (hsum : ∀ x ∈ Ps, x.l.length ≤ 1000) :
    Calls Tryz.prog 65 #[.agg #[.int .i64 C, .int .i64 R, .slice A n c]] w (HeapPost w C R ((mirP true false C R (Ps.map (·.l)) (R * C)).map (turnR 1 0))) := by
  have HLEN := Lib.hid hlen; have HNN := Lib.hid hn
  have HMB : Hid (∀ L ∈ mirP true false C R (Ps.map (·.l)) (R * C), L.length ≤ 1000 ∧ ∀ y ∈ L, LeafBits y) := Lib.hid (fun L hL => by
    unfold mirP at hL
    obtain ⟨j, _, rfl⟩ := List.mem_map.1 hL
    rw [List.getD_eq_getElem?_getD]
    cases e : (Ps.map (·.l))[mirI true false C R j]? with
    | none => exact ⟨by simp, fun y hy => by simp at hy⟩
    | some M =>
      rw [List.getElem?_map] at e
      obtain ⟨x, hx, rfl⟩ := Option.map_eq_some_iff.1 e
      have hm := List.mem_of_getElem? hx
      exact ⟨hsum x hm, hbits x hm⟩)
  obtain ⟨w2, hw2⟩ : ∃ w2, w2 = (w.alloc (.cells #[.int .i64 C, .int .i64 R, .slice A n c] 71)).alloc (.cells #[.int .i64 0, .int .i64 0, .slice none 0 0] 71) := ⟨_, rfl⟩
  have bs2 : BoxAt w2 w.heap.size #[.int .i64 C, .int .i64 R, .slice A n c] 71 := by rw [hw2]; exact (BoxAt.new w _ _).alloc _
  have br2 : BoxAt w2 (w.heap.size + 1) #[.int .i64 0, .int .i64 0, .slice none 0 0] 71 := by
    rw [hw2]
    have := BoxAt.new (w.alloc (.cells #[.int .i64 C, .int .i64 R, .slice A n c] 71)) #[.int .i64 0, .int .i64 0, .slice none 0 0] 71
    simpa using this
  have hB2 : Below w.heap.size w w2 := by rw [hw2]; exact ((Below.refl w.heap.size w).alloc (Nat.le_refl _) _).alloc (by simp) _
  have hsz : w2.heap.size = w.heap.size + 1 + 1 := by rw [hw2]; simp
  have W2 := Lib.hid hw2
  clear hw2 hbits hsum hn hlen
  go_enter Tryz.func65, Tryz.ntmps65
  go_wp2_with fail
  rw [← W2.out]
  refine (mirrored_any C R A n c Ps true false _ hC hR HNN.out HLEN.out (hH.below hB2)).mono ?_
  rintro e w3 ⟨A3, n3, c3, Ms, rfl, hO3, hM3, hb3⟩
  obtain ⟨P, hP⟩ : ∃ P, P = mirP true false C R (Ps.map (·.l)) (R * C) := ⟨_, rfl⟩
  have hPl : P.length = R * C := by rw [hP, mirP_len]
  rw [← hP] at HMB hM3
  have hml : Ms.length = R * C := by rw [← hPl, ← hM3, List.length_map]
  have hpos : 0 < R * C := Nat.mul_pos (by omega) (by omega)
  have hle : R * C ≤ 8 * 8 := Nat.mul_le_mul hR.2 hC.2
  obtain ⟨g, rfl, hg1, hg2⟩ := hO3.form2 (by omega)
  have hn3 := hO3.heap.1
  obtain ⟨gm, hgm⟩ : ∃ gm, w3.heap.size = gm := ⟨_, rfl⟩
  have E0 : OEnv w C R A n c gm g n3 c3 Ms (w3.alloc (.cells #[.int .i64 C, .int .i64 R, .slice (some ⟨g, 0, none⟩) n3 c3] 71)) :=
    ⟨(bs2.below hb3).alloc _, (br2.below hb3).alloc _, by rw [← hgm]; exact BoxAt.new _ _ _, (hO3.mono (by omega)).alloc _, (hB2.trans (hb3.mono (B' := w.heap.size) (by omega))).alloc (by have := hb3.size; omega) _⟩
  have hgw : w.heap.size + 1 + 1 ≤ gm := by rw [← hgm]; have := hb3.size; omega
  have hgg : g < gm := by rw [← hgm]; exact hg2
  have HP := Lib.hid hP; have HPL := Lib.hid hPl; have HML := Lib.hid hml; have HN3 := Lib.hid hn3
  have hM0 : Hid (Ms.map (·.l) = mixL (turnR 1 0) P 0) := Lib.hid (by rw [mixL_zero]; exact hM3)
  have hn64 : n3 ≤ 64 := by omega
  clear hb3 hO3 hM3 bs2 br2 hB2 hsz hP hPl hml hn3 hg2
  go_wp2_with fail
  clear hgm
  go_loopw [4] (fun i wr => ∃ (k : Nat) (Ms : List PS), k ≤ n3 ∧ i = .int .i64 k ∧ OEnv w C R A n c gm g n3 c3 Ms wr ∧ Hid (Ms.map (·.l) = mixL (turnR 1 0) P k)) (fun i _ => n3 - (intOf i).toNat)
  case atStart => exact ⟨0, Ms, Nat.zero_le _, rfl, E0, hM0⟩
  case round =>
    obtain ⟨k, Ns, hk, rfl, E, HQ⟩ := hrel
    clear E0 hM0
    have d2 := E.bm.cell 2
    have hml := E.bm.lt
    simp at d2
    by_cases hkl : k < n3
    · have hkI : (k : Int) < (n3 : Int) := by omega
      have hkP : k < P.length := by rw [HPL.out, ← HML.out, ← HN3.out]; exact hkl
      have hkN : k < Ns.length := by
        have h := congrArg List.length HQ.out
        rw [List.length_map, mixL_len] at h; omega
      obtain ⟨_, e1, _, hcell⟩ := (E.own.heap.2).1 k hkN
      cases e1
      have hlr := E.own.lv _ (List.getElem_mem hkN)
      have hxP : (Ns[k]).l = P[k] := by
        have h := mixL_at (f := (turnR 1 0)) hkP
        rw [← HQ.out, List.getElem?_map, List.getElem?_eq_getElem hkN] at h
        exact Option.some.inj h
      obtain ⟨x, ex⟩ : ∃ x, x = Ns[k] := ⟨_, rfl⟩
      rw [← ex] at hcell hlr hxP
      obtain ⟨xa, xc, xl⟩ := x
      have hxP : xl = P[k] := hxP
      obtain ⟨xm, hxm⟩ : ∃ m, m = xl.length := ⟨_, rfl⟩
      have hcell : wr.cell? ⟨g, k, none⟩ = some (.slice xa xm xc) := by rw [add0] at hcell; rw [hxm]; exact hcell
      have HXM := Lib.hid hxm
      have hxr : RowsAt 4 Leaf.l wr xa xl := hlr.1
      have hmem : P[k] ∈ P := List.getElem_mem hkP
      have HXL : Hid (xl.length ≤ 1000) := Lib.hid (by rw [hxP]; exact (HMB.out _ hmem).1)
      have HXB : Hid (∀ y ∈ xl, LeafBits y) := Lib.hid (by rw [hxP]; exact (HMB.out _ hmem).2)
      have HST : ∀ (a : Option Addr) (c : Nat), Hid ((Ns.set k (PS.mk a c (turnR 1 0 xl))).map (·.l) = mixL (turnR 1 0) P (k + 1)) := fun a c => Lib.hid (by
        rw [List.map_set, HQ.out, ← mixL_step hkP, ← hxP])
      have HYL : Hid ((turnR 0 1 xl).length ≤ 1000) := Lib.hid (by rw [turnR_len]; exact HXL.out)
      have z := fun j => E.own.free j
      have hgs := (E.own.row.lt g rfl).2
      have m1 : ¬ gm = g := by omega
      have m2 : ¬ g = gm := by omega
      clear ex hxm hxP hlr hmem
      go_wp2_with fail
      go_region_law ((go_simp; refine (refTurned_any xa xl xm xc 1 0 _ hxr.drew HXM.out HXL.out HXB.out (Or.inr rfl) (Or.inl rfl)).mono ?_; rintro e w4 ⟨vv, rfl, hO4, hb4⟩; obtain ⟨a4, k4, e4, -, -, -, -, -⟩ := hO4.rows leaf_l; obtain ⟨m4, hm4⟩ : ∃ m, m = (turnR 1 0 xl).length := ⟨_, rfl⟩; rw [← hm4] at e4; subst e4; have HM4 := Lib.hid hm4; clear hm4; have hr4 : RowsAt 4 Leaf.l w4 a4 (turnR 1 0 xl) := hO4.lrow.2.1; have hB4 : Below wr.heap.size wr w4 := (Below.refl _ wr).drew.trans hb4; have d4 := (hB4.cell (p := ⟨gm, 2, none⟩) hml).trans d2; have y4 := (hB4.cell (p := ⟨g, k, none⟩) hgs).trans hcell; have z4 : ∀ j, w4.frozen? ⟨g, j, none⟩ = false := fun j => ((E.below hB4).own.free j)))
      all_goals
        have hl4 := hO4.lrow
        have hE9 := (E.below hB4).put (k := k) hl4.2
        have hsl : (PS.mk a4 k4 (turnR 1 0 xl)).sl = .slice a4 m4 k4 := by rw [hl4.1]; rfl
        rw [hsl] at hE9
        have HS9 := HST a4 k4
        clear hsl hl4 d2 hcell HST d4 y4 z4
        go_wp2
        go_roundw
        case rel => exact ⟨k + 1, _, by omega, by go_num, hE9, HS9⟩
        case measure => simp [intOf]; omega
    · have hkn : k = n3 := by omega
      have hkI : ¬ (k : Int) < (n3 : Int) := by omega
      have HFIN : Hid (Ns.map (·.l) = (mirP true false C R (Ps.map (·.l)) (R * C)).map (turnR 1 0)) := Lib.hid (by
        rw [HQ.out, hkn, show n3 = P.length from by rw [HN3.out, HML.out, HPL.out], mixL_end, HP.out])
      have r0 := E.br.cell 0; have r1 := E.br.cell 1; have r2 := E.br.cell 2
      have z := fun j => E.br.free j
      have d0 := E.bm.cell 0; have d1 := E.bm.cell 1
      have hrl := E.br.lt
      simp at r0 r1 r2 d0 d1
      clear hkn
      go_wp2
      refine bodyPost_ret (v := .agg #[.int .i64 C, .int .i64 R, .slice (some ⟨g, 0, none⟩) n3 c3]) (by simp [results, Tryz.results65, go_sem, r0, r1, r2]) rfl ?_
      have b1 := ((E.own.mono (B' := w.heap.size) (by omega)).set E.br heap_place heap_leaf 0 (.int .i64 C))
      have b2 := b1.set (E.br.set 0 _) heap_place heap_leaf 1 (.int .i64 R)
      have b3 := b2.set ((E.br.set 0 _).set 1 _) heap_place heap_leaf 2 (.slice (some ⟨g, 0, none⟩) n3 c3)
      exact ⟨_, _, _, _, rfl, b3, HFIN.out, ((E.low.setCell (p := ⟨w.heap.size + 1, 0, none⟩) (by show w.heap.size ≤ w.heap.size + 1; omega) _).setCell (p := ⟨w.heap.size + 1, 1, none⟩) (by show w.heap.size ≤ w.heap.size + 1; omega) _).setCell (p := ⟨w.heap.size + 1, 2, none⟩) (by show w.heap.size ≤ w.heap.size + 1; omega) _⟩
set_option maxRecDepth 100000 in
set_option maxHeartbeats 8000000 in
theorem round_any (C R : Nat) (A : Option Addr) (n c : Nat) (Ps : List PS) (w : World) (hC : 1 ≤ C ∧ C ≤ 8) (hR : 1 ≤ R ∧ R ≤ 8) (hn : n = Ps.length) (hlen : Ps.length = C * R) (hH : HeapAt w A Ps)
    (hbits : ∀ x ∈ Ps, ∀ y ∈ x.l, LeafBits y) (hsum : ∀ x ∈ Ps, x.l.length ≤ 1000) :
    Calls Tryz.prog 66 #[.agg #[.int .i64 C, .int .i64 R, .slice A n c]] w (HeapPost w C R ((mirP true true C R (Ps.map (·.l)) (R * C)).map (fun l => turnR 0 0 (turnR 0 1 l)))) := by
  have HLEN := Lib.hid hlen; have HNN := Lib.hid hn
  have HMB : Hid (∀ L ∈ mirP true true C R (Ps.map (·.l)) (R * C), L.length ≤ 1000 ∧ ∀ y ∈ L, LeafBits y) := Lib.hid (fun L hL => by
    unfold mirP at hL
    obtain ⟨j, _, rfl⟩ := List.mem_map.1 hL
    rw [List.getD_eq_getElem?_getD]
    cases e : (Ps.map (·.l))[mirI true true C R j]? with
    | none => exact ⟨by simp, fun y hy => by simp at hy⟩
    | some M =>
      rw [List.getElem?_map] at e
      obtain ⟨x, hx, rfl⟩ := Option.map_eq_some_iff.1 e
      have hm := List.mem_of_getElem? hx
      exact ⟨hsum x hm, hbits x hm⟩)
  obtain ⟨w2, hw2⟩ : ∃ w2, w2 = (w.alloc (.cells #[.int .i64 C, .int .i64 R, .slice A n c] 71)).alloc (.cells #[.int .i64 0, .int .i64 0, .slice none 0 0] 71) := ⟨_, rfl⟩
  have bs2 : BoxAt w2 w.heap.size #[.int .i64 C, .int .i64 R, .slice A n c] 71 := by rw [hw2]; exact (BoxAt.new w _ _).alloc _
  have br2 : BoxAt w2 (w.heap.size + 1) #[.int .i64 0, .int .i64 0, .slice none 0 0] 71 := by
    rw [hw2]
    have := BoxAt.new (w.alloc (.cells #[.int .i64 C, .int .i64 R, .slice A n c] 71)) #[.int .i64 0, .int .i64 0, .slice none 0 0] 71
    simpa using this
  have hB2 : Below w.heap.size w w2 := by rw [hw2]; exact ((Below.refl w.heap.size w).alloc (Nat.le_refl _) _).alloc (by simp) _
  have hsz : w2.heap.size = w.heap.size + 1 + 1 := by rw [hw2]; simp
  have W2 := Lib.hid hw2
  clear hw2 hbits hsum hn hlen
  go_enter Tryz.func66, Tryz.ntmps66
  go_wp2_with fail
  rw [← W2.out]
  refine (mirrored_any C R A n c Ps true true _ hC hR HNN.out HLEN.out (hH.below hB2)).mono ?_
  rintro e w3 ⟨A3, n3, c3, Ms, rfl, hO3, hM3, hb3⟩
  obtain ⟨P, hP⟩ : ∃ P, P = mirP true true C R (Ps.map (·.l)) (R * C) := ⟨_, rfl⟩
  have hPl : P.length = R * C := by rw [hP, mirP_len]
  rw [← hP] at HMB hM3
  have hml : Ms.length = R * C := by rw [← hPl, ← hM3, List.length_map]
  have hpos : 0 < R * C := Nat.mul_pos (by omega) (by omega)
  have hle : R * C ≤ 8 * 8 := Nat.mul_le_mul hR.2 hC.2
  obtain ⟨g, rfl, hg1, hg2⟩ := hO3.form2 (by omega)
  have hn3 := hO3.heap.1
  obtain ⟨gm, hgm⟩ : ∃ gm, w3.heap.size = gm := ⟨_, rfl⟩
  have E0 : OEnv w C R A n c gm g n3 c3 Ms (w3.alloc (.cells #[.int .i64 C, .int .i64 R, .slice (some ⟨g, 0, none⟩) n3 c3] 71)) :=
    ⟨(bs2.below hb3).alloc _, (br2.below hb3).alloc _, by rw [← hgm]; exact BoxAt.new _ _ _, (hO3.mono (by omega)).alloc _, (hB2.trans (hb3.mono (B' := w.heap.size) (by omega))).alloc (by have := hb3.size; omega) _⟩
  have hgw : w.heap.size + 1 + 1 ≤ gm := by rw [← hgm]; have := hb3.size; omega
  have hgg : g < gm := by rw [← hgm]; exact hg2
  have HP := Lib.hid hP; have HPL := Lib.hid hPl; have HML := Lib.hid hml; have HN3 := Lib.hid hn3
  have hM0 : Hid (Ms.map (·.l) = mixL (fun l => turnR 0 0 (turnR 0 1 l)) P 0) := Lib.hid (by rw [mixL_zero]; exact hM3)
  have hn64 : n3 ≤ 64 := by omega
  clear hb3 hO3 hM3 bs2 br2 hB2 hsz hP hPl hml hn3 hg2
  go_wp2_with fail
  clear hgm
  go_loopw [4] (fun i wr => ∃ (k : Nat) (Ms : List PS), k ≤ n3 ∧ i = .int .i64 k ∧ OEnv w C R A n c gm g n3 c3 Ms wr ∧ Hid (Ms.map (·.l) = mixL (fun l => turnR 0 0 (turnR 0 1 l)) P k)) (fun i _ => n3 - (intOf i).toNat)
  case atStart => exact ⟨0, Ms, Nat.zero_le _, rfl, E0, hM0⟩
  case round =>
    obtain ⟨k, Ns, hk, rfl, E, HQ⟩ := hrel
    clear E0 hM0
    have d2 := E.bm.cell 2
    have hml := E.bm.lt
    simp at d2
    by_cases hkl : k < n3
    · have hkI : (k : Int) < (n3 : Int) := by omega
      have hkP : k < P.length := by rw [HPL.out, ← HML.out, ← HN3.out]; exact hkl
      have hkN : k < Ns.length := by
        have h := congrArg List.length HQ.out
        rw [List.length_map, mixL_len] at h; omega
      obtain ⟨_, e1, _, hcell⟩ := (E.own.heap.2).1 k hkN
      cases e1
      have hlr := E.own.lv _ (List.getElem_mem hkN)
      have hxP : (Ns[k]).l = P[k] := by
        have h := mixL_at (f := (fun l => turnR 0 0 (turnR 0 1 l))) hkP
        rw [← HQ.out, List.getElem?_map, List.getElem?_eq_getElem hkN] at h
        exact Option.some.inj h
      obtain ⟨x, ex⟩ : ∃ x, x = Ns[k] := ⟨_, rfl⟩
      rw [← ex] at hcell hlr hxP
      obtain ⟨xa, xc, xl⟩ := x
      have hxP : xl = P[k] := hxP
      obtain ⟨xm, hxm⟩ : ∃ m, m = xl.length := ⟨_, rfl⟩
      have hcell : wr.cell? ⟨g, k, none⟩ = some (.slice xa xm xc) := by rw [add0] at hcell; rw [hxm]; exact hcell
      have HXM := Lib.hid hxm
      have hxr : RowsAt 4 Leaf.l wr xa xl := hlr.1
      have hmem : P[k] ∈ P := List.getElem_mem hkP
      have HXL : Hid (xl.length ≤ 1000) := Lib.hid (by rw [hxP]; exact (HMB.out _ hmem).1)
      have HXB : Hid (∀ y ∈ xl, LeafBits y) := Lib.hid (by rw [hxP]; exact (HMB.out _ hmem).2)
      have HST : ∀ (a : Option Addr) (c : Nat), Hid ((Ns.set k (PS.mk a c (turnR 0 0 (turnR 0 1 xl)))).map (·.l) = mixL (fun l => turnR 0 0 (turnR 0 1 l)) P (k + 1)) := fun a c => Lib.hid (by
        rw [List.map_set, HQ.out, ← mixL_step hkP, ← hxP])
      have HYL : Hid ((turnR 0 1 xl).length ≤ 1000) := Lib.hid (by rw [turnR_len]; exact HXL.out)
      have z := fun j => E.own.free j
      have hgs := (E.own.row.lt g rfl).2
      have m1 : ¬ gm = g := by omega
      have m2 : ¬ g = gm := by omega
      clear ex hxm hxP hlr hmem
      go_wp2_with fail
      go_region_law (first
        | (go_simp; (with_reducible refine (refTurned_any a4 (turnR 0 1 xl) m4 k4 0 0 _ hr4 HM4.out HYL.out turnR_bits bit0 bit0).mono ?_); rintro e w5 ⟨vv, rfl, hO5, hb5⟩; obtain ⟨a5, k5, e5, -, -, -, -, -⟩ := hO5.rows leaf_l; obtain ⟨m5, hm5⟩ : ∃ m, m = (turnR 0 0 (turnR 0 1 xl)).length := ⟨_, rfl⟩; rw [← hm5] at e5; subst e5; have HM5 := Lib.hid hm5; clear hm5; have hB5 : Below wr.heap.size wr w5 := hB4.trans (hb5.mono (B' := wr.heap.size) hB4.size); have d4 := (hB5.cell (p := ⟨gm, 2, none⟩) hml).trans d2; have y4 := (hB5.cell (p := ⟨g, k, none⟩) hgs).trans hcell; have z4 : ∀ j, w5.frozen? ⟨g, j, none⟩ = false := fun j => ((E.below hB5).own.free j))
        | (go_simp; refine (refTurned_any xa xl xm xc 0 1 _ hxr.drew HXM.out HXL.out HXB.out (Or.inl rfl) (Or.inr rfl)).mono ?_; rintro e w4 ⟨vv, rfl, hO4, hb4⟩; obtain ⟨a4, k4, e4, -, -, -, -, -⟩ := hO4.rows leaf_l; obtain ⟨m4, hm4⟩ : ∃ m, m = (turnR 0 1 xl).length := ⟨_, rfl⟩; rw [← hm4] at e4; subst e4; have HM4 := Lib.hid hm4; clear hm4; have hr4 : RowsAt 4 Leaf.l w4 a4 (turnR 0 1 xl) := hO4.lrow.2.1; have hB4 : Below wr.heap.size wr w4 := (Below.refl _ wr).drew.trans hb4; have d4 := (hB4.cell (p := ⟨gm, 2, none⟩) hml).trans d2; have y4 := (hB4.cell (p := ⟨g, k, none⟩) hgs).trans hcell; have z4 : ∀ j, w4.frozen? ⟨g, j, none⟩ = false := fun j => ((E.below hB4).own.free j)))
      all_goals
        have hl5 := hO5.lrow
        have hE9 := (E.below hB5).put (k := k) hl5.2
        have hsl : (PS.mk a5 k5 (turnR 0 0 (turnR 0 1 xl))).sl = .slice a5 m5 k5 := by rw [hl5.1]; rfl
        rw [hsl] at hE9
        have HS9 := HST a5 k5
        clear hsl hl5 d2 hcell HST d4 y4 z4
        go_wp2
        go_roundw
        case rel => exact ⟨k + 1, _, by omega, by go_num, hE9, HS9⟩
        case measure => simp [intOf]; omega
    · have hkn : k = n3 := by omega
      have hkI : ¬ (k : Int) < (n3 : Int) := by omega
      have HFIN : Hid (Ns.map (·.l) = (mirP true true C R (Ps.map (·.l)) (R * C)).map (fun l => turnR 0 0 (turnR 0 1 l))) := Lib.hid (by
        rw [HQ.out, hkn, show n3 = P.length from by rw [HN3.out, HML.out, HPL.out], mixL_end, HP.out])
      have r0 := E.br.cell 0; have r1 := E.br.cell 1; have r2 := E.br.cell 2
      have z := fun j => E.br.free j
      have d0 := E.bm.cell 0; have d1 := E.bm.cell 1
      have hrl := E.br.lt
      simp at r0 r1 r2 d0 d1
      clear hkn
      go_wp2
      refine bodyPost_ret (v := .agg #[.int .i64 C, .int .i64 R, .slice (some ⟨g, 0, none⟩) n3 c3]) (by simp [results, Tryz.results66, go_sem, r0, r1, r2]) rfl ?_
      have b1 := ((E.own.mono (B' := w.heap.size) (by omega)).set E.br heap_place heap_leaf 0 (.int .i64 C))
      have b2 := b1.set (E.br.set 0 _) heap_place heap_leaf 1 (.int .i64 R)
      have b3 := b2.set ((E.br.set 0 _).set 1 _) heap_place heap_leaf 2 (.slice (some ⟨g, 0, none⟩) n3 c3)
      exact ⟨_, _, _, _, rfl, b3, HFIN.out, ((E.low.setCell (p := ⟨w.heap.size + 1, 0, none⟩) (by show w.heap.size ≤ w.heap.size + 1; omega) _).setCell (p := ⟨w.heap.size + 1, 1, none⟩) (by show w.heap.size ≤ w.heap.size + 1; omega) _).setCell (p := ⟨w.heap.size + 1, 2, none⟩) (by show w.heap.size ≤ w.heap.size + 1; omega) _⟩
end Go.Proofs.YtccfcdhnplodgaaGreatDoor
