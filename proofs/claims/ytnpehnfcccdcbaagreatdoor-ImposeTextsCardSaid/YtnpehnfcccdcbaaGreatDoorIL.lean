/-
  Package impose: the pile with which a sheet begins.
-/
import Derived.Test.YtnpehnfcccdcbaaGreatDoorIK
namespace Go.Proofs.YtnpehnfcccdcbaaGreatDoor
open Go.RowKit

def leafAt (C s : Nat) : Leaf := ⟨((s % C : Nat) : Int), ((s / C : Nat) : Int), 0, 0⟩
def flatP (C s : Nat) : List (List Leaf) := (List.range s).map fun i => [leafAt C i]
theorem flatP_succ (C s : Nat) : flatP C (s + 1) = flatP C s ++ [[leafAt C s]] := by unfold flatP; rw [List.range_succ, List.map_append]; rfl
theorem leafAt_eq {C k r s : Nat} (hs : r * C + k = s) (hk : k < C) : leafAt C s = ⟨k, r, 0, 0⟩ := by
  have e1 : s % C = k := by rw [← hs, Nat.mul_comm, Nat.mul_add_mod, Nat.mod_eq_of_lt hk]
  have e2 : s / C = r := by rw [← hs, Nat.mul_comm, Nat.mul_add_div (by omega), Nat.div_eq_of_lt hk, Nat.add_zero]
  unfold leafAt; rw [e1, e2]
/-- Places to which others are appended. -/
structure Flt (B : Nat) (Ps : List PS) (v : Value) (w : World) : Prop where
  row : w.ownsRow B 85 1 v Ps.length (Ps.map PS.sl)
  own : ∀ x ∈ Ps, OwnR 4 93 Leaf.l w B x.sl x.l
theorem raw_below {w w' : World} {base e n size : Nat} {v : Value} {xs : List Value} (h : w.ownsRow base e size v n xs) (hb : Below w.heap.size w w') : w'.ownsRow base e size v n xs := by
  rcases h.2 with ⟨e1, e2⟩ | ⟨gg, cap, cur, e1, e2, e3, e4⟩
  · exact ⟨h.1, Or.inl ⟨e1, e2⟩⟩
  · exact ⟨h.1, Or.inr ⟨gg, cap, cur, e1, e2, (hb.block gg ((h.lt gg (by rw [e1]; rfl)).2)).trans e3, e4⟩⟩
theorem raw_set {w : World} {base e n size : Nat} {v : Value} {xs : List Value} (h : w.ownsRow base e size v n xs) {p : Addr} (hp : v.ownBlock ≠ some p.block) (u : Value) : (w.setCell p u).ownsRow base e size v n xs := by
  rcases h.2 with ⟨e1, e2⟩ | ⟨gg, cap, cur, e1, e2, e3, e4⟩
  · exact ⟨h.1, Or.inl ⟨e1, e2⟩⟩
  · exact ⟨h.1, Or.inr ⟨gg, cap, cur, e1, e2, (Below.heap_setCell _ _ _ _ (fun e => hp (by rw [e1]; show some gg = _; rw [e]))).trans e3, e4⟩⟩
theorem raw_form {w : World} {base e n size : Nat} {v : Value} {xs : List Value} (h : w.ownsRow base e size v n xs) : ∃ (A : Option Addr) (c : Nat), v = .slice A n c ∧ (A = none → c = 0) := by
  rcases h.2 with ⟨e1, e2⟩ | ⟨g, cap, cur, e1, _⟩
  · exact ⟨none, 0, by rw [e1, e2], fun _ => rfl⟩
  · exact ⟨_, cap, e1, fun e => (by cases e)⟩
theorem OwnR.apart {α : Type} {n m : Nat} {E T : TypeId} {g : α → List Int} {w : World} {B B2 size : Nat} {v v2 : Value} {L : List α} {xs : List Value} (h : OwnR n E g w B v L) (h2 : w.ownsRow B2 T size v2 m xs) (hne : E ≠ T) : ∀ q, v.ownBlock = some q → some q ≠ v2.ownBlock := fun q e e2 => by
  rcases h2.2 with ⟨f1, _⟩ | ⟨gg, cap, cur, f1, _, f3, _⟩
  · rw [f1] at e2; cases e2
  · rw [f1] at e2
    have e2 : q = gg := Option.some.inj e2
    subst e2
    exact h.off f3 hne e
section
variable {B : Nat} {Ps : List PS} {v : Value} {w w1 : World}
theorem Flt.below (h : Flt B Ps v w) (hb : Below w.heap.size w w1) : Flt B Ps v w1 := ⟨raw_below h.row hb, fun x hx => (h.own x hx).below hb⟩
theorem Flt.set (h : Flt B Ps v w) {b : Nat} (hb : b < B) (j : Nat) (u : Value) : Flt B Ps v (w.setCell ⟨b, j, none⟩ u) :=
  ⟨raw_set h.row (p := ⟨b, j, none⟩) (fun e => by have := (h.row.lt b e).1; omega) u, fun x hx => (h.own x hx).set (p := ⟨b, j, none⟩) (fun e => by have := ((h.own x hx).lt b e).1; omega) u⟩
theorem Flt.places (h : Flt B Ps v w) : ∃ (A : Option Addr) (c : Nat), v = .slice A Ps.length c ∧ PlacesAt w A Ps := by
  rcases h.row.2 with ⟨e1, e2⟩ | ⟨g, cap, cur, e1, _⟩
  · exact ⟨none, 0, by rw [e1, e2], fun k hk => by omega⟩
  · subst e1
    refine ⟨_, cap, rfl, fun k hk => ?_⟩
    have hr := sl_rows (h.own _ (List.getElem_mem hk))
    refine ⟨_, rfl, (h.row.lt g rfl).2, h.row.cells (g := g) rfl k _ (by rw [List.getElem?_map, List.getElem?_eq_getElem hk]; rfl), hr.1, hr.2⟩
/-- One more place. -/
theorem Flt.push (h : Flt B Ps v w) (hB : B ≤ w.heap.size) {x : PS} (hb : Below w.heap.size w w1) (hx : OwnR 4 93 Leaf.l w1 w.heap.size x.sl x.l) {w2 : World} {v2 : Value} (hg : w1.grownBy w2 v.ownBlock) (hr : w2.ownsRow B 85 1 v2 (Ps.length + 1) (Ps.map PS.sl ++ [x.sl])) : Flt B (Ps ++ [x]) v2 w2 := by
  have h1 := h.below hb
  refine ⟨by rw [List.length_append, List.map_append]; exact hr, fun y hy => ?_⟩
  rcases List.mem_append.1 hy with hy | hy
  · exact (h1.own y hy).grown hg ((h1.own y hy).apart h1.row leaf_line)
  · rw [List.mem_singleton.1 hy]
    exact (hx.mono hB).grown hg (hx.apart h1.row leaf_line)
end
theorem new_leaf (w : World) (x : Leaf) : OwnR 4 93 Leaf.l (w.alloc (.cells #[.int .i64 x.c, .int .i64 x.r, .int .i64 x.o, .int .i64 x.t] 93)) w.heap.size (.slice (some ⟨w.heap.size, 0, none⟩) 1 1) [x] :=
  ⟨rfl, Or.inr ⟨w.heap.size, 1, _, rfl, Nat.le_refl _, heap_alloc_new w _, Nat.le_refl _, by unfold maxLen; decide, rfl, rfl⟩⟩
set_option maxRecDepth 100000 in
set_option maxHeartbeats 4000000 in
theorem flat_any (C R : Nat) (w : World) (hC : 1 ≤ C ∧ C ≤ 8) (hR : 1 ≤ R ∧ R ≤ 8) :
    Calls Tryz.prog 55 #[.agg #[.int .i64 C, .int .i64 R]] w (FoldPost w C R (flatP C (C * R))) := by
  have HC := Lib.hid hC; have HR := Lib.hid hR
  clear hC hR
  obtain ⟨i0, hi0, hz0, hz1, hz2⟩ := info_parts info_ls
  go_enter Tryz.func55, Tryz.ntmps55
  go_wp2_with fail
  obtain ⟨b1, h1⟩ : ∃ b, w.heap.size + 1 = b := ⟨_, rfl⟩
  obtain ⟨W0, hW0⟩ : ∃ W0, W0 = ((w.alloc (.cells #[.int .i64 C, .int .i64 R] 89)).alloc (.cells #[.int .i64 0, .int .i64 0, .slice none 0 0] 119)).alloc (.cells #[.int .i64 C, .int .i64 R, .slice none 0 0] 119) := ⟨_, rfl⟩
  have bs0 : BoxAt W0 w.heap.size #[.int .i64 C, .int .i64 R] 89 := by
    rw [hW0]; exact ((BoxAt.new w _ _).alloc _).alloc _
  have br0 : BoxAt W0 (w.heap.size + 1) #[.int .i64 0, .int .i64 0, .slice none 0 0] 119 := by
    rw [hW0]; have := (BoxAt.new (w.alloc (.cells #[.int .i64 C, .int .i64 R] 89)) #[.int .i64 0, .int .i64 0, .slice none 0 0] 119).alloc (.cells #[.int .i64 C, .int .i64 R, .slice none 0 0] 119)
    simpa using this
  have bp0 : BoxAt W0 (w.heap.size + 1 + 1) #[.int .i64 C, .int .i64 R, .slice none 0 0] 119 := by
    rw [hW0]; have := (BoxAt.new ((w.alloc (.cells #[.int .i64 C, .int .i64 R] 89)).alloc (.cells #[.int .i64 0, .int .i64 0, .slice none 0 0] 119)) #[.int .i64 C, .int .i64 R, .slice none 0 0] 119)
    simpa using this
  have hB0 : Below w.heap.size w W0 := by
    rw [hW0]; exact (((Below.refl w.heap.size w).alloc (Nat.le_refl _) _).alloc (by simp) _).alloc (by simp; omega) _
  have F0 : Flt (w.heap.size + 3) [] (.slice none 0 0) W0 := ⟨World.ownsRow_nil _ _ _ _, fun _ h => absurd h List.not_mem_nil⟩
  rw [← hW0]
  clear hW0 h1
  go_loopw [10] (fun i wr => ∃ (r : Nat) (Ps : List PS) (v : Value), r ≤ R ∧ i = .int .i64 r ∧ BoxAt wr w.heap.size #[.int .i64 C, .int .i64 R] 89 ∧ BoxAt wr (w.heap.size + 1) #[.int .i64 0, .int .i64 0, .slice none 0 0] 119 ∧ BoxAt wr (w.heap.size + 1 + 1) #[.int .i64 C, .int .i64 R, v] 119 ∧ Flt (w.heap.size + 3) Ps v wr ∧ Below w.heap.size w wr ∧ Hid (Ps.map (·.l) = flatP C (r * C))) (fun i _ => R - (intOf i).toNat)
  case atStart => exact ⟨0, [], _, Nat.zero_le _, rfl, bs0, br0, bp0, F0, hB0, Lib.hid (by rw [Nat.zero_mul]; rfl)⟩
  case round =>
    obtain ⟨r, Ps, v, hr, rfl, bs, br, bp, F, hB, HQ⟩ := hrel
    clear bs0 br0 bp0 F0 hB0
    have c0 := bs.cell 0
    simp at c0
    by_cases hlt : r < R
    · go_wp2
      obtain ⟨wo, rfl⟩ : ∃ wo : World, wo = wr := ⟨_, rfl⟩
      go_loopw [15] (fun i wr => ∃ (k : Nat) (Ps : List PS) (v : Value), k ≤ C ∧ i = .int .i64 k ∧ BoxAt wr w.heap.size #[.int .i64 C, .int .i64 R] 89 ∧ BoxAt wr (w.heap.size + 1) #[.int .i64 0, .int .i64 0, .slice none 0 0] 119 ∧ BoxAt wr (w.heap.size + 1 + 1) #[.int .i64 C, .int .i64 R, v] 119 ∧ Flt (w.heap.size + 3) Ps v wr ∧ Below w.heap.size w wr ∧ Hid (Ps.map (·.l) = flatP C (r * C + k))) (fun i _ => C - (intOf i).toNat)
      case atStart => exact ⟨0, Ps, v, Nat.zero_le _, rfl, bs, br, bp, F, hB, HQ⟩
      case round =>
        obtain ⟨k, Ps, v, hk, rfl, bs, br, bp, F, hB, HQ⟩ := hrel
        clear c0
        by_cases hkC : k < C
        · obtain ⟨s, hs⟩ : ∃ s, r * C + k = s := ⟨_, rfl⟩
          rw [hs] at HQ
          have hlf := leafAt_eq hs hkC
          have hlen : Ps.length ≤ 64 := by
            have h1 := congrArg List.length HQ.out
            simp [flatP] at h1
            have h2 := HC.out; have h3 := HR.out
            have h4 := mul_lt hlt hkC
            have h5 : C * R ≤ 8 * 8 := Nat.mul_le_mul h2.2 h3.2
            omega
          have hk8 : k < 8 := by have := HC.out; omega
          have HS := Lib.hid hs; have HLF := Lib.hid hlf
          clear hs hlf
          obtain ⟨A, cv, rfl, hAn⟩ := raw_form F.row
          have q2 := bp.cell 2
          have z2 := bp.free 2
          have hbl := bp.lt
          simp at q2
          have hbw : w.heap.size + 3 ≤ wr.heap.size := by omega
          have hne : (Value.slice A Ps.length cv).ownBlock ≠ some (w.heap.size + 1 + 1) := fun e => by
            have := (F.row.lt _ e).1; omega
          go_wp2_with (at_builtin; refine wpList_append_lies _ rfl _ _ 117 rfl (w.heap.size + 3) 85 i0 _ 1 24 Tryz.underlying117 hi0 hz0 hz1 hz2 rfl (by decide) (.slice A Ps.length cv) Ps.length (Ps.map PS.sl) rfl ((F.row.alloc _).alloc _) ⟨wr.heap.size + 1, 0, none⟩ 1 1 [.slice (some ⟨wr.heap.size, 0, none⟩) 1 1] rfl rfl (by simpa using World.news_of_block (cs := #[.slice (some ⟨wr.heap.size, 0, none⟩) 1 1]) (t := 85) (fr := (0, 0)) (heap_alloc_new (wr.alloc (.cells #[.int .i64 k, .int .i64 r, .int .i64 0, .int .i64 0] 93)) _)) (by simp [Value.oneCell']) (by omega) (by unfold maxLen; omega) (by omega) (by simp; omega) (wr.heap.size + 2) (by simp) ?_; intro g8 c8 w8 hown8 hg8 hat8 hlt8; have bp8 := ((bp.alloc _).alloc _).grown hg8 (fun e => hne e.symm); have x8 := bp8.cell 2; have z8 := bp8.free 2; simp at x8)
          have hA := ((Below.refl wr.heap.size wr).alloc (Nat.le_refl _) (.cells #[.int .i64 k, .int .i64 r, .int .i64 0, .int .i64 0] 93)).alloc (by simp) (.cells #[.slice (some ⟨wr.heap.size, 0, none⟩) 1 1] 85)
          have F8 := F.push hbw (x := ⟨some ⟨wr.heap.size, 0, none⟩, 1, [⟨k, r, 0, 0⟩]⟩) hA ((new_leaf wr ⟨k, r, 0, 0⟩).alloc _) hg8 hown8
          have hne1 : (Value.slice A Ps.length cv).ownBlock ≠ some (w.heap.size + 1) := fun e => by
            have := (F.row.lt _ e).1; omega
          have hne0 : (Value.slice A Ps.length cv).ownBlock ≠ some w.heap.size := fun e => by
            have := (F.row.lt _ e).1; omega
          have bs8 := ((bs.alloc (.cells #[.int .i64 k, .int .i64 r, .int .i64 0, .int .i64 0] 93)).alloc (.cells #[.slice (some ⟨wr.heap.size, 0, none⟩) 1 1] 85)).grown hg8 (fun e => hne0 e.symm)
          have br8 := ((br.alloc (.cells #[.int .i64 k, .int .i64 r, .int .i64 0, .int .i64 0] 93)).alloc (.cells #[.slice (some ⟨wr.heap.size, 0, none⟩) 1 1] 85)).grown hg8 (fun e => hne1 e.symm)
          have hB8 := (hB.trans (hA.mono (B' := w.heap.size) hB.size)).grown hg8 (by simp; omega) (fun q e => by have := (F.row.lt q e).1; omega)
          have hne8 : g8 ≠ w.heap.size + 1 + 1 := by
            have := (hown8.lt g8 rfl).1; omega
          go_roundw
          case rel =>
            refine ⟨k + 1, Ps ++ [⟨some ⟨wr.heap.size, 0, none⟩, 1, [⟨k, r, 0, 0⟩]⟩], .slice (some ⟨g8, 0, none⟩) (Ps.length + 1) c8, by omega, by go_num, bs8.set_other (p := ⟨w.heap.size + 1 + 1, 2, none⟩) (by show w.heap.size ≠ w.heap.size + 1 + 1; omega) _, br8.set_other (p := ⟨w.heap.size + 1 + 1, 2, none⟩) (by show w.heap.size + 1 ≠ w.heap.size + 1 + 1; omega) _, bp8.set 2 _, F8.set (by omega) 2 _, hB8.setCell (p := ⟨w.heap.size + 1 + 1, 2, none⟩) (by show w.heap.size ≤ w.heap.size + 1 + 1; omega) _, Lib.hid ?_⟩
            rw [List.map_append, HQ.out, ← Nat.add_assoc, HS.out, flatP_succ, HLF.out]; rfl
          case measure => simp [intOf]; omega
        · have hkC' : k = C := by omega
          have c0 := bs.cell 0
          simp at c0
          have hrs : r * C + k = (r + 1) * C := by rw [hkC', Nat.succ_mul]
          rw [hrs] at HQ
          have hr8 : r < 8 := by have := HR.out; omega
          clear hrs
          go_wp2
          go_roundw
          case rel => exact ⟨r + 1, Ps, v, by omega, by go_num, bs, br, bp, F, hB, HQ⟩
          case measure => simp [intOf]; omega
    · have hrR : r = R := by omega
      have hrs : r * C = C * R := by rw [hrR, Nat.mul_comm]
      rw [hrs] at HQ
      obtain ⟨A, cv, rfl, hP⟩ := F.places
      have ca0 := bp.cell 0; have ca1 := bp.cell 1; have ca2 := bp.cell 2
      have cr0 := br.cell 0; have cr1 := br.cell 1; have cr2 := br.cell 2
      have fr := fun j => br.free j
      have hlr := br.lt
      simp at ca0 ca1 ca2 cr0 cr1 cr2
      clear hrs
      go_wp2
      refine bodyPost_ret (v := .agg #[.int .i64 C, .int .i64 R, .slice A Ps.length cv]) (by simp [results, Tryz.results55, go_sem, cr0, cr1, cr2]) rfl ?_
      refine ⟨A, Ps.length, cv, Ps, rfl, rfl, ?_, ⟨fun ad e => by have := (F.row.lt ad.block (by rw [e]; rfl)).1; omega, fun x hx ad e => Nat.le_trans (by omega) (sl_from (F.own x hx) ad e)⟩, HQ.out, ?_⟩
      · obtain ⟨A', cv', e, hP'⟩ := (((F.set (b := w.heap.size + 1) (by omega) 0 (.int .i64 C)).set (b := w.heap.size + 1) (by omega) 1 (.int .i64 R)).set (b := w.heap.size + 1) (by omega) 2 (.slice A Ps.length cv)).places
        injection e with e1 _ e3
        subst e1
        exact hP'
      · exact ((hB.setCell (p := ⟨w.heap.size + 1, 0, none⟩) (by show w.heap.size ≤ w.heap.size + 1; omega) _).setCell (p := ⟨w.heap.size + 1, 1, none⟩) (by show w.heap.size ≤ w.heap.size + 1; omega) _).setCell (p := ⟨w.heap.size + 1, 2, none⟩) (by show w.heap.size ≤ w.heap.size + 1; omega) _
end Go.Proofs.YtnpehnfcccdcbaaGreatDoor
