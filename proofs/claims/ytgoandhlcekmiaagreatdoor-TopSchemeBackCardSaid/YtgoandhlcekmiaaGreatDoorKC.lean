/-
  Package impose: the pile with which a sheet begins.
-/
import Derived.Test.YtgoandhlcekmiaaGreatDoorIK
namespace Go.Proofs.YtgoandhlcekmiaaGreatDoor
open Go.RowKit

def leafAt (C s : Nat) : Leaf := ⟨((s % C : Nat) : Int), ((s / C : Nat) : Int), 0, 0⟩
def flatP (C s : Nat) : List (List Leaf) := (List.range s).map fun i => [leafAt C i]
theorem flatP_succ (C s : Nat) : flatP C (s + 1) = flatP C s ++ [[leafAt C s]] := by unfold flatP; rw [List.range_succ, List.map_append]; try rfl
theorem leafAt_eq {C k r s : Nat} (hs : r * C + k = s) (hk : k < C) : leafAt C s = ⟨k, r, 0, 0⟩ := by
  have e1 : s % C = k := by rw [← hs, Nat.mul_comm, Nat.mul_add_mod, Nat.mod_eq_of_lt hk]
  have e2 : s / C = r := by rw [← hs, Nat.mul_comm, Nat.mul_add_div (by omega), Nat.div_eq_of_lt hk, Nat.add_zero]
  unfold leafAt; rw [e1, e2]
/-- Places to which others are appended. -/
structure Flt (B : Nat) (Ps : List PS) (v : Value) (w : World) : Prop where
  row : w.ownsRow B 69 1 v Ps.length (Ps.map PS.sl)
  own : ∀ x ∈ Ps, OwnR 4 77 Leaf.l w B x.sl x.l
theorem raw_below {w w' : World} {base e n size : Nat} {v : Value} {xs : List Value} (h : w.ownsRow base e size v n xs) (hb : Below w.heap.size w w') : w'.ownsRow base e size v n xs := by
  rcases h.2 with ⟨e1, e2⟩ | ⟨gg, cap, cur, e1, e2, e3, e4⟩
  · exact ⟨h.1, Or.inl ⟨e1, e2⟩⟩
  · exact ⟨h.1, Or.inr ⟨gg, cap, cur, e1, e2, (hb.block gg ((h.lt gg (by rw [e1]; try rfl)).2)).trans e3, e4⟩⟩
theorem raw_set {w : World} {base e n size : Nat} {v : Value} {xs : List Value} (h : w.ownsRow base e size v n xs) {p : Addr} (hp : v.ownBlock ≠ some p.block) (u : Value) : (w.setCell p u).ownsRow base e size v n xs := by
  rcases h.2 with ⟨e1, e2⟩ | ⟨gg, cap, cur, e1, e2, e3, e4⟩
  · exact ⟨h.1, Or.inl ⟨e1, e2⟩⟩
  · exact ⟨h.1, Or.inr ⟨gg, cap, cur, e1, e2, (Below.heap_setCell _ _ _ _ (fun e => hp (by rw [e1]; show some gg = _; rw [e]))).trans e3, e4⟩⟩
theorem raw_form {w : World} {base e n size : Nat} {v : Value} {xs : List Value} (h : w.ownsRow base e size v n xs) : ∃ (A : Option Addr) (c : Nat), v = .slice A n c ∧ (A = none → c = 0) := by
  rcases h.2 with ⟨e1, e2⟩ | ⟨g, cap, cur, e1, _⟩
  · exact ⟨none, 0, by rw [e1, e2], fun _ => rfl⟩
  · exact ⟨_, cap, e1, fun e => (by cases e)⟩
theorem OwnR.apart {α : Type} {n m : Nat} {E T : TypeId} {g : α → List Int} {w : World} {B B2 size : Nat} {v v2 : Value} {L : List α} {xs : List Value} (h : OwnR n E g w B v L) (h2 : w.ownsRow B2 T size v2 m xs) (hne : E ≠ T) : ∀ q, v.ownBlock = some q → some q ≠ v2.ownBlock := fun q e e2 => by
  rcases h2.2 with ⟨f1, _⟩ | ⟨gg, cap, cur, f1, _, f3, _⟩
  · rw [f1] at e2; cases e2
  · rw [f1] at e2
    have e2 : q = gg := Option.some.inj e2
    subst e2
    exact h.off f3 hne e
section
variable {B : Nat} {Ps : List PS} {v : Value} {w w1 : World}
theorem Flt.below (h : Flt B Ps v w) (hb : Below w.heap.size w w1) : Flt B Ps v w1 := ⟨raw_below h.row hb, fun x hx => (h.own x hx).below hb⟩
theorem Flt.set (h : Flt B Ps v w) {b : Nat} (hb : b < B) (j : Nat) (u : Value) : Flt B Ps v (w.setCell ⟨b, j, none⟩ u) :=
  ⟨raw_set h.row (p := ⟨b, j, none⟩) (fun e => by have := (h.row.lt b e).1; omega) u, fun x hx => (h.own x hx).set (p := ⟨b, j, none⟩) (fun e => by have := ((h.own x hx).lt b e).1; omega) u⟩
theorem Flt.places (h : Flt B Ps v w) : ∃ (A : Option Addr) (c : Nat), v = .slice A Ps.length c ∧ PlacesAt w A Ps := by
  rcases h.row.2 with ⟨e1, e2⟩ | ⟨g, cap, cur, e1, _⟩
  · exact ⟨none, 0, by rw [e1, e2], fun k hk => by omega⟩
  · subst e1
    refine ⟨_, cap, rfl, fun k hk => ?_⟩
    have hr := sl_rows (h.own _ (List.getElem_mem hk))
    refine ⟨_, rfl, (h.row.lt g rfl).2, h.row.cells (g := g) rfl k _ (by rw [List.getElem?_map, List.getElem?_eq_getElem hk]; try rfl), hr.1, hr.2⟩
/-- One more place. -/
theorem Flt.push (h : Flt B Ps v w) (hB : B ≤ w.heap.size) {x : PS} (hb : Below w.heap.size w w1) (hx : OwnR 4 77 Leaf.l w1 w.heap.size x.sl x.l) {w2 : World} {v2 : Value} (hg : w1.grownBy w2 v.ownBlock) (hr : w2.ownsRow B 69 1 v2 (Ps.length + 1) (Ps.map PS.sl ++ [x.sl])) : Flt B (Ps ++ [x]) v2 w2 := by
  have h1 := h.below hb
  refine ⟨by rw [List.length_append, List.map_append]; exact hr, fun y hy => ?_⟩
  rcases List.mem_append.1 hy with hy | hy
  · exact (h1.own y hy).grown hg ((h1.own y hy).apart h1.row leaf_line)
  · rw [List.mem_singleton.1 hy]
    exact (hx.mono hB).grown hg (hx.apart h1.row leaf_line)
end
theorem new_leaf (w : World) (x : Leaf) : OwnR 4 77 Leaf.l (w.alloc (.cells #[.int .i64 x.c, .int .i64 x.r, .int .i64 x.o, .int .i64 x.t] 77)) w.heap.size (.slice (some ⟨w.heap.size, 0, none⟩) 1 1) [x] :=
  ⟨rfl, Or.inr ⟨w.heap.size, 1, _, rfl, Nat.le_refl _, heap_alloc_new w _, Nat.le_refl _, by unfold maxLen; decide, rfl, rfl⟩⟩
set_option maxRecDepth 100000 in
set_option maxHeartbeats 4000000 in
theorem flat_any (C R : Nat) (w : World) (hC : 1 ≤ C ∧ C ≤ 8) (hR : 1 ≤ R ∧ R ≤ 8) :
    Calls Tryz.prog 58 #[.agg #[.int .i64 C, .int .i64 R]] w (FoldPost w C R (flatP C (C * R))) := by
  have HC := Lib.hid hC; have HR := Lib.hid hR
  clear hC hR
  obtain ⟨i0, hi0, hz0, hz1, hz2⟩ := info_parts info_ls
  go_enter Tryz.func58, Tryz.ntmps58
  go_wp2_with fail
  obtain ⟨b1, h1⟩ : ∃ b, w.heap.size + 1 = b := ⟨_, rfl⟩
  obtain ⟨W0, hW0⟩ : ∃ W0, W0 = ((w.alloc (.cells #[.int .i64 C, .int .i64 R] 73)).alloc (.cells #[.int .i64 0, .int .i64 0, .slice none 0 0] 126)).alloc (.cells #[.int .i64 C, .int .i64 R, .slice none 0 0] 126) := ⟨_, rfl⟩
  have bs0 : BoxAt W0 w.heap.size #[.int .i64 C, .int .i64 R] 73 := by
    rw [hW0]; exact ((BoxAt.new w _ _).alloc _).alloc _
  have br0 : BoxAt W0 (w.heap.size + 1) #[.int .i64 0, .int .i64 0, .slice none 0 0] 126 := by
    rw [hW0]; have := (BoxAt.new (w.alloc (.cells #[.int .i64 C, .int .i64 R] 73)) #[.int .i64 0, .int .i64 0, .slice none 0 0] 126).alloc (.cells #[.int .i64 C, .int .i64 R, .slice none 0 0] 126)
    simpa using this
  have bp0 : BoxAt W0 (w.heap.size + 1 + 1) #[.int .i64 C, .int .i64 R, .slice none 0 0] 126 := by
    rw [hW0]; have := (BoxAt.new ((w.alloc (.cells #[.int .i64 C, .int .i64 R] 73)).alloc (.cells #[.int .i64 0, .int .i64 0, .slice none 0 0] 126)) #[.int .i64 C, .int .i64 R, .slice none 0 0] 126)
    simpa using this
  have hB0 : Below w.heap.size w W0 := by
    rw [hW0]; exact (((Below.refl w.heap.size w).alloc (Nat.le_refl _) _).alloc (by simp) _).alloc (by simp; omega) _
  have F0 : Flt (w.heap.size + 3) [] (.slice none 0 0) W0 := ⟨World.ownsRow_nil _ _ _ _, fun _ h => absurd h List.not_mem_nil⟩
  rw [← hW0]
  clear hW0 h1
  go_loopw [10] (fun i wr => ∃ (r : Nat) (Ps : List PS) (v : Value), r ≤ R ∧ i = .int .i64 r ∧ BoxAt wr w.heap.size #[.int .i64 C, .int .i64 R] 73 ∧ BoxAt wr (w.heap.size + 1) #[.int .i64 0, .int .i64 0, .slice none 0 0] 126 ∧ BoxAt wr (w.heap.size + 1 + 1) #[.int .i64 C, .int .i64 R, v] 126 ∧ Flt (w.heap.size + 3) Ps v wr ∧ Below w.heap.size w wr ∧ Hid (Ps.map (·.l) = flatP C (r * C))) (fun i _ => R - (intOf i).toNat)
  case atStart => exact ⟨0, [], _, Nat.zero_le _, rfl, bs0, br0, bp0, F0, hB0, Lib.hid (by rw [Nat.zero_mul]; try rfl)⟩
  case round =>
    obtain ⟨r, Ps, v, hr, rfl, bs, br, bp, F, hB, HQ⟩ := hrel
    clear bs0 br0 bp0 F0 hB0
    have c0 := bs.cell 0
    simp at c0
    by_cases hlt : r < R
    · go_wp2
      obtain ⟨wo, rfl⟩ : ∃ wo : World, wo = wr := ⟨_, rfl⟩
      go_loopw [15] (fun i wr => ∃ (k : Nat) (Ps : List PS) (v : Value), k ≤ C ∧ i = .int .i64 k ∧ BoxAt wr w.heap.size #[.int .i64 C, .int .i64 R] 73 ∧ BoxAt wr (w.heap.size + 1) #[.int .i64 0, .int .i64 0, .slice none 0 0] 126 ∧ BoxAt wr (w.heap.size + 1 + 1) #[.int .i64 C, .int .i64 R, v] 126 ∧ Flt (w.heap.size + 3) Ps v wr ∧ Below w.heap.size w wr ∧ Hid (Ps.map (·.l) = flatP C (r * C + k))) (fun i _ => C - (intOf i).toNat)
      case atStart => exact ⟨0, Ps, v, Nat.zero_le _, rfl, bs, br, bp, F, hB, HQ⟩
      case round =>
        obtain ⟨k, Ps, v, hk, rfl, bs, br, bp, F, hB, HQ⟩ := hrel
        clear c0
        by_cases hkC : k < C
        · obtain ⟨s, hs⟩ : ∃ s, r * C + k = s := ⟨_, rfl⟩
          rw [hs] at HQ
          have hlf := leafAt_eq hs hkC
          have hlen : Ps.length ≤ 64 := by
            have h1 := congrArg List.length HQ.out
            simp [flatP] at h1
            have h2 := HC.out; have h3 := HR.out
            have h4 := mul_lt hlt hkC
            have h5 : C * R ≤ 8 * 8 := Nat.mul_le_mul h2.2 h3.2
            omega
          have hk8 : k < 8 := by have := HC.out; omega
          have HS := Lib.hid hs; have HLF := Lib.hid hlf
          clear hs hlf
          obtain ⟨A, cv, rfl, hAn⟩ := raw_form F.row
          have q2 := bp.cell 2
          have z2 := bp.free 2
          have hbl := bp.lt
          simp at q2
          have hbw : w.heap.size + 3 ≤ wr.heap.size := by omega
          have hne : (Value.slice A Ps.length cv).ownBlock ≠ some (w.heap.size + 1 + 1) := fun e => by
            have := (F.row.lt _ e).1; omega
          go_wp2_with (at_builtin; refine wpList_append_lies _ rfl _ _ 124 rfl (w.heap.size + 3) 69 i0 _ 1 24 Tryz.underlying124 hi0 hz0 hz1 hz2 rfl (by decide) (.slice A Ps.length cv) Ps.length (Ps.map PS.sl) rfl ((F.row.alloc _).alloc _) ⟨wr.heap.size + 1, 0, none⟩ 1 1 [.slice (some ⟨wr.heap.size, 0, none⟩) 1 1] rfl rfl (by simpa using World.news_of_block (cs := #[.slice (some ⟨wr.heap.size, 0, none⟩) 1 1]) (t := 69) (fr := (0, 0)) (heap_alloc_new (wr.alloc (.cells #[.int .i64 k, .int .i64 r, .int .i64 0, .int .i64 0] 77)) _)) (by simp [Value.oneCell']) (by omega) (by unfold maxLen; omega) (by omega) (by simp; omega) (wr.heap.size + 2) (by simp) ?_; intro g8 c8 w8 hown8 hg8 hat8 hlt8; have bp8 := ((bp.alloc _).alloc _).grown hg8 (fun e => hne e.symm); have x8 := bp8.cell 2; have z8 := bp8.free 2; simp at x8)
          have hA := ((Below.refl wr.heap.size wr).alloc (Nat.le_refl _) (.cells #[.int .i64 k, .int .i64 r, .int .i64 0, .int .i64 0] 77)).alloc (by simp) (.cells #[.slice (some ⟨wr.heap.size, 0, none⟩) 1 1] 69)
          have F8 := F.push hbw (x := ⟨some ⟨wr.heap.size, 0, none⟩, 1, [⟨k, r, 0, 0⟩]⟩) hA ((new_leaf wr ⟨k, r, 0, 0⟩).alloc _) hg8 hown8
          have hne1 : (Value.slice A Ps.length cv).ownBlock ≠ some (w.heap.size + 1) := fun e => by
            have := (F.row.lt _ e).1; omega
          have hne0 : (Value.slice A Ps.length cv).ownBlock ≠ some w.heap.size := fun e => by
            have := (F.row.lt _ e).1; omega
          have bs8 := ((bs.alloc (.cells #[.int .i64 k, .int .i64 r, .int .i64 0, .int .i64 0] 77)).alloc (.cells #[.slice (some ⟨wr.heap.size, 0, none⟩) 1 1] 69)).grown hg8 (fun e => hne0 e.symm)
          have br8 := ((br.alloc (.cells #[.int .i64 k, .int .i64 r, .int .i64 0, .int .i64 0] 77)).alloc (.cells #[.slice (some ⟨wr.heap.size, 0, none⟩) 1 1] 69)).grown hg8 (fun e => hne1 e.symm)
          have hB8 := (hB.trans (hA.mono (B' := w.heap.size) hB.size)).grown hg8 (by simp; omega) (fun q e => by have := (F.row.lt q e).1; omega)
          have hne8 : g8 ≠ w.heap.size + 1 + 1 := by
            have := (hown8.lt g8 rfl).1; omega
          go_roundw
          case rel =>
            refine ⟨k + 1, Ps ++ [⟨some ⟨wr.heap.size, 0, none⟩, 1, [⟨k, r, 0, 0⟩]⟩], .slice (some ⟨g8, 0, none⟩) (Ps.length + 1) c8, by omega, by go_num, bs8.set_other (p := ⟨w.heap.size + 1 + 1, 2, none⟩) (by show w.heap.size ≠ w.heap.size + 1 + 1; omega) _, br8.set_other (p := ⟨w.heap.size + 1 + 1, 2, none⟩) (by show w.heap.size + 1 ≠ w.heap.size + 1 + 1; omega) _, bp8.set 2 _, F8.set (by omega) 2 _, hB8.setCell (p := ⟨w.heap.size + 1 + 1, 2, none⟩) (by show w.heap.size ≤ w.heap.size + 1 + 1; omega) _, Lib.hid ?_⟩
            rw [List.map_append, HQ.out, ← Nat.add_assoc, HS.out, flatP_succ, HLF.out]; try rfl
          case measure => simp [intOf]; omega
        · have hkC' : k = C := by omega
          have c0 := bs.cell 0
          simp at c0
          have hrs : r * C + k = (r + 1) * C := by rw [hkC', Nat.succ_mul]
          rw [hrs] at HQ
          have hr8 : r < 8 := by have := HR.out; omega
          clear hrs
          go_wp2
          go_roundw
          case rel => exact ⟨r + 1, Ps, v, by omega, by go_num, bs, br, bp, F, hB, HQ⟩
          case measure => simp [intOf]; omega
    · have hrR : r = R := by omega
      have hrs : r * C = C * R := by rw [hrR, Nat.mul_comm]
      rw [hrs] at HQ
      obtain ⟨A, cv, rfl, hP⟩ := F.places
      have ca0 := bp.cell 0; have ca1 := bp.cell 1; have ca2 := bp.cell 2
      have cr0 := br.cell 0; have cr1 := br.cell 1; have cr2 := br.cell 2
      have fr := fun j => br.free j
      have hlr := br.lt
      simp at ca0 ca1 ca2 cr0 cr1 cr2
      clear hrs
      go_wp2
      refine bodyPost_ret (v := .agg #[.int .i64 C, .int .i64 R, .slice A Ps.length cv]) (by simp [results, Tryz.results58, go_sem, cr0, cr1, cr2]) rfl ?_
      refine ⟨A, Ps.length, cv, Ps, rfl, rfl, ?_, ⟨fun ad e => by have := (F.row.lt ad.block (by rw [e]; try rfl)).1; omega, fun x hx ad e => Nat.le_trans (by omega) (sl_from (F.own x hx) ad e)⟩, HQ.out, ?_⟩
      · obtain ⟨A', cv', e, hP'⟩ := (((F.set (b := w.heap.size + 1) (by omega) 0 (.int .i64 C)).set (b := w.heap.size + 1) (by omega) 1 (.int .i64 R)).set (b := w.heap.size + 1) (by omega) 2 (.slice A Ps.length cv)).places
        injection e with e1 _ e3
        subst e1
        exact hP'
      · exact ((hB.setCell (p := ⟨w.heap.size + 1, 0, none⟩) (by show w.heap.size ≤ w.heap.size + 1; omega) _).setCell (p := ⟨w.heap.size + 1, 1, none⟩) (by show w.heap.size ≤ w.heap.size + 1; omega) _).setCell (p := ⟨w.heap.size + 1, 2, none⟩) (by show w.heap.size ≤ w.heap.size + 1; omega) _
end Go.Proofs.YtgoandhlcekmiaaGreatDoor

namespace Go.Proofs.YtgoandhlcekmiaaGreatDoor
open Go.RowKit

theorem pair_eq {n a b x y : Nat} (ha : a < n) (hb : b < n) : x * n + a = y * n + b ↔ x = y ∧ a = b := by
  constructor
  · intro h
    have h1 : (x * n + a) / n = (y * n + b) / n := by rw [h]
    have h2 : (x * n + a) % n = (y * n + b) % n := by rw [h]
    rw [Nat.mul_comm x, Nat.mul_comm y, Nat.mul_add_div (by omega), Nat.mul_add_div (by omega), Nat.div_eq_of_lt ha, Nat.div_eq_of_lt hb] at h1
    rw [Nat.mul_comm x, Nat.mul_comm y, Nat.mul_add_mod, Nat.mul_add_mod, Nat.mod_eq_of_lt ha, Nat.mod_eq_of_lt hb] at h2
    exact ⟨by omega, h2⟩
  · rintro ⟨rfl, rfl⟩; rfl
/-- The place that stays at a place, and the one that is laid over it. -/
def plainS (C R : Nat) (f : Fold) (c r : Nat) : Option (Nat × Nat) :=
  if f.k = 1 then some (c, r) else if f.k = 2 then some (f.c.toNat + c, r) else if f.k = 3 then some (c, r) else if f.k = 4 then some (c, f.c.toNat + r) else if f.k = 5 then none else some (C - 1 - c, R - 1 - r)
def overS (C R : Nat) (f : Fold) (c r : Nat) : Option (Nat × Nat) :=
  if f.k = 1 then (if 2 * (C - f.c.toNat) - 1 - c < C then some (2 * (C - f.c.toNat) - 1 - c, r) else none)
  else if f.k = 2 then (if c < f.c.toNat then some (f.c.toNat - 1 - c, r) else none)
  else if f.k = 3 then (if 2 * (R - f.c.toNat) - 1 - r < R then some (c, 2 * (R - f.c.toNat) - 1 - r) else none)
  else if f.k = 4 then (if r < f.c.toNat then some (c, f.c.toNat - 1 - r) else none)
  else if f.k = 5 then some (C - 1 - c, r) else none
def numS (C n : Nat) : Option (Nat × Nat) → Nat
  | none => n
  | some x => x.2 * C + x.1
def overT (f : Fold) : Int := if f.k = 3 ∨ f.k = 4 then 1 else 0
def plainT (f : Fold) : Int := if f.k = 6 then 1 else 0
/-- The leaves of a place behind a fold. -/
def placeF (C R : Nat) (f : Fold) (P : List (List Leaf)) (c r : Nat) : List Leaf :=
  (match overS C R f c r with | none => [] | some x => turnL 1 (overT f) (P.getD (x.2 * C + x.1) [])) ++ (match plainS C R f c r with | none => [] | some x => turnL 0 (plainT f) (P.getD (x.2 * C + x.1) []))
/-- Where the places of a fold come to: they are just these two. -/
theorem way_src {C R : Nat} {f : Fold} {C' R' c' r' sc sr : Nat} (hC : 1 ≤ C ∧ C ≤ 8) (hR : 1 ≤ R ∧ R ≤ 8) (h : foldErr C R f = 0) (hC' : afterC C f = C') (hR' : afterR R f = R') (hc : c' < C') (hr : r' < R') (hsc : sc < C) (hsr : sr < R) :
    (((wayOf C R f sc sr).c = c' ∧ (wayOf C R f sc sr).r = r') ↔ (plainS C R f c' r' = some (sc, sr) ∨ overS C R f c' r' = some (sc, sr))) ∧
    (plainS C R f c' r' = some (sc, sr) → (wayOf C R f sc sr).o = 0 ∧ (wayOf C R f sc sr).t = plainT f) ∧
    (overS C R f c' r' = some (sc, sr) → (wayOf C R f sc sr).o = 1 ∧ (wayOf C R f sc sr).t = overT f) := by
  obtain ⟨a, b, d, e, g, i⟩ := fold_ok (by omega) (by omega) h
  obtain ⟨k, qi⟩ := f
  have a : 1 ≤ k ∧ k ≤ 6 := a
  have b : 0 ≤ qi ∧ qi ≤ 4 := b
  have d : k ≤ 4 → 1 ≤ qi := d
  have e : 5 ≤ k → qi = 0 := e
  have g : k ≤ 2 → 2 * qi ≤ C := g
  have i : 3 ≤ k → k ≤ 4 → 2 * qi ≤ R := i
  obtain ⟨q, rfl⟩ : ∃ q : Nat, qi = q := ⟨qi.toNat, by omega⟩
  have h6 : k = 1 ∨ k = 2 ∨ k = 3 ∨ k = 4 ∨ k = 5 ∨ k = 6 := by omega
  rcases h6 with rfl | rfl | rfl | rfl | rfl | rfl
  all_goals
    simp [afterC, afterR] at hC' hR'
    simp only [wayOf, plainS, overS, laidT, laidO, overT, plainT]
    simp
  all_goals first
    | (constructor <;> intro h <;> omega)
    | (constructor
       · constructor
         · intro h
           repeat' split at h
           all_goals repeat' split
           all_goals first | omega | (simp; omega)
         · intro h
           repeat' split at h
           all_goals repeat' split
           all_goals first | omega | (simp at h; omega)
       · constructor
         · intro h1 h2
           repeat' split
           all_goals omega
         · intro h
           repeat' split at h
           all_goals repeat' split
           all_goals first | omega | (simp at h; omega) | simp at h)

theorem src_in {C R : Nat} {f : Fold} {C' R' c' r' : Nat} (hC : 1 ≤ C ∧ C ≤ 8) (hR : 1 ≤ R ∧ R ≤ 8) (h : foldErr C R f = 0) (hC' : afterC C f = C') (hR' : afterR R f = R') (hc : c' < C') (hr : r' < R') :
    (∀ x, plainS C R f c' r' = some x → x.1 < C ∧ x.2 < R) ∧ (∀ x, overS C R f c' r' = some x → x.1 < C ∧ x.2 < R) ∧ (plainS C R f c' r' ≠ none ∨ overS C R f c' r' ≠ none) := by
  obtain ⟨a, b, d, e, g, i⟩ := fold_ok (by omega) (by omega) h
  obtain ⟨k, qi⟩ := f
  have a : 1 ≤ k ∧ k ≤ 6 := a
  have b : 0 ≤ qi ∧ qi ≤ 4 := b
  have d : k ≤ 4 → 1 ≤ qi := d
  have e : 5 ≤ k → qi = 0 := e
  have g : k ≤ 2 → 2 * qi ≤ C := g
  have i : 3 ≤ k → k ≤ 4 → 2 * qi ≤ R := i
  obtain ⟨q, rfl⟩ : ∃ q : Nat, qi = q := ⟨qi.toNat, by omega⟩
  have h6 : k = 1 ∨ k = 2 ∨ k = 3 ∨ k = 4 ∨ k = 5 ∨ k = 6 := by omega
  rcases h6 with rfl | rfl | rfl | rfl | rfl | rfl
  all_goals
    simp [afterC, afterR] at hC' hR'
    simp only [plainS, overS]
    simp
  all_goals first
    | omega
    | (refine ⟨by omega, fun a b => ?_⟩
       split
       · intro h; simp at h; omega
       · intro h; simp at h)
/-- What lies at a place when the first m places have been brought over. -/
def partF (C R : Nat) (f : Fold) (P : List (List Leaf)) (c r m : Nat) : List Leaf :=
  (match overS C R f c r with | none => [] | some x => if x.2 * C + x.1 < m then turnL 1 (overT f) (P.getD (x.2 * C + x.1) []) else []) ++ (match plainS C R f c r with | none => [] | some x => if x.2 * C + x.1 < m then turnL 0 (plainT f) (P.getD (x.2 * C + x.1) []) else [])
theorem accF_at {C R C' R' : Nat} {f : Fold} {P : List (List Leaf)} (hC : 1 ≤ C ∧ C ≤ 8) (hR : 1 ≤ R ∧ R ≤ 8) (h : foldErr C R f = 0) (hC' : afterC C f = C') (hR' : afterR R f = R') {c r : Nat} (hc : c < C') (hr : r < R') :
    ∀ m, m ≤ C * R → (accF C R C' R' f P m).getD (r * C' + c) [] = partF C R f P c r m := by
  intro m
  induction m with
  | zero =>
    intro _
    have : (accF C R C' R' f P 0).getD (r * C' + c) [] = [] := by
      unfold accF
      rw [List.getD_eq_getElem?_getD, List.range_zero, List.foldl_nil, List.getElem?_replicate]
      split <;> rfl
    rw [this]; unfold partF
    cases overS C R f c r <;> cases plainS C R f c r <;> simp
  | succ m ih =>
    intro hm
    obtain ⟨mc, mr, hmC, hmR, hme⟩ : ∃ mc mr, mc < C ∧ mr < R ∧ mr * C + mc = m :=
      ⟨m % C, m / C, Nat.mod_lt _ (by omega), Nat.div_lt_of_lt_mul (by omega), by rw [Nat.mul_comm]; exact Nat.div_add_mod m C⟩
    obtain ⟨w1, w2, w3⟩ := way_src hC hR h hC' hR' hc hr hmC hmR
    have hwo := way_ok (C := C) (R := R) (f := f) (c := (mc : Int)) (r := (mr : Int)) (by omega) (by omega) h (by omega) (by omega)
    rw [hC', hR'] at hwo
    obtain ⟨q, hq⟩ : ∃ q, q = wayOf C R f (mc : Int) (mr : Int) := ⟨_, rfl⟩
    rw [← hq] at w1 w2 w3 hwo
    obtain ⟨qc, qr, qo, qt⟩ := q
    obtain ⟨⟨o1, o2⟩, ⟨o3, o4⟩, o5, o6⟩ := hwo
    have o1 : 0 ≤ qc := o1
    have o2 : qc < C' := o2
    have o3 : 0 ≤ qr := o3
    have o4 : qr < R' := o4
    obtain ⟨uc, rfl⟩ : ∃ u : Nat, qc = u := ⟨qc.toNat, by omega⟩
    obtain ⟨ur, rfl⟩ : ∃ u : Nat, qr = u := ⟨qr.toNat, by omega⟩
    have w1 : ((uc : Int) = c ∧ (ur : Int) = r) ↔ _ := w1
    have w2 : _ → qo = 0 ∧ qt = plainT f := w2
    have w3 : _ → qo = 1 ∧ qt = overT f := w3
    have huc2 : uc < C' := by omega
    have hur2 : ur < R' := by omega
    rw [accF_succ, stepF_eq (C' := C') (j := ur * C' + uc) (P := P) (acc := accF C R C' R' f P m) hme hmC hq (by push_cast; rfl)]
    have hlen := accF_len C R C' R' f P m
    have hjl : r * C' + c < C' * R' := mul_lt hr hc
    have hul : ur * C' + uc < C' * R' := mul_lt hur2 huc2
    have ih := ih (by omega)
    have hnum : ∀ x : Nat × Nat, x.1 < C → (x.2 * C + x.1 = m ↔ x = (mc, mr)) := fun x hx => by
      have := pair_eq (x := x.2) (y := mr) hx hmC
      rw [hme] at this
      rw [this]
      constructor
      · rintro ⟨e1, e2⟩; exact Prod.ext e2 e1
      · rintro rfl; exact ⟨rfl, rfl⟩
    obtain ⟨s1, s2, _⟩ := src_in hC hR h hC' hR' hc hr
    have hju : ur * C' + uc = r * C' + c ↔ ((uc : Int) = c ∧ (ur : Int) = r) := by
      rw [pair_eq huc2 hc]
      constructor
      · rintro ⟨rfl, rfl⟩; exact ⟨rfl, rfl⟩
      · rintro ⟨e1, e2⟩; exact ⟨by omega, by omega⟩
    rw [List.getD_eq_getElem?_getD, List.getElem?_set]
    by_cases hd : ur * C' + uc = r * C' + c
    · rw [if_pos hd, if_pos (by rw [hlen]; omega), hd, ih, Option.getD_some]
      unfold partF
      rcases w1.1 (hju.1 hd) with hp | ho
      · have g1 := w2 hp
        rw [hp]
        simp only [hme]
        rw [if_neg (by omega), if_neg (by omega), if_pos (by omega), g1.1, g1.2]
        cases hov : overS C R f c r with
        | none => simp
        | some x =>
          have hx := s2 x hov
          have hne : x.2 * C + x.1 ≠ m := fun e => by
            have := (hnum x hx.1).1 e
            rw [this] at hov
            have := (w3 hov).1
            omega
          simp only []
          by_cases hlt : x.2 * C + x.1 < m
          · rw [if_pos hlt, if_pos (by omega)]; simp
          · rw [if_neg hlt, if_neg (by omega)]; simp
      · have g1 := w3 ho
        rw [ho]
        simp only [hme]
        rw [if_pos g1.1, if_neg (by omega), if_pos (by omega), g1.1, g1.2]
        cases hov : plainS C R f c r with
        | none => simp
        | some x =>
          have hx := s1 x hov
          have hne : x.2 * C + x.1 ≠ m := fun e => by
            have := (hnum x hx.1).1 e
            rw [this] at hov
            have := (w2 hov).1
            omega
          simp only []
          by_cases hlt : x.2 * C + x.1 < m
          · rw [if_pos hlt, if_pos (by omega)]; simp
          · rw [if_neg hlt, if_neg (by omega)]; simp
    · rw [if_neg hd, ← List.getD_eq_getElem?_getD, ih]
      have hno : ∀ x : Nat × Nat, (plainS C R f c r = some x ∨ overS C R f c r = some x) → x.1 < C → x.2 * C + x.1 ≠ m := fun x hx hx1 e => by
        have := (hnum x hx1).1 e
        rw [this] at hx
        exact hd (hju.2 (w1.2 hx))
      unfold partF
      congr 1
      · cases hov : overS C R f c r with
        | none => rfl
        | some x =>
          have := hno x (Or.inr hov) (s2 x hov).1
          simp only []
          by_cases hlt : x.2 * C + x.1 < m
          · rw [if_pos hlt, if_pos (by omega)]
          · rw [if_neg hlt, if_neg (by omega)]
      · cases hov : plainS C R f c r with
        | none => rfl
        | some x =>
          have := hno x (Or.inl hov) (s1 x hov).1
          simp only []
          by_cases hlt : x.2 * C + x.1 < m
          · rw [if_pos hlt, if_pos (by omega)]
          · rw [if_neg hlt, if_neg (by omega)]
end Go.Proofs.YtgoandhlcekmiaaGreatDoor

namespace Go.Proofs.YtgoandhlcekmiaaGreatDoor
open Go.RowKit

def outF (C R C' R' : Nat) (f : Fold) (P : List (List Leaf)) : List (List Leaf) := (List.range (C' * R')).map fun j => placeF C R f P (j % C') (j / C')
theorem partF_end {C R : Nat} {f : Fold} {P : List (List Leaf)} {c r : Nat} (h1 : ∀ x, plainS C R f c r = some x → x.1 < C ∧ x.2 < R) (h2 : ∀ x, overS C R f c r = some x → x.1 < C ∧ x.2 < R) : partF C R f P c r (C * R) = placeF C R f P c r := by
  unfold partF placeF
  congr 1
  · cases h : overS C R f c r with
    | none => rfl
    | some x => simp only []; rw [if_pos (mul_lt (h2 x h).2 (h2 x h).1)]
  · cases h : plainS C R f c r with
    | none => rfl
    | some x => simp only []; rw [if_pos (mul_lt (h1 x h).2 (h1 x h).1)]
section
variable {C R C' R' : Nat} {f : Fold} {P : List (List Leaf)}
theorem accF_out (hC : 1 ≤ C ∧ C ≤ 8) (hR : 1 ≤ R ∧ R ≤ 8) (h : foldErr C R f = 0) (hC' : afterC C f = C') (hR' : afterR R f = R') : accF C R C' R' f P (C * R) = outF C R C' R' f P := by
  have ha := after_ok (C := (C : Int)) (R := (R : Int)) (f := f) (by omega) (by omega) h
  rw [hC', hR'] at ha
  apply List.ext_getElem
  · rw [accF_len]; simp [outF]
  · intro j h1 h2
    have hj : j < C' * R' := by rw [accF_len] at h1; exact h1
    obtain ⟨c, r, hc, hr, he⟩ : ∃ c r, c < C' ∧ r < R' ∧ r * C' + c = j := ⟨j % C', j / C', Nat.mod_lt _ (by omega), Nat.div_lt_of_lt_mul hj, by rw [Nat.mul_comm]; exact Nat.div_add_mod j C'⟩
    obtain ⟨s1, s2, _⟩ := src_in hC hR h hC' hR' hc hr
    have e := accF_at (P := P) hC hR h hC' hR' hc hr (C * R) (Nat.le_refl _)
    rw [he, partF_end s1 s2, List.getD_eq_getElem?_getD, List.getElem?_eq_getElem h1, Option.getD_some] at e
    rw [e]
    have e1 : j % C' = c := by rw [← he, Nat.mul_comm, Nat.mul_add_mod, Nat.mod_eq_of_lt hc]
    have e2 : j / C' = r := by rw [← he, Nat.mul_comm, Nat.mul_add_div (by omega), Nat.div_eq_of_lt hc, Nat.add_zero]
    simp [outF, e1, e2]
theorem outF_at {c r : Nat} (hc : c < C') (hr : r < R') : (outF C R C' R' f P).getD (r * C' + c) [] = placeF C R f P c r := by
  have e1 : (r * C' + c) % C' = c := by rw [Nat.mul_comm, Nat.mul_add_mod, Nat.mod_eq_of_lt hc]
  have e2 : (r * C' + c) / C' = r := by rw [Nat.mul_comm, Nat.mul_add_div (by omega), Nat.div_eq_of_lt hc, Nat.add_zero]
  have hl : r * C' + c < (outF C R C' R' f P).length := by simp [outF]; exact mul_lt hr hc
  rw [List.getD_eq_getElem?_getD, List.getElem?_eq_getElem hl, Option.getD_some]
  simp [outF, e1, e2]
theorem outF_len : (outF C R C' R' f P).length = C' * R' := by simp [outF]
/-- A right pile. -/
structure PileOk (C R : Nat) (P : List (List Leaf)) : Prop where
  len : P.length = C * R
  pos : ∀ x ∈ P, 0 < x.length
  sum : sumL P ≤ 1000
  bits : ∀ x ∈ P, ∀ y ∈ x, LeafBits y
theorem accF_sum (hC : 1 ≤ C ∧ C ≤ 8) (hR : 1 ≤ R ∧ R ≤ 8) (h : foldErr C R f = 0) (hC' : afterC C f = C') (hR' : afterR R f = R') (hP : P.length = C * R) : ∀ m, m ≤ C * R → sumL (accF C R C' R' f P m) = sumL (P.take m) := by
  intro m
  induction m with
  | zero => intro _; unfold accF; rw [List.range_zero, List.foldl_nil, sumL_rep]; try rfl
  | succ m ih =>
    intro hm
    obtain ⟨mc, mr, hmC, hmR, hme⟩ : ∃ mc mr, mc < C ∧ mr < R ∧ mr * C + mc = m :=
      ⟨m % C, m / C, Nat.mod_lt _ (by omega), Nat.div_lt_of_lt_mul (by omega), by rw [Nat.mul_comm]; exact Nat.div_add_mod m C⟩
    have hwo := way_ok (C := C) (R := R) (f := f) (c := (mc : Int)) (r := (mr : Int)) (by omega) (by omega) h (by omega) (by omega)
    rw [hC', hR'] at hwo
    obtain ⟨q, hq⟩ : ∃ q, q = wayOf C R f (mc : Int) (mr : Int) := ⟨_, rfl⟩
    rw [← hq] at hwo
    obtain ⟨qc, qr, qo, qt⟩ := q
    obtain ⟨⟨o1, o2⟩, ⟨o3, o4⟩, o5, o6⟩ := hwo
    have o1 : 0 ≤ qc := o1
    have o2 : qc < C' := o2
    have o3 : 0 ≤ qr := o3
    have o4 : qr < R' := o4
    obtain ⟨uc, rfl⟩ : ∃ u : Nat, qc = u := ⟨qc.toNat, by omega⟩
    obtain ⟨ur, rfl⟩ : ∃ u : Nat, qr = u := ⟨qr.toNat, by omega⟩
    have hul : ur * C' + uc < (accF C R C' R' f P m).length := by rw [accF_len]; exact mul_lt (by omega) (by omega)
    rw [accF_succ, stepF_eq (C' := C') (j := ur * C' + uc) (P := P) (acc := accF C R C' R' f P m) hme hmC hq (by push_cast; rfl)]
    have h1 := ih (by omega)
    have h2 := sumL_take (L := P) (k := m) (by omega)
    have h3 := getD_in (L := accF C R C' R' f P m) [] hul
    have h4 := getD_in (L := P) (k := m) [] (by omega)
    rw [h3, h4]
    split
    · have := sumL_set hul (turnL qo qt P[m] ++ (accF C R C' R' f P m)[ur * C' + uc])
      rw [List.length_append, turnL_len] at this
      omega
    · have := sumL_set hul ((accF C R C' R' f P m)[ur * C' + uc] ++ turnL qo qt P[m])
      rw [List.length_append, turnL_len] at this
      omega
theorem PileOk.fold (h0 : PileOk C R P) (hC : 1 ≤ C ∧ C ≤ 8) (hR : 1 ≤ R ∧ R ≤ 8) (h : foldErr C R f = 0) (hC' : afterC C f = C') (hR' : afterR R f = R') : PileOk C' R' (outF C R C' R' f P) := by
  have ha := after_ok (C := (C : Int)) (R := (R : Int)) (f := f) (by omega) (by omega) h
  rw [hC', hR'] at ha
  refine ⟨outF_len, ?_, ?_, ?_⟩
  · intro x hx
    obtain ⟨j, hj, rfl⟩ := List.mem_map.1 hx
    have hj : j < C' * R' := by simpa using hj
    have hc : j % C' < C' := Nat.mod_lt _ (by omega)
    have hr : j / C' < R' := Nat.div_lt_of_lt_mul hj
    obtain ⟨s1, s2, s3⟩ := src_in hC hR h hC' hR' hc hr
    have hpos : ∀ x : Nat × Nat, x.1 < C → x.2 < R → 0 < (P.getD (x.2 * C + x.1) []).length := fun x h1 h2 => by
      have hl : x.2 * C + x.1 < P.length := by rw [h0.len]; exact mul_lt h2 h1
      rw [getD_in [] hl]; exact h0.pos _ (List.getElem_mem hl)
    unfold placeF
    rw [List.length_append]
    rcases s3 with s3 | s3
    · cases hp : plainS C R f (j % C') (j / C') with
      | none => exact absurd hp s3
      | some x =>
        have := hpos x (s1 x hp).1 (s1 x hp).2
        simp only [turnL_len]; omega
    · cases hp : overS C R f (j % C') (j / C') with
      | none => exact absurd hp s3
      | some x =>
        have := hpos x (s2 x hp).1 (s2 x hp).2
        simp only [turnL_len]; omega
  · rw [← accF_out hC hR h hC' hR', accF_sum hC hR h hC' hR' h0.len _ (Nat.le_refl _)]
    exact Nat.le_trans (sumL_take_le P _) h0.sum
  · intro x hx y hy
    obtain ⟨j, hj, rfl⟩ := List.mem_map.1 hx
    unfold placeF at hy
    rcases List.mem_append.1 hy with hy | hy
    · split at hy
      · cases hy
      · exact turnL_bits y hy
    · split at hy
      · cases hy
      · exact turnL_bits y hy
theorem sumL_snoc (L : List (List Leaf)) (x : List Leaf) : sumL (L ++ [x]) = sumL L + x.length := by
  induction L with
  | nil => show x.length + 0 = 0 + _; omega
  | cons y L ih => show y.length + sumL (L ++ [x]) = y.length + sumL L + _; omega
theorem sumL_flat (C s : Nat) : sumL (flatP C s) = s := by
  induction s with
  | zero => rfl
  | succ s ih => rw [flatP_succ, sumL_snoc, ih]; try rfl
theorem PileOk.flat (hC : 1 ≤ C ∧ C ≤ 8) (hR : 1 ≤ R ∧ R ≤ 8) : PileOk C R (flatP C (C * R)) := by
  have hm : C * R ≤ 8 * 8 := Nat.mul_le_mul hC.2 hR.2
  refine ⟨by simp [flatP], ?_, by rw [sumL_flat]; omega, ?_⟩
  · intro x hx
    obtain ⟨j, _, rfl⟩ := List.mem_map.1 hx
    exact Nat.one_pos
  · intro x hx y hy
    obtain ⟨j, _, rfl⟩ := List.mem_map.1 hx
    rw [List.mem_singleton.1 hy]
    exact ⟨Or.inl rfl, Or.inl rfl⟩
end
/-- A pile behind folds. -/
def runF : Nat → Nat → List (List Leaf) → List Fold → Nat × Nat × List (List Leaf)
  | C, R, P, [] => (C, R, P)
  | C, R, P, f :: L => runF (afterC C f).toNat (afterR R f).toNat (outF C R (afterC C f).toNat (afterR R f).toNat f P) L
/-- The pile of right folds. -/
def pileP (C R : Int) (L : List Fold) : List Leaf := (runF C.toNat R.toNat (flatP C.toNat (C.toNat * R.toNat)) L).2.2.getD 0 []
theorem runF_step {C R : Nat} {P : List (List Leaf)} {L : List Fold} {k : Nat} (hk : k < L.length) : runF C R P (L.drop k) = runF (afterC C L[k]).toNat (afterR R L[k]).toNat (outF C R (afterC C L[k]).toNat (afterR R L[k]).toNat L[k] P) (L.drop (k + 1)) := by
  rw [List.drop_eq_getElem_cons hk]; try rfl
theorem runF_end {C R : Nat} {P : List (List Leaf)} {L : List Fold} {k : Nat} (hk : ¬ k < L.length) : runF C R P (L.drop k) = (C, R, P) := by
  rw [List.drop_of_length_le (by omega)]; try rfl
/-- What is left of the test of folds behind some of them. -/
theorem foldsErr_ok {C R : Int} {L : List Fold} {k : Nat} {i : Int} (hk : k < L.length) (h : (foldsErr C R (L.drop k) i).2 = 0) : foldErr C R L[k] = 0 ∧ (foldsErr (afterC C L[k]) (afterR R L[k]) (L.drop (k + 1)) (i + 1)).2 = 0 := by
  rw [List.drop_eq_getElem_cons hk] at h
  by_cases he : foldErr C R L[k] = 0
  · refine ⟨he, ?_⟩
    have e : foldsErr C R (L[k] :: L.drop (k + 1)) i = foldsErr (afterC C L[k]) (afterR R L[k]) (L.drop (k + 1)) (i + 1) := by
      show (if _ then _ else _) = _
      rw [if_neg (by simp [he])]
    rw [← e]; exact h
  · exfalso
    have e : foldsErr C R (L[k] :: L.drop (k + 1)) i = (i, foldErr C R L[k]) := by
      show (if _ then _ else _) = _
      rw [if_pos he]
    rw [e] at h
    exact he h
theorem foldsErr_one {C R : Int} {L : List Fold} {k : Nat} {i : Int} (hk : ¬ k < L.length) (h : (foldsErr C R (L.drop k) i).2 = 0) : ¬ 1 < C * R := by
  rw [List.drop_of_length_le (by omega)] at h
  intro h1
  have e : foldsErr C R [] i = (i, 25) := by
    show (if _ then _ else _) = _
    rw [if_pos h1]
  rw [e] at h
  exact absurd h (by simp)
theorem checkFo_ok {C R : Int} {L : List Fold} (h : (checkFo C R L).2 = 0) : sideErr C R = 0 ∧ L.length ≤ 12 ∧ (foldsErr C R (L.drop 0) 0).2 = 0 := by
  unfold checkFo at h
  by_cases h1 : sideErr C R = 0
  · rw [if_neg (by simp [h1])] at h
    by_cases h2 : 12 < L.length
    · rw [if_pos h2] at h; exact absurd h (by simp)
    · rw [if_neg h2] at h; exact ⟨h1, by omega, h⟩
  · rw [if_pos h1] at h; exact absurd h h1
end Go.Proofs.YtgoandhlcekmiaaGreatDoor

namespace Go.Proofs.YtgoandhlcekmiaaGreatDoor
open Go.RowKit

def pileE (C R : Int) (L : List Fold) : List Leaf := if (checkFo C R L).2 = 0 then pileP C R L else []
def PilePost (w : World) (C R : Int) (L : List Fold) (e : Ending) (w' : World) : Prop :=
  ∃ (a : Option Addr) (n c : Nat), e = .returned (.tuple #[.slice a n c, .int .i64 (checkFo C R L).2]) ∧ n = (pileE C R L).length ∧ RowsAt 4 Leaf.l w' a (pileE C R L) ∧ (a = none → c = 0) ∧ Below w.heap.size w w'
set_option maxRecDepth 100000 in
set_option maxHeartbeats 2000000 in
theorem pile_any (C R : Int) (a : Option Addr) (L : List Fold) (c : Nat) (w : World) (hL : RowsAt 2 Fold.l w a L) (hl : L.length ≤ maxLen) (hI : ∀ x ∈ L, OkI x.c) :
    Calls Tryz.prog 23 #[.agg #[.int .i64 C, .int .i64 R], .slice a L.length c] w (PilePost w C R L) := by
  by_cases h1 : (checkFo C R L).2 = 0
  · have HE := Lib.hid (show pileE C R L = pileP C R L by unfold pileE; rw [if_pos h1])
    have HI := Lib.hid hI
    obtain ⟨hs, hl12, hfe⟩ := checkFo_ok h1
    obtain ⟨sC, sR, sm⟩ := side_ok hs
    obtain ⟨cn, rfl⟩ : ∃ n : Nat, C = n := ⟨C.toNat, by omega⟩
    obtain ⟨rn, rfl⟩ : ∃ n : Nat, R = n := ⟨R.toNat, by omega⟩
    have hC8 : 1 ≤ cn ∧ cn ≤ 8 := by omega
    have hR8 : 1 ≤ rn ∧ rn ≤ 8 := by omega
    have H1 := Lib.hid h1; have HFE := Lib.hid hfe; have HC8 := Lib.hid hC8; have HR8 := Lib.hid hR8
    have hcf := fun W hW => checkFolds_any (cn : Int) (rn : Int) a L c W hW hl hI
    rw [h1] at hcf
    have HCF := Lib.hid hcf
    clear h1 hfe sC sR sm hC8 hR8 hs hI hcf
    go_enter Tryz.func23, Tryz.ntmps23
    go_wp2_with fail
    refine (HCF.out _ (hL.alloc _)).mono ?_
    rintro e w1 ⟨rfl, hb1⟩
    have hB1 := ((Below.refl w.heap.size w).alloc (Nat.le_refl _) (.cells #[.int .i64 cn, .int .i64 rn] 22)).trans (hb1.mono (B' := w.heap.size) (by simp))
    have bx1 := (BoxAt.new w #[.int .i64 cn, .int .i64 rn] 22).below hb1
    have c0 := bx1.cell 0; have c1 := bx1.cell 1
    have hbl := bx1.lt
    simp at c0 c1
    clear hb1
    go_wp2_with fail
    refine (sizeOf_any _ _ _).mono ?_
    rintro e w2 ⟨rfl, hb2⟩
    have hB2 := hB1.trans (hb2.mono (B' := w.heap.size) hB1.size)
    clear hb2 c0 c1 hbl bx1 hB1
    go_wp2_with fail
    refine (flat_any cn rn _ HC8.out HR8.out).mono ?_
    rintro e w3 ⟨A, n, cp, Ps, rfl, hn, hP3, hF3, hPs, hb3⟩
    have hB3 := hB2.trans (hb3.mono (B' := w.heap.size) hB2.size)
    clear hb3 hB2
    obtain ⟨bp, hbp⟩ : ∃ bp, w3.heap.size = bp := ⟨_, rfl⟩
    have hPs0 : Hid (Ps.map (·.l) = flatP cn (cn * rn)) := hPs
    have bp0 : BoxAt (w3.alloc (.cells #[.int .i64 cn, .int .i64 rn, .slice A n cp] 126)) bp #[.int .i64 cn, .int .i64 rn, .slice A n cp] 126 := by rw [← hbp]; exact BoxAt.new _ _ _
    have hP4 := hP3.alloc (.cells #[.int .i64 cn, .int .i64 rn, .slice A n cp] 126)
    have hB4 := hB3.alloc hB3.size (.cells #[.int .i64 cn, .int .i64 rn, .slice A n cp] 126)
    have hwbp : w.heap.size ≤ bp := by rw [← hbp]; exact hB3.size
    have hOk : Hid (PileOk cn rn (Ps.map (·.l))) := Lib.hid (by rw [hPs]; exact PileOk.flat HC8.out HR8.out)
    have HN := Lib.hid hn
    clear hn hPs hP3 hB3
    go_wp2_with fail
    have HBP := Lib.hid hbp
    clear hbp
    go_loopw [25] (fun i wr => ∃ (k C' R' : Nat) (A : Option Addr) (n cp : Nat) (Ps : List PS), k ≤ L.length ∧ i = .int .i64 k ∧ BoxAt wr bp #[.int .i64 C', .int .i64 R', .slice A n cp] 126 ∧ Hid (n = Ps.length) ∧ PlacesAt wr A Ps ∧ Hid ((1 ≤ C' ∧ C' ≤ 8) ∧ (1 ≤ R' ∧ R' ≤ 8)) ∧ Hid (PileOk C' R' (Ps.map (·.l))) ∧ Hid ((foldsErr C' R' (L.drop k) k).2 = 0) ∧ Hid (runF cn rn (flatP cn (cn * rn)) (L.drop 0) = runF C' R' (Ps.map (·.l)) (L.drop k)) ∧ Below w.heap.size w wr) (fun i _ => L.length - (intOf i).toNat)
    case atStart => exact ⟨0, cn, rn, A, n, cp, Ps, Nat.zero_le _, rfl, bp0, HN, hP4, Lib.hid ⟨HC8.out, HR8.out⟩, hOk, HFE, Lib.hid (by rw [hPs0.out]), hB4⟩
    case round =>
      obtain ⟨k, C', R', A, n, cp, Ps, hk, rfl, bx, HN, hP, HS, HOK, HFE', HR, hB⟩ := hrel
      clear bp0 hP4 hB4 hF3
      have c0 := bx.cell 0; have c1 := bx.cell 1; have c2 := bx.cell 2
      have z := fun j => bx.free j
      have hbl := bx.lt
      simp at c0 c1 c2
      by_cases hlt : k < L.length
      · obtain ⟨ad, rfl, had, s0, s1⟩ := (hL.below hB).fold hlt
        obtain ⟨f, ef⟩ : ∃ x, x = L[k] := ⟨_, rfl⟩
        rw [← ef] at s0 s1
        obtain ⟨hfe1, hfe2⟩ := foldsErr_ok hlt HFE'.out
        rw [← ef] at hfe1 hfe2
        have ha := after_ok (C := (C' : Int)) (R := (R' : Int)) (f := f) (by have := HS.out; omega) (by have := HS.out; omega) hfe1
        obtain ⟨C2, hC2⟩ : ∃ n : Nat, afterC C' f = n := ⟨(afterC C' f).toNat, by omega⟩
        obtain ⟨R2, hR2⟩ : ∃ n : Nat, afterR R' f = n := ⟨(afterR R' f).toNat, by omega⟩
        rw [hC2, hR2] at ha hfe2
        have hok2 := Lib.hid (HOK.out.fold HS.out.1 HS.out.2 hfe1 hC2 hR2)
        have hrs : Hid (runF C' R' (Ps.map (·.l)) (L.drop k) = runF C2 R2 (outF C' R' C2 R2 f (Ps.map (·.l))) (L.drop (k + 1))) := Lib.hid (by
          rw [runF_step hlt, ← ef, hC2, hR2, Int.toNat_natCast, Int.toNat_natCast])
        have hfd := fun W hW => folded_any C' R' C2 R2 A n cp f Ps W HS.out.1 HS.out.2 hfe1 hC2 hR2 HN.out hW (by have := HOK.out.len; rw [List.length_map] at this; exact this) (fun x hx => HOK.out.pos _ (List.mem_map.2 ⟨x, hx, rfl⟩)) HOK.out.sum (fun x hx => HOK.out.bits _ (List.mem_map.2 ⟨x, hx, rfl⟩))
        rw [accF_out HS.out.1 HS.out.2 hfe1 hC2 hR2] at hfd
        have HFD := Lib.hid hfd
        have HS2 : Hid ((1 ≤ C2 ∧ C2 ≤ 8) ∧ (1 ≤ R2 ∧ R2 ≤ 8)) := Lib.hid (by have := HS.out; omega)
        have HF2 : Hid ((foldsErr C2 R2 (L.drop (k + 1)) ((k + 1 : Nat) : Int)).2 = 0) := Lib.hid (by push_cast; exact hfe2)
        have hk12 : k ≤ 12 := by omega
        clear hfd ef ha hfe1 hfe2 hC2 hR2
        go_wp2_with fail
        refine (HFD.out _ (hP.alloc _)).mono ?_
        rintro e w5 ⟨A2, n2, cp2, Ps2, rfl, hn2, hP2, hF2, hPs2, hb5⟩
        have bx5 := (bx.alloc _).below hb5
        have hB5 := (hB.alloc hB.size _).trans (hb5.mono (B' := w.heap.size) (by have := hB.size; simp; omega))
        have hFb : FromB (bp + 1) A2 Ps2 := by
          have : bp + 1 ≤ (wr.alloc (.cells #[.int .i64 f.k, .int .i64 f.c] 59)).heap.size := by simp; omega
          exact ⟨fun ad e => Nat.le_trans this (hF2.1 ad e), fun x hx ad e => Nat.le_trans this (hF2.2 x hx ad e)⟩
        have HN2 := Lib.hid hn2
        have HP2 := Lib.hid hPs2
        clear c0 c1 c2 z hbl s0 s1 hb5 hn2 hPs2 hF2 hP
        have c0 := bx5.cell 0; have c1 := bx5.cell 1; have c2 := bx5.cell 2
        have z := fun j => bx5.free j
        have hbl := bx5.lt
        simp at c0 c1 c2
        go_wp2_with fail
        go_roundw
        case rel =>
          refine ⟨k + 1, C2, R2, A2, n2, cp2, Ps2, by omega, by go_num, ((bx5.set 0 _).set 1 _).set 2 _, HN2, ((hP2.set hFb (Nat.lt_succ_self bp) 0 _).set hFb (Nat.lt_succ_self bp) 1 _).set hFb (Nat.lt_succ_self bp) 2 _, HS2, Lib.hid (by rw [HP2.out]; exact hok2.out), HF2, Lib.hid (by rw [HR.out, hrs.out, HP2.out]), ((hB5.setCell (p := ⟨bp, 0, none⟩) hwbp _).setCell (p := ⟨bp, 1, none⟩) hwbp _).setCell (p := ⟨bp, 2, none⟩) hwbp _⟩
        case measure => simp [intOf]; omega
      · have hone := foldsErr_one hlt HFE'.out
        have hend := runF_end (C := C') (R := R') (P := Ps.map (·.l)) hlt
        have hlen1 : Ps.length = 1 := by
          have h1 := HOK.out.len
          rw [List.length_map] at h1
          have h2 : C' * R' ≤ 1 := by
            have : ((C' * R' : Nat) : Int) ≤ 1 := by push_cast; omega
            omega
          have h3 := HS.out
          have h4 : 1 * 1 ≤ C' * R' := Nat.mul_le_mul h3.1.1 h3.2.1
          omega
        obtain ⟨x, rfl⟩ := List.length_eq_one_iff.1 hlen1
        obtain ⟨ad, rfl, had, hcell, hrow, hnil⟩ := hP 0 (Nat.zero_lt_one)
        have hn1 : n = 1 := HN.out
        have HX : Hid (pileE cn rn L = x.l) := Lib.hid (by
          rw [HE.out]; unfold pileP
          rw [Int.toNat_natCast, Int.toNat_natCast, ← List.drop_zero (l := L), HR.out, hend]; try rfl)
        simp only [List.getElem_cons_zero] at hcell hrow hnil
        unfold PS.sl at hcell
        rw [show ad.add 0 = ad by unfold Addr.add; rw [if_pos rfl]] at hcell
        subst hn1
        clear hone hend
        go_wp2_with fail
        go_ret2
        exact ⟨x.a, x.l.length, x.c, by rw [H1.out]; try rfl, by rw [HX.out], by rw [HX.out]; exact hrow, hnil, hB⟩
  · have HE := Lib.hid (show pileE C R L = [] by unfold pileE; rw [if_neg h1])
    have heb : ((checkFo C R L).2 != 0) = true := by simpa using h1
    clear h1
    go_enter Tryz.func23, Tryz.ntmps23
    go_wp2_with fail
    refine (checkFolds_any C R a L c _ (hL.alloc _) hl hI).mono ?_
    rintro e w1 ⟨rfl, hb1⟩
    have hB1 := ((Below.refl w.heap.size w).alloc (Nat.le_refl _) (.cells #[.int .i64 C, .int .i64 R] 22)).trans (hb1.mono (B' := w.heap.size) (by simp))
    go_wp2_with fail
    go_ret2
    exact ⟨none, 0, 0, rfl, by rw [HE.out]; try rfl, by rw [HE.out]; exact RowsAt.nil _ _, fun _ => rfl, hB1⟩
end Go.Proofs.YtgoandhlcekmiaaGreatDoor
