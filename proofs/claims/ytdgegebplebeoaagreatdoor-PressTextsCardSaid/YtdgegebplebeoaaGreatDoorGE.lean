/-
  Package press: a tree of orders grows. (Under way: see NOTES.)
-/
import Derived.Test.YtdgegebplebeoaaGreatDoorGF
namespace Go.Proofs.YtdgegebplebeoaaGreatDoor
open Go.RowKit Go.Maps Go.Shelf
attribute [local go_sem] Oper.semAt_some

set_option maxRecDepth 100000 in
set_option maxHeartbeats 8000000 in
theorem grow_any : ∀ (f : Nat) (w0 W : World) (b : Nat) (x : Cols) (bnd : Int) (O : List Int) (m : Nat) (nv ov : Value) (xs : List Value), (leftK O x.m.length).length < f → TS w0 W b x bnd O m nv ov xs → ColsAt w0 x → ColsOk x → O.length + (leftK O x.m.length).length ≤ 6 → (∀ y ∈ O, 0 ≤ y ∧ y < x.m.length) → m + cntN (leftK O x.m.length).length ≤ 1000000 →
    Calls Tryz.prog 46 #[.pointer (some ⟨b, 0, none⟩)] W (GrowPost w0 W b x bnd O m (leftK O x.m.length).length nv ov) := by
  intro f
  induction f with
  | zero => intro w0 W b x bnd O m nv ov xs hf; omega
  | succ f ih =>
    intro w0 W b x bnd O m nv ov xs hf ht hx hok hol hin hcnt
    obtain ⟨na, nc, ev⟩ : ∃ a c, nv = .slice a m c := by
      rcases ht.nod.2 with ⟨e1, e2⟩ | ⟨gg, cap, cur, e1, -⟩
      · exact ⟨none, 0, by rw [e1, e2]⟩
      · exact ⟨_, _, e1⟩
    subst ev
    have HT0 := Lib.hid ht; have HX := Lib.hid hx; have HOK := Lib.hid hok; have HIN := Lib.hid hin; have HIH := Lib.hid ih
    have hb0 := (Below.refl W.heap.size W).alloc (Nat.le_refl _) (.cells #[.pointer (some ⟨b, 0, none⟩)] 124)
    have HP := Lib.hid (BoxAt.new W #[.pointer (some ⟨b, 0, none⟩)] 124)
    have HT1 := Lib.hid (ht.below hb0)
    have b3 : (W.alloc (.cells #[.pointer (some ⟨b, 0, none⟩)] 124)).cell? ⟨b, 3, none⟩ = some (.slice na m nc) := HT1.out.box.cell 3
    have hbl := HT1.out.box.lt
    have hml : m ≤ 1000000 := by omega
    clear ht hx hok hin ih hb0
    refine (callsIn_wide (n := 9)).1 ?_
    refine callsIn_of_wp_marks Tryz.func46 rfl trivial ?_ rfl
    simp only [Tryz.ntmps46, List.size_toArray, List.length_cons, List.length_nil, Nat.reduceAdd, Nat.reduceSub, Array.replicate_succ, Array.replicate_zero, List.push_toArray, List.append_toArray, List.nil_append, List.cons_append]
    gi_wp2
    obtain ⟨V, hV⟩ : ∃ V, V = (W.alloc (.cells #[.pointer (some ⟨b, 0, none⟩)] 124)).alloc (.cells #[.int .i64 1, .int .i64 2] 3) := ⟨_, rfl⟩
    have HVB := Lib.hid (show Below W.heap.size W V by rw [hV]; exact ((Below.refl W.heap.size W).alloc (Nat.le_refl _) _).alloc (by simp) _)
    have HVP := Lib.hid (show BoxAt V W.heap.size #[.pointer (some ⟨b, 0, none⟩)] 124 by rw [hV]; exact (BoxAt.new W _ _).alloc _)
    have HVK := Lib.hid (show IBox V (W.heap.size + 1) [1, 2] by rw [hV]; have h := BoxAt.new (W.alloc (.cells #[.pointer (some ⟨b, 0, none⟩)] 124)) #[.int .i64 1, .int .i64 2] 3; rw [World.size_alloc] at h; exact h)
    have HVZ := Lib.hid (show V.heap.size = W.heap.size + 2 by rw [hV]; simp)
    rw [← hV]
    clear hV b3 hbl
    gi_loopw [14] (fun i wr => ∃ k : Nat, k ≤ 2 ∧ i = .int .i64 k ∧ Below V.heap.size V wr) (fun i _ => 2 - (intOf i).toNat)
    case atStart => exact ⟨0, by omega, rfl, Below.refl _ _⟩
    case round =>
      obtain ⟨k, hk, rfl, hB⟩ := hrel
      have hP := HVP.out.below hB
      have hK := IBox.below HVK.out hB
      have p0 : wr.cell? ⟨W.heap.size, 0, none⟩ = some (.pointer (some ⟨b, 0, none⟩)) := hP.cell 0
      have hpl := hP.lt
      have HB := Lib.hid hB
      have HTW := Lib.hid (HT0.out.below (HVB.out.trans (hB.mono HVB.out.size)))
      by_cases hlt : k < 2
      · obtain ⟨kd, hkd⟩ : ∃ kd : Int, wr.cell? ⟨W.heap.size + 1, k, none⟩ = some (.int .i64 kd) := ⟨_, hK.cell (k := k) (by simpa using hlt)⟩
        have hlt' : (k : Int) < 2 := by omega
        have HH := Lib.hid (holds_any ⟨x, bnd, .slice na m nc, ov, O⟩ w0.heap.size b kd wr (HTW.out.tree HX.out) HOK.out (by show O.length ≤ 6; omega) HIN.out)
        clear hB hP hK
        gi_wp2_with (refine ⟨trivial, ?_⟩; refine (callsIn_wide.2 HH.out).mono ?_; rintro e w1 ⟨⟨bb, rfl⟩, hb1⟩; have HB1 := Lib.hid hb1; clear hb1; cases bb)
        · go_roundw
          case rel => exact ⟨k + 1, by omega, by go_num, HB.out.trans (HB1.out.mono HB.out.size)⟩
          case measure => simp [intOf] <;> omega
        · have HT2 := Lib.hid (HTW.out.below HB1.out)
          have hP2 := (HVP.out.below HB.out).below HB1.out
          have p2 : w1.cell? ⟨W.heap.size, 0, none⟩ = some (.pointer (some ⟨b, 0, none⟩)) := hP2.cell 0
          have hpl2 := hP2.lt
          have b3 : w1.cell? ⟨b, 3, none⟩ = some (.slice na m nc) := HT2.out.box.cell 3
          have f3 : w1.frozen? ⟨b, 3, none⟩ = false := HT2.out.box.free 3
          have hbl2 := HT2.out.box.lt
          have HP2 := Lib.hid hP2
          have p3 : (w1.alloc (.cells #[.int .i64 kd, .slice none 0 0] 126)).cell? ⟨W.heap.size, 0, none⟩ = some (.pointer (some ⟨b, 0, none⟩)) := by rw [World.cell?_alloc_past _ _ _ hpl2]; exact p2
          have b5 : (w1.alloc (.cells #[.int .i64 kd, .slice none 0 0] 126)).cell? ⟨b, 3, none⟩ = some (.slice na m nc) := by rw [World.cell?_alloc_past _ _ _ hbl2]; exact b3
          clear hP2 p0 hpl hkd
          refine wpIn_wide.2 ?_
          refine Code.wp_mono (Q := fun e a' w' => match e with
            | .normal => ∃ (gg cg : Nat) (wg : World), wg.ownsRow w0.heap.size 126 2 (.slice (some ⟨gg, 0, none⟩) (m + 1) cg) (m + 1) (xs ++ [.int .i64 kd, .slice none 0 0]) ∧ w1.drew.grownBy wg (Value.slice na m nc).ownBlock ∧ Below w0.heap.size w1.drew wg ∧ ((Value.slice na m nc).ownBlock = some gg ∨ gg = w1.drew.heap.size + 1) ∧ a' = { tmps := #[.pointer (some ⟨b, 0, none⟩), .pointer (some ⟨W.heap.size, 0, none⟩), u2, .int .i64 m, undef, .int .i64 kd, undef, .pointer (some ⟨b, 0, none⟩), .pointer (some ⟨b, 0, none⟩), .pointer (some ⟨b, 3, none⟩), .slice na m nc, .int .i64 m, .slice (some ⟨W.heap.size + 1, 0, none⟩) 2 2, .int .i64 2, .int .i64 k, .bool true, .pointer (some ⟨W.heap.size + 1, k, none⟩), .int .i64 kd, .pointer (some ⟨b, 0, none⟩), .int .i64 kd, .bool true, .pointer (some ⟨b, 0, none⟩), .pointer (some ⟨b, 0, none⟩), .pointer (some ⟨b, 0, none⟩), .pointer (some ⟨b, 3, none⟩), .slice na m nc, .int .i64 kd, .agg #[.int .i64 kd, .slice none 0 0], .slice (some ⟨w1.heap.size, 0, none⟩) 1 1, .slice (some ⟨gg, 0, none⟩) (m + 1) cg, .pointer (some ⟨b, 0, none⟩), .pointer (some ⟨b, 3, none⟩), u32, u33, undef, undef, undef, undef, undef, undef, undef, undef, undef, undef, undef, undef, undef, undef, undef, undef, undef, undef, undef, undef, undef, undef, undef, undef, undef, undef, undef], defers := [] } ∧ w' = wg.setCell ⟨b, 3, none⟩ (.slice (some ⟨gg, 0, none⟩) (m + 1) cg)
            | _ => False) ?cont ?reg
          case reg =>
            go_region_law (first
              | (refine step_appN w1.drew kd (by rfl) _ _ (by rfl) w0.heap.size _ m xs (by rfl) HT2.out.nod (by rfl) hml (by have := HT2.out.low.size; exact this) ?_; intro gg cg wg hOg hgg hBg hat; have Bg := BoxAt.grown (w := w1.drew) HT2.out.box hgg (fun e => box_ne_own HT2.out.nod HT2.out.box (by decide) e.symm); have g4 : wg.cell? ⟨b, 3, none⟩ = some (.slice na m nc) := Bg.cell 3; have z4 : wg.frozen? ⟨b, 3, none⟩ = false := Bg.free 3; have lg := Bg.lt; have Pg := BoxAt.grown (w := w1.drew) HP2.out hgg (fun e => box_ne_own HT2.out.nod HP2.out (by decide) e.symm); have q0 : wg.cell? ⟨W.heap.size, 0, none⟩ = some (.pointer (some ⟨b, 0, none⟩)) := Pg.cell 0; have lq := Pg.lt))
            all_goals exact ⟨gg, cg, wg, hOg, hgg, hBg, hat, rfl, rfl⟩
          case cont =>
            rintro e a' w' hq
            cases e <;> try exact hq.elim
            obtain ⟨gg, cg, wg, hOg, hgg, hBg, hat, rfl, rfl⟩ := hq
            have hA := HT2.out.addN hOg hgg hBg hat
            have HA := Lib.hid hA
            obtain ⟨W3, hW3⟩ : ∃ W3, W3 = wg.setCell ⟨b, 3, none⟩ (.slice (some ⟨gg, 0, none⟩) (m + 1) cg) := ⟨_, rfl⟩
            rw [← hW3] at HA ⊢
            clear hA hW3 hOg hgg hBg hat p2 p3 b3 b5 f3
            gi_wp2
            have hBW : Below W.heap.size W w1 := HVB.out.trans ((HB.out.trans (HB1.out.mono HB.out.size)).mono HVB.out.size)
            have hcp := (cnt_le (leftK O x.m.length).length (by omega)).1
            obtain ⟨t1, t2, t3, t4, t5⟩ := HA.out
            refine ⟨.int .i64 m, by simp [results, Tryz.results46, go_sem], ⟨m, rfl⟩, .slice (some ⟨gg, 0, none⟩) (m + 1) cg, ov, _, m + 1, t1, by omega, by omega, ?_, ?_, fun q e => Or.inl e, fun q e => ?_⟩
            · exact ⟨Nat.le_trans hBW.size t3, fun q o _ h hc => t5.same q o (Nat.zero_le _) ((hBW.block q (heap_lt h)).trans h) hc⟩
            · exact fun q hq h1 _ h3 => (t2 q (Nat.lt_of_lt_of_le hq hBW.size) h1 h3).trans (hBW.block q hq)
            · rcases t4 q e with h | h
              · exact Or.inl h
              · exact Or.inr (Nat.le_trans hBW.size h)
      · obtain rfl : k = 2 := by omega
        have HP2 := Lib.hid hP
        have b3 : wr.cell? ⟨b, 3, none⟩ = some (.slice na m nc) := HTW.out.box.cell 3
        have f3 : wr.frozen? ⟨b, 3, none⟩ = false := HTW.out.box.free 3
        have hbl2 := HTW.out.box.lt
        have p3 : (wr.alloc (.cells #[.int .i64 0, .slice none 0 0] 126)).cell? ⟨W.heap.size, 0, none⟩ = some (.pointer (some ⟨b, 0, none⟩)) := by rw [World.cell?_alloc_past _ _ _ hpl]; exact p0
        have b5 : (wr.alloc (.cells #[.int .i64 0, .slice none 0 0] 126)).cell? ⟨b, 3, none⟩ = some (.slice na m nc) := by rw [World.cell?_alloc_past _ _ _ hbl2]; exact b3
        clear hP hK hB
        gi_wp2
        refine wpIn_wide.2 ?_
        refine Code.wp_mono (Q := fun e a' w' => match e with
          | .normal => ∃ (gg cg : Nat) (wg : World), wg.ownsRow w0.heap.size 126 2 (.slice (some ⟨gg, 0, none⟩) (m + 1) cg) (m + 1) (xs ++ [.int .i64 0, .slice none 0 0]) ∧ wr.drew.grownBy wg (Value.slice na m nc).ownBlock ∧ Below w0.heap.size wr.drew wg ∧ ((Value.slice na m nc).ownBlock = some gg ∨ gg = wr.drew.heap.size + 1) ∧ a' = { tmps := #[.pointer (some ⟨b, 0, none⟩), .pointer (some ⟨W.heap.size, 0, none⟩), u2, .int .i64 m, undef, u5, undef, .pointer (some ⟨b, 0, none⟩), .pointer (some ⟨b, 0, none⟩), .pointer (some ⟨b, 3, none⟩), .slice na m nc, .int .i64 m, .slice (some ⟨W.heap.size + 1, 0, none⟩) 2 2, .int .i64 2, .int .i64 ((2 : Nat) : Int), .bool false, u16, u17, u18, u19, u20, u21, u22, u23, u24, u25, u26, u27, u28, u29, u30, u31, u32, u33, .pointer (some ⟨b, 0, none⟩), .pointer (some ⟨b, 0, none⟩), .pointer (some ⟨b, 0, none⟩), .pointer (some ⟨b, 3, none⟩), .slice na m nc, .agg #[.int .i64 0, .slice none 0 0], .slice (some ⟨wr.heap.size, 0, none⟩) 1 1, .slice (some ⟨gg, 0, none⟩) (m + 1) cg, .pointer (some ⟨b, 0, none⟩), .pointer (some ⟨b, 3, none⟩), undef, undef, undef, undef, undef, undef, undef, undef, undef, undef, undef, undef, undef, undef, undef, undef, undef], defers := [] } ∧ w' = wg.setCell ⟨b, 3, none⟩ (.slice (some ⟨gg, 0, none⟩) (m + 1) cg)
          | _ => False) ?cont ?reg
        case reg =>
          go_region_law (first
            | (refine step_appN wr.drew 0 (by rfl) _ _ (by rfl) w0.heap.size _ m xs (by rfl) HTW.out.nod (by rfl) hml (by have := HTW.out.low.size; exact this) ?_; intro gg cg wg hOg hgg hBg hat; have Bg := BoxAt.grown (w := wr.drew) HTW.out.box hgg (fun e => box_ne_own HTW.out.nod HTW.out.box (by decide) e.symm); have g4 : wg.cell? ⟨b, 3, none⟩ = some (.slice na m nc) := Bg.cell 3; have z4 : wg.frozen? ⟨b, 3, none⟩ = false := Bg.free 3; have lg := Bg.lt; have Pg := BoxAt.grown (w := wr.drew) HP2.out hgg (fun e => box_ne_own HTW.out.nod HP2.out (by decide) e.symm); have q0 : wg.cell? ⟨W.heap.size, 0, none⟩ = some (.pointer (some ⟨b, 0, none⟩)) := Pg.cell 0; have lq := Pg.lt))
          all_goals exact ⟨gg, cg, wg, hOg, hgg, hBg, hat, rfl, rfl⟩
        case cont =>
          rintro e a' w' hq
          cases e <;> try exact hq.elim
          obtain ⟨gg, cg, wg, hOg, hgg, hBg, hat, rfl, rfl⟩ := hq
          have hA := HTW.out.addN hOg hgg hBg hat
          have hP3 : BoxAt (wg.setCell ⟨b, 3, none⟩ (.slice (some ⟨gg, 0, none⟩) (m + 1) cg)) W.heap.size #[.pointer (some ⟨b, 0, none⟩)] 124 := (hA.2.1 W.heap.size HP2.out.lt (by have := HT0.out.box.lt; omega) (box_ne_own HTW.out.nod HP2.out (by decide))).trans HP2.out
          have HA := Lib.hid hA
          have HP3 := Lib.hid hP3
          obtain ⟨W3, hW3⟩ : ∃ W3, W3 = wg.setCell ⟨b, 3, none⟩ (.slice (some ⟨gg, 0, none⟩) (m + 1) cg) := ⟨_, rfl⟩
          rw [← hW3] at HA HP3 ⊢
          have p4 : (W3.alloc (.cells #[.slice none 0 0] 49)).cell? ⟨W.heap.size, 0, none⟩ = some (.pointer (some ⟨b, 0, none⟩)) := (HP3.out.alloc _).cell 0
          clear hA hP3 hW3 hOg hgg hBg hat p0 p3 b3 b5 f3
          gi_wp2_with (refine ⟨trivial, ?_⟩; refine (callsIn_wide.2 (branches_any b _)).mono ?_; rintro e W5 ⟨rfl, rfl⟩)
          clear p4
          obtain ⟨V6, hV6⟩ : ∃ V6, V6 = (W3.alloc (.cells #[.slice none 0 0] 49)).alloc (.cells #[.pointer (some ⟨b, 0, none⟩)] 124) := ⟨_, rfl⟩
          have hz6 : V6.heap.size = W3.heap.size + 2 := by rw [hV6]; simp
          have hB6 : Below W3.heap.size W3 V6 := by rw [hV6]; exact ((Below.refl _ _).alloc (Nat.le_refl _) _).alloc (by simp) _
          have hx6 : BoxAt V6 W3.heap.size #[.slice none 0 0] 49 := by rw [hV6]; exact (BoxAt.new W3 _ _).alloc _
          have hp6 : BoxAt V6 (W3.heap.size + 1) #[.pointer (some ⟨b, 0, none⟩)] 124 := by
            rw [hV6]; have h := BoxAt.new (W3.alloc (.cells #[.slice none 0 0] 49)) #[.pointer (some ⟨b, 0, none⟩)] 124; rw [World.size_alloc] at h; exact h
          change Code.wpIn _ _ _ _ _ _ ((W3.alloc (.cells #[.slice none 0 0] 49)).alloc (.cells #[.pointer (some ⟨b, 0, none⟩)] 124))
          rw [← hV6]
          clear hV6
          obtain ⟨t1, t2, t3, t4, t5⟩ := HA.out
          have hBW : Below W.heap.size W wr := HVB.out.trans (HB.out.mono HVB.out.size)
          have hts6 := t1.below hB6
          have hne6 : W3.heap.size + 1 ≠ b := by have := t1.box.lt; omega
          have hml6 : x.m.length ≤ 6 := HOK.out.le
          have hkeep6 : ∀ q, q < W.heap.size → q ≠ b → ov.ownBlock ≠ some q → (Value.slice na m nc).ownBlock ≠ some q → V6.heap[q]? = W.heap[q]? := fun q hq h1 _ h3 => (hB6.block q (by have := hBW.size; omega)).trans ((t2 q (Nat.lt_of_lt_of_le hq hBW.size) h1 h3).trans (hBW.block q hq))
          have hfrom6 : KeepsFrom 0 W V6 := ⟨by have := hBW.size; have := hB6.size; omega, fun q o _ h hc => by
            have h1 := t5.same q o (Nat.zero_le _) ((hBW.block q (heap_lt h)).trans h) hc
            exact (hB6.block q (heap_lt h1)).trans h1⟩
          have hnv6 : ∀ q, (Value.slice (some ⟨gg, 0, none⟩) (m + 1) cg).ownBlock = some q → (Value.slice na m nc).ownBlock = some q ∨ W.heap.size ≤ q := fun q e => by
            rcases t4 q e with h | h
            · exact Or.inl h
            · exact Or.inr (Nat.le_trans hBW.size h)
          have hW3 : W.heap.size < W3.heap.size := HP3.out.lt
          have hbW3 : b < W3.heap.size := t1.box.lt
          have hw03 : w0.heap.size ≤ W3.heap.size := t1.low.size
          have hGI : ∀ X, Below V6.heap.size V6 X → GrI w0 W b W3.heap.size (.slice na m nc) ov X.heap.size ov (.slice none 0 0) (.slice (some ⟨gg, 0, none⟩) (m + 1) cg) [] X := fun X hX =>
            ⟨hx6.below hX, OwnR.nil _ _, (fun q e => by cases e), (HP3.out.below hB6).below hX, hp6.below hX, ⟨_, (hts6.below hX).box, rfl⟩, hnv6, fun q e => Or.inl e, fun q hq h1 h2 h3 => (hX.block q (by have := hfrom6.size; omega)).trans (hkeep6 q hq h1 h2 h3),
              hfrom6.trans (keeps_below hX), by have := hX.size; omega⟩
          have HLM := Lib.hid (fun (cn : Nat) (hc : (cn : Int) ∉ O) (hlt : cn < x.m.length) => (show (leftK (O ++ [(cn : Int)]) x.m.length).length + 1 = (leftK O x.m.length).length by have h := leftK_more O cn hc x.m.length; rw [if_pos hlt] at h; exact h))
          have HLI := Lib.hid (leftK_in O x.m.length)
          obtain ⟨L, hL⟩ : ∃ L, L = leftK O x.m.length := ⟨_, rfl⟩
          have HLE := Lib.hid hL
          rw [← hL] at HLM HLI hf hol hcnt ⊢
          have hbr := branches1_any w0 V6 b (W3.heap.size + 1) 8 x bnd O HX.out hml6 (by omega) hp6 hne6
          rw [← hL] at hbr
          have HGI := Lib.hid hGI; have HTS6 := Lib.hid hts6; have HFR6 := Lib.hid hfrom6
          clear hL hGI hkeep6 hfrom6 hnv6 hx6 hp6 t1 t2 t3 t4 t5 hB6 hBW
          refine wpIn_rangeFunc_tr rfl (by omega) (gf := 96) (lb := #[.pointer (some ⟨W3.heap.size + 1, 0, none⟩)]) rfl trivial (enters_of Tryz.func96 (by kernel_rfl) rfl) (w0 := w0) (b := b) (pb := W3.heap.size + 1) (x := x) (bnd := bnd) (O := O) (L := L) hbr (by omega) rfl
            (fun K s X => (m + 1 ≤ s.2.2 ∧ s.2.2 ≤ m + 1 + s.1 * cntN (L.length - 1)) ∧ ∃ nx nvx S, S.length = s.1 ∧ GrI w0 W b W3.heap.size (.slice na m nc) ov K s.2.1 nx nvx S X)
            (fun K s X Y row hs hg hr => by obtain ⟨hm, nx, nvx, S, hS, h⟩ := hs; exact ⟨hm, nx, nvx, S, hS, h.kept hg hr (by omega)⟩)
            (fun K k ov1 ov2 m1 X Y hs ht hy => by obtain ⟨hm, nx, nvx, S, hS, h⟩ := hs; obtain ⟨nv2, xs2, xs3, O2, O3, hta, htb⟩ := ht; exact ⟨hm, nx, nvx, S, hS, h.turn hta htb hy⟩)
            HTS6.out (fun X hX => ⟨⟨Nat.le_refl _, Nat.le_add_right _ _⟩, _, _, [], rfl, HGI.out X hX⟩)
            (fun k => { tmps := #[.pointer (some ⟨b, 0, none⟩), .pointer (some ⟨W.heap.size, 0, none⟩), u2, .int .i64 m, undef, u5, .pointer (some ⟨W3.heap.size, 0, none⟩), .pointer (some ⟨b, 0, none⟩), .pointer (some ⟨b, 0, none⟩), .pointer (some ⟨b, 3, none⟩), .slice na m nc, .int .i64 m, .slice (some ⟨W.heap.size + 1, 0, none⟩) 2 2, .int .i64 2, .int .i64 2, .bool false, u16, u17, u18, u19, u20, u21, u22, u23, u24, u25, u26, u27, u28, u29, u30, u31, u32, u33, .pointer (some ⟨b, 0, none⟩), .pointer (some ⟨b, 0, none⟩), .pointer (some ⟨b, 0, none⟩), .pointer (some ⟨b, 3, none⟩), .slice na m nc, .agg #[.int .i64 0, .slice none 0 0], .slice (some ⟨wr.heap.size, 0, none⟩) 1 1, .slice (some ⟨gg, 0, none⟩) (m + 1) cg, .pointer (some ⟨b, 0, none⟩), .pointer (some ⟨b, 3, none⟩), .pointer (some ⟨b, 0, none⟩), .func (.func 96) #[] #[.pointer (some ⟨W3.heap.size + 1, 0, none⟩)], .int .i64 k, undef, undef, undef, undef, undef, undef, undef, undef, undef, undef, undef, undef, undef, undef], defers := [] }) ?assign ?body ?done
          case assign =>
            intro l k W K hK
            gi_wp2
            exact hK
          case body =>
            rintro l K k X nvk ovk xsk mk hK hKX ⟨⟨hm1, hm2⟩, nx, nvx, S, hS, hI⟩ hlen htk hovk hnvk
            dsimp only at hm1 hm2 hS hI
            obtain rfl := hI.nv_eq htk
            obtain ⟨⟨hc0, hc1⟩, hc2⟩ := HLI.out (L.getD k 0) (by rw [getD_eqI hlen]; exact List.getElem_mem _)
            obtain ⟨cn, hcn⟩ : ∃ cn : Nat, L.getD k 0 = cn := ⟨(L.getD k 0).toNat, by omega⟩
            rw [hcn] at hc0 hc1 hc2 htk
            have hlm := HLM.out cn hc2 (by omega)
            have hml2 : mk + cntN (L.length - 1) ≤ m + 1 + (k + 1) * cntN (L.length - 1) := by rw [Nat.add_mul]; omega
            have hml3 : (k + 1) * cntN (L.length - 1) ≤ L.length * cntN (L.length - 1) := Nat.mul_le_mul_right _ (by omega)
            have hml4 : cntN L.length = 1 + L.length * cntN (L.length - 1) := by
              obtain ⟨j, hj⟩ : ∃ j, L.length = j + 1 := ⟨L.length - 1, by omega⟩
              rw [hj]; rfl
            have hll : (leftK (O ++ [(cn : Int)]) x.m.length).length = L.length - 1 := by omega
            have hcall := HIH.out w0 X.drew b x bnd (O ++ [(cn : Int)]) mk nvk ovk xsk (by omega) htk.drew HX.out HOK.out (by rw [hll]; simp; omega) (fun y hy => by
              rcases List.mem_append.1 hy with h | h
              · exact HIN.out y h
              · rw [List.mem_singleton.1 h]; omega) (by rw [hll]; omega)
            rw [hll] at hcall
            have HCALL := Lib.hid hcall
            have HFIN : Hid (∀ (r : Int) (V : World) (nv' ov' : Value) (xs' : List Value) (m' gg cg : Nat) (wg : World) (a' : Act), TS w0 V b x bnd (O ++ [(cn : Int)]) m' nv' ov' xs' → mk < m' → m' ≤ mk + cntN (L.length - 1) → KeepsFrom 0 X V →
                (∀ q, q < X.heap.size → q ≠ b → ovk.ownBlock ≠ some q → nvk.ownBlock ≠ some q → V.heap[q]? = X.heap[q]?) → (∀ q, ov'.ownBlock = some q → ovk.ownBlock = some q ∨ X.heap.size ≤ q) → (∀ q, nv'.ownBlock = some q → nvk.ownBlock = some q ∨ X.heap.size ≤ q) →
                OwnR 1 3 intL wg K (.slice (some ⟨gg, 0, none⟩) (S.length + 1) cg) (S ++ [r]) → V.grownBy wg nx.ownBlock → Below K V wg → (nx.ownBlock = some gg ∨ gg = V.heap.size + 1) →
                treePost V6.heap.size (fun W' => (∃ nv' ov' xs' m', ((m + 1 ≤ m' ∧ m' ≤ m + 1 + (k + 1) * cntN (L.length - 1)) ∧ ∃ nx nvx S, S.length = k + 1 ∧ GrI w0 W b W3.heap.size (.slice na m nc) ov K ov' nx nvx S W') ∧ TS w0 W' b x bnd (O ++ [L.getD k 0]) m' nv' ov' xs' ∧ OutOf (V6.heap.size + 2) K ov' ∧ OutOf (V6.heap.size + 2) K nv') ∧ ∀ q, (q = W3.heap.size + 1 ∨ (V6.heap.size + 2 ≤ q ∧ q < K)) → W'.heap[q]? = X.heap[q]?) X .normal a' (wg.setCell ⟨W3.heap.size, 0, none⟩ (.slice (some ⟨gg, 0, none⟩) (S.length + 1) cg))) := Lib.hid (by
              intro r V nv' ov' xs' m' gg cg wg a' htV hm3 hm4 hfV hkV hoV hnV hO hg hb hat
              have hIV := hI.move htk htV hkV hfV hoV hnV
              obtain ⟨j1, j2, j3, j4⟩ := hIV.app htV (by omega) (by have := hfV.size; omega) (by omega) hw03 hO hg hb hat
              have hzz := hfV.size
              refine ⟨⟨by have := j4.size; omega, fun q o _ h hc => (hfV.trans j4).same q o (Nat.zero_le _) h hc⟩, ⟨nv', ov', xs', m', ⟨⟨by omega, by omega⟩, _, _, _, by simp [hS], j1⟩, by rw [hcn]; exact j2, fun q e => ?_, fun q e => ?_⟩, fun q hq => ?_⟩
              · rcases hoV q e with h | h
                · exact hovk q h
                · right; omega
              · rcases hnV q e with h | h
                · exact hnvk q h
                · right; omega
              · have hqK : q < K := by omega
                refine (j3 q hqK (by omega)).trans (hkV q (by omega) ?_ ?_ ?_)
                · rcases hq with h | h
                  · rw [h]; exact box_ne hI.pbx htk.box (by decide)
                  · omega
                · intro e
                  rcases hq with h | h
                  · exact own_ne htk.own hI.pbx (by decide) (by rw [e, h])
                  · have := hovk q e; omega
                · intro e
                  rcases hq with h | h
                  · exact box_ne_own htk.nod hI.pbx (by decide) (by rw [e, h])
                  · have := hnvk q e; omega)
            have hMV : Hid (∀ (V : World) (nv' ov' : Value) (xs' : List Value) (m' : Nat), TS w0 V b x bnd (O ++ [(cn : Int)]) m' nv' ov' xs' → KeepsFrom 0 X V →
                (∀ q, q < X.heap.size → q ≠ b → ovk.ownBlock ≠ some q → nvk.ownBlock ≠ some q → V.heap[q]? = X.heap[q]?) → (∀ q, ov'.ownBlock = some q → ovk.ownBlock = some q ∨ X.heap.size ≤ q) → (∀ q, nv'.ownBlock = some q → nvk.ownBlock = some q ∨ X.heap.size ≤ q) → GrI w0 W b W3.heap.size (.slice na m nc) ov K ov' nx nv' S V) := Lib.hid (fun V nv' ov' xs' m' h1 h2 h3 h4 h5 => hI.move htk h1 h3 h2 h4 h5)
            obtain ⟨sa, sc, ev, -⟩ := hI.row.rows int_l
            subst ev
            have hSl : S.length ≤ 1000000 := by omega
            have c0 : X.drew.cell? ⟨W3.heap.size, 0, none⟩ = some (.slice sa S.length sc) := hI.box.cell 0
            have c1 : X.drew.cell? ⟨W.heap.size, 0, none⟩ = some (.pointer (some ⟨b, 0, none⟩)) := hI.ptr.cell 0
            clear hI htk hcall hll hlm hml2 hml3 hml4 hovk hnvk hc0 hc1 hc2 hm1 hm2 hcn hS
            refine wpIn_block ?_
            refine wpIn_round_held (S := fun Z : World => Z.cell? ⟨W.heap.size, 0, none⟩ = some (.pointer (some ⟨b, 0, none⟩))) (by kernel_rfl) (by rfl) (fun ⟨_, _, h⟩ => h) c1 (fun hSS => ?_)
            refine takeL (i := 1) (v := .pointer (some ⟨b, 0, none⟩)) rfl (by kernel_rfl) (by kernel_rfl) (by kernel_rfl) (fun _ _ _ h => h) (Or.inl ⟨by rfl, fun V9 h9 => by dsimp only at h9; go_simp⟩) (by assumption) ?_
            try simp only [Act.put, List.setIfInBounds_toArray, List.set_cons_zero, List.set_cons_succ]
            refine wpAnyH_ready (rs := [0, 2]) (by kernel_rfl) (by simp) (consL rfl (fun K9 hK9 => ?_) (consL rfl (fun K9 hK9 => ?_) (AllReadyH.nil)))
            · go_simp
              refine hK9.out _ _ (by assumption) (fun _ => ?_)
              clear hK9 K9
              try simp only [Act.put, List.setIfInBounds_toArray, List.set_cons_zero, List.set_cons_succ]
              refine wpAnyH_ready (rs := [2]) (by kernel_rfl) (by simp) (consL rfl (fun K9 hK9 => ?_) (AllReadyH.nil))
              go_simp
              refine HCALL.out.mono ?_
              rintro e V ⟨⟨r, rfl⟩, nv', ov', xs', m', htV, hm3, hm4, hfV, hkV, hoV, hnV⟩
              have hIV := hMV.out V nv' ov' xs' m' htV ⟨hfV.size, hfV.same⟩ hkV hoV hnV
              have s2 : V.cell? ⟨W.heap.size, 0, none⟩ = some (.pointer (some ⟨b, 0, none⟩)) := hIV.ptr.cell 0
              have d2 : V.cell? ⟨W3.heap.size, 0, none⟩ = some (.slice sa S.length sc) := hIV.box.cell 0
              have HTV := Lib.hid htV; have HKV := Lib.hid hkV; have HOV := Lib.hid hoV; have HNV := Lib.hid hnV; have HFV := Lib.hid hfV; have HIV := Lib.hid hIV
              clear htV hkV hoV hnV hfV hIV
              refine hK9.out _ _ s2 (fun _ => ?_)
              clear hK9 K9
              try simp only [Act.put, List.setIfInBounds_toArray, List.set_cons_zero, List.set_cons_succ]
              refine wpAnyH_ready (rs := [3]) (by kernel_rfl) (by simp) (consL rfl (fun K9 hK9 => ?_) (AllReadyH.nil))
              go_simp
              refine hK9.out _ _ (cell_alloc_keep s2) (fun _ => ?_)
              clear hK9 K9
              try simp only [Act.put, List.setIfInBounds_toArray, List.set_cons_zero, List.set_cons_succ]
              refine wpAnyH_ready (rs := [4]) (by kernel_rfl) (by simp) (consL rfl (fun K9 hK9 => ?_) AllReadyH.nil)
              refine step_appI V r (by rfl) _ _ (by rfl) K _ S (by rfl) HIV.out.row (by rfl) hSl (by have := HFV.out.size; have : X.drew.heap.size = X.heap.size := rfl; omega) ?_
              intro g4 c4 w4 hO4 hg4 hb4 hat4
              have B4 := BoxAt.grown (w := V) HIV.out.box hg4 (fun e => own_ne HIV.out.row HIV.out.box (by decide) e.symm)
              have P4 := BoxAt.grown (w := V) HIV.out.ptr hg4 (fun e => own_ne HIV.out.row HIV.out.ptr (by decide) e.symm)
              have s4 : w4.cell? ⟨W.heap.size, 0, none⟩ = some (.pointer (some ⟨b, 0, none⟩)) := P4.cell 0
              have z4 : w4.frozen? ⟨W3.heap.size, 0, none⟩ = false := B4.free 0
              have d4 : w4.cell? ⟨W3.heap.size, 0, none⟩ = some (.slice sa S.length sc) := B4.cell 0
              refine hK9.out _ _ s4 (fun _ => ?_)
              clear hK9 K9
              try simp only [Act.put, List.setIfInBounds_toArray, List.set_cons_zero, List.set_cons_succ]
              refine wpAnyH_ready (rs := [5]) (by kernel_rfl) (by simp) (consL rfl (fun K9 hK9 => ?_) AllReadyH.nil)
              go_simp
              refine hK9.out _ _ ((((P4.set_other (by show W.heap.size ≠ W3.heap.size; omega) _).cell 0))) (fun _ => ?_)
              clear hK9 K9
              try simp only [Act.put, List.setIfInBounds_toArray, List.set_cons_zero, List.set_cons_succ]
              refine wpAnyH_done (by kernel_rfl) ?_ _
              exact HFIN.out r V nv' ov' xs' m' g4 c4 w4 { tmps := #[], defers := [] } HTV.out hm3 hm4 ⟨HFV.out.size, HFV.out.same⟩ HKV.out HOV.out HNV.out hO4 hg4 hb4 hat4
            · go_simp
              refine HCALL.out.mono ?_
              rintro e V ⟨⟨r, rfl⟩, nv', ov', xs', m', htV, hm3, hm4, hfV, hkV, hoV, hnV⟩
              have hIV := hMV.out V nv' ov' xs' m' htV ⟨hfV.size, hfV.same⟩ hkV hoV hnV
              have s2 : V.cell? ⟨W.heap.size, 0, none⟩ = some (.pointer (some ⟨b, 0, none⟩)) := hIV.ptr.cell 0
              have d2 : V.cell? ⟨W3.heap.size, 0, none⟩ = some (.slice sa S.length sc) := hIV.box.cell 0
              have HTV := Lib.hid htV; have HKV := Lib.hid hkV; have HOV := Lib.hid hoV; have HNV := Lib.hid hnV; have HFV := Lib.hid hfV; have HIV := Lib.hid hIV
              clear htV hkV hoV hnV hfV hIV
              refine hK9.out _ _ s2 (fun _ => ?_)
              clear hK9 K9
              try simp only [Act.put, List.setIfInBounds_toArray, List.set_cons_zero, List.set_cons_succ]
              refine wpAnyH_ready (rs := [0, 3]) (by kernel_rfl) (by simp) (consL rfl (fun K9 hK9 => ?_) (consL rfl (fun K9 hK9 => ?_) (AllReadyH.nil)))
              · go_simp
                refine hK9.out _ _ (by assumption) (fun _ => ?_)
                clear hK9 K9
                try simp only [Act.put, List.setIfInBounds_toArray, List.set_cons_zero, List.set_cons_succ]
                refine wpAnyH_ready (rs := [3]) (by kernel_rfl) (by simp) (consL rfl (fun K9 hK9 => ?_) (AllReadyH.nil))
                go_simp
                refine hK9.out _ _ (cell_alloc_keep s2) (fun _ => ?_)
                clear hK9 K9
                try simp only [Act.put, List.setIfInBounds_toArray, List.set_cons_zero, List.set_cons_succ]
                refine wpAnyH_ready (rs := [4]) (by kernel_rfl) (by simp) (consL rfl (fun K9 hK9 => ?_) AllReadyH.nil)
                refine step_appI V r (by rfl) _ _ (by rfl) K _ S (by rfl) HIV.out.row (by rfl) hSl (by have := HFV.out.size; have : X.drew.heap.size = X.heap.size := rfl; omega) ?_
                intro g4 c4 w4 hO4 hg4 hb4 hat4
                have B4 := BoxAt.grown (w := V) HIV.out.box hg4 (fun e => own_ne HIV.out.row HIV.out.box (by decide) e.symm)
                have P4 := BoxAt.grown (w := V) HIV.out.ptr hg4 (fun e => own_ne HIV.out.row HIV.out.ptr (by decide) e.symm)
                have s4 : w4.cell? ⟨W.heap.size, 0, none⟩ = some (.pointer (some ⟨b, 0, none⟩)) := P4.cell 0
                have z4 : w4.frozen? ⟨W3.heap.size, 0, none⟩ = false := B4.free 0
                have d4 : w4.cell? ⟨W3.heap.size, 0, none⟩ = some (.slice sa S.length sc) := B4.cell 0
                refine hK9.out _ _ s4 (fun _ => ?_)
                clear hK9 K9
                try simp only [Act.put, List.setIfInBounds_toArray, List.set_cons_zero, List.set_cons_succ]
                refine wpAnyH_ready (rs := [5]) (by kernel_rfl) (by simp) (consL rfl (fun K9 hK9 => ?_) AllReadyH.nil)
                go_simp
                refine hK9.out _ _ ((((P4.set_other (by show W.heap.size ≠ W3.heap.size; omega) _).cell 0))) (fun _ => ?_)
                clear hK9 K9
                try simp only [Act.put, List.setIfInBounds_toArray, List.set_cons_zero, List.set_cons_succ]
                refine wpAnyH_done (by kernel_rfl) ?_ _
                exact HFIN.out r V nv' ov' xs' m' g4 c4 w4 { tmps := #[], defers := [] } HTV.out hm3 hm4 ⟨HFV.out.size, HFV.out.same⟩ HKV.out HOV.out HNV.out hO4 hg4 hb4 hat4
              · go_simp
                refine hK9.out _ _ (cell_alloc_keep s2) (fun _ => ?_)
                clear hK9 K9
                try simp only [Act.put, List.setIfInBounds_toArray, List.set_cons_zero, List.set_cons_succ]
                have d3 : (V.alloc (.cells #[.int .i64 r] 3)).cell? ⟨W3.heap.size, 0, none⟩ = some (.slice sa S.length sc) := cell_alloc_keep d2
                have s3 : (V.alloc (.cells #[.int .i64 r] 3)).cell? ⟨W.heap.size, 0, none⟩ = some (.pointer (some ⟨b, 0, none⟩)) := cell_alloc_keep s2
                refine wpAnyH_ready (rs := [0]) (by kernel_rfl) (by simp) (consL rfl (fun K9 hK9 => ?_) (AllReadyH.nil))
                go_simp
                refine hK9.out _ _ (by assumption) (fun _ => ?_)
                clear hK9 K9
                try simp only [Act.put, List.setIfInBounds_toArray, List.set_cons_zero, List.set_cons_succ]
                refine wpAnyH_ready (rs := [4]) (by kernel_rfl) (by simp) (consL rfl (fun K9 hK9 => ?_) AllReadyH.nil)
                refine step_appI V r (by rfl) _ _ (by rfl) K _ S (by rfl) HIV.out.row (by rfl) hSl (by have := HFV.out.size; have : X.drew.heap.size = X.heap.size := rfl; omega) ?_
                intro g4 c4 w4 hO4 hg4 hb4 hat4
                have B4 := BoxAt.grown (w := V) HIV.out.box hg4 (fun e => own_ne HIV.out.row HIV.out.box (by decide) e.symm)
                have P4 := BoxAt.grown (w := V) HIV.out.ptr hg4 (fun e => own_ne HIV.out.row HIV.out.ptr (by decide) e.symm)
                have s4 : w4.cell? ⟨W.heap.size, 0, none⟩ = some (.pointer (some ⟨b, 0, none⟩)) := P4.cell 0
                have z4 : w4.frozen? ⟨W3.heap.size, 0, none⟩ = false := B4.free 0
                have d4 : w4.cell? ⟨W3.heap.size, 0, none⟩ = some (.slice sa S.length sc) := B4.cell 0
                refine hK9.out _ _ s4 (fun _ => ?_)
                clear hK9 K9
                try simp only [Act.put, List.setIfInBounds_toArray, List.set_cons_zero, List.set_cons_succ]
                refine wpAnyH_ready (rs := [5]) (by kernel_rfl) (by simp) (consL rfl (fun K9 hK9 => ?_) AllReadyH.nil)
                go_simp
                refine hK9.out _ _ ((((P4.set_other (by show W.heap.size ≠ W3.heap.size; omega) _).cell 0))) (fun _ => ?_)
                clear hK9 K9
                try simp only [Act.put, List.setIfInBounds_toArray, List.set_cons_zero, List.set_cons_succ]
                refine wpAnyH_done (by kernel_rfl) ?_ _
                exact HFIN.out r V nv' ov' xs' m' g4 c4 w4 { tmps := #[], defers := [] } HTV.out hm3 hm4 ⟨HFV.out.size, HFV.out.same⟩ HKV.out HOV.out HNV.out hO4 hg4 hb4 hat4
          case done =>
            rintro D K X nvf ovf xsf mf hD htf ⟨⟨hm1, hm2⟩, nx, nvx, S, hS, hI⟩ hKD
            dsimp only at hm1 hm2 hS hI
            obtain rfl := hI.nv_eq htf
            obtain ⟨gf, cf, ev, -, -⟩ := World.ownsRow.form htf.nod (by omega)
            subst ev
            obtain ⟨sa, sc, ev, -⟩ := hI.row.rows int_l
            subst ev
            have hxl := htf.nod.1
            have e0 : X.drew.cell? ⟨W.heap.size, 0, none⟩ = some (.pointer (some ⟨b, 0, none⟩)) := hI.ptr.cell 0
            have e1 : X.drew.cell? ⟨b, 3, none⟩ = some (.slice (some ⟨gf, 0, none⟩) mf cf) := htf.box.cell 3
            have e2 : X.drew.cell? ⟨W3.heap.size, 0, none⟩ = some (.slice sa S.length sc) := hI.box.cell 0
            have e3 : X.drew.frozen? ⟨gf, m * 2 + 1, none⟩ = false := htf.nod.frozenAt _
            obtain ⟨uu, hu⟩ : ∃ uu, X.drew.cell? ⟨gf, m * 2 + 1, none⟩ = some uu := ⟨_, (htf.nod.cellAt (m * 2 + 1) (by omega)).trans (List.getElem?_eq_getElem (by omega))⟩
            have hmf : (m : Int) < (mf : Int) := by omega
            have HML : Hid (mf ≤ m + cntN L.length) := Lib.hid (by
              rcases Nat.eq_zero_or_pos L.length with h0 | h0
              · rw [h0] at hm2 ⊢; simp only [Nat.zero_mul, Nat.add_zero] at hm2; exact hm2
              · obtain ⟨j, hj⟩ : ∃ j, L.length = j + 1 := ⟨L.length - 1, by omega⟩
                rw [hj] at hm2 ⊢
                have e : cntN (j + 1) = 1 + (j + 1) * cntN j := rfl
                rw [Nat.add_sub_cancel] at hm2
                omega)
            have HI := Lib.hid hI; have HTF := Lib.hid htf; have HM1 := Lib.hid hm1
            clear hI htf hm1 hm2 hS hxl
            gi_wp2
            refine wpIn_wide.2 ?_
            refine Code.wp_mono (Q := fun e a' w' => match e with
              | .normal => ∃ t52 t53 t54 t55 t56 t57 t58 t59 : Value, a' = { tmps := #[.pointer (some ⟨b, 0, none⟩), .pointer (some ⟨W.heap.size, 0, none⟩), u2, .int .i64 m, undef, u5, .pointer (some ⟨W3.heap.size, 0, none⟩), .pointer (some ⟨b, 0, none⟩), .pointer (some ⟨b, 0, none⟩), .pointer (some ⟨b, 3, none⟩), .slice na m nc, .int .i64 m, .slice (some ⟨W.heap.size + 1, 0, none⟩) 2 2, .int .i64 2, .int .i64 2, .bool false, u16, u17, u18, u19, u20, u21, u22, u23, u24, u25, u26, u27, u28, u29, u30, u31, u32, u33, .pointer (some ⟨b, 0, none⟩), .pointer (some ⟨b, 0, none⟩), .pointer (some ⟨b, 0, none⟩), .pointer (some ⟨b, 3, none⟩), .slice na m nc, .agg #[.int .i64 0, .slice none 0 0], .slice (some ⟨wr.heap.size, 0, none⟩) 1 1, .slice (some ⟨gg, 0, none⟩) (m + 1) cg, .pointer (some ⟨b, 0, none⟩), .pointer (some ⟨b, 3, none⟩), .pointer (some ⟨b, 0, none⟩), .func (.func 96) #[] #[.pointer (some ⟨W3.heap.size + 1, 0, none⟩)], undef, undef, undef, undef, undef, undef, t52, t53, t54, t55, t56, t57, t58, t59, undef], defers := [{ target := .collected D, args := #[] }] } ∧ w' = X.drew.setCell ⟨gf, m * 2 + 1, none⟩ (.slice sa S.length sc)
              | _ => False) ?cont ?reg
            case reg =>
              go_region
              all_goals exact ⟨_, _, _, _, _, _, _, _, rfl, rfl⟩
            case cont =>
              rintro e a' w' hq
              cases e <;> try exact hq.elim
              obtain ⟨t52, t53, t54, t55, t56, t57, t58, t59, rfl, rfl⟩ := hq
              clear e0 e1 e2 e3 hu
              gi_wp2
              obtain ⟨n1, n2, n3⟩ := HTF.out.drew.setN (m * 2 + 1) (.slice sa S.length sc)
              have hDg : D ≠ gf := fun e => by
                obtain ⟨cs, hcs⟩ := own_block HTF.out.nod gf rfl
                rw [← e, hKD] at hcs; cases hcs
              have hKD2 : (X.drew.setCell ⟨gf, m * 2 + 1, none⟩ (.slice sa S.length sc)).heap[D]? = some (.deferred (some [])) := (n2 D hDg).trans hKD
              refine ⟨by simp, .inl ⟨_, _, rfl, run_takeDeferred (w := X.drew.setCell ⟨gf, m * 2 + 1, none⟩ (.slice sa S.length sc)) hKD2, ?_⟩⟩
              have hWD : W.heap.size < D := by omega
              have hgW : gf < W.heap.size → (Value.slice na m nc).ownBlock = some gf := fun h => by
                rcases HI.out.nvn gf rfl with h1 | h1
                · exact h1
                · omega
              have hot : ∀ q, q < W.heap.size → ((X.drew.setCell ⟨gf, m * 2 + 1, none⟩ (.slice sa S.length sc)).putObj D (.deferred none)).heap[q]? = (X.drew.setCell ⟨gf, m * 2 + 1, none⟩ (.slice sa S.length sc)).heap[q]? := fun q hq => World.putObj_heap_other (by omega)
              rw [← HLE.out]
              refine ⟨.int .i64 m, by simp [results, Tryz.results46, go_sem], ⟨m, rfl⟩, _, ovf, _, mf, n1.putD (by omega) hKD2 rfl _, by have := HM1.out; omega, HML.out, ⟨?_, fun q o _ h hc => ?_⟩, fun q hq h1 h2 h3 => ?_, HI.out.ovn, HI.out.nvn⟩
              · have h1 := HI.out.from_.size
                have h2 := n3.size
                have h3 : X.drew.heap.size = X.heap.size := rfl
                simp [World.putObj]; omega
              · exact (hot q (heap_lt h)).trans (n3.same q o (Nat.zero_le _) (HI.out.from_.same q o (Nat.zero_le _) h hc) hc)
              · refine (hot q hq).trans ((n2 q (fun e => ?_)).trans (HI.out.keep q hq h1 h2 h3))
                rw [e] at hq h3
                exact h3 (hgW hq)
theorem grow_says : GrowSays := fun w0 W b x bnd O m nv ov xs ht hx hok hol hin hcnt => grow_any _ w0 W b x bnd O m nv ov xs (Nat.lt_succ_self _) ht hx hok hol hin hcnt
theorem awake_any (w : World) : Calls Tryz.prog 4 #[] w (AggPost (.bool true) w) := awake9_any grow_says w
end Go.Proofs.YtdgegebplebeoaaGreatDoor
