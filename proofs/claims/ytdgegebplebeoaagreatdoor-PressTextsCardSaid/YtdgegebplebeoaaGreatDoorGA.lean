/-
  Package press: the branches of a tree of orders.
-/
import Derived.Deep.AppendLies
import Derived.Test.YtdgegebplebeoaaGreatDoorG9
namespace Go.Proofs.YtdgegebplebeoaaGreatDoor
open Go.RowKit Go.Maps Go.Shelf
attribute [local go_sem] Oper.semAt_some

theorem step_appI {ops : Array Oper} {o : Oper} {a : Act} {K : Act → World → Prop} {Q : Exit → Act → World → Prop} {E0 : Prop} (w0 : World) (x : Int) (hgd : o.guard = none) (s xo : Operand)
    (ho : o.op = .call { callee := .builtin .append, args := #[s, xo], argTypes := #[49, 49] }) (B : Nat) (v : Value) (L : List Int) (hs : a.eval s = v) (hown : OwnR 1 3 intL w0 B v L)
    (hx : a.eval xo = .slice (some ⟨w0.heap.size, 0, none⟩) 1 1) (hl : L.length ≤ 1000000) (hB : B ≤ w0.heap.size)
    (h : ∀ gg c w', OwnR 1 3 intL w' B (.slice (some ⟨gg, 0, none⟩) (L.length + 1) c) (L ++ [x]) → w0.grownBy w' v.ownBlock → Below B w0 w' → (v.ownBlock = some gg ∨ gg = w0.heap.size + 1) → K (a.put o.dst (.slice (some ⟨gg, 0, none⟩) (L.length + 1) c)) w') :
    if Region.wanted o (yielded ops a.tmps) = true then Oper.wp Tryz.prog o a (w0.alloc (.cells #[.int .i64 x] 3)) K Q else E0 := by
  have T := tInt
  obtain ⟨i0, hi0, hz0, hz1, hz2⟩ := info_parts T.info
  refine Go.step_append_lies _ hgd s xo 49 ho B 3 i0 (.int .i64 0) 1 8 T.sl hi0 hz0 hz1 hz2 T.zs T.pos v L.length (vals (L.flatMap intL)) hs (World.ownsRow.alloc hown _) ⟨w0.heap.size, 0, none⟩ 1 1 (vals (intL x)) hx (by simp [vals, intL])
    (fun j u hu => by
      rcases j with _ | j
      · simp [vals, intL] at hu; subst hu; rw [add0]; exact (BoxAt.new w0 #[.int .i64 x] 3).cell 0
      · simp [vals, intL] at hu) (vals_one _) (by omega) (by unfold maxLen; omega) (by omega) (by simp; omega) (w0.heap.size + 1) (by simp) ?_
  intro gg cap w' hown' hgrow' hat _
  rw [show vals (L.flatMap intL) ++ vals (intL x) = vals ((L ++ [x]).flatMap intL) by rw [← vals_app]; simp] at hown'
  exact h gg cap w' (by unfold OwnR; rw [List.length_append]; exact hown') ((World.grownBy_alloc w0 _ _).trans hgrow') (((Below.refl B w0).alloc hB _).grown hgrow' (by simp; omega) (fun k hk => (hown.lt k hk).1)) hat
theorem TS.app {w0 wr wg : World} {b : Nat} {x : Cols} {bnd : Int} {O O1 : List Int} {m : Nat} {nv ov : Value} {xs : List Value} {gg n1 c1 : Nat} (ht : TS w0 wr b x bnd O m nv ov xs) (hO : OwnR 1 3 intL wg w0.heap.size (.slice (some ⟨gg, 0, none⟩) n1 c1) O1) (hg : wr.drew.grownBy wg ov.ownBlock) (hb : Below w0.heap.size wr.drew wg) (hat : ov.ownBlock = some gg ∨ gg = wr.drew.heap.size + 1) :
    TS w0 (wg.setCell ⟨b, 4, none⟩ (.slice (some ⟨gg, 0, none⟩) n1 c1)) b x bnd O1 m nv (.slice (some ⟨gg, 0, none⟩) n1 c1) xs ∧ TreeTurn b ov (.slice (some ⟨gg, 0, none⟩) n1 c1) wr (wg.setCell ⟨b, 4, none⟩ (.slice (some ⟨gg, 0, none⟩) n1 c1)) := by
  have Bg : BoxAt wg b #[.slice x.ma x.m.length x.mc, .slice x.da x.T.length x.dc, .int .i64 bnd, nv, ov] 91 := BoxAt.grown (w := wr.drew) ht.box hg (fun e => own_ne ht.own ht.box (by decide) e.symm)
  have hbb : Below w0.heap.size w0 wg := ht.low.drew.trans hb
  refine ⟨⟨?_, ?_, ?_, hbb.setCell (p := ⟨b, 4, none⟩) ht.ge _, ht.ge⟩, ⟨hb.os, hb.tape, hb.output, by have := hb.size; simp; exact this, fun k hk h1 h2 => ?_, fun q e => ?_⟩⟩
  · exact Bg.set 4 (.slice (some ⟨gg, 0, none⟩) n1 c1)
  · exact hO.set (own_ne hO Bg (by decide)) _
  · refine own_same ht.nod (fun q e => ?_)
    obtain ⟨cs, hcs⟩ := own_block ht.nod q e
    have hqb : q ≠ b := fun e2 => by
      have h2 := ht.box
      unfold BoxAt at h2
      rw [← e2, hcs] at h2; injection h2 with h2; injection h2 with _ h2; exact absurd h2 (by decide)
    rw [Below.heap_setCell _ _ _ _ (by show q ≠ b; exact hqb)]
    refine hg.block q (heap_lt hcs) (fun e2 => ?_)
    obtain ⟨cs2, hcs2⟩ := own_block ht.own q e2.symm
    rw [hcs] at hcs2; injection hcs2 with h2; injection h2 with _ h2; exact absurd h2 (by decide)
  · rw [Below.heap_setCell _ _ _ _ (by show k ≠ b; exact h1)]
    exact hg.block k hk (fun e => h2 e.symm)
  · have e : gg = q := by simpa [Value.ownBlock] using e
    subst e
    rcases hat with h | h
    · exact Or.inl h
    · right; rw [h]; show wr.heap.size ≤ wr.heap.size + 1; omega
theorem own_cut {w : World} {B g c : Nat} {O : List Int} {y : Int} (h : OwnR 1 3 intL w B (.slice (some ⟨g, 0, none⟩) (O.length + 1) c) (O ++ [y])) : OwnR 1 3 intL w B (.slice (some ⟨g, 0, none⟩) O.length c) O := by
  have h := own_ints.1 h
  refine own_ints.2 ⟨by simp, ?_⟩
  rcases h.2 with ⟨e1, _⟩ | ⟨gg, cap, cur, e1, e2, e3, e4, e5, e6, e7⟩
  · cases e1
  · injection e1 with e1 e8 e9
    injection e1 with e1
    injection e1 with e1
    subst e1; subst e9
    refine Or.inr ⟨g, c, cur, rfl, e2, e3, by simp at e4; omega, e5, e6, ?_⟩
    have h2 := congrArg (List.take O.length) e7
    rw [List.take_take] at h2
    simp at h2 ⊢
    exact h2
theorem TS.cut {w0 W : World} {b : Nat} {x : Cols} {bnd : Int} {O : List Int} {y : Int} {m : Nat} {nv : Value} {xs : List Value} {g c nq : Nat} (ht : TS w0 W b x bnd (O ++ [y]) m nv (.slice (some ⟨g, 0, none⟩) (O.length + 1) c) xs) :
    TS w0 ((W.setCell ⟨b, 4, none⟩ (.slice (some ⟨g, 0, none⟩) O.length c)).drewN nq) b x bnd O m nv (.slice (some ⟨g, 0, none⟩) O.length c) xs ∧ TreeTurn b (.slice (some ⟨g, 0, none⟩) (O.length + 1) c) (.slice (some ⟨g, 0, none⟩) O.length c) W ((W.setCell ⟨b, 4, none⟩ (.slice (some ⟨g, 0, none⟩) O.length c)).drewN nq) := by
  refine ⟨⟨?_, ?_, ?_, below_drewN (ht.low.setCell (p := ⟨b, 4, none⟩) ht.ge _) _, ht.ge⟩, ⟨rfl, rfl, rfl, by simp, fun k _ h1 _ => Below.heap_setCell _ _ _ _ (by show k ≠ b; exact h1), fun q e => Or.inl e⟩⟩
  · exact ht.box.set 4 _
  · exact ((own_cut ht.own).set (own_ne (own_cut ht.own) ht.box (by decide)) _).drewN _
  · refine own_same ht.nod (fun q e => ?_)
    obtain ⟨cs, hcs⟩ := own_block ht.nod q e
    show (W.setCell ⟨b, 4, none⟩ _).heap[q]? = _
    refine Below.heap_setCell _ _ _ _ (fun e2 => ?_)
    have e2 : q = b := e2
    have h2 := ht.box
    unfold BoxAt at h2
    rw [← e2, hcs] at h2; injection h2 with h2; injection h2 with _ h2; exact absurd h2 (by decide)
set_option maxRecDepth 100000 in
set_option maxHeartbeats 4000000 in
theorem branches1_any (w0 w : World) (b pb n : Nat) (x : Cols) (bnd : Int) (O : List Int) (hx : ColsAt w0 x) (hm : x.m.length ≤ 6) (hol : O.length ≤ 6) (hpb : BoxAt w pb #[.pointer (some ⟨b, 0, none⟩)] 124) (hne : pb ≠ b) :
    SeqTr Fence.wide n Tryz.prog 96 #[.pointer (some ⟨pb, 0, none⟩)] w0 b pb x bnd O (leftK O x.m.length) w := by
  intro l J W nv0 ov0 xs0 m0 hW hts hT hY h0
  have hpW := hpb.below hW
  have k0 : W.cell? ⟨pb, 0, none⟩ = some (.pointer (some ⟨b, 0, none⟩)) := hpW.cell 0
  have hpl := hpW.lt
  have HLF := Lib.hid (left_any ⟨x, bnd, nv0, ov0, O⟩ w0.heap.size b W ⟨hts.box, hx.below hts.low, hts.own⟩ (by show x.m.length ≤ 100; omega) (by show O.length ≤ 100; omega))
  have HTS := Lib.hid hts; have HT := Lib.hid hT; have HY := Lib.hid hY; have H0 := Lib.hid h0; have HPW := Lib.hid hpW
  clear hpb hts hT hY h0 hpW hx
  show CallsIn _ _ _ _ #[.func (.yield l) #[] #[], .pointer (some ⟨pb, 0, none⟩)] _ _
  refine callsIn_of_wp Tryz.func96 rfl trivial ?_ rfl
  simp only [Tryz.ntmps96, List.size_toArray, List.length_cons, List.length_nil, Nat.reduceAdd, Nat.reduceSub, Array.replicate_succ, Array.replicate_zero, List.push_toArray, List.append_toArray, List.nil_append, List.cons_append]
  gi_wp2_with (refine ⟨trivial, fun h => (by simp [Fence.wide] at h), ?_⟩; refine (callsIn_wide.2 HLF.out).mono ?_; rintro e X ⟨lv, rfl, hOl, hbX⟩; obtain ⟨la, lc, ev, hRL, -⟩ := hOl.rows int_l; subst ev)
  obtain ⟨Lf, hLf⟩ : ∃ Lf, Lf = leftK O x.m.length := ⟨_, rfl⟩
  have hOl : OwnR 1 3 intL X W.heap.size (.slice la (leftK O x.m.length).length lc) (leftK O x.m.length) := hOl
  have hLl := leftK_len O x.m.length
  rw [← hLf] at hOl hLl HY ⊢
  have HOL := Lib.hid hOl; have HBX := Lib.hid hbX; have HLE := Lib.hid hLf
  have HPX := Lib.hid (HPW.out.below hbX)
  clear hOl hRL hLf
  gi_loopw [9] (fun v9 wr => ∃ (k : Nat) (ov nv : Value) (xs : List Value) (m : Nat), k ≤ Lf.length ∧ v9 = .int .i64 k ∧ J X.heap.size (k, ov, m) wr ∧ TS w0 wr b x bnd O m nv ov xs ∧ OutOf W.heap.size X.heap.size ov ∧ OutOf W.heap.size X.heap.size nv ∧ (∀ q, (q = pb ∨ (W.heap.size ≤ q ∧ q < X.heap.size)) → wr.heap[q]? = X.heap[q]?) ∧ X.heap.size ≤ wr.heap.size) (fun v9 _ => Lf.length - (intOf v9).toNat)
  case atStart => exact ⟨0, ov0, nv0, xs0, m0, Nat.zero_le _, rfl, H0.out X hbX, HTS.out.below hbX, fun q e => Or.inl (HTS.out.own.lt q e).2, fun q e => Or.inl (World.ownsRow.lt HTS.out.nod q e).2, fun q _ => rfl, Nat.le_refl _⟩
  case round =>
    obtain ⟨k, ov, nv, xs, m, hk, rfl, hJ, ht, ho, hn, hwin, hsz⟩ := hrel
    by_cases hlt : k < Lf.length
    · have hLw := HOL.out.same (w' := wr) (fun q e => hwin q (Or.inr (HOL.out.lt q e)))
      obtain ⟨la', lc', ev, hRL, -⟩ := hLw.rows int_l
      injection ev with e1 e2 e3
      subst e1; subst e3
      clear e2
      obtain ⟨ad, rfl, had, s0⟩ := hRL.int hlt
      have HG := Lib.hid (getD_eqI (d := 0) hlt)
      obtain ⟨c, hc⟩ : ∃ c, c = Lf[k] := ⟨_, rfl⟩
      rw [← hc] at s0 HG
      obtain ⟨oa, oc, ev2, -⟩ := ht.own.rows int_l
      subst ev2
      have HPB := Lib.hid (show BoxAt wr pb #[.pointer (some ⟨b, 0, none⟩)] 124 from (hwin pb (Or.inl rfl)).trans HPX.out)
      have p0 : wr.cell? ⟨pb, 0, none⟩ = some (.pointer (some ⟨b, 0, none⟩)) := BoxAt.cell (w := wr) (b := pb) (T := 124) ((hwin pb (Or.inl rfl)).trans HPX.out) 0
      have hpbl : pb < wr.heap.size := Nat.lt_of_lt_of_le HPX.out.lt hsz
      have b4 : wr.cell? ⟨b, 4, none⟩ = some (.slice oa O.length oc) := ht.box.cell 4
      have f4 : wr.frozen? ⟨b, 4, none⟩ = false := ht.box.free 4
      have hbl := ht.box.lt
      have HTW := Lib.hid ht; have HWIN := Lib.hid hwin; have HJ := Lib.hid hJ; have HOO := Lib.hid ho; have HNO := Lib.hid hn
      have HOW := Lib.hid ht.own
      have HLO := Lib.hid ht.low
      have p1 : (wr.alloc (.cells #[.int .i64 c] 3)).cell? ⟨pb, 0, none⟩ = some (.pointer (some ⟨b, 0, none⟩)) := by rw [World.cell?_alloc_past _ _ _ hpbl]; exact p0
      have b5 : (wr.alloc (.cells #[.int .i64 c] 3)).cell? ⟨b, 4, none⟩ = some (.slice oa O.length oc) := by rw [World.cell?_alloc_past _ _ _ hbl]; exact b4
      clear ht hwin hJ ho hn hLw hRL hc
      gi_wp2
      refine wpIn_wide.2 ?_
      refine Code.wp_mono (Q := fun e a' w' => match e with
        | .normal => ∃ (gg cg : Nat) (wg : World), OwnR 1 3 intL wg w0.heap.size (.slice (some ⟨gg, 0, none⟩) (O.length + 1) cg) (O ++ [c]) ∧ wr.drew.grownBy wg (Value.slice oa O.length oc).ownBlock ∧ Below w0.heap.size wr.drew wg ∧ ((Value.slice oa O.length oc).ownBlock = some gg ∨ gg = wr.drew.heap.size + 1) ∧ a' = { tmps := #[.func (.yield l) #[] #[], .pointer (some ⟨pb, 0, none⟩), undef, .int .i64 k, .int .i64 c, u5, .pointer (some ⟨b, 0, none⟩), .slice (some ad) Lf.length lc, .int .i64 Lf.length, .int .i64 k, .bool true, .int .i64 k, .pointer (some (ad.add k)), .int .i64 c, .pointer (some ⟨b, 0, none⟩), .pointer (some ⟨b, 0, none⟩), .pointer (some ⟨b, 0, none⟩), .pointer (some ⟨b, 4, none⟩), .slice oa O.length oc, .int .i64 c, .slice (some ⟨wr.heap.size, 0, none⟩) 1 1, .slice (some ⟨gg, 0, none⟩) (O.length + 1) cg, .pointer (some ⟨b, 0, none⟩), .pointer (some ⟨b, 4, none⟩), u24, u25, u26, u27, u28, u29, u30, u31, u32, u33, u34, u35, u36, u37, u38, u39, u40, u41, u42, u43], defers := [] } ∧ w' = wg.setCell ⟨b, 4, none⟩ (.slice (some ⟨gg, 0, none⟩) (O.length + 1) cg)
        | _ => False) ?cont ?reg
      case reg =>
        go_region_law (first
          | (refine step_appI wr.drew c (by rfl) _ _ (by rfl) w0.heap.size _ O (by rfl) HOW.out.drew (by rfl) (by omega) (by have := HLO.out.size; exact this) ?_; intro gg cg wg hOg hgg hBg hat; have Bg := BoxAt.grown (w := wr.drew) HTW.out.box hgg (fun e => own_ne HOW.out HTW.out.box (by decide) e.symm); have g4 : wg.cell? ⟨b, 4, none⟩ = some (.slice oa O.length oc) := Bg.cell 4; have z4 : wg.frozen? ⟨b, 4, none⟩ = false := Bg.free 4; have lg := Bg.lt; have Pg := BoxAt.grown (w := wr.drew) HPB.out hgg (fun e => own_ne HOW.out HPB.out (by decide) e.symm); have q0 : wg.cell? ⟨pb, 0, none⟩ = some (.pointer (some ⟨b, 0, none⟩)) := Pg.cell 0; have lq := Pg.lt))
        all_goals exact ⟨gg, cg, wg, hOg, hgg, hBg, hat, rfl, rfl⟩
      case cont =>
        rintro e a' w' hq
        cases e <;> try exact hq.elim
        obtain ⟨gg, cg, wg, hOg, hgg, hBg, hat, rfl, rfl⟩ := hq
        have hA := HTW.out.app hOg hgg hBg hat
        have HA1 := Lib.hid hA.1
        have HJ1 := Lib.hid (HT.out _ _ _ _ _ _ _ HJ.out ⟨nv, xs, _, O, _, HTW.out, hA.1⟩ hA.2)
        have hz1 := hA.2.size
        obtain ⟨W1, hW1⟩ : ∃ W1, W1 = wg.setCell ⟨b, 4, none⟩ (.slice (some ⟨gg, 0, none⟩) (O.length + 1) cg) := ⟨_, rfl⟩
        rw [← hW1] at HA1 HJ1 hz1 ⊢
        have HO1 : Hid (OutOf W.heap.size X.heap.size (.slice (some ⟨gg, 0, none⟩) (O.length + 1) cg)) := Lib.hid (fun q e => by
          rcases hA.2.row q e with h | h
          · exact HOO.out q h
          · right; omega)
        obtain ⟨fn, tmps, assign, body, hy, hR⟩ := HY.out X.heap.size k W1 nv _ xs m HBX.out.size (by omega) HJ1.out hlt (by rw [HG.out]; exact HA1.out) HO1.out HNO.out
        have hwb : ∀ q, (q = pb ∨ (W.heap.size ≤ q ∧ q < X.heap.size)) → W1.heap[q]? = X.heap[q]? := fun q hq => by
          rw [hW1]
          have hqb : q ≠ b := by
            rcases hq with h | h
            · rw [h]; exact hne
            · have := HTS.out.box.lt; omega
          refine (hA.2.block q (by rcases hq with h | h <;> omega) hqb (fun e => ?_)).trans (HWIN.out q hq)
          rcases hq with h | h
          · subst h
            exact own_ne HOW.out HPB.out (by decide) e
          · have := HOO.out q e; omega
        have HWB := Lib.hid hwb
        clear hA hW1 hwb hOg hgg hBg hat p0 p1 b4 b5 f4 s0
        gi_wp2
        refine ⟨fun h => (by simp [Fence.wide] at h), hR.mono ?_⟩
        rintro e W3 ⟨rfl, ⟨nv', ov', xs', m', hJ3, ht3, ho3, hn3⟩, hw3, hf3⟩
        rw [HG.out] at ht3
        obtain ⟨g3, c3, ev3, -, -⟩ := ht3.own.form (by simp)
        rw [show (O ++ [c]).length = O.length + 1 by simp] at ev3
        subst ev3
        have hc3 := own_len ht3.own
        rw [show (O ++ [c]).length = O.length + 1 by simp] at hc3
        have hCUT : ∀ W, (Instr.sliceAt 49 (.slice (some ⟨g3, 0, none⟩) (O.length + 1) c3) none (some (.int .i64 (O.length : Int))) none).run Tryz.prog W = .ok (.slice (some ⟨g3, 0, none⟩) O.length c3) W := fun W => cut_low (P := Tryz.prog) 49 ⟨g3, 0, none⟩ (O.length + 1) c3 O.length intsUnder 1 intSize (by omega) W
        have HP3 : Hid (BoxAt W3 pb #[.pointer (some ⟨b, 0, none⟩)] 124) := Lib.hid ((hw3 pb (Or.inl rfl)).trans ((HWB.out pb (Or.inl rfl)).trans HPX.out))
        have p0 : W3.cell? ⟨pb, 0, none⟩ = some (.pointer (some ⟨b, 0, none⟩)) := HP3.out.cell 0
        have b4 : W3.cell? ⟨b, 4, none⟩ = some (.slice (some ⟨g3, 0, none⟩) (O.length + 1) c3) := ht3.box.cell 4
        have f4 : W3.frozen? ⟨b, 4, none⟩ = false := ht3.box.free 4
        have hbl3 := ht3.box.lt
        have hf3s := hf3.size
        have HT3 := Lib.hid ht3; have HJ3 := Lib.hid hJ3; have HO3 := Lib.hid ho3; have HN3 := Lib.hid hn3; have HW3 := Lib.hid hw3
        clear ht3 hJ3 ho3 hn3 hw3 hf3 hR hy hc3
        gi_wp2
        refine wpIn_wide.2 ?_
        go_region
        have hA := HT3.out.cut (nq := 1)
        have HT4 := Lib.hid hA.1
        have HJ4 := Lib.hid (HT.out _ _ _ _ _ _ _ HJ3.out ⟨nv', xs', _, _, _, HT3.out, hA.1⟩ hA.2)
        have hz4 := hA.2.size
        have hwb4 : ∀ q, (q = pb ∨ (W.heap.size ≤ q ∧ q < X.heap.size)) → ((W3.setCell ⟨b, 4, none⟩ (.slice (some ⟨g3, 0, none⟩) O.length c3)).drewN 1).heap[q]? = X.heap[q]? := fun q hq => by
          have hqb : q ≠ b := by
            rcases hq with h | h
            · rw [h]; exact hne
            · have := HTS.out.box.lt; omega
          refine (hA.2.block q (by rcases hq with h | h <;> omega) hqb (fun e => ?_)).trans ((HW3.out q hq).trans (HWB.out q hq))
          rcases hq with h | h
          · subst h
            exact own_ne HT3.out.own HP3.out (by decide) e
          · have := HO3.out q e; omega
        obtain ⟨W4, hW4⟩ : ∃ W4, W4 = (W3.setCell ⟨b, 4, none⟩ (.slice (some ⟨g3, 0, none⟩) O.length c3)).drewN 1 := ⟨_, rfl⟩
        rw [← hW4] at HT4 HJ4 hz4 hwb4
        change Exit.then _ _ _ _ ((W3.setCell ⟨b, 4, none⟩ (.slice (some ⟨g3, 0, none⟩) O.length c3)).drewN 1)
        rw [← hW4]
        have HWB4 := Lib.hid hwb4
        clear hA hW4 hwb4 p0 b4 f4 hCUT
        gi_wp2
        go_roundw
        case rel => exact ⟨k + 1, .slice (some ⟨g3, 0, none⟩) O.length c3, nv', xs', m', by omega, by go_num, HJ4.out, HT4.out, HO3.out, HN3.out, HWB4.out, by omega⟩
        case measure => simp [intOf] <;> omega
    · have e : k = Lf.length := by omega
      subst e
      have HJ := Lib.hid hJ; have HTW := Lib.hid ht
      clear hJ ht hwin ho hn
      gi_wp2
      go_end0
      exact ⟨⟨_, rfl⟩, X.heap.size, nv, ov, xs, m, by rw [← HLE.out]; exact HJ.out, HTW.out⟩
end Go.Proofs.YtdgegebplebeoaaGreatDoor
