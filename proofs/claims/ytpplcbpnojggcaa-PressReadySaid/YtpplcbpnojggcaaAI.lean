/-
  Package press: the order with the least make-ready: leastOrder at LeastMakeReady's function.
-/
import Derived.Test.YtpplcbpnojggcaaE8
namespace Go.Proofs.Ytpplcbpnojggcaa
open Go.RowKit Go.Maps Go.Shelf
attribute [local go_sem] Oper.semAt_some

set_option maxRecDepth 100000 in
set_option maxHeartbeats 4000000 in
theorem leastReady_any (cn c : Nat) (tk : List Int → Int × Int) (lb : Value) (w : World) (hE : OrdsEnd cn c) (hcn : cn ≤ 100)
    (htk : ∀ (O : List Int) (v : Value) (B : Nat) (W : World), Below w.heap.size w W → OwnR 1 3 intL W B v O → O.length = cn → (∀ y ∈ O, 0 ≤ y ∧ y < cn) → Calls Try.prog 129 #[v, lb] W (TwoPost (tk O) W)) :
    Calls Try.prog 113 #[.int .i64 cn, .func (.func 129) #[] #[lb]] w (LstPost (lstF tk (ordsL cn c)) w) := by
  have HE := Lib.hid hE; have HTK := Lib.hid htk
  clear hE htk
  refine (callsIn_wide (n := 9)).1 ?_
  refine callsIn_of_wp_marks Try.func113 rfl trivial ?_ rfl
  simp only [Try.ntmps113, List.size_toArray, List.length_cons, List.length_nil, Nat.reduceAdd, Nat.reduceSub, Array.replicate_succ, Array.replicate_zero, List.push_toArray, List.append_toArray, List.nil_append, List.cons_append]
  gi_wp2_with (refine ⟨trivial, ?_⟩; gi_at_call 139; refine (callsIn_wide.2 (orders_any _ _)).mono ?_; rintro e w' ⟨rfl, rfl⟩)
  obtain ⟨fv, hfv⟩ : ∃ fv, fv = Value.func (.func 129) #[] #[lb] := ⟨_, rfl⟩
  have HFV := Lib.hid hfv
  obtain ⟨A1, hA1⟩ : ∃ A1, A1 = w.alloc (.cells #[Value.func (.func 129) #[] #[lb]] 162) := ⟨_, rfl⟩
  obtain ⟨A2, hA2⟩ : ∃ A2, A2 = A1.alloc (.cells #[.slice none 0 0] 75) := ⟨_, rfl⟩
  obtain ⟨A3, hA3⟩ : ∃ A3, A3 = A2.alloc (.cells #[.int .i64 0] 3) := ⟨_, rfl⟩
  obtain ⟨A4, hA4⟩ : ∃ A4, A4 = A3.alloc (.cells #[.int .i64 12] 29) := ⟨_, rfl⟩
  obtain ⟨A5, hA5⟩ : ∃ A5, A5 = A4.alloc (.cells #[.int .i64 cn] 3) := ⟨_, rfl⟩
  have hz1 : A1.heap.size = w.heap.size + 1 := by rw [hA1]; simp
  have hz2 : A2.heap.size = w.heap.size + 1 + 1 := by rw [hA2]; simp [hz1]
  have hz3 : A3.heap.size = w.heap.size + 1 + 1 + 1 := by rw [hA3]; simp [hz2]
  have hz4 : A4.heap.size = w.heap.size + 1 + 1 + 1 + 1 := by rw [hA4]; simp [hz3]
  have hz5 : A5.heap.size = w.heap.size + 5 := by rw [hA5]; simp [hz4]
  have b0 : BoxAt A5 w.heap.size #[fv] 162 := by rw [hA5, hA4, hA3, hA2, hA1, hfv]; exact ((((BoxAt.new w _ _).alloc _).alloc _).alloc _).alloc _
  have b1 : BoxAt A5 (w.heap.size + 1) #[.slice none 0 0] 75 := by rw [hA5, hA4, hA3, hA2, ← hz1]; exact (((BoxAt.new A1 _ _).alloc _).alloc _).alloc _
  have b2 : BoxAt A5 (w.heap.size + 2) #[.int .i64 0] 3 := by rw [hA5, hA4, hA3, show w.heap.size + 2 = A2.heap.size by omega]; exact ((BoxAt.new A2 _ _).alloc _).alloc _
  have b3 : BoxAt A5 (w.heap.size + 3) #[.int .i64 12] 29 := by rw [hA5, hA4, show w.heap.size + 3 = A3.heap.size by omega]; exact (BoxAt.new A3 _ _).alloc _
  have b4 : BoxAt A5 (w.heap.size + 1 + 1 + 1 + 1) #[.int .i64 cn] 3 := by rw [hA5, ← hz4]; exact BoxAt.new A4 _ _
  have hlow : Below w.heap.size w A5 := by
    rw [hA5, hA4, hA3, hA2, hA1]
    exact ((((((Below.refl w.heap.size w).alloc (Nat.le_refl _) _).alloc (by simp) _).alloc (by simp; omega) _).alloc (by simp; omega) _).alloc (by simp; omega) _)
  have hLI : LsI w fv (lstF tk []) [] (.slice none 0 0) A5 := ⟨b0, b1, b2, b3, OwnR.nil _ _, (fun y hy => by cases hy), hlow, by omega, fun _ => rfl⟩
  change Code.wpIn _ _ _ _ _ _ (((((w.alloc (.cells #[Value.func (.func 129) #[] #[lb]] 162)).alloc (.cells #[.slice none 0 0] 75)).alloc (.cells #[.int .i64 0] 3)).alloc (.cells #[.int .i64 12] 29)).alloc (.cells #[.int .i64 cn] 3))
  rw [← hA1, ← hA2, ← hA3, ← hA4, ← hA5]
  clear hA1 hA2 hA3 hA4 hA5 hz1 hz2 hz3 hz4 b0 b1 b2 b3 hfv
  refine wpIn_rangeFunc_rw rfl (by omega) (gf := 154) (lb := #[.pointer (some ⟨w.heap.size + 1 + 1 + 1 + 1, 0, none⟩)]) rfl trivial (enters_of Try.func154 (by kernel_rfl) rfl)
    (orders_rw cn c (w.heap.size + 1 + 1 + 1 + 1) _ A5 HE.out hcn b4) rfl
    (fun xs W => ∃ V, LsI w fv (lstF tk (xs.map (·.l))) xs V W)
    (fun _ _ _ => False)
    (fun xs X Y row hs hg hr => by obtain ⟨V, h⟩ := hs; exact ⟨V, h.kept hg (fun r e => ⟨by have := (hr r e).1; omega, (hr r e).2⟩)⟩)
    (fun _ _ _ _ _ hs _ _ => hs)
    (fun xs x X Y hs ho ht => by obtain ⟨V, h⟩ := hs; exact ⟨V, h.turn (List.mem_append.2 (Or.inr (List.mem_singleton.2 rfl))) (fun k e => by have := (ho.lt k e).1; omega) ht⟩)
    (fun X hX => ⟨_, hLI.below hX⟩)
    (fun x => { tmps := #[.int .i64 cn, .func (.func 129) #[] #[lb], undef, .pointer (some ⟨w.heap.size, 0, none⟩), .slice none 0 0, .int .i64 0, .int .i64 0, .pointer (some ⟨w.heap.size + 1, 0, none⟩), .pointer (some ⟨w.heap.size + 1 + 1, 0, none⟩), .pointer (some ⟨w.heap.size + 1 + 1 + 1, 0, none⟩), x.v, undef, undef, .int .i64 cn, .func (.func 154) #[] #[.pointer (some ⟨w.heap.size + 1 + 1 + 1 + 1, 0, none⟩)], x.v, undef, undef, undef, undef, undef, undef, undef, undef, undef, undef, undef, undef, undef, undef, undef, undef, undef, undef, undef, undef, undef, undef, undef], defers := [] }) ?assign ?body ?done ?stop
  case assign =>
    intro l x W K hK
    gi_wp2
    exact hK
  case body =>
    rintro l pre x W ⟨V, hI⟩ hlen ⟨hone, k, hk, hm⟩ how
    have hxl := ord_pick hm
    have HLEN := Lib.hid (show x.l.length = cn by rw [hxl]; exact ordAt_len _ _)
    have HTC := Lib.hid (HTK.out x.l x.v (A5.heap.size + 2) W hI.low how HLEN.out (by rw [hxl]; exact ord_in' _ _))
    have HSN := Lib.hid (show lstF tk ((pre ++ [x]).map (·.l)) = lstP tk (lstF tk (pre.map (·.l))) x.l by rw [List.map_append]; exact lstF_snoc _ _ _)
    obtain ⟨st, hst⟩ : ∃ st, st = lstF tk (pre.map (·.l)) := ⟨_, rfl⟩
    rw [← hst] at hI HSN
    have HONE := Lib.hid hone
    clear hst hm hxl hone
    obtain ⟨F, le, fo⟩ := st
    obtain ⟨t, ht⟩ : ∃ t, t = tk x.l := ⟨_, rfl⟩
    rw [← ht] at HTC
    have HLP := Lib.hid (show lstP tk (F, le, fo) x.l = if t.2 = 0 ∧ (fo ≠ 0 ∨ t.1 < le) then (x.l, t.1, 0) else (F, le, fo) by unfold lstP; rw [← ht])
    clear ht
    obtain ⟨mn, er⟩ := t
    dsimp only at HLP
    have c0 : W.cell? ⟨w.heap.size, 0, none⟩ = some fv := hI.b0.cell 0
    rw [HFV.out] at c0
    have HI := Lib.hid hI
    have HOW := Lib.hid how
    have hlo := hI.lo
    have HZ5 := Lib.hid hz5
    have HLX0 := Lib.hid (fun (W' : World) (hb : Below W.heap.size W W') => (show LsI w fv (F, le, fo) (pre ++ [x]) V W' from
      { hI.below hb with
        ne := fun y hy q e => by
          have hq : ∀ y ∈ pre, y.v = x.v := fun y hy => by
            obtain ⟨v, h⟩ := HONE.out
            rw [h y (List.mem_append.2 (Or.inl hy)), h x (List.mem_append.2 (Or.inr (List.mem_singleton.2 rfl)))]
          rcases List.mem_append.1 hy with h | h
          · exact hI.ne y h q e
          · rw [List.mem_singleton.1 h]
            rcases pre with _ | ⟨y0, pre0⟩
            · rw [hI.emp rfl] at e; cases e
            · rw [← hq y0 List.mem_cons_self]; exact hI.ne y0 List.mem_cons_self q e
        emp := fun h => by simp at h }))
    clear hI how hlow hz5 hLI b4
    refine wpIn_block ?_
    refine wpIn_seq ?_
    refine wpIn_round_plain (by rfl) (fun ⟨_, _, h⟩ => h) ?_
    go_wp2_with (go_at_call 129; refine HTC.out.mono ?_; rintro e W1 ⟨rfl, hb1⟩)
    have HB1 := Lib.hid hb1
    have HLX := Lib.hid (HLX0.out W1 hb1)
    have hI1 := HI.out.below hb1
    have hz1 := hb1.size
    have d2 : W1.cell? ⟨w.heap.size + 1 + 1, 0, none⟩ = some (.int .i64 le) := hI1.b2.cell 0
    have d3 : W1.cell? ⟨w.heap.size + 1 + 1 + 1, 0, none⟩ = some (.int .i64 fo) := hI1.b3.cell 0
    have HI1 := Lib.hid hI1
    have HO1 := Lib.hid (HOW.out.below hb1)
    clear c0 hb1 hI1 HLX0
    refine wpIn_seq ?_
    by_cases h1 : er = 0
    · by_cases h2 : fo = 0
      · by_cases h3 : mn < le
        · have HLP : Hid (lstP tk (F, le, fo) x.l = (x.l, mn, 0)) := Lib.hid (by rw [HLP.out, if_pos ⟨h1, Or.inr h3⟩])
          have h1' : (er == 0) = true := by simpa using h1
          have h2' : (fo != 0) = false := by simpa using h2
          have h3' : decide (mn < le) = true := decide_eq_true h3
          clear h1 h2 h3
          refine wpIn_round_plain (by rfl) (fun ⟨_, _, h⟩ => h) ?_
          go_wp2
          refine wpIn_cond (t := true) rfl ?_
          refine wpIn_round_plain (by rfl) (fun ⟨_, _, h⟩ => h) ?_
          go_wp2_with (go_at_call 140; refine (cloneOwn_any _ x.v x.l W1 HO1.out (by rw [HLEN.out]; omega)).mono ?_; rintro e W2 ⟨v2, rfl, hO2, hb2⟩; obtain ⟨ca, cc, ev, -⟩ := hO2.rows int_l; subst ev; have B1 := HI1.out.b1.below hb2; have B2 := HI1.out.b2.below hb2; have B3 := HI1.out.b3.below hb2; have k1 : W2.cell? ⟨w.heap.size + 1, 0, none⟩ = some V := B1.cell 0; have k2 : W2.cell? ⟨w.heap.size + 1 + 1, 0, none⟩ = some (.int .i64 le) := B2.cell 0; have k3 : W2.cell? ⟨w.heap.size + 1 + 1 + 1, 0, none⟩ = some (.int .i64 fo) := B3.cell 0; have f1 : W2.frozen? ⟨w.heap.size + 1, 0, none⟩ = false := B1.free 0; have f2 : W2.frozen? ⟨w.heap.size + 1 + 1, 0, none⟩ = false := B2.free 0; have f3 : W2.frozen? ⟨w.heap.size + 1 + 1 + 1, 0, none⟩ = false := B3.free 0; have l1 : w.heap.size + 1 + 1 + 1 < W2.heap.size := B3.lt; clear B1 B2 B3; have HO2 := Lib.hid hO2; have HB2 := Lib.hid hb2; clear hO2 hb2)
          have hne : ∀ y ∈ pre ++ [x], ∀ q, (Value.slice ca x.l.length cc).ownBlock = some q → y.v.ownBlock ≠ some q := fun y hy q e e2 => by
            obtain ⟨v, h⟩ := HONE.out
            have h1 := (HO2.out.lt q e).1
            rw [h y hy, ← h x (List.mem_append.2 (Or.inr (List.mem_singleton.2 rfl)))] at e2
            have h2 := (HO1.out.lt q e2).2
            omega
          have hP := (HI1.out.below HB2.out).put (mn := mn) (xs' := pre ++ [x]) HO2.out (by omega) hne (by simp)
          have hkk : ∀ k, k < W.heap.size → w.heap.size + 5 ≤ k → (((W2.setCell ⟨w.heap.size + 1, 0, none⟩ (.slice ca x.l.length cc)).setCell ⟨w.heap.size + 1 + 1, 0, none⟩ (.int .i64 mn)).setCell ⟨w.heap.size + 1 + 1 + 1, 0, none⟩ (.int .i64 0)).heap[k]? = W.heap[k]? := fun k hk hk2 => (hP.2 k hk2).trans ((HB2.out.block k (by omega)).trans (HB1.out.block k hk))
          have hz5 := HZ5.out
          refine ⟨⟨by simp; have := HB2.out.size; omega, fun k o hk ho _ => (hkk k (heap_lt ho) (by omega)).trans ho⟩, fun q e => hkk q (HOW.out.lt q e).2 (by have := (HOW.out.lt q e).1; omega), .slice ca x.l.length cc, ?_⟩
          rw [HSN.out, HLP.out]
          exact hP.1
        · have HLP : Hid (lstP tk (F, le, fo) x.l = (F, le, fo)) := Lib.hid (by rw [HLP.out, if_neg (by rintro ⟨_, h | h⟩; exact h h2; exact h3 h)])
          have h1' : (er == 0) = true := by simpa using h1
          have h2' : (fo != 0) = false := by simpa using h2
          have h3' : decide (mn < le) = false := decide_eq_false h3
          clear h1 h2 h3
          refine wpIn_round_plain (by rfl) (fun ⟨_, _, h⟩ => h) ?_
          go_wp2
          refine wpIn_cond (t := false) rfl ?_
          refine wpIn_skip ?_
          refine ⟨keeps_below HB1.out, fun q e => HB1.out.block q (HOW.out.lt q e).2, V, ?_⟩
          rw [HSN.out, HLP.out]
          exact HLX.out
      · have HLP : Hid (lstP tk (F, le, fo) x.l = (x.l, mn, 0)) := Lib.hid (by rw [HLP.out, if_pos ⟨h1, Or.inl h2⟩])
        have h1' : (er == 0) = true := by simpa using h1
        have h2' : (fo != 0) = true := by simpa using h2
        clear h1 h2
        refine wpIn_round_plain (by rfl) (fun ⟨_, _, h⟩ => h) ?_
        go_wp2
        refine wpIn_cond (t := true) rfl ?_
        refine wpIn_round_plain (by rfl) (fun ⟨_, _, h⟩ => h) ?_
        go_wp2_with (go_at_call 140; refine (cloneOwn_any _ x.v x.l W1 HO1.out (by rw [HLEN.out]; omega)).mono ?_; rintro e W2 ⟨v2, rfl, hO2, hb2⟩; obtain ⟨ca, cc, ev, -⟩ := hO2.rows int_l; subst ev; have B1 := HI1.out.b1.below hb2; have B2 := HI1.out.b2.below hb2; have B3 := HI1.out.b3.below hb2; have k1 : W2.cell? ⟨w.heap.size + 1, 0, none⟩ = some V := B1.cell 0; have k2 : W2.cell? ⟨w.heap.size + 1 + 1, 0, none⟩ = some (.int .i64 le) := B2.cell 0; have k3 : W2.cell? ⟨w.heap.size + 1 + 1 + 1, 0, none⟩ = some (.int .i64 fo) := B3.cell 0; have f1 : W2.frozen? ⟨w.heap.size + 1, 0, none⟩ = false := B1.free 0; have f2 : W2.frozen? ⟨w.heap.size + 1 + 1, 0, none⟩ = false := B2.free 0; have f3 : W2.frozen? ⟨w.heap.size + 1 + 1 + 1, 0, none⟩ = false := B3.free 0; have l1 : w.heap.size + 1 + 1 + 1 < W2.heap.size := B3.lt; clear B1 B2 B3; have HO2 := Lib.hid hO2; have HB2 := Lib.hid hb2; clear hO2 hb2)
        have hne : ∀ y ∈ pre ++ [x], ∀ q, (Value.slice ca x.l.length cc).ownBlock = some q → y.v.ownBlock ≠ some q := fun y hy q e e2 => by
          obtain ⟨v, h⟩ := HONE.out
          have h1 := (HO2.out.lt q e).1
          rw [h y hy, ← h x (List.mem_append.2 (Or.inr (List.mem_singleton.2 rfl)))] at e2
          have h2 := (HO1.out.lt q e2).2
          omega
        have hP := (HI1.out.below HB2.out).put (mn := mn) (xs' := pre ++ [x]) HO2.out (by omega) hne (by simp)
        have hkk : ∀ k, k < W.heap.size → w.heap.size + 5 ≤ k → (((W2.setCell ⟨w.heap.size + 1, 0, none⟩ (.slice ca x.l.length cc)).setCell ⟨w.heap.size + 1 + 1, 0, none⟩ (.int .i64 mn)).setCell ⟨w.heap.size + 1 + 1 + 1, 0, none⟩ (.int .i64 0)).heap[k]? = W.heap[k]? := fun k hk hk2 => (hP.2 k hk2).trans ((HB2.out.block k (by omega)).trans (HB1.out.block k hk))
        have hz5 := HZ5.out
        refine ⟨⟨by simp; have := HB2.out.size; omega, fun k o hk ho _ => (hkk k (heap_lt ho) (by omega)).trans ho⟩, fun q e => hkk q (HOW.out.lt q e).2 (by have := (HOW.out.lt q e).1; omega), .slice ca x.l.length cc, ?_⟩
        rw [HSN.out, HLP.out]
        exact hP.1
    · have HLP : Hid (lstP tk (F, le, fo) x.l = (F, le, fo)) := Lib.hid (by rw [HLP.out, if_neg (fun h => h1 h.1)])
      have h1' : (er == 0) = false := by simpa using h1
      clear h1
      refine wpIn_round_plain (by rfl) (fun ⟨_, _, h⟩ => h) ?_
      go_wp2
      refine wpIn_cond (t := false) rfl ?_
      refine wpIn_skip ?_
      refine ⟨keeps_below HB1.out, fun q e => HB1.out.block q (HOW.out.lt q e).2, V, ?_⟩
      rw [HSN.out, HLP.out]
      exact HLX.out
  case done =>
    rintro D xs W hD ⟨hone, hm⟩ ⟨V, hI⟩ hK
    rw [hm] at hI
    have c6 : W.cell? ⟨w.heap.size + 1, 0, none⟩ = some V := hI.b1.cell 0
    have c7 : W.cell? ⟨w.heap.size + 1 + 1, 0, none⟩ = some (.int .i64 (lstF tk (ordsL cn c)).2.1) := hI.b2.cell 0
    have c8 : W.cell? ⟨w.heap.size + 1 + 1 + 1, 0, none⟩ = some (.int .i64 (lstF tk (ordsL cn c)).2.2) := hI.b3.cell 0
    have HI := Lib.hid hI
    obtain ⟨va, vc, ev, -⟩ := hI.own.rows int_l
    subst ev
    clear hI hm hone
    gi_wp2
    refine wpIn_wide.2 ?_
    go_quiet (fail)
    gi_wp2
    have hnb : (Value.slice va (lstF tk (ordsL cn c)).1.length vc).ownBlock ≠ some D := fun e => by
      obtain ⟨cs, hcs⟩ := own_block HI.out.own D e
      rw [hK] at hcs; cases hcs
    refine ⟨by simp, .inl ⟨_, _, rfl, run_takeDeferred (w := W.drewN nq) hK, ?_⟩⟩
    refine ⟨.tuple #[.slice va (lstF tk (ordsL cn c)).1.length vc, .int .i64 (lstF tk (ordsL cn c)).2.1, .int .i64 (lstF tk (ordsL cn c)).2.2], by simp [results, Try.results113, go_sem], .slice va (lstF tk (ordsL cn c)).1.length vc, rfl, ?_, ?_⟩
    · exact ((HI.out.own.drewN nq).putObj hnb _).mono (by omega)
    · exact below_putObj (below_drewN HI.out.low nq) (by omega) _
  case stop =>
    rintro D cc pre W _ _ h _
    exact h.elim
end Go.Proofs.Ytpplcbpnojggcaa
