/-
  Package press: all orders by the reference, and the one with the least make-ready.
-/
import Derived.Test.YtpplcbpnojggcaaAA
import Derived.Test.YtpplcbpnojggcaaAH
namespace Go.Proofs.Ytpplcbpnojggcaa
open Go.RowKit Go.Maps Go.Shelf

/-- A number within rows, counted from the rows' beginning. -/
theorem fldj (ad : Addr) (q n r : Nat) : ad.add (q * n + r) = fld (ad.add (q * n)) r := by
  cases r with
  | zero => rfl
  | succ r =>
    show _ = (⟨(ad.add (q * n)).block, (ad.add (q * n)).off + (r + 1), none⟩ : Addr)
    unfold Addr.add
    by_cases hz : q * n = 0
    · rw [if_pos hz, if_neg (by omega), hz, Nat.zero_add]
    · rw [if_neg hz, if_neg (by omega)]
      show (⟨ad.block, ad.off + (q * n + (r + 1)), none⟩ : Addr) = ⟨ad.block, ad.off + q * n + (r + 1), none⟩
      rw [Nat.add_assoc]
/-- 'append(l, m...)' at a slice of the call's own, at a step of a region that draws. -/
theorem step_appL {α : Type} {n by_ : Nat} {ST E : TypeId} {z : Value} {g : α → List Int} (T : ElT n by_ ST E z) (hg : ∀ x, (g x).length = n) {ops : Array Oper} {o : Oper} {a : Act} {K : Act → World → Prop} {Q : Exit → Act → World → Prop} {E0 : Prop} (w : World) (hgd : o.guard = none) (s xo : Operand)
    (ho : o.op = .call { callee := .builtin .append, args := #[s, xo], argTypes := #[ST, ST] }) (B : Nat) (v : Value) (L : List α) (hs : a.eval s = v) (hown : OwnR n E g w B v L)
    (b : Option Addr) (M : List α) (m c : Nat) (hm : m = M.length) (hx : a.eval xo = .slice b m c) (hM : RowsAt n g w b M) (hbc : b = none → c = 0) (hl : L.length ≤ 1000000) (hl2 : M.length ≤ 1000000) (hB : B ≤ w.heap.size)
    (h : ∀ v' w', OwnR n E g w' B v' (L ++ M) → w.grownBy w' v.ownBlock → Below B w w' → (v'.ownBlock = v.ownBlock ∨ v'.ownBlock = some w.heap.size) → K (a.put o.dst v') w') :
    if Region.wanted o (yielded ops a.tmps) = true then Oper.wp Try.prog o a w K Q else E0 := by
  subst hm
  have hw : Region.wanted o (yielded ops a.tmps) = true := by simp [Region.wanted, hgd]
  rw [if_pos hw]
  obtain ⟨i0, hi0, hz0, hz1, hz2⟩ := info_parts T.info
  have hbl := T.by64
  cases b with
  | none =>
    have hM0 := hM.drop_none
    subst hM0
    have hc := hbc rfl
    subst hc
    have hrun := run_append_owned_none (P := Try.prog) (w := w) B ST o.type E i0 n T.sl hi0 v L.length (vals (L.flatMap g)) hown
    unfold Oper.wp
    simp [execOp, ho, resolve, invoke, builtin, hs, hx, hrun, Result.andThen]
    exact h v w (by rw [List.append_nil]; exact hown) ⟨rfl, rfl, rfl, Nat.le_refl _, fun _ _ _ => rfl⟩ (Below.refl _ _) (Or.inl rfl)
  | some ad =>
    obtain ⟨v', w', hr, h2, h3, h4, h5⟩ := run_append_own_at (P := Try.prog) w B ST o.type E i0 z n by_ T.sl hi0 hz0 hz1 hz2 T.zs T.pos v L.length (vals (L.flatMap g)) hown ad M.length c (vals (M.flatMap g))
      (by simp [vals, flat_len hg M]) (fun j u hj => by
        have hjl : j < M.length * n := by
          have := (List.getElem?_eq_some_iff.1 hj).1
          simpa [vals, flat_len hg M] using this
        have hn := T.pos
        have hk : j / n < M.length := Nat.div_lt_of_lt_mul (by rw [Nat.mul_comm]; exact hjl)
        have hjn : j % n < n := Nat.mod_lt _ hn
        have ej : j / n * n + j % n = j := by rw [Nat.mul_comm]; exact Nat.div_add_mod j n
        obtain ⟨ad', e, _, hs⟩ := hM (j / n) hk
        cases e
        have e1 := hs (j % n) hjn
        have e2 := flat_at hg M (j / n) (j % n) hk hjn
        rw [ej] at e2
        unfold vals at hj
        rw [List.getElem?_map, e2] at hj
        rw [← fldj, ej] at e1
        rw [e1, ← hj]; rfl) (vals_one _) (by unfold maxLen; omega) (Nat.le_trans (Nat.mul_le_mul_left _ hbl) (by omega)) hB
    unfold Oper.wp execOp
    simp only [ho, resolve, invoke, builtin, Sem.run_bind, Sem.run_pure, Result.andThen_ok, List.map_toArray, List.map_cons, List.map_nil, hs, hx, hr]
    refine h v' w' ?_ h3 ((Below.refl B w).grown h3 hB (fun k hk => (hown.lt k hk).1)) h5
    unfold OwnR
    rw [List.flatMap_append, vals_app, List.length_append]
    exact h2
/-- 'append(l, m...)' at a slice of the call's own, at a step of a region that draws. -/
theorem step_appG {α : Type} {n by_ : Nat} {ST E : TypeId} {z : Value} {g : α → List Value} (T : ElG n by_ ST E z) (hg : ∀ x, (g x).length = n) (ho1 : ∀ x, ∀ u ∈ g x, u.oneCell' = true) {ops : Array Oper} {o : Oper} {a : Act} {K : Act → World → Prop} {Q : Exit → Act → World → Prop} {E0 : Prop} (w : World) (hgd : o.guard = none) (s xo : Operand)
    (ho : o.op = .call { callee := .builtin .append, args := #[s, xo], argTypes := #[ST, ST] }) (B : Nat) (v : Value) (L : List α) (hs : a.eval s = v) (hown : OwnG n E g w B v L)
    (b : Option Addr) (M : List α) (m c : Nat) (hm : m = M.length) (hx : a.eval xo = .slice b m c) (hM : RowsG n g w b M) (hbc : b = none → c = 0) (hl : L.length ≤ 1000000) (hl2 : M.length ≤ 1000000) (hB : B ≤ w.heap.size)
    (h : ∀ v' w', OwnG n E g w' B v' (L ++ M) → w.grownBy w' v.ownBlock → Below B w w' → (v'.ownBlock = v.ownBlock ∨ v'.ownBlock = some w.heap.size) → K (a.put o.dst v') w') :
    if Region.wanted o (yielded ops a.tmps) = true then Oper.wp Try.prog o a w K Q else E0 := by
  subst hm
  have hw : Region.wanted o (yielded ops a.tmps) = true := by simp [Region.wanted, hgd]
  rw [if_pos hw]
  obtain ⟨i0, hi0, hz0, hz1, hz2⟩ := info_parts T.info
  have hbl := T.by64
  cases b with
  | none =>
    have hM0 := hM.drop_none
    subst hM0
    have hc := hbc rfl
    subst hc
    have hrun := run_append_owned_none (P := Try.prog) (w := w) B ST o.type E i0 n T.sl hi0 v L.length (L.flatMap g) hown
    unfold Oper.wp
    simp [execOp, ho, resolve, invoke, builtin, hs, hx, hrun, Result.andThen]
    exact h v w (by rw [List.append_nil]; exact hown) ⟨rfl, rfl, rfl, Nat.le_refl _, fun _ _ _ => rfl⟩ (Below.refl _ _) (Or.inl rfl)
  | some ad =>
    obtain ⟨v', w', hr, h2, h3, h4, h5⟩ := run_append_own_at (P := Try.prog) w B ST o.type E i0 z n by_ T.sl hi0 hz0 hz1 hz2 T.zs T.pos v L.length (L.flatMap g) hown ad M.length c (M.flatMap g)
      (flatG_len hg M) (fun j u hj => by
        have hjl : j < M.length * n := by
          have := (List.getElem?_eq_some_iff.1 hj).1
          simpa [flatG_len hg M] using this
        have hn := T.pos
        have hk : j / n < M.length := Nat.div_lt_of_lt_mul (by rw [Nat.mul_comm]; exact hjl)
        have hjn : j % n < n := Nat.mod_lt _ hn
        have ej : j / n * n + j % n = j := by rw [Nat.mul_comm]; exact Nat.div_add_mod j n
        obtain ⟨ad', e, _, hs⟩ := hM (j / n) hk
        cases e
        have e1 := hs (j % n) hjn
        have e2 := flatG_at hg M (j / n) (j % n) hk hjn
        rw [ej] at e2
        rw [e2] at hj
        have e3 : fld (ad.add (j / n * n)) (j % n) = ad.add j := by
          rcases Nat.eq_zero_or_pos (j % n) with h0 | h0
          · rw [h0]; show ad.add _ = _; rw [← ej, h0, Nat.add_zero, Nat.mul_div_cancel _ hn]
          · obtain ⟨q, hq⟩ : ∃ q, j % n = q + 1 := ⟨j % n - 1, by omega⟩
            rw [hq]
            show (⟨(ad.add (j / n * n)).block, (ad.add (j / n * n)).off + (q + 1), none⟩ : Addr) = ad.add j
            rw [← hq]
            unfold Addr.add
            by_cases hz : j / n * n = 0
            · rw [if_pos hz, if_neg (by omega)]
              have : j % n = j := by omega
              rw [this]
            · rw [if_neg hz, if_neg (by omega)]
              show (⟨ad.block, ad.off + j / n * n + j % n, none⟩ : Addr) = ⟨ad.block, ad.off + j, none⟩
              rw [Nat.add_assoc, ej]
        rw [← e3, e1]; exact hj) (flatG_one ho1 M) (by unfold maxLen; omega) (Nat.le_trans (Nat.mul_le_mul_left _ hbl) (by omega)) hB
    unfold Oper.wp execOp
    simp only [ho, resolve, invoke, builtin, Sem.run_bind, Sem.run_pure, Result.andThen_ok, List.map_toArray, List.map_cons, List.map_nil, hs, hx, hr]
    refine h v' w' ?_ h3 ((Below.refl B w).grown h3 hB (fun k hk => (hown.lt k hk).1)) h5
    unfold OwnG
    rw [List.flatMap_append, List.length_append]
    exact h2

set_option maxRecDepth 100000 in
set_option maxHeartbeats 2000000 in
theorem refOthers_any (a : Option Addr) (O : List Int) (m c n : Nat) (w : World) (hm : m = O.length) (hO : RowsAt 1 intL w a O) (hol : O.length ≤ 1000) (hn : n ≤ 1000) :
    Calls Try.prog 143 #[.slice a m c, .int .i64 n] w (LeftPost w (leftK O n)) := by
  subst hm
  have HO := Lib.hid hO
  clear hO
  go_enter Try.func143, Try.ntmps143
  go_wp2_with fail
  go_loopw [5, 6] (fun v i wr => ∃ k : Nat, k ≤ n ∧ i = .int .i64 k ∧ OwnR 1 3 intL wr w.heap.size v (leftK O k) ∧ Below w.heap.size w wr) (fun _ i _ => n - (intOf i).toNat)
  case atStart => exact ⟨0, Nat.zero_le _, rfl, OwnR.nil _ _, Below.refl _ _⟩
  case round =>
    obtain ⟨k, hk, rfl, hOL, hB⟩ := hrel
    by_cases hlt : k < n
    · have HC := Lib.hid (has_any a O O.length c (k : Int) wr rfl (HO.out.below hB) (by unfold maxLen; omega))
      have HL := Lib.hid (leftK_len O k)
      have HOW := Lib.hid hOL
      have HBW := Lib.hid hB
      have hkn : (k : Int) < (n : Int) := by omega
      clear hOL hB
      cases hc : O.contains (k : Int)
      · have HS := Lib.hid (show leftK O (k + 1) = leftK O k ++ [(k : Int)] by show (if _ then _ else _) = _; rw [hc]; rfl)
        rw [hc] at HC
        clear hc
        go_wp2_with (first | (go_at_call 112; refine HC.out.mono ?_; rintro e w' ⟨rfl, rfl⟩) | (at_builtin; refine wpList_appX tInt int_l _ (k : Int) _ rfl rfl _ _ rfl w.heap.size _ (leftK O k) rfl HOW.out rfl (by have := HL.out; omega) HBW.out.size ?_; intro gg cg wg hOg hgg hBg))
        go_roundw
        case rel => exact ⟨k + 1, by omega, by go_num, by rw [HS.out]; exact hOg, HBW.out.trans hBg⟩
        case measure => simp [intOf] <;> omega
      · have HS := Lib.hid (show leftK O (k + 1) = leftK O k by show (if _ then _ else _) = _; rw [hc]; rfl)
        rw [hc] at HC
        clear hc
        go_wp2_with (go_at_call 112; refine HC.out.mono ?_; rintro e w' ⟨rfl, rfl⟩)
        go_roundw
        case rel => exact ⟨k + 1, by omega, by go_num, by rw [HS.out]; exact HOW.out, HBW.out⟩
        case measure => simp [intOf] <;> omega
    · obtain rfl : k = n := by omega
      go_wp2
      go_ret
      exact ⟨_, rfl, hOL, hB⟩
/-- A list of orders, each in a row of the call's own. -/
def OrdsPost (L : List (List Int)) (w : World) (e : Ending) (w' : World) : Prop := ∃ (v : Value) (T : List PR), e = .returned v ∧ OwnG 1 75 prV w' w.heap.size v T ∧ OwnRows w' w.heap.size T ∧ T.map (·.l) = L ∧ Below w.heap.size w w'
theorem own_made1 (w : World) (B : Nat) (x : PR) (hB : B ≤ w.heap.size) : OwnG 1 75 prV (w.alloc (.cells #[.slice x.a x.l.length x.c] 75)) B (.slice (some ⟨w.heap.size, 0, none⟩) 1 1) [x] :=
  ⟨by simp [prV], .inr ⟨w.heap.size, 1, #[.slice x.a x.l.length x.c], rfl, hB, heap_alloc_new w _, Nat.le_refl _, by unfold maxLen; decide, rfl, rfl⟩⟩
theorem flat_map_take {α β : Type} (F : α → List β) {L : List α} {k : Nat} (hk : k < L.length) : (L.take (k + 1)).flatMap F = (L.take k).flatMap F ++ F L[k] := by
  rw [List.take_succ_eq_append_getElem hk, List.flatMap_append]; simp
set_option maxRecDepth 100000 in
set_option maxHeartbeats 8000000 in
theorem refOrders_any (n : Nat) (hn5 : n ≤ 5) : ∀ (f : Nat) (O : List Int) (a : Option Addr) (m c : Nat) (w : World), m = O.length → O.length + f = n → RowsAt 1 intL w a O → (a = none → c = 0) →
    Calls Try.prog 116 #[.slice a m c, .int .i64 n] w (OrdsPost (refOrds f n O) w) := by
  intro f
  induction f with
  | zero =>
    intro O a m c w hm hf hO hd
    subst hm
    have hE : ((O.length : Int) == (n : Int)) = true := by simp; omega
    have HC := Lib.hid (fun W h => copyInts_any a O O.length c W rfl h (by omega) hd)
    have HO := Lib.hid hO
    clear hO hf
    go_enter Try.func116, Try.ntmps116
    go_wp2_with (go_at_call 47; refine (HC.out _ HO.out).mono ?_; rintro e w2 ⟨v2, rfl, hO2, hb2⟩; obtain ⟨a2, c2, e2, -⟩ := hO2.rows int_l; subst e2)
    have HOW := Lib.hid (hO2.alloc (.cells #[.slice a2 O.length c2] 75))
    have HG := Lib.hid (own_made1 w2 w.heap.size ⟨a2, O, c2⟩ hb2.size)
    have HB := Lib.hid (hb2.alloc hb2.size (.cells #[.slice a2 O.length c2] 75))
    clear hO2 hb2 hE
    go_ret
    exact ⟨_, [⟨a2, O, c2⟩], rfl, HG.out, fun x hx => (by rw [List.mem_singleton.1 hx]; exact HOW.out), rfl, HB.out⟩
  | succ f ih =>
    intro O a m c w hm hf hO hd
    subst hm
    have hE : ((O.length : Int) == (n : Int)) = false := by rw [beq_eq_false_iff_ne]; omega
    have HC := Lib.hid (fun W h => copyInts_any a O O.length c W rfl h (by omega) hd)
    have HOT := Lib.hid (fun W h => refOthers_any a O O.length c n W rfl h (by omega) (by omega))
    have HO := Lib.hid hO
    have HIH := Lib.hid (fun (y : Int) (a2 : Option Addr) (m2 c2 : Nat) (W : World) (h2 : m2 = (O ++ [y]).length) (h : RowsAt 1 intL W a2 (O ++ [y])) (hd2 : a2 = none → c2 = 0) => ih (O ++ [y]) a2 m2 c2 W h2 (by simp; omega) h hd2)
    have HEQ := Lib.hid (show refOrds (f + 1) n O = (leftK O n).flatMap fun y => refOrds f n (O ++ [y]) from rfl)
    have HLL := Lib.hid (show ∀ k, (((leftK O n).take k).flatMap fun y => refOrds f n (O ++ [y])).length ≤ 100000 from fun k => by
      have h1 : ∀ L : List Int, L.length ≤ 5 → (L.flatMap fun y => refOrds f n (O ++ [y])).length ≤ L.length * 5 ^ 5 := by
        intro L
        induction L with
        | nil => intro _; simp
        | cons y L ih2 =>
          intro hl
          have h3 := refOrds_len f (O ++ [y]) (n := n)
          have h4 : n ^ f ≤ 5 ^ 5 := Nat.le_trans (Nat.pow_le_pow_left hn5 f) (Nat.pow_le_pow_right (by decide) (by omega))
          have h5 := ih2 (by simp at hl; omega)
          rw [List.flatMap_cons, List.length_append, List.length_cons, Nat.succ_mul]
          omega
      have h2 := leftK_len O n
      have h6 : ((leftK O n).take k).length ≤ 5 := by rw [List.length_take]; omega
      have h7 := h1 _ h6
      have h8 : ((leftK O n).take k).length * 5 ^ 5 ≤ 5 * 5 ^ 5 := Nat.mul_le_mul_right _ h6
      omega)
    have hol : O.length ≤ 5 := by omega
    have hf5 : f ≤ 5 := by omega
    clear hO hf ih
    go_enter Try.func116, Try.ntmps116
    go_wp2_with (go_at_call 143; refine (HOT.out _ HO.out).mono ?_; rintro e w2 ⟨v2, rfl, hO2, hb2⟩; obtain ⟨a2, c2, e2, -⟩ := hO2.rows int_l; subst e2)
    have HL2 := Lib.hid hO2; have HB2 := Lib.hid hb2
    obtain ⟨Lf, hLf⟩ : ∃ Lf, Lf = leftK O n := ⟨_, rfl⟩
    rw [← hLf] at HL2 HEQ HLL ⊢
    have hll : Lf.length ≤ 5 := by have := leftK_len O n; rw [hLf]; omega
    clear hO2 hb2 hE hLf HOT
    go_loopw [5, 7] (fun v i wr => ∃ (k : Nat) (T : List PR), k ≤ Lf.length ∧ i = .int .i64 k ∧ OwnG 1 75 prV wr w2.heap.size v T ∧ OwnRows wr w.heap.size T ∧ Hid (T.map (·.l) = (Lf.take k).flatMap fun y => refOrds f n (O ++ [y])) ∧ Below w2.heap.size w2 wr) (fun _ i _ => Lf.length - (intOf i).toNat)
    case atStart => exact ⟨0, [], Nat.zero_le _, rfl, OwnG.nil _ _, fun x hx => (by cases hx), Lib.hid rfl, Below.refl _ _⟩
    case round =>
      obtain ⟨k, T, hk, rfl, hown, hrows, HM, hB⟩ := hrel
      by_cases hlt : k < Lf.length
      · have hL := HL2.out.below hB
        obtain ⟨a3, c3, e3, hr3, -⟩ := hL.rows int_l
        injection e3 with e4 _ e5
        subst e4; subst e5
        obtain ⟨ad, rfl, had, s0⟩ := hr3.int hlt
        obtain ⟨y, ey⟩ : ∃ y, y = Lf[k] := ⟨_, rfl⟩
        have HFM := Lib.hid (flat_map_take (fun y => refOrds f n (O ++ [y])) hlt)
        rw [← ey] at s0 HFM
        have hkl : (k : Int) < (Lf.length : Int) := by omega
        have HOW := Lib.hid (HO.out.below (HB2.out.trans (hB.mono HB2.out.size)))
        have HOWN := Lib.hid hown; have HRS := Lib.hid hrows; have HB := Lib.hid hB
        have HTL := Lib.hid (show T.length ≤ 100000 by have h := congrArg List.length HM.out; rw [List.length_map] at h; rw [h]; exact HLL.out k)
        obtain ⟨va, vc, ev, -⟩ := hown.rows prV_l
        subst ev
        have hadb : (ad.add k).block < wr.heap.size := by rw [add_block]; exact had
        clear ey hr3 hL hown hrows hB
        go_wp2_with fail
        have HBW := Lib.hid (HB2.out.trans (HB.out.mono HB2.out.size))
        have hn5x := hn5
        go_region_law (first
          | (go_simp; go_at_call 47; refine Calls.mono (HC.out _ (by first | exact HOW.out.drew | exact HOW.out.drew.alloc _)) ?_; rintro e w3 ⟨v3, rfl, hO3, hb3⟩; obtain ⟨a3, c3, e3, -⟩ := hO3.rows int_l; subst e3; have HB3 : Hid (Below wr.heap.size wr w3) := Lib.hid (by first | exact (Below.refl _ wr).drew.trans hb3 | exact ((Below.refl _ wr).drew.alloc (Nat.le_refl _) _).trans (hb3.mono (by simp))); have HO3 : Hid (OwnR 1 3 intL w3 wr.heap.size (.slice a3 O.length c3) O) := Lib.hid (hO3.mono (by first | exact Nat.le_refl _ | simp)); (try have HM3 : Hid (RowsAt 1 intL w3 (some ⟨wr.heap.size, 0, none⟩) [y]) := Lib.hid ((IBox.lit wr.drew [y] _ rfl).below hb3).rows); have s0 : w3.cell? (ad.add k) = some (.int .i64 y) := (HB3.out.cell hadb).trans s0; clear hO3 hb3)
          | (refine step_appL tInt int_l _ (by rfl) _ _ (by rfl) wr.heap.size _ O (by rfl) (by first | exact HO3.out | exact HO3.out.alloc _) _ [y] 1 1 rfl (by rfl) (by first | exact (IBox.lit w3 [y] _ rfl).rows | exact (HM3.out)) (fun e => by cases e) (by omega) (by simp) (by first | exact HB3.out.size | (have := HB3.out.size; simp; omega)) ?_; intro v4 w4 hO4 hg4 hB4 hor4; obtain ⟨a4, c4, e4, hr4, -, -, hn4, -⟩ := hO4.rows int_l; subst e4; have HB4 : Hid (Below wr.heap.size wr w4) := Lib.hid (by first | exact HB3.out.trans hB4 | exact (HB3.out.alloc HB3.out.size _).trans hB4); have HR4 := Lib.hid hr4; clear hO4 hg4 hB4 hor4 hr4)
          | (go_simp; go_at_call 116; refine (HIH.out y a4 _ c4 _ (by simp) HR4.out hn4).mono ?_; rintro e w5 ⟨v5, T5, rfl, hG5, hR5, hm5, hb5⟩; obtain ⟨a5, c5, e5, hr5, hn5, -⟩ := hG5.rows prV_l; subst e5; have HB5 := Lib.hid (HB4.out.trans (hb5.mono HB4.out.size)); have HG5 := Lib.hid (hG5.mono HB4.out.size); have HR5 := Lib.hid hR5; have HM5 := Lib.hid hm5; have HRR5 := Lib.hid hr5; have HT5 := Lib.hid (show T5.length ≤ 100000 by have h := congrArg List.length hm5; rw [List.length_map] at h; rw [h]; exact Nat.le_trans (refOrds_len f _) (Nat.le_trans (Nat.pow_le_pow_left hn5x f) (Nat.le_trans (Nat.pow_le_pow_right (by decide) hf5) (by decide)))); clear hG5 hR5 hm5 hb5 hr5)
          | (refine step_appG tPR prV_l prV_one _ (by rfl) _ _ (by rfl) w2.heap.size _ T (by rfl) (HOWN.out.below HB5.out) _ T5 _ _ rfl (by rfl) HRR5.out hn5 (by have := HTL.out; omega) (by have := HT5.out; omega) (by have h1 := HB5.out.size; have h2 := HB.out.size; omega) ?_; intro v6 w6 hO6 hg6 hB6 hor6))
        all_goals
          have hRS6 : OwnRows w6 w.heap.size (T ++ T5) := fun z hz => by
            rcases List.mem_append.1 hz with h | h
            · exact ((HRS.out.below HB5.out).grown (HOWN.out.below HB5.out) hg6) z h
            · exact (OwnRows.grown (fun z hz => (HR5.out z hz).mono (Nat.le_trans HBW.out.size HB4.out.size)) (HOWN.out.below HB5.out) hg6) z h
          have HRS6 := Lib.hid hRS6; have HO6 := Lib.hid hO6
          have HB6 := Lib.hid (HB.out.trans ((HB5.out.mono HB.out.size).trans hB6))
          have HM6 := Lib.hid (show (T ++ T5).map (·.l) = (Lf.take (k + 1)).flatMap fun y => refOrds f n (O ++ [y]) by rw [List.map_append, HM.out, HM5.out, HFM.out])
          clear hRS6 hO6 hg6 hB6 hor6
          go_wp2
          go_roundw
          case rel => exact ⟨k + 1, T ++ T5, by omega, by go_num, HO6.out, HRS6.out, HM6, HB6.out⟩
          case measure => simp [intOf]; omega
      · obtain rfl : k = Lf.length := by omega
        obtain ⟨va, vc, ev, -⟩ := hown.rows prV_l
        subst ev
        have HE := Lib.hid (show T.map (·.l) = refOrds (f + 1) n O by rw [HEQ.out, HM.out, List.take_length])
        have HOWN := Lib.hid (hown.mono HB2.out.size); have HRS := Lib.hid hrows
        have HB := Lib.hid (HB2.out.trans (hB.mono HB2.out.size))
        clear hown hrows hB
        go_wp2
        go_ret
        exact ⟨_, T, rfl, HOWN.out, HRS.out, HE.out, HB.out⟩
end Go.Proofs.Ytpplcbpnojggcaa
