/-
  The reference's spaces.
-/
import Derived.Test.YtebndgepmjonoaaDoorX3
import Derived.Test.YtebndgepmjonoaaDoorX9
import Derived.Deep.RegionLaw
import Derived.Maps.AppendAt
namespace Go.Proofs.YtebndgepmjonoaaDoor
open Go.RowKit Go.Maps

section
variable {w : World}
/-- An append of a list of numbers, whatever it is, to a row of the call's own. -/
theorem run_app (ty : TypeId) (base g0 n cap0 : Nat) (xs : List Int) (hown : w.ownsRow base 3 1 (.slice (some ⟨g0, 0, none⟩) n cap0) n (vals xs)) (A : Option Addr) (m c : Nat) (ys : List Int) (hm : m = ys.length) (hA : A = none → c = 0) (hys : IntsAt w A ys) (hbd : n + m ≤ 1000) (hbase : base ≤ w.heap.size) :
    ∃ g cap w', (Builtin.append_ #[31, 31] ty #[.slice (some ⟨g0, 0, none⟩) n cap0, .slice A m c]).run Tryd.prog w = .ok (.slice (some ⟨g, 0, none⟩) (n + m) cap) w' ∧
      w'.ownsRow base 3 1 (.slice (some ⟨g, 0, none⟩) (n + m) cap) (n + m) (vals (xs ++ ys)) ∧ w.grownBy w' (some g0) ∧ (g = g0 ∨ g = w.heap.size) := by
  obtain ⟨i0, hi, hz0, hz1, hz2⟩ := info_parts info3
  cases A with
  | none =>
    have hl0 : ys = [] := by
      rcases ys with _ | ⟨x, r⟩
      · rfl
      · obtain ⟨ad, h, _⟩ := hys 0 (by simp); cases h
    subst hl0
    have hm0 : m = 0 := hm
    have hc0 := hA rfl
    subst hm0 hc0
    have hr := run_append_owned_none (P := Tryd.prog) (w := w) base 31 ty 3 i0 1 Tryd.underlying31 hi _ n (vals xs) hown
    exact ⟨g0, cap0, w, hr, by simpa using hown, ⟨rfl, rfl, rfl, Nat.le_refl _, fun _ _ _ => rfl⟩, .inl rfl⟩
  | some ad =>
    have hnews : ∀ j u, (vals ys)[j]? = some u → w.cell? (ad.add j) = some u := by
      intro j u hj
      have hjl : j < ys.length := by
        have := (List.getElem?_eq_some_iff.1 hj).1
        simpa [vals] using this
      obtain ⟨ad', e, _, hc⟩ := hys j hjl
      cases e
      rw [vals_at hjl] at hj
      rw [hc, hj]
    have hone : ∀ u ∈ vals ys, u.oneCell' = true := by
      intro u hu
      obtain ⟨x, _, rfl⟩ := List.mem_map.1 hu
      rfl
    obtain ⟨v', w', hr, h2, h3, h4, h5⟩ := run_append_own_at (P := Tryd.prog) w base 31 ty 3 i0 (.int .i64 0) 1 8 Tryd.underlying31 hi hz0 hz1 hz2 rfl (by decide) _ n (vals xs) hown ad m c (vals ys) (by simp [vals, hm]) hnews hone (by unfold maxLen; omega) (by omega) hbase
    have hv : vals xs ++ vals ys = vals (xs ++ ys) := by unfold vals; rw [List.map_append]
    rw [hv] at h2
    rcases h2.2 with ⟨e, _⟩ | ⟨g, cap, cur, e, _⟩
    · have := (h4.1 e).1; cases this
    · subst e
      refine ⟨g, cap, w', hr, h2, h3, ?_⟩
      rcases h5 with h5 | h5
      · left; simpa [Value.ownBlock] using h5
      · right; simpa [Value.ownBlock] using h5
theorem own_cap {base e n cap g : Nat} {xs : List Value} (h : w.ownsRow base e 1 (.slice (some ⟨g, 0, none⟩) n cap) n xs) : n ≤ cap := by
  rcases h.2 with ⟨e1, _⟩ | ⟨g', cap', cur, e1, _, _, h1, _⟩
  · cases e1
  · injection e1 with _ _ e2; omega
theorem IntsAt.take_ {A : Option Addr} {L : List Int} (h : IntsAt w A L) (p : Nat) : IntsAt w A (L.take p) := fun j hj => by
  rw [List.length_take] at hj
  obtain ⟨ad, e, h1, h2⟩ := h j (by omega)
  refine ⟨ad, e, h1, ?_⟩
  rw [h2, List.getD_eq_getElem?_getD, List.getD_eq_getElem?_getD, List.getElem?_take_of_lt (by omega)]
theorem IntsAt.drop_ {ad : Addr} {L : List Int} (h : IntsAt w (some ad) L) (p : Nat) : IntsAt w (some (ad.add p)) (L.drop p) := fun j hj => by
  rw [List.length_drop] at hj
  obtain ⟨ad', e, h1, h2⟩ := h (p + j) (by omega)
  cases e
  refine ⟨_, rfl, by rw [add_block]; exact h1, ?_⟩
  rw [Addr.add_add, h2, List.getD_eq_getElem?_getD, List.getD_eq_getElem?_getD, List.getElem?_drop]
theorem ints_one {g : Nat} {v : Int} {cs : Array Value} (h : w.heap[g]? = some (.cells cs 3 (0, 0))) (hc : cs = #[.int .i64 v]) : IntsAt w (some ⟨g, 0, none⟩) [v] := fun j hj => by
  have hj0 : j = 0 := by simpa using hj
  subst hj0
  refine ⟨_, rfl, ?_, ?_⟩
  · rcases Nat.lt_or_ge g w.heap.size with hlt | hge
    · exact hlt
    · rw [Array.getElem?_eq_none hge] at h; cases h
  · rw [add0, cell_of_row w g 0 cs _ (0, 0) h, hc]; rfl
theorem step_app {ops : Array Oper} {o : Oper} {a : Act} {K : Act → World → Prop} {Q : Exit → Act → World → Prop} {E : Prop} (hgd : o.guard = none) (s x : Operand)
    (ho : o.op = .call { callee := .builtin .append, args := #[s, x], argTypes := #[31, 31] })
    (base g0 n cap0 : Nat) (xs : List Int) (N : Nat) (zs : List Int) (hs : a.eval s = .slice (some ⟨g0, 0, none⟩) n cap0) (hown : w.ownsRow base 3 1 (.slice (some ⟨g0, 0, none⟩) n cap0) n (vals xs)) (A : Option Addr) (m c : Nat) (ys : List Int) (hx : a.eval x = .slice A m c) (hm : m = ys.length) (hA : A = none → c = 0) (hys : IntsAt w A ys) (hbd : n + m ≤ 1000) (hN : n + m = N) (hz : xs ++ ys = zs) (hbase : base ≤ w.heap.size)
    (h : ∀ g cap w', w'.ownsRow base 3 1 (.slice (some ⟨g, 0, none⟩) N cap) N (vals zs) → w.grownBy w' (some g0) → (g = g0 ∨ g = w.heap.size) → K (a.put o.dst (.slice (some ⟨g, 0, none⟩) N cap)) w') :
    if Region.wanted o (yielded ops a.tmps) = true then Oper.wp Tryd.prog o a w K Q else E := by
  subst hN hz
  have hw : Region.wanted o (yielded ops a.tmps) = true := by simp [Region.wanted, hgd]
  rw [if_pos hw]
  obtain ⟨g, cap, w', hr, h2, h3, h4⟩ := run_app o.type base g0 n cap0 xs hown A m c ys hm hA hys hbd hbase
  unfold Oper.wp execOp
  simp only [ho, resolve, invoke, builtin, Sem.run_bind, Sem.run_pure, Result.andThen_ok, List.map_toArray, List.map_cons, List.map_nil, hs, hx, hr]
  exact h g cap w' h2 h3 h4
end
set_option maxRecDepth 100000 in
set_option maxHeartbeats 16000000 in
theorem refSpaces_any (f : FT) (a : Option Addr) (c : Nat) (w : World) (hF : FAt w a f) (h20 : f.sorts.length ≤ 20) :
    Calls Tryd.prog 15 #[.agg #[.string f.name, .int .i64 f.body, .slice a f.sorts.length c]] w fun e w' => Below w.heap.size w w' ∧ ∃ A cap, e = .returned (.slice A (spacesOf f.sorts).length cap) ∧ IntsAt w' A (spacesOf f.sorts) := by
  have hB0 : Below (w.heap.size + 1) (w.alloc (boxF f a c)) (w.alloc (boxF f a c)) := Below.refl _ _
  have E0 := Env.of hF hB0
  have q0 := E0.c0; have q1 := E0.c1; have q2 := E0.c2
  have h20' : (f.sorts.length : Int) ≤ 20 := by omega
  go_enter Tryd.func15, Tryd.ntmps15
  go_wp2_with fail
  go_loopw [3, 4] (fun v i wr => ∃ (k : Nat) (B : Option Addr) (d : Nat), k ≤ f.sorts.length ∧ i = .int .i64 k ∧ v = .slice B (rspTo f.sorts k).length d ∧ (B = none → d = 0) ∧ (rspTo f.sorts k).length ≤ d ∧ IntsAt wr B (rspTo f.sorts k) ∧ Env w f a c wr) (fun _ i _ => f.sorts.length - (intOf i).toNat)
  case atStart => exact ⟨0, none, 0, Nat.zero_le _, rfl, rfl, fun _ => rfl, Nat.le_refl _, nilInts _ _, E0⟩
  case round =>
    obtain ⟨k, B, d, hk, rfl, rfl, hBd, hBl, hX, E⟩ := hrel
    clear q0 q1 q2 E0
    have q0 := E.c0; have q1 := E.c1; have q2 := E.c2
    by_cases hlt : k < f.sorts.length
    · have hkl : (k : Int) < (f.sorts.length : Int) := by omega
      have hst : rspTo f.sorts (k + 1) = if (f.sorts.getD k noTS).kind = 3 then insR (spLt f.sorts) (rspTo f.sorts k) (k : Int) else rspTo f.sorts k := rfl
      have hlen := (rspTo_ok f.sorts k).1
      have hin := (rspTo_ok f.sorts k).2
      by_cases h3 : (f.sorts.getD k noTS).kind = 3
      · rw [if_pos h3] at hst
        have HST := Lib.hid hst
        have HIN := Lib.hid hin
        clear hst hin
        go_wp2_with fail
        refine (refIsSpace_any f a c k _ (by exact E.fa.at_) hlt (bl := true) (decide_eq_true h3)).mono ?_
        rintro e w5 ⟨rfl, hb5⟩
        have E5 := E.step hF hb5
        have hX5 := hX.below hb5
        clear hb5 E hX q0 q1 q2 h3
        have q0 := E5.c0; have q1 := E5.c1; have q2 := E5.c2
        generalize rspTo f.sorts k = L at hX5 HST HIN hlen hBl
        have hLk : (L.length : Int) ≤ 20 := by omega
        go_wp2_with fail
        go_loopw [5] (fun v wr => ∃ p : Nat, p ≤ L.length ∧ v = .int .i64 p ∧ Hid (posR (spLt f.sorts) L k L.length = posR (spLt f.sorts) L k p) ∧ Drew w5 wr) (fun v _ => (intOf v).toNat)
        case atStart => exact ⟨L.length, Nat.le_refl _, rfl, Lib.hid rfl, Drew.refl _⟩
        case round =>
          obtain ⟨p, hp, rfl, HP, hD⟩ := hrel
          have E9 := E5.step hF (hD.below (Below.refl _ _))
          have hX9 := hD.ints hX5
          clear q0 q1 q2
          have q0 := E9.c0; have q1 := E9.c1; have q2 := E9.c2
          by_cases hp0 : 0 < p
          · obtain ⟨q, rfl⟩ : ∃ q, p = q + 1 := ⟨p - 1, by omega⟩
            obtain ⟨bd, rfl, hbdl, hcq⟩ := hX9.at_ (k := q) (by omega)
            obtain ⟨y, hy, hye⟩ := HIN.out (L.getD q 0) (by rw [getI (by omega)]; exact List.getElem_mem _)
            have hyl : y < f.sorts.length := by omega
            obtain ⟨ad, rfl, had, _, _, _, sy⟩ := E9.fa.at_.at_ hyl
            obtain ⟨_, e2, _, _, _, _, sk⟩ := E9.fa.at_.at_ hlt
            cases e2
            have hgo := Lib.hid (show posR (spLt f.sorts) L k (q + 1) = if spLt f.sorts k (L.getD q 0) = true then posR (spLt f.sorts) L k q else q + 1 from rfl)
            have hltv : spLt f.sorts (k : Int) (L.getD q 0) = decide ((f.sorts.getD k noTS).width < (f.sorts.getD y noTS).width) := by
              rw [hye]
              unfold spLt cmpI
              rw [Int.toNat_natCast, Int.toNat_natCast, wids_at hlt, wids_at hyl]
              by_cases e1 : (f.sorts.getD k noTS).width < (f.sorts.getD y noTS).width
              · rw [if_pos e1, decide_eq_true e1]; rfl
              · rw [if_neg e1, decide_eq_false e1]
                split <;> rfl
            rw [hye] at hcq
            have HLV := Lib.hid hltv
            clear hltv hye
            generalize (f.sorts.getD y noTS).width = vy at sy HLV
            generalize (f.sorts.getD k noTS).width = vk at sk HLV
            rw [show ((q + 1 : Nat) : Int) = (q : Int) + 1 from by omega]
            have hyl' : (y : Int) < (f.sorts.length : Int) := by omega
            have hql' : (q : Int) < (L.length : Int) := by omega
            have hd0 : decide ((0 : Int) < (q : Int) + 1) = true := decide_eq_true (by omega)
            by_cases hv : vk < vy
            · have hdv : decide (vk < vy) = true := decide_eq_true hv
              have HN := Lib.hid (HP.out.trans (hgo.out.trans (if_pos (HLV.out.trans hdv))))
              clear hv
              go_wp2_with fail
              go_quiet (fail)
              go_wp2
              go_roundw
              case rel => exact ⟨q, by omega, by go_num, HN, hD.drewN _⟩
              case measure => simp [intOf]
            · have hdv : decide (vk < vy) = false := decide_eq_false hv
              have HN := Lib.hid (HP.out.trans (hgo.out.trans (if_neg (by rw [HLV.out, hdv]; simp))))
              clear hv
              go_wp2_with fail
              go_quiet (fail)
              go_wp2_with fail
              obtain ⟨p, hpq⟩ : ∃ p : Nat, (p : Int) = (q : Int) + 1 := ⟨q + 1, by omega⟩
              have hpn : q + 1 = p := by omega
              rw [hpn] at HN
              rw [← hpq]
              have hpl : p ≤ L.length := by omega
              have E9 := E9.drewN hF nq
              have hX9 : IntsAt (wr.drewN nq) (some bd) L := hX9
              have hltr := E9.lt
              generalize wr.drewN nq = wo at E9 hX9 hltr
              have hpd : (p : Int) ≤ (d : Int) := by omega
              have hpi : 0 ≤ (p : Int) := by omega
              have hpL : (p : Int) ≤ (L.length : Int) := by omega
              clear sy sk hcq hql' hyl' had hbdl hdv hd0 hpq hpn hp hp0
              clear q0 q1 q2
              have hz3 : L.take p ++ [(k : Int)] ++ L.drop p = insR (spLt f.sorts) L k := by unfold insR; rw [HN.out]; simp
              have o1 : ((wo.alloc (.cells #[] 3)).drew).ownsRow wo.heap.size 3 1 (.slice (some ⟨wo.heap.size, 0, none⟩) 0 0) 0 (vals []) := World.ownsRow_made (e := 3) (size := 1) (base := wo.heap.size) wo #[] 0 (Nat.le_refl _) (Nat.zero_le _) rfl
              have bb1 : Below wo.heap.size wo ((wo.alloc (.cells #[] 3)).drew) := ((Below.refl _ _).alloc (Nat.le_refl _) _).drew
              have hxt := hX9.take_ p
              have t1 := hxt.below bb1
              have hm1 : p = (L.take p).length := by rw [List.length_take]; omega
              have hbd1 : 0 + p ≤ 1000 := by omega
              have O1 := Lib.hid o1; have T1 := Lib.hid t1; have M1 := Lib.hid hm1
              clear o1 t1 hxt hm1
              have BB1 := Lib.hid bb1
              have BB2 := Lib.hid (show Below wo.heap.size wo (((wo.alloc (.cells #[] 3)).alloc (.cells #[.int .i64 k] 3)).drew) from (((Below.refl _ _).alloc (Nat.le_refl _) _).alloc (by simp) _).drew)
              have BB3 := Lib.hid (show Below wo.heap.size wo (((wo.alloc (.cells #[.int .i64 k] 3)).alloc (.cells #[] 3)).drew) from (((Below.refl _ _).alloc (Nat.le_refl _) _).alloc (by simp) _).drew)
              have O2 : Hid ((((wo.alloc (.cells #[] 3)).alloc (.cells #[.int .i64 k] 3)).drew).ownsRow wo.heap.size 3 1 (.slice (some ⟨wo.heap.size, 0, none⟩) 0 0) 0 (vals [])) := Lib.hid ((show (wo.alloc (.cells #[] 3)).ownsRow wo.heap.size 3 1 (.slice (some ⟨wo.heap.size, 0, none⟩) 0 0) 0 (vals []) from O1.out).alloc _)
              have O3 : Hid ((((wo.alloc (.cells #[.int .i64 k] 3)).alloc (.cells #[] 3)).drew).ownsRow wo.heap.size 3 1 (.slice (some ⟨wo.heap.size + 1, 0, none⟩) 0 0) 0 (vals [])) := Lib.hid (by
                have h := World.ownsRow_made (e := 3) (size := 1) (base := wo.heap.size) (wo.alloc (.cells #[.int .i64 k] 3)) #[] 0 (by simp) (Nat.zero_le _) rfl
                have e : (wo.alloc (.cells #[.int .i64 k] 3)).heap.size = wo.heap.size + 1 := by simp
                rw [e] at h
                exact h)
              have K2 : Hid ((((wo.alloc (.cells #[] 3)).alloc (.cells #[.int .i64 k] 3)).drew).heap[wo.heap.size + 1]? = some (.cells #[.int .i64 k] 3 (0, 0))) := Lib.hid (by
                have h := heap_alloc_new (wo.alloc (.cells #[] 3)) (.cells #[.int .i64 k] 3)
                have e : (wo.alloc (.cells #[] 3)).heap.size = wo.heap.size + 1 := by simp
                rw [e] at h
                exact h)
              have K3 : Hid ((((wo.alloc (.cells #[.int .i64 k] 3)).alloc (.cells #[] 3)).drew).heap[wo.heap.size]? = some (.cells #[.int .i64 k] 3 (0, 0))) := Lib.hid (by
                have h := Lib.alloc_old (wo.alloc (.cells #[.int .i64 k] 3)) (.cells #[] 3) wo.heap.size (by simp)
                exact h.trans (heap_alloc_new wo _))
              have hdr : IntsAt wo (if d = p then some bd else some (bd.add p)) (L.drop p) := by
                split
                · rename_i e
                  rw [List.drop_of_length_le (by omega)]
                  exact nilInts _ _
                · exact hX9.drop_ p
              have hdn : (if d = p then some bd else some (bd.add p)) = none → d - p = 0 := by
                intro h
                split at h <;> cases h
              have HDR := Lib.hid hdr; have HDN := Lib.hid hdn
              have M2 := Lib.hid (show L.length - p = (L.drop p).length by rw [List.length_drop])
              have HZ3 := Lib.hid hz3
              have hbd2 : p + 1 ≤ 1000 := by omega
              have hbd3 : p + 1 + (L.length - p) ≤ 1000 := by omega
              have hN3 : p + 1 + (L.length - p) = L.length + 1 := by omega
              have T2 := Lib.hid (hX9.take_ p |>.below BB2.out)
              have T3 := Lib.hid (hX9.take_ p |>.below BB3.out)
              clear bb1 hdr hdn hz3
              go_region_law (first
                | (refine step_app rfl (.tmp 42) (.tmp 45) rfl wo.heap.size wo.heap.size 0 0 [] p (L.take p) rfl O1.out (some bd) p d (L.take p) rfl M1.out (fun h => by cases h) T1.out hbd1 (Nat.zero_add _) rfl (by simp) ?_; intro g1 cap1 w1 hown1 hgrow1 hg1; have hb1 : Below wo.heap.size wo w1 := BB1.out.grown hgrow1 (by simp) (fun q hq => by cases hq; exact Nat.le_refl _); have hz1 := hb1.size)
                | (refine step_app rfl (.tmp 42) (.tmp 45) rfl wo.heap.size wo.heap.size 0 0 [] p (L.take p) rfl O2.out (some bd) p d (L.take p) rfl M1.out (fun h => by cases h) T2.out hbd1 (Nat.zero_add _) rfl (by simp; omega) ?_; intro g1 cap1 w1 hown1 hgrow1 hg1; have hb1 : Below wo.heap.size wo w1 := BB2.out.grown hgrow1 (by simp; omega) (fun q hq => by cases hq; exact Nat.le_refl _); have hz1 := hb1.size; have hk2 := Lib.hid ((hgrow1.block (wo.heap.size + 1) (by simp) (fun e => by injection e with e; omega)).trans K2.out))
                | (refine step_app rfl (.tmp 42) (.tmp 45) rfl wo.heap.size (wo.heap.size + 1) 0 0 [] p (L.take p) rfl O3.out (some bd) p d (L.take p) rfl M1.out (fun h => by cases h) T3.out hbd1 (Nat.zero_add _) rfl (by simp; omega) ?_; intro g1 cap1 w1 hown1 hgrow1 hg1; have hb1 : Below wo.heap.size wo w1 := BB3.out.grown hgrow1 (by simp; omega) (fun q hq => by cases hq; omega); have hz1 := hb1.size; have hk3 := Lib.hid ((hgrow1.block wo.heap.size (by simp; omega) (fun e => by injection e with e; omega)).trans K3.out))
                | (refine step_app rfl (.tmp 46) (.tmp 48) rfl wo.heap.size g1 p cap1 (L.take p) (p + 1) (L.take p ++ [(k : Int)]) rfl (hown1.alloc _) (some ⟨w1.heap.size, 0, none⟩) 1 1 [(k : Int)] rfl rfl (fun h => by cases h) (ints_one (heap_alloc_new w1 _) rfl) hbd2 rfl rfl (by simp; omega) ?_; intro g2 cap2 w2 hown2 hgrow2 hg2; have hb2 : Below wo.heap.size wo w2 := (hb1.alloc hz1 _).grown hgrow2 (by simp; omega) (fun q hq => by cases hq; exact (hown1.lt g1 rfl).1); have hz2 := hb2.size)
                | (refine step_app rfl (.tmp 46) (.tmp 48) rfl wo.heap.size g1 p cap1 (L.take p) (p + 1) (L.take p ++ [(k : Int)]) rfl hown1 (some ⟨wo.heap.size + 1, 0, none⟩) 1 1 [(k : Int)] rfl rfl (fun h => by cases h) (ints_one hk2.out rfl) hbd2 rfl rfl hz1 ?_; intro g2 cap2 w2 hown2 hgrow2 hg2; have hb2 : Below wo.heap.size wo w2 := hb1.grown hgrow2 hz1 (fun q hq => by cases hq; exact (hown1.lt g1 rfl).1); have hz2 := hb2.size)
                | (refine step_app rfl (.tmp 46) (.tmp 48) rfl wo.heap.size g1 p cap1 (L.take p) (p + 1) (L.take p ++ [(k : Int)]) rfl hown1 (some ⟨wo.heap.size, 0, none⟩) 1 1 [(k : Int)] rfl rfl (fun h => by cases h) (ints_one hk3.out rfl) hbd2 rfl rfl hz1 ?_; intro g2 cap2 w2 hown2 hgrow2 hg2; have hb2 : Below wo.heap.size wo w2 := hb1.grown hgrow2 hz1 (fun q hq => by cases hq; exact (hown1.lt g1 rfl).1); have hz2 := hb2.size)
                | (refine step_app rfl (.tmp 49) (.tmp 52) rfl wo.heap.size g2 (p + 1) cap2 (L.take p ++ [(k : Int)]) (L.length + 1) (insR (spLt f.sorts) L k) rfl hown2 (if d = p then some bd else some (bd.add p)) (L.length - p) (d - p) (L.drop p) rfl M2.out HDN.out (HDR.out.below hb2) hbd3 hN3 HZ3.out hz2 ?_; intro g3 cap3 w3 hown3 hgrow3 hg3; have hb3 : Below wo.heap.size wo w3 := hb2.grown hgrow3 hz2 (fun q hq => by cases hq; exact (hown2.lt g2 rfl).1)))
              all_goals
                have hil := insR_len (spLt f.sorts) L (k : Int)
                have hx3 := ints_of_row hown3
                have hc3 := own_cap hown3
                have E3 := E9.step hF hb3
                go_wp2
                go_roundw
                case rel => exact ⟨k + 1, some ⟨g3, 0, none⟩, cap3, by omega, by go_num, by rw [HST.out, hil], fun h => (by cases h), by rw [HST.out, hil]; exact hc3, by rw [HST.out]; exact hx3, E3⟩
                case measure => simp [intOf]; omega
          · have hd0 : decide ((0 : Int) < (p : Int)) = false := decide_eq_false (by omega)
            have ez : p = 0 := by omega
            have HN : Hid (posR (spLt f.sorts) L k L.length = p) := Lib.hid (by have h := HP.out; rw [ez] at h ⊢; exact h)
            clear ez
            go_wp2_with fail
            go_quiet (fail)
            go_wp2_with fail
            have hpl : p ≤ L.length := hp
            have hpd : (p : Int) ≤ (d : Int) := by omega
            have hpi : 0 ≤ (p : Int) := by omega
            have hpL : (p : Int) ≤ (L.length : Int) := by omega
            have E9 := E9.drewN hF nq
            have hX9 : IntsAt (wr.drewN nq) B L := hX9
            have hltr := E9.lt
            generalize wr.drewN nq = wo at E9 hX9 hltr
            cases B with
            | none =>
              have hL0 : L = [] := by
                cases L with
                | nil => rfl
                | cons x r => obtain ⟨_, e, _⟩ := hX9 0 (by simp); cases e
              have hd00 : d = 0 := hBd rfl
              have hp00 : p = 0 := by rw [hL0] at hpl; simpa using hpl
              subst hL0 hd00 hp00
              clear hpd hpi hpL hpl hp0 hd0 hp
              clear q0 q1 q2
              have o1 : ((wo.alloc (.cells #[] 3)).drew).ownsRow wo.heap.size 3 1 (.slice (some ⟨wo.heap.size, 0, none⟩) 0 0) 0 (vals []) := World.ownsRow_made (e := 3) (size := 1) (base := wo.heap.size) wo #[] 0 (Nat.le_refl _) (Nat.zero_le _) rfl
              have bb1 : Below wo.heap.size wo ((wo.alloc (.cells #[] 3)).drew) := ((Below.refl _ _).alloc (Nat.le_refl _) _).drew
              have O1 := Lib.hid o1
              clear o1
              have BB1 := Lib.hid bb1
              have BB2 := Lib.hid (show Below wo.heap.size wo (((wo.alloc (.cells #[] 3)).alloc (.cells #[.int .i64 k] 3)).drew) from (((Below.refl _ _).alloc (Nat.le_refl _) _).alloc (by simp) _).drew)
              have BB3 := Lib.hid (show Below wo.heap.size wo (((wo.alloc (.cells #[.int .i64 k] 3)).alloc (.cells #[] 3)).drew) from (((Below.refl _ _).alloc (Nat.le_refl _) _).alloc (by simp) _).drew)
              have O2 : Hid ((((wo.alloc (.cells #[] 3)).alloc (.cells #[.int .i64 k] 3)).drew).ownsRow wo.heap.size 3 1 (.slice (some ⟨wo.heap.size, 0, none⟩) 0 0) 0 (vals [])) := Lib.hid ((show (wo.alloc (.cells #[] 3)).ownsRow wo.heap.size 3 1 (.slice (some ⟨wo.heap.size, 0, none⟩) 0 0) 0 (vals []) from O1.out).alloc _)
              have O3 : Hid ((((wo.alloc (.cells #[.int .i64 k] 3)).alloc (.cells #[] 3)).drew).ownsRow wo.heap.size 3 1 (.slice (some ⟨wo.heap.size + 1, 0, none⟩) 0 0) 0 (vals [])) := Lib.hid (by
                have h := World.ownsRow_made (e := 3) (size := 1) (base := wo.heap.size) (wo.alloc (.cells #[.int .i64 k] 3)) #[] 0 (by simp) (Nat.zero_le _) rfl
                have e : (wo.alloc (.cells #[.int .i64 k] 3)).heap.size = wo.heap.size + 1 := by simp
                rw [e] at h
                exact h)
              have K2 : Hid ((((wo.alloc (.cells #[] 3)).alloc (.cells #[.int .i64 k] 3)).drew).heap[wo.heap.size + 1]? = some (.cells #[.int .i64 k] 3 (0, 0))) := Lib.hid (by
                have h := heap_alloc_new (wo.alloc (.cells #[] 3)) (.cells #[.int .i64 k] 3)
                have e : (wo.alloc (.cells #[] 3)).heap.size = wo.heap.size + 1 := by simp
                rw [e] at h
                exact h)
              have K3 : Hid ((((wo.alloc (.cells #[.int .i64 k] 3)).alloc (.cells #[] 3)).drew).heap[wo.heap.size]? = some (.cells #[.int .i64 k] 3 (0, 0))) := Lib.hid (by
                have h := Lib.alloc_old (wo.alloc (.cells #[.int .i64 k] 3)) (.cells #[] 3) wo.heap.size (by simp)
                exact h.trans (heap_alloc_new wo _))
              clear bb1
              go_region_law (first
                | (refine step_app rfl (.tmp 42) (.tmp 45) rfl wo.heap.size wo.heap.size 0 0 [] 0 [] rfl O1.out none 0 0 [] rfl rfl (fun _ => rfl) (nilInts _ _) (by omega) rfl rfl (by simp) ?_; intro g1 cap1 w1 hown1 hgrow1 hg1; have hb1 : Below wo.heap.size wo w1 := BB1.out.grown hgrow1 (by simp) (fun q hq => by cases hq; exact Nat.le_refl _); have hz1 := hb1.size)
                | (refine step_app rfl (.tmp 42) (.tmp 45) rfl wo.heap.size wo.heap.size 0 0 [] 0 [] rfl O2.out none 0 0 [] rfl rfl (fun _ => rfl) (nilInts _ _) (by omega) rfl rfl (by simp; omega) ?_; intro g1 cap1 w1 hown1 hgrow1 hg1; have hb1 : Below wo.heap.size wo w1 := BB2.out.grown hgrow1 (by simp; omega) (fun q hq => by cases hq; exact Nat.le_refl _); have hz1 := hb1.size; have hk2 := Lib.hid ((hgrow1.block (wo.heap.size + 1) (by simp) (fun e => by injection e with e; omega)).trans K2.out))
                | (refine step_app rfl (.tmp 42) (.tmp 45) rfl wo.heap.size (wo.heap.size + 1) 0 0 [] 0 [] rfl O3.out none 0 0 [] rfl rfl (fun _ => rfl) (nilInts _ _) (by omega) rfl rfl (by simp; omega) ?_; intro g1 cap1 w1 hown1 hgrow1 hg1; have hb1 : Below wo.heap.size wo w1 := BB3.out.grown hgrow1 (by simp; omega) (fun q hq => by cases hq; omega); have hz1 := hb1.size; have hk3 := Lib.hid ((hgrow1.block wo.heap.size (by simp; omega) (fun e => by injection e with e; omega)).trans K3.out))
                | (refine step_app rfl (.tmp 46) (.tmp 48) rfl wo.heap.size g1 0 cap1 [] 1 [(k : Int)] rfl (hown1.alloc _) (some ⟨w1.heap.size, 0, none⟩) 1 1 [(k : Int)] rfl rfl (fun h => by cases h) (ints_one (heap_alloc_new w1 _) rfl) (by omega) rfl rfl (by simp; omega) ?_; intro g2 cap2 w2 hown2 hgrow2 hg2; have hb2 : Below wo.heap.size wo w2 := (hb1.alloc hz1 _).grown hgrow2 (by simp; omega) (fun q hq => by cases hq; exact (hown1.lt g1 rfl).1); have hz2 := hb2.size)
                | (refine step_app rfl (.tmp 46) (.tmp 48) rfl wo.heap.size g1 0 cap1 [] 1 [(k : Int)] rfl hown1 (some ⟨wo.heap.size + 1, 0, none⟩) 1 1 [(k : Int)] rfl rfl (fun h => by cases h) (ints_one hk2.out rfl) (by omega) rfl rfl hz1 ?_; intro g2 cap2 w2 hown2 hgrow2 hg2; have hb2 : Below wo.heap.size wo w2 := hb1.grown hgrow2 hz1 (fun q hq => by cases hq; exact (hown1.lt g1 rfl).1); have hz2 := hb2.size)
                | (refine step_app rfl (.tmp 46) (.tmp 48) rfl wo.heap.size g1 0 cap1 [] 1 [(k : Int)] rfl hown1 (some ⟨wo.heap.size, 0, none⟩) 1 1 [(k : Int)] rfl rfl (fun h => by cases h) (ints_one hk3.out rfl) (by omega) rfl rfl hz1 ?_; intro g2 cap2 w2 hown2 hgrow2 hg2; have hb2 : Below wo.heap.size wo w2 := hb1.grown hgrow2 hz1 (fun q hq => by cases hq; exact (hown1.lt g1 rfl).1); have hz2 := hb2.size)
                | (refine step_app rfl (.tmp 49) (.tmp 52) rfl wo.heap.size g2 1 cap2 [(k : Int)] 1 [(k : Int)] rfl hown2 none 0 0 [] rfl rfl (fun _ => rfl) (nilInts _ _) (by omega) rfl rfl hz2 ?_; intro g3 cap3 w3 hown3 hgrow3 hg3; have hb3 : Below wo.heap.size wo w3 := hb2.grown hgrow3 hz2 (fun q hq => by cases hq; exact (hown2.lt g2 rfl).1)))
              all_goals
                have hst1 : rspTo f.sorts (k + 1) = [(k : Int)] := HST.out
                have hx3 := ints_of_row hown3
                have hc3 := own_cap hown3
                have E3 := E9.step hF hb3
                go_wp2
                go_roundw
                case rel => exact ⟨k + 1, some ⟨g3, 0, none⟩, cap3, by omega, by go_num, by rw [hst1]; rfl, fun h => (by cases h), by rw [hst1]; exact hc3, by rw [hst1]; exact hx3, E3⟩
                case measure => simp [intOf]; omega
            | some bd =>
              clear hp0 hd0 hp
              clear q0 q1 q2
              have hz3 : L.take p ++ [(k : Int)] ++ L.drop p = insR (spLt f.sorts) L k := by unfold insR; rw [HN.out]; simp
              have o1 : ((wo.alloc (.cells #[] 3)).drew).ownsRow wo.heap.size 3 1 (.slice (some ⟨wo.heap.size, 0, none⟩) 0 0) 0 (vals []) := World.ownsRow_made (e := 3) (size := 1) (base := wo.heap.size) wo #[] 0 (Nat.le_refl _) (Nat.zero_le _) rfl
              have bb1 : Below wo.heap.size wo ((wo.alloc (.cells #[] 3)).drew) := ((Below.refl _ _).alloc (Nat.le_refl _) _).drew
              have hxt := hX9.take_ p
              have t1 := hxt.below bb1
              have hm1 : p = (L.take p).length := by rw [List.length_take]; omega
              have hbd1 : 0 + p ≤ 1000 := by omega
              have O1 := Lib.hid o1; have T1 := Lib.hid t1; have M1 := Lib.hid hm1
              clear o1 t1 hxt hm1
              have BB1 := Lib.hid bb1
              have BB2 := Lib.hid (show Below wo.heap.size wo (((wo.alloc (.cells #[] 3)).alloc (.cells #[.int .i64 k] 3)).drew) from (((Below.refl _ _).alloc (Nat.le_refl _) _).alloc (by simp) _).drew)
              have BB3 := Lib.hid (show Below wo.heap.size wo (((wo.alloc (.cells #[.int .i64 k] 3)).alloc (.cells #[] 3)).drew) from (((Below.refl _ _).alloc (Nat.le_refl _) _).alloc (by simp) _).drew)
              have O2 : Hid ((((wo.alloc (.cells #[] 3)).alloc (.cells #[.int .i64 k] 3)).drew).ownsRow wo.heap.size 3 1 (.slice (some ⟨wo.heap.size, 0, none⟩) 0 0) 0 (vals [])) := Lib.hid ((show (wo.alloc (.cells #[] 3)).ownsRow wo.heap.size 3 1 (.slice (some ⟨wo.heap.size, 0, none⟩) 0 0) 0 (vals []) from O1.out).alloc _)
              have O3 : Hid ((((wo.alloc (.cells #[.int .i64 k] 3)).alloc (.cells #[] 3)).drew).ownsRow wo.heap.size 3 1 (.slice (some ⟨wo.heap.size + 1, 0, none⟩) 0 0) 0 (vals [])) := Lib.hid (by
                have h := World.ownsRow_made (e := 3) (size := 1) (base := wo.heap.size) (wo.alloc (.cells #[.int .i64 k] 3)) #[] 0 (by simp) (Nat.zero_le _) rfl
                have e : (wo.alloc (.cells #[.int .i64 k] 3)).heap.size = wo.heap.size + 1 := by simp
                rw [e] at h
                exact h)
              have K2 : Hid ((((wo.alloc (.cells #[] 3)).alloc (.cells #[.int .i64 k] 3)).drew).heap[wo.heap.size + 1]? = some (.cells #[.int .i64 k] 3 (0, 0))) := Lib.hid (by
                have h := heap_alloc_new (wo.alloc (.cells #[] 3)) (.cells #[.int .i64 k] 3)
                have e : (wo.alloc (.cells #[] 3)).heap.size = wo.heap.size + 1 := by simp
                rw [e] at h
                exact h)
              have K3 : Hid ((((wo.alloc (.cells #[.int .i64 k] 3)).alloc (.cells #[] 3)).drew).heap[wo.heap.size]? = some (.cells #[.int .i64 k] 3 (0, 0))) := Lib.hid (by
                have h := Lib.alloc_old (wo.alloc (.cells #[.int .i64 k] 3)) (.cells #[] 3) wo.heap.size (by simp)
                exact h.trans (heap_alloc_new wo _))
              have hdr : IntsAt wo (if d = p then some bd else some (bd.add p)) (L.drop p) := by
                split
                · rename_i e
                  rw [List.drop_of_length_le (by omega)]
                  exact nilInts _ _
                · exact hX9.drop_ p
              have hdn : (if d = p then some bd else some (bd.add p)) = none → d - p = 0 := by
                intro h
                split at h <;> cases h
              have HDR := Lib.hid hdr; have HDN := Lib.hid hdn
              have M2 := Lib.hid (show L.length - p = (L.drop p).length by rw [List.length_drop])
              have HZ3 := Lib.hid hz3
              have hbd2 : p + 1 ≤ 1000 := by omega
              have hbd3 : p + 1 + (L.length - p) ≤ 1000 := by omega
              have hN3 : p + 1 + (L.length - p) = L.length + 1 := by omega
              have T2 := Lib.hid (hX9.take_ p |>.below BB2.out)
              have T3 := Lib.hid (hX9.take_ p |>.below BB3.out)
              clear bb1 hdr hdn hz3
              go_region_law (first
                | (refine step_app rfl (.tmp 42) (.tmp 45) rfl wo.heap.size wo.heap.size 0 0 [] p (L.take p) rfl O1.out (some bd) p d (L.take p) rfl M1.out (fun h => by cases h) T1.out hbd1 (Nat.zero_add _) rfl (by simp) ?_; intro g1 cap1 w1 hown1 hgrow1 hg1; have hb1 : Below wo.heap.size wo w1 := BB1.out.grown hgrow1 (by simp) (fun q hq => by cases hq; exact Nat.le_refl _); have hz1 := hb1.size)
                | (refine step_app rfl (.tmp 42) (.tmp 45) rfl wo.heap.size wo.heap.size 0 0 [] p (L.take p) rfl O2.out (some bd) p d (L.take p) rfl M1.out (fun h => by cases h) T2.out hbd1 (Nat.zero_add _) rfl (by simp; omega) ?_; intro g1 cap1 w1 hown1 hgrow1 hg1; have hb1 : Below wo.heap.size wo w1 := BB2.out.grown hgrow1 (by simp; omega) (fun q hq => by cases hq; exact Nat.le_refl _); have hz1 := hb1.size; have hk2 := Lib.hid ((hgrow1.block (wo.heap.size + 1) (by simp) (fun e => by injection e with e; omega)).trans K2.out))
                | (refine step_app rfl (.tmp 42) (.tmp 45) rfl wo.heap.size (wo.heap.size + 1) 0 0 [] p (L.take p) rfl O3.out (some bd) p d (L.take p) rfl M1.out (fun h => by cases h) T3.out hbd1 (Nat.zero_add _) rfl (by simp; omega) ?_; intro g1 cap1 w1 hown1 hgrow1 hg1; have hb1 : Below wo.heap.size wo w1 := BB3.out.grown hgrow1 (by simp; omega) (fun q hq => by cases hq; omega); have hz1 := hb1.size; have hk3 := Lib.hid ((hgrow1.block wo.heap.size (by simp; omega) (fun e => by injection e with e; omega)).trans K3.out))
                | (refine step_app rfl (.tmp 46) (.tmp 48) rfl wo.heap.size g1 p cap1 (L.take p) (p + 1) (L.take p ++ [(k : Int)]) rfl (hown1.alloc _) (some ⟨w1.heap.size, 0, none⟩) 1 1 [(k : Int)] rfl rfl (fun h => by cases h) (ints_one (heap_alloc_new w1 _) rfl) hbd2 rfl rfl (by simp; omega) ?_; intro g2 cap2 w2 hown2 hgrow2 hg2; have hb2 : Below wo.heap.size wo w2 := (hb1.alloc hz1 _).grown hgrow2 (by simp; omega) (fun q hq => by cases hq; exact (hown1.lt g1 rfl).1); have hz2 := hb2.size)
                | (refine step_app rfl (.tmp 46) (.tmp 48) rfl wo.heap.size g1 p cap1 (L.take p) (p + 1) (L.take p ++ [(k : Int)]) rfl hown1 (some ⟨wo.heap.size + 1, 0, none⟩) 1 1 [(k : Int)] rfl rfl (fun h => by cases h) (ints_one hk2.out rfl) hbd2 rfl rfl hz1 ?_; intro g2 cap2 w2 hown2 hgrow2 hg2; have hb2 : Below wo.heap.size wo w2 := hb1.grown hgrow2 hz1 (fun q hq => by cases hq; exact (hown1.lt g1 rfl).1); have hz2 := hb2.size)
                | (refine step_app rfl (.tmp 46) (.tmp 48) rfl wo.heap.size g1 p cap1 (L.take p) (p + 1) (L.take p ++ [(k : Int)]) rfl hown1 (some ⟨wo.heap.size, 0, none⟩) 1 1 [(k : Int)] rfl rfl (fun h => by cases h) (ints_one hk3.out rfl) hbd2 rfl rfl hz1 ?_; intro g2 cap2 w2 hown2 hgrow2 hg2; have hb2 : Below wo.heap.size wo w2 := hb1.grown hgrow2 hz1 (fun q hq => by cases hq; exact (hown1.lt g1 rfl).1); have hz2 := hb2.size)
                | (refine step_app rfl (.tmp 49) (.tmp 52) rfl wo.heap.size g2 (p + 1) cap2 (L.take p ++ [(k : Int)]) (L.length + 1) (insR (spLt f.sorts) L k) rfl hown2 (if d = p then some bd else some (bd.add p)) (L.length - p) (d - p) (L.drop p) rfl M2.out HDN.out (HDR.out.below hb2) hbd3 hN3 HZ3.out hz2 ?_; intro g3 cap3 w3 hown3 hgrow3 hg3; have hb3 : Below wo.heap.size wo w3 := hb2.grown hgrow3 hz2 (fun q hq => by cases hq; exact (hown2.lt g2 rfl).1)))
              all_goals
                have hil := insR_len (spLt f.sorts) L (k : Int)
                have hx3 := ints_of_row hown3
                have hc3 := own_cap hown3
                have E3 := E9.step hF hb3
                go_wp2
                go_roundw
                case rel => exact ⟨k + 1, some ⟨g3, 0, none⟩, cap3, by omega, by go_num, by rw [HST.out, hil], fun h => (by cases h), by rw [HST.out, hil]; exact hc3, by rw [HST.out]; exact hx3, E3⟩
                case measure => simp [intOf]; omega
      · rw [if_neg h3] at hst
        have HST := Lib.hid hst
        clear hst
        go_wp2_with fail
        refine (refIsSpace_any f a c k _ (by exact E.fa.at_) hlt (bl := false) (decide_eq_false h3)).mono ?_
        rintro e w5 ⟨rfl, hb5⟩
        have E5 := E.step hF hb5
        have hX5 := hX.below hb5
        go_wp2
        go_roundw
        case rel => exact ⟨k + 1, B, d, by omega, by go_num, by rw [HST.out], hBd, by rw [HST.out]; exact hBl, by rw [HST.out]; exact hX5, E5⟩
        case measure => simp [intOf]; omega
    · have hk2 : k = f.sorts.length := by omega
      subst hk2
      have hlow := E.low
      go_wp2
      go_ret
      exact ⟨hlow, B, d, rfl, hX⟩
end Go.Proofs.YtebndgepmjonoaaDoor
