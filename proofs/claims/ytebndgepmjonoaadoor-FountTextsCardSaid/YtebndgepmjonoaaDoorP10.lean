/-
  The text of a fount is read again.
-/
import Derived.Test.YtebndgepmjonoaaDoorP9
import Derived.Deep.LoopGhost
namespace Go.Proofs.YtebndgepmjonoaaDoor
open Go.RowKit Go.Maps

/-- What stands of a printed fount behind so many lines. -/
def tailB (f : FT) : Nat → List UInt8
  | 0 => joinB (hWords f) ++ 10 :: f.sorts.flatMap sortLine
  | j + 1 => (f.sorts.drop j).flatMap sortLine
/-- What a reader holds behind so many lines. -/
def RdOf (f : FT) (r : Rd) : Nat → Prop
  | 0 => r = ⟨⟨#[]⟩, 0, .slice none 0 0, [], ⟨#[]⟩, ⟨#[]⟩, 0, 0⟩
  | j + 1 => r.nm = f.name ∧ r.body = f.body ∧ r.l = f.sorts.take j
theorem tail_start {f : FT} : (printF f).data.toList = tailB f 0 := by
  unfold printF tailB
  rw [print_all f _ (Nat.le_refl _), List.take_length]
theorem tail_next {f : FT} {j : Nat} (h : j < f.sorts.length) : tailB f (j + 1) = joinB (sWords (f.sorts.getD j noTS)) ++ 10 :: tailB f (j + 2) := by
  show (f.sorts.drop j).flatMap sortLine = joinB (sWords (f.sorts.getD j noTS)) ++ 10 :: (f.sorts.drop (j + 1)).flatMap sortLine
  rw [List.drop_eq_getElem_cons h, List.flatMap_cons, sortLine_eq, getD_eq h]
  simp
theorem tail_end {f : FT} : tailB f (f.sorts.length + 1) = [] := by
  show (f.sorts.drop f.sorts.length).flatMap sortLine = []
  rw [List.drop_length]; rfl
theorem T3_ {T : List (ByteArray × Int)} {p q r : List UInt8} (h : T.map (·.1.data.toList) = [p, q, r]) : ∃ x0 i0 x1 i1 x2 i2, T = [(x0, i0), (x1, i1), (x2, i2)] ∧ x0.data.toList = p ∧ x1.data.toList = q ∧ x2.data.toList = r := by
  match T, h with
  | [(x0, i0), (x1, i1), (x2, i2)], h =>
    simp only [List.map_cons, List.map_nil, List.cons.injEq, and_true] at h
    exact ⟨x0, i0, x1, i1, x2, i2, rfl, h.1, h.2.1, h.2.2⟩
theorem T4_ {T : List (ByteArray × Int)} {p q r u : List UInt8} (h : T.map (·.1.data.toList) = [p, q, r, u]) : ∃ x0 i0 x1 i1 x2 i2 x3 i3, T = [(x0, i0), (x1, i1), (x2, i2), (x3, i3)] ∧ x0.data.toList = p ∧ x1.data.toList = q ∧ x2.data.toList = r ∧ x3.data.toList = u := by
  match T, h with
  | [(x0, i0), (x1, i1), (x2, i2), (x3, i3)], h =>
    simp only [List.map_cons, List.map_nil, List.cons.injEq, and_true] at h
    exact ⟨x0, i0, x1, i1, x2, i2, x3, i3, rfl, h.1, h.2.1, h.2.2.1, h.2.2.2⟩
theorem own_cap2 {w : World} {base e n cap g size : Nat} {xs : List Value} (h : w.ownsRow base e size (.slice (some ⟨g, 0, none⟩) n cap) n xs) : n ≤ cap := by
  rcases h.2 with ⟨e1, _⟩ | ⟨g', cap', cur, e1, _, _, h1, _⟩
  · cases e1
  · injection e1 with _ _ e2; omega
def noteW : ByteArray := ⟨#[110, 111, 116, 101]⟩
theorem note_fount : (fountW.toList == [110, 111, 116, 101]) = false := by decide +kernel
theorem note_kw {k : Nat} (h : 1 ≤ k ∧ k ≤ 3) : ((kwA k).toList == [110, 111, 116, 101]) = false := by
  obtain rfl | rfl | rfl : k = 1 ∨ k = 2 ∨ k = 3 := by omega
  all_goals decide +kernel
theorem not_empty {s : ByteArray} (h : 0 < s.size) : s.toList.isEmpty = false := by
  rw [ByteArray.toList_eq]
  have := len_data s
  cases e : s.data.toList with
  | nil => rw [e] at this; simp at this; omega
  | cons x r => rfl
theorem num_text {x : ByteArray} {n : Int} (h : x.data.toList = Lib.itoa n) (h1 : 1 ≤ n) (h2 : n ≤ 100000) : 1 ≤ x.size ∧ x.size ≤ 7 ∧ digsB x.data.toList ∧ x.data.toList.headD 0 ≠ 48 ∧ valL x.data.toList = n := by
  obtain ⟨_, a, b, c, d, e⟩ := itoa_good h1 h2
  have := len_data x
  rw [h] at this ⊢
  exact ⟨by omega, by omega, a, b, c⟩
set_option maxRecDepth 100000 in
theorem errorOfEnd_any {B b b1 b2 : Nat} {r : Rd} {w : World} (h : RdAt w B b b1 b2 r) (hb : r.body ≠ 0) (hl : r.l.length ≠ 0) :
    Calls Tryd.prog 52 #[.pointer (some ⟨b, 0, none⟩)] w fun e w' => e = .returned (.int .i64 0) ∧ w' = w := by
  obtain ⟨A, cap, ev⟩ := own_form h.own
  have c3 : w.cell? ⟨b, 3, none⟩ = some (.int .i64 r.body) := h.cell (j := 3) rfl
  have c4 : w.cell? ⟨b, 4, none⟩ = some (.slice A r.l.length cap) := by rw [← ev]; exact h.cell (j := 4) rfl
  have hb0 : (r.body == 0) = false := by simpa using hb
  have hl0 : ((r.l.length : Int) == 0) = false := by rw [beq_eq_false_iff_ne]; omega
  clear hb hl h ev
  go_enter Tryd.func52, Tryd.ntmps52
  go_wp2
  go_ret
  exact ⟨rfl, rfl⟩
def ParsePost (w : World) (f : FT) (e : Ending) (w' : World) : Prop :=
  ∃ g cap, e = .returned (.tuple #[.agg #[.string f.name, .int .i64 f.body, .slice (some ⟨g, 0, none⟩) f.sorts.length cap], .agg #[.int .i64 0, .int .i64 0], .int .i64 0]) ∧ SortsAt w' (some ⟨g, 0, none⟩) f.sorts ∧ Below w.heap.size w w'

set_option maxRecDepth 100000 in
set_option maxHeartbeats 4000000 in
theorem Parse_any (f : FT) (w : World) (hck : (checkF f).2 = 0) (hT : TabOk w) (hW : WordsOk w) :
    Calls Tryd.prog 25 #[.string (printF f)] w (ParsePost w f) := by
  obtain ⟨hnm, hR, hall⟩ := checkF_right hck
  have hb1 := hR.1; have hb2 := hR.2.1; have hn1 := hR.2.2.1; have hn120 := hR.2.2.2.1
  have hsz : (printF f).size ≤ 10000 := by
    have := printN_bd hck f.sorts.length (Nat.le_refl _)
    have e : (printF f).size = (printN f f.sorts.length).length := by rw [← len_data]; rfl
    omega
  have HST := Lib.hid (tail_start (f := f))
  have HNM := Lib.hid hnm; have HALL := Lib.hid hall; have HR := Lib.hid hR; have HCK := Lib.hid hck
  clear hnm hall hR hck
  obtain ⟨t, et⟩ : ∃ t, t = printF f := ⟨_, rfl⟩
  rw [← et] at hsz HST ⊢
  clear et
  go_enter Tryd.func25, Tryd.ntmps25
  go_wp2_with fail
  refine (nothingKnown_any _).mono ?_
  rintro e w1 ⟨b1, b2, rfl, hK, hx1, hx2, hb⟩
  obtain ⟨wA, eWA⟩ : ∃ wA, wA = (w.alloc zeroF).alloc (.cells #[.int .i64 0, .int .i64 0] 52) := ⟨_, rfl⟩
  have hszA : wA.heap.size = w.heap.size + 2 := by rw [eWA]; simp
  have hBA : Below w.heap.size w wA := by rw [eWA]; exact ((Below.refl _ _).alloc (Nat.le_refl _) _).alloc (by simp) _
  have hb' : Below (w.heap.size + 2) wA w1 := by rw [← hszA, eWA]; exact hb
  have hw1 : w.heap.size + 2 ≤ w1.heap.size := by have := hb'.size; omega
  have hx1' : w.heap.size + 2 ≤ b1 := by simpa using hx1
  have hx2' : w.heap.size + 2 ≤ b2 := by simpa using hx2
  have hTG : 1 < w.heap.size + 2 := by have := hT.1; omega
  have p0 : wA.heap[w.heap.size]? = some (.cells #[.string ⟨#[]⟩, .int .i64 0, .slice none 0 0] 24 (0, 0)) := by
    rw [eWA, Lib.alloc_old _ _ _ (by simp)]; exact heap_alloc_new w zeroF
  have p1 : wA.heap[w.heap.size + 1]? = some (.cells #[.int .i64 0, .int .i64 0] 52 (0, 0)) := by
    have h := heap_alloc_new (w.alloc zeroF) (.cells #[.int .i64 0, .int .i64 0] 52)
    have e : (w.alloc zeroF).heap.size = w.heap.size + 1 := by simp
    rw [e] at h
    rw [eWA]; exact h
  have hBa : Below w1.heap.size w1 (w1.alloc (.cells #[.map (some b1), .map (some b2), .string ⟨#[]⟩, .int .i64 0, .slice none 0 0, .string ⟨#[]⟩, .string ⟨#[]⟩, .int .i64 0, .int .i64 0] 95)) := (Below.refl _ _).alloc (Nat.le_refl _) _
  have R0 : RdAt (w1.alloc (.cells #[.map (some b1), .map (some b2), .string ⟨#[]⟩, .int .i64 0, .slice none 0 0, .string ⟨#[]⟩, .string ⟨#[]⟩, .int .i64 0, .int .i64 0] 95)) (w.heap.size + 2) w1.heap.size b1 b2 ⟨⟨#[]⟩, 0, .slice none 0 0, [], ⟨#[]⟩, ⟨#[]⟩, 0, 0⟩ :=
    ⟨heap_alloc_new _ _, hK.below hBa hK.lt.1 hK.lt.2, World.ownsRow_nil _ _ _ _, hw1, hx1', hx2'⟩
  have B0 := hb'.trans (hBa.mono hw1)
  have P0 := Lib.hid p0; have P1 := Lib.hid p1
  clear hb hb' hx1 hx2 hx1' hx2' hBa hK eWA p0 p1 hszA
  go_wp2_with fail
  go_loopg [6, 7] (f.sorts.length + 2) (fun gk v6 v7 wr => ∃ (j : Nat) (r : Rd) (s : ByteArray), j ≤ f.sorts.length + 1 ∧ gk = f.sorts.length + 2 - j ∧ v6 = .int .i64 j ∧ v7 = .string s ∧ s.size ≤ 10000 ∧ Hid (s.data.toList = tailB f j) ∧ RdAt wr (w.heap.size + 2) w1.heap.size b1 b2 r ∧ Hid (RdOf f r j) ∧ Below (w.heap.size + 2) wA wr)
  case atStart => exact ⟨0, _, t, Nat.zero_le _, rfl, rfl, rfl, hsz, HST, R0, Lib.hid rfl, B0⟩
  case round =>
    obtain ⟨j, r, s, hj, hgk, rfl, rfl, hss, HTL, R, HRD, hB⟩ := hrel
    clear R0 B0
    rcases j with _ | j
    · have hrd : r = ⟨⟨#[]⟩, 0, .slice none 0 0, [], ⟨#[]⟩, ⟨#[]⟩, 0, 0⟩ := HRD.out
      rw [show ((0 : Nat) : Int) = 0 from rfl]
      have hA : (10 : UInt8) ∉ joinB (hWords f) := join_no10 _ (head_good HNM.out ⟨hb1, hb2⟩)
      have hok : ∀ a ∈ [fountW.data.toList, f.name.data.toList, Lib.itoa f.body], OkW a := fun a ha => (head_good HNM.out ⟨hb1, hb2⟩ a ha).ok
      have hs : s.data.toList = joinB (hWords f) ++ 10 :: tailB f 1 := HTL.out
      obtain ⟨A, eA⟩ : ∃ A, A = joinB (hWords f) := ⟨_, rfl⟩
      obtain ⟨Bt, eB⟩ : ∃ Bt, Bt = tailB f 1 := ⟨_, rfl⟩
      have hAe : A = joinB [fountW.data.toList, f.name.data.toList, Lib.itoa f.body] := eA
      rw [← eA] at hA hs
      rw [← eB] at hs
      clear eA
      have hsz1 : A.length + 1 + Bt.length = s.size := by
        have := congrArg List.length hs
        rw [len_data, List.length_append, List.length_cons] at this
        omega
      have hne := not_empty (s := s) (by omega)
      have hcut := Lib.hid (fun w => cut_yes s A Bt 10 w hs hA (by omega))
      clear hs hA
      go_wp2_with fail
      refine (hcut.out _).mono ?_
      rintro e w2 ⟨⟨a, bt, rfl, ha, hbt⟩, hD2⟩
      have R2 : RdAt w2 (w.heap.size + 2) w1.heap.size b1 b2 r := by obtain ⟨q, rfl⟩ := hD2; exact R.drewN q
      have B2 := hD2.below hB
      have hbs : bt.size ≤ 10000 := by
        have := len_data bt
        rw [hbt] at this
        omega
      have has : a.size ≤ 10000 := by
        have := len_data a
        rw [ha] at this
        omega
      have HBT := Lib.hid hbt; have HWD := Lib.hid (fun w => wordsOf_any a [fountW.data.toList, f.name.data.toList, Lib.itoa f.body] w (ha.trans hAe) hok (by omega) (by simp))
      clear hcut ha hbt hD2 R hB hok hAe hsz1 hne
      go_wp2_with fail
      refine (HWD.out _).mono ?_
      rintro e w3 ⟨hb3, v3, T, rfl, hTm, hown⟩
      have R3 := R2.below hb3
      have B3 := B2.trans (hb3.mono (B' := w.heap.size + 2) (by have := R2.lt; have := R2.hb; omega))
      obtain ⟨g, cap, ev, hg, hglt⟩ := hown.form (by simp)
      subst ev
      have hcap : 3 ≤ cap := own_cap2 hown
      have hgb : g ≠ w1.heap.size := by have := R2.lt; omega
      clear HWD hb3 R2 B2 hg
      obtain ⟨x0, i0, x1, i1, x2, i2, eT, t0, t1, t2⟩ := T3_ hTm
      subst eT
      obtain rfl := WideShapes.bytes_inj t0
      obtain rfl := WideShapes.bytes_inj t1
      obtain ⟨y1, y2, y3, y4, y5⟩ := num_text t2 hb1 (by omega)
      have hw := WRow.of_own rfl hown
      have u0 : w3.cell? ⟨g, 0, none⟩ = some (.string fountW) := hw.cell (k := 0) (by simp)
      have hnote := note_fount
      have HRL := Lib.hid (readLine_fount R3 (by rw [hrd]) g cap f.name x2 i0 i1 i2 hcap hgb hw HNM.out y1 y2 y3 y4 (by rw [y5]; exact ⟨hb1, hb2⟩))
      rw [y5] at HRL
      have EB := Lib.hid eB
      clear y1 y2 y3 y4 y5 hw hTm hown t0 t1 t2 R3 eB
      go_wp2_with fail
      refine HRL.out.mono ?_
      rintro e w4 ⟨rfl, R4, hb4, _⟩
      rw [EB.out] at HBT
      have B4 := B3.trans hb4
      go_wp2_with fail
      go_roundg (f.sorts.length + 2 - (0 + 1))
      case measure => omega
      case rel => exact ⟨0 + 1, _, bt, by omega, rfl, by go_num, rfl, hbs, HBT, R4, Lib.hid (by rw [hrd]; exact ⟨rfl, rfl, rfl⟩), B4⟩
    · have hrd : r.nm = f.name ∧ r.body = f.body ∧ r.l = f.sorts.take j := HRD.out
      rw [show ((j + 1 : Nat) : Int) = (j : Int) + 1 from by omega]
      by_cases hjl : j < f.sorts.length
      · have hll : r.l.length < 120 := by rw [hrd.2.2, List.length_take]; omega
        have HTN := Lib.hid (tail_next hjl)
        have HE := Lib.hid (HALL.out j hjl)
        obtain ⟨s1, s2, s3, s4, s5⟩ := sort_right HALL.out hjl
        have htxs := text_bd HCK.out hjl
        obtain ⟨y, ey⟩ : ∃ y, y = f.sorts.getD j noTS := ⟨_, rfl⟩
        rw [← ey] at HTN HE s1 s2 s3 s4 s5 htxs
        have hwd : 1 ≤ y.width ∧ y.width ≤ 100000 := ⟨s4, s5⟩
        by_cases hk3 : y.kind = 3
        · have hA : (10 : UInt8) ∉ joinB (sWords y) := join_no10 _ (words_good HE.out)
          have hws : sWords y = [kindWord y.kind, y.name.data.toList, Lib.itoa y.width] := by unfold sWords; rw [if_pos hk3]
          have hok : ∀ a ∈ [kindWord y.kind, y.name.data.toList, Lib.itoa y.width], OkW a := fun a ha => (words_good HE.out a (by rw [hws]; exact ha)).ok
          have hs : s.data.toList = joinB (sWords y) ++ 10 :: tailB f (j + 2) := HTL.out.trans HTN.out
          obtain ⟨A, eA⟩ : ∃ A, A = joinB (sWords y) := ⟨_, rfl⟩
          obtain ⟨Bt, eB⟩ : ∃ Bt, Bt = tailB f (j + 2) := ⟨_, rfl⟩
          have hAe : A = joinB [kindWord y.kind, y.name.data.toList, Lib.itoa y.width] := by rw [eA, hws]
          rw [← eA] at hA hs
          rw [← eB] at hs
          clear eA hws
          have hsz1 : A.length + 1 + Bt.length = s.size := by
            have := congrArg List.length hs
            rw [len_data, List.length_append, List.length_cons] at this
            omega
          have hne := not_empty (s := s) (by omega)
          have hcut := Lib.hid (fun w => cut_yes s A Bt 10 w hs hA (by omega))
          clear hs hA
          go_wp2_with fail
          refine (hcut.out _).mono ?_
          rintro e w2 ⟨⟨a, bt, rfl, ha, hbt⟩, hD2⟩
          have R2 : RdAt w2 (w.heap.size + 2) w1.heap.size b1 b2 r := by obtain ⟨q, rfl⟩ := hD2; exact R.drewN q
          have B2 := hD2.below hB
          have hbs : bt.size ≤ 10000 := by
            have := len_data bt
            rw [hbt] at this
            omega
          have has : a.size ≤ 10000 := by
            have := len_data a
            rw [ha] at this
            omega
          have HBT := Lib.hid hbt; have HWD := Lib.hid (fun w => wordsOf_any a [kindWord y.kind, y.name.data.toList, Lib.itoa y.width] w (ha.trans hAe) hok (by omega) (by simp))
          clear hcut ha hbt hD2 R hB hok hAe hsz1 hne
          go_wp2_with fail
          refine (HWD.out _).mono ?_
          rintro e w3 ⟨hb3, v3, T, rfl, hTm, hown⟩
          have R3 := R2.below hb3
          have B3 := B2.trans (hb3.mono (B' := w.heap.size + 2) (by have := R2.lt; have := R2.hb; omega))
          have B3W : Below w.heap.size w w3 := hBA.trans (B3.mono (Nat.le_add_right _ _))
          obtain ⟨g, cap, ev, hg, hglt⟩ := hown.form (by simp)
          subst ev
          have hcap : 3 ≤ cap := own_cap2 hown
          have hgb : g ≠ w1.heap.size := by have := R2.lt; omega
          clear HWD hb3 R2 B2 hg
          obtain ⟨x0, i0, x1, i1, x2, i2, eT, t0, t1, t2⟩ := T3_ hTm
          subst eT
          rw [hk3] at t0
          obtain rfl := WideShapes.bytes_inj (t0.trans (kw_data (k := 3) (by omega)).symm)
          obtain rfl := WideShapes.bytes_inj t1
          obtain ⟨y1, y2, y3, y4, y5⟩ := num_text t2 hwd.1 hwd.2
          have hye : (⟨y.name, ⟨#[]⟩, 3, y.width⟩ : TS) = y := by
            have ht := (sort_parts HE.out).2.2.2
            rw [hk3] at ht
            have h2 := text_space ht
            cases y with
            | mk a b c d => exact (by simp only at hk3 h2; rw [hk3, h2])
          have hw := WRow.of_own rfl hown
          have u0 : w3.cell? ⟨g, 0, none⟩ = some (.string (kwA 3)) := hw.cell (k := 0) (by simp)
          have hnote := note_kw (k := 3) (by omega)
          have HRL := Lib.hid (readLine_space R3 (by rw [hrd.2.1]; exact ⟨hb1, hb2⟩) hll (hW.below B3W) g cap y.name x2 i0 i1 i2 hcap hgb hw (by omega) y1 y2 y3 y4 (by rw [y5, hye, hrd.2.2]; exact HE.out))
          rw [y5, hye] at HRL
          have EB := Lib.hid eB
          have EY := Lib.hid ey
          have HYE := Lib.hid hye
          clear y1 y2 y3 y4 y5 hw hTm hown t0 t1 t2 R3 eB hye ey
          go_wp2_with fail
          refine HRL.out.mono ?_
          rintro e w4 ⟨v', rfl, R4, hb4, _⟩
          rw [EB.out] at HBT
          have B4 := B3.trans hb4
          go_wp2_with fail
          go_roundg (f.sorts.length + 2 - ((j + 1) + 1))
          case measure => omega
          case rel => exact ⟨(j + 1) + 1, _, bt, by omega, rfl, by go_num, rfl, hbs, HBT, R4, Lib.hid (by refine ⟨hrd.1, hrd.2.1, ?_⟩; show r.l ++ [y] = f.sorts.take (j + 1); rw [hrd.2.2, EY.out, take_snoc hjl, getD_eq hjl]), B4⟩
        · have hA : (10 : UInt8) ∉ joinB (sWords y) := join_no10 _ (words_good HE.out)
          have hws : sWords y = [kindWord y.kind, y.name.data.toList, y.text.data.toList, Lib.itoa y.width] := by unfold sWords; rw [if_neg hk3]
          have hok : ∀ a ∈ [kindWord y.kind, y.name.data.toList, y.text.data.toList, Lib.itoa y.width], OkW a := fun a ha => (words_good HE.out a (by rw [hws]; exact ha)).ok
          have hs : s.data.toList = joinB (sWords y) ++ 10 :: tailB f (j + 2) := HTL.out.trans HTN.out
          obtain ⟨A, eA⟩ : ∃ A, A = joinB (sWords y) := ⟨_, rfl⟩
          obtain ⟨Bt, eB⟩ : ∃ Bt, Bt = tailB f (j + 2) := ⟨_, rfl⟩
          have hAe : A = joinB [kindWord y.kind, y.name.data.toList, y.text.data.toList, Lib.itoa y.width] := by rw [eA, hws]
          rw [← eA] at hA hs
          rw [← eB] at hs
          clear eA hws
          have hsz1 : A.length + 1 + Bt.length = s.size := by
            have := congrArg List.length hs
            rw [len_data, List.length_append, List.length_cons] at this
            omega
          have hne := not_empty (s := s) (by omega)
          have hcut := Lib.hid (fun w => cut_yes s A Bt 10 w hs hA (by omega))
          clear hs hA
          go_wp2_with fail
          refine (hcut.out _).mono ?_
          rintro e w2 ⟨⟨a, bt, rfl, ha, hbt⟩, hD2⟩
          have R2 : RdAt w2 (w.heap.size + 2) w1.heap.size b1 b2 r := by obtain ⟨q, rfl⟩ := hD2; exact R.drewN q
          have B2 := hD2.below hB
          have hbs : bt.size ≤ 10000 := by
            have := len_data bt
            rw [hbt] at this
            omega
          have has : a.size ≤ 10000 := by
            have := len_data a
            rw [ha] at this
            omega
          have HBT := Lib.hid hbt; have HWD := Lib.hid (fun w => wordsOf_any a [kindWord y.kind, y.name.data.toList, y.text.data.toList, Lib.itoa y.width] w (ha.trans hAe) hok (by omega) (by simp))
          clear hcut ha hbt hD2 R hB hok hAe hsz1 hne
          go_wp2_with fail
          refine (HWD.out _).mono ?_
          rintro e w3 ⟨hb3, v3, T, rfl, hTm, hown⟩
          have R3 := R2.below hb3
          have B3 := B2.trans (hb3.mono (B' := w.heap.size + 2) (by have := R2.lt; have := R2.hb; omega))
          have B3W : Below w.heap.size w w3 := hBA.trans (B3.mono (Nat.le_add_right _ _))
          obtain ⟨g, cap, ev, hg, hglt⟩ := hown.form (by simp)
          subst ev
          have hcap : 4 ≤ cap := own_cap2 hown
          have hgb : g ≠ w1.heap.size := by have := R2.lt; omega
          clear HWD hb3 R2 B2 hg
          obtain ⟨x0, i0, x1, i1, x2, i2, x3, i3, eT, t0, t1, t2, t3⟩ := T4_ hTm
          subst eT
          obtain ⟨kn, hkn⟩ : ∃ kn : Nat, y.kind = (kn : Int) := ⟨y.kind.toNat, by omega⟩
          rw [hkn] at t0
          obtain rfl := WideShapes.bytes_inj (t0.trans (kw_data (k := kn) (by omega)).symm)
          obtain rfl := WideShapes.bytes_inj t1
          obtain rfl := WideShapes.bytes_inj t2
          obtain ⟨y1, y2, y3, y4, y5⟩ := num_text t3 hwd.1 hwd.2
          have hye : (⟨y.name, y.text, (kn : Int), y.width⟩ : TS) = y := by
            cases y with
            | mk a b c d => exact (by simp only at hkn; rw [hkn])
          have hw := WRow.of_own rfl hown
          have u0 : w3.cell? ⟨g, 0, none⟩ = some (.string (kwA kn)) := hw.cell (k := 0) (by simp)
          have hnote := note_kw (k := kn) (by omega)
          have HRL := Lib.hid (readLine_letter R3 (by rw [hrd.2.1]; exact ⟨hb1, hb2⟩) hll (hW.below B3W) (hT.below B3W hT.1) hTG kn (by omega) (by omega) g cap y.name y.text x3 i0 i1 i2 i3 hcap hgb hw (by omega) (by omega) y1 y2 y3 y4 (by rw [y5, hye, hrd.2.2]; exact HE.out))
          rw [y5, hye] at HRL
          have EB := Lib.hid eB
          have EY := Lib.hid ey
          have HYE := Lib.hid hye
          clear y1 y2 y3 y4 y5 hw hTm hown t0 t1 t2 R3 eB hye ey
          go_wp2_with fail
          refine HRL.out.mono ?_
          rintro e w4 ⟨v', rfl, R4, hb4, _⟩
          rw [EB.out] at HBT
          have B4 := B3.trans hb4
          go_wp2_with fail
          go_roundg (f.sorts.length + 2 - ((j + 1) + 1))
          case measure => omega
          case rel => exact ⟨(j + 1) + 1, _, bt, by omega, rfl, by go_num, rfl, hbs, HBT, R4, Lib.hid (by refine ⟨hrd.1, hrd.2.1, ?_⟩; show r.l ++ [y] = f.sorts.take (j + 1); rw [hrd.2.2, EY.out, take_snoc hjl, getD_eq hjl]), B4⟩
      · obtain rfl : j = f.sorts.length := by omega
        have hs0 := HTL.out
        rw [tail_end] at hs0
        obtain rfl : s = ⟨#[]⟩ := WideShapes.bytes_inj (by rw [hs0])
        have hnz : r.body ≠ 0 := by rw [hrd.2.1]; omega
        have hlz : r.l.length ≠ 0 := by rw [hrd.2.2, List.length_take]; omega
        have hll : r.l = f.sorts := by rw [hrd.2.2, List.take_length]
        have HEE := Lib.hid (errorOfEnd_any R hnz hlz)
        have hown := R.own
        have hblk := R.block
        rw [hll] at hown
        obtain ⟨g, cap, ev, hg, hglt⟩ := hown.form (by omega)
        rw [ev] at hown
        have hsrt := sorts_of_row hown
        have m2 : wr.cell? ⟨w1.heap.size, 2, none⟩ = some (.string f.name) := by rw [← hrd.1]; exact R.cell (j := 2) rfl
        have m3 : wr.cell? ⟨w1.heap.size, 3, none⟩ = some (.int .i64 f.body) := by rw [← hrd.2.1]; exact R.cell (j := 3) rfl
        have m4 : wr.cell? ⟨w1.heap.size, 4, none⟩ = some (.slice (some ⟨g, 0, none⟩) f.sorts.length cap) := by rw [← ev]; exact R.cell (j := 4) rfl
        have P0' := (hB.block w.heap.size (by omega)).trans P0.out
        have P1' := (hB.block (w.heap.size + 1) (by omega)).trans P1.out
        have f0 : wr.cell? ⟨w.heap.size, 0, none⟩ = some (.string ⟨#[]⟩) := by rw [cell_of_row wr _ 0 _ _ (0, 0) P0']; rfl
        have f1 : wr.cell? ⟨w.heap.size, 1, none⟩ = some (.int .i64 0) := by rw [cell_of_row wr _ 1 _ _ (0, 0) P0']; rfl
        have f2 : wr.cell? ⟨w.heap.size, 2, none⟩ = some (.slice none 0 0) := by rw [cell_of_row wr _ 2 _ _ (0, 0) P0']; rfl
        have g0 : wr.cell? ⟨w.heap.size + 1, 0, none⟩ = some (.int .i64 0) := by rw [cell_of_row wr _ 0 _ _ (0, 0) P1']; rfl
        have g1 : wr.cell? ⟨w.heap.size + 1, 1, none⟩ = some (.int .i64 0) := by rw [cell_of_row wr _ 1 _ _ (0, 0) P1']; rfl
        have z0 : ∀ j, wr.frozen? ⟨w.heap.size, j, none⟩ = false := fun j => by simp [World.frozen?, P0']
        have z1 : ∀ j, wr.frozen? ⟨w.heap.size + 1, j, none⟩ = false := fun j => by simp [World.frozen?, P1']
        have a0 := z0 0; have a1 := z0 1; have a2 := z0 2; have c0 := z1 0; have c1 := z1 1
        have HB := Lib.hid hB; have HSR := Lib.hid hsrt
        have hgne : g ≠ w.heap.size := by omega
        have hgne1 : g ≠ w.heap.size + 1 := by omega
        clear z0 z1 hB hsrt hown hblk P0' P1' R hs0 hnz hlz hll ev hrd
        go_wp2_with fail
        refine HEE.out.mono ?_
        rintro e w6 ⟨rfl, rfl⟩
        go_wp2_with fail
        have hlow : Below w.heap.size w w6 := hBA.trans (HB.out.mono (Nat.le_add_right _ _))
        have hfin : Below w.heap.size w (((((w6.setCell ⟨w.heap.size, 0, none⟩ (.string f.name)).setCell ⟨w.heap.size, 1, none⟩ (.int .i64 f.body)).setCell ⟨w.heap.size, 2, none⟩ (.slice (some ⟨g, 0, none⟩) f.sorts.length cap)).setCell ⟨w.heap.size + 1, 0, none⟩ (.int .i64 0)).setCell ⟨w.heap.size + 1, 1, none⟩ (.int .i64 0)) :=
          ((((hlow.setCell (Nat.le_refl _) _).setCell (Nat.le_refl _) _).setCell (Nat.le_refl _) _).setCell (by show _ ≤ w.heap.size + 1; omega) _).setCell (by show _ ≤ w.heap.size + 1; omega) _
        have q0 : ∀ ad, (some ⟨g, 0, none⟩ : Option Addr) = some ad → ad.block ≠ w.heap.size := fun ad e => by cases e; exact hgne
        have q1 : ∀ ad, (some ⟨g, 0, none⟩ : Option Addr) = some ad → ad.block ≠ w.heap.size + 1 := fun ad e => by cases e; exact hgne1
        refine bodyPost_ret (v := .tuple #[.agg #[.string f.name, .int .i64 f.body, .slice (some ⟨g, 0, none⟩) f.sorts.length cap], .agg #[.int .i64 0, .int .i64 0], .int .i64 0]) ?_ rfl ?_
        · simp [results, Tryd.results25, go_sem, f0, f1, f2, g0, g1]
        · exact ⟨g, cap, rfl, ((((HSR.out.set_ q0 _ _).set_ q0 _ _).set_ q0 _ _).set_ q1 _ _).set_ q1 _ _, hfin⟩
end Go.Proofs.YtebndgepmjonoaaDoor
