/-
  Hyphens: the hyphens of a word.
-/
import Derived.Test.YtlkkociijfdcgaaGreatDoorVZ
import Derived.Test.YtlkkociijfdcgaaGreatDoorZX
import Derived.Test.YtlkkociijfdcgaaGreatDoorZ6
import Derived.Test.YtlkkociijfdcgaaGreatDoorZ5
import Derived.Test.YtlkkociijfdcgaaGreatDoorZ7
import Derived.Test.YtlkkociijfdcgaaGreatDoorW9
namespace Go.Proofs.YtlkkociijfdcgaaGreatDoor
open Go.RowKit Go.Maps Go.Shelf

def HyphensPost (w : World) (r : RU) (s : ByteArray) (e : Ending) (w' : World) : Prop :=
  Below w.heap.size w w' ∧ if ruleErr r s = 0 then ∃ v, e = .returned (.tuple #[v, .int .i64 0]) ∧ IRow w' w.heap.size v (ruleHyph r s) else e = .returned (.tuple #[.slice none 0 0, .int .i64 (ruleErr r s)])
set_option maxRecDepth 100000 in
set_option maxHeartbeats 800000 in
theorem hyphens_fn (r : RU) (s : ByteArray) (w : World) (hR : r.at_ w) (hs : s.size ≤ maxLen) :
    Calls Tryz.prog 62 #[.agg r.cells, .string s] w (HyphensPost w r s) := by
  have hb0 := (Below.refl w.heap.size w).alloc (Nat.le_refl _) (boxR r)
  have HC := Lib.hid (bookFor_any r s (w.alloc (boxR r)) (hR.below hb0) hs)
  unfold boxR RU.cells at *
  by_cases he : ruleErr r s = 0
  · obtain ⟨o1, o2⟩ := rules_ok he
    obtain ⟨hn, hok⟩ := checkR_pats o1
    have hsz := (word_size o2).2
    have hbd := (hyph_bounds he).1
    have HLV := Lib.hid (fun g b1 b2 W (h : BookAt W (w.heap.size + 1) r g b1 b2) => hyphens_any r (w.heap.size + 1) g b1 b2 s W h hok (by omega) (by omega) (word_ascii o2) hbd)
    clear hok o1 o2 hbd
    go_enter Tryz.func62, Tryz.ntmps62
    go_wp2_with fail
    refine HC.out.mono ?_
    rintro e w1 ⟨hb1, hp1⟩
    rw [if_pos he] at hp1
    obtain ⟨g, b1, b2, rfl, hbk⟩ := hp1
    have hlow := hb0.trans (hb1.mono hb0.size)
    have hbk2 := hbk.alloc (.cells #[.slice (some ⟨g, 0, none⟩) r.ps.l.length r.ps.l.length, .map (some b1), .map (some b2), .int .i64 r.left, .int .i64 r.right] 134)
    have hlow2 := hlow.alloc (by have := hlow.size; omega) (.cells #[.slice (some ⟨g, 0, none⟩) r.ps.l.length r.ps.l.length, .map (some b1), .map (some b2), .int .i64 r.left, .int .i64 r.right] 134)
    have HL := Lib.hid (HLV.out g b1 b2 _ (by simpa using hbk2))
    have hz := hlow2.size
    clear HC HLV hbk hbk2 hb1 hb0
    unfold bookV at *
    go_wp2_with fail
    refine HL.out.mono ?_
    rintro e w2 ⟨a, c, rfl, hrow, hb2⟩
    have hrow2 := hrow.mono hz
    clear hrow
    go_wp2
    go_ret2
    refine ⟨hlow2.trans (hb2.mono hz), ?_⟩
    rw [if_pos he]
    exact ⟨_, rfl, hrow2⟩
  · go_enter Tryz.func62, Tryz.ntmps62
    go_wp2_with fail
    refine HC.out.mono ?_
    rintro e w1 ⟨hb1, hp1⟩
    rw [if_neg he] at hp1
    obtain ⟨v, rfl, a0, n0, c0, m1, m2, l0, r0, rfl⟩ := hp1
    have hlow := hb0.trans (hb1.mono hb0.size)
    have hlow2 := hlow.alloc (by have := hlow.size; omega) (.cells #[.slice a0 n0 c0, .map m1, .map m2, .int .i64 l0, .int .i64 r0] 134)
    clear HC hb0 hb1
    go_wp2
    go_ret2
    refine ⟨hlow2, ?_⟩
    rw [if_neg he]
    exact rfl
end Go.Proofs.YtlkkociijfdcgaaGreatDoor
/-
  One more exception, one more pattern: the mathematics.
-/
namespace Go.Proofs.YtlkkociijfdcgaaGreatDoor
open Go.RowKit Go.Maps Go.Shelf

theorem checkR_same {r r' : RU} (h : SameR r r') : checkR r' = checkR r := by
  obtain ⟨h1, h2, h3, h4, h5⟩ := h
  unfold checkR
  rw [h1, h2, h3, h4, h5]
theorem ruleErr_same {r r' : RU} (h : SameR r r') (s : ByteArray) : ruleErr r' s = ruleErr r s := by unfold ruleErr; rw [checkR_same h]
theorem ruleHyph_same {r r' : RU} (h : SameR r r') (s : ByteArray) : ruleHyph r' s = ruleHyph r s := by
  obtain ⟨h1, h2, h3, h4, h5⟩ := h
  unfold ruleHyph rulePos
  rw [h1, h2, h4, h5]
theorem getD_snoc {l : List ByteArray} {m : ByteArray} {j : Nat} (h : j < l.length) : (l ++ [m]).getD j noTx = l.getD j noTx := by
  rw [List.getD_eq_getElem?_getD, List.getD_eq_getElem?_getD, List.getElem?_append_left h]
theorem getD_last (l : List ByteArray) (m : ByteArray) : (l ++ [m]).getD l.length noTx = m := by
  rw [List.getD_eq_getElem?_getD, List.getElem?_append_right (Nat.le_refl _), Nat.sub_self]; try rfl
theorem ents_snoc (y : Sty) (l : List ByteArray) (m : ByteArray) : entsN y (l ++ [m]) (l ++ [m]).length = entsN y l l.length ++ [(entO y m).getD ([], [])] := by
  rw [List.length_append, List.length_singleton, entsN_succ]
  congr 1
  · unfold entsN
    refine List.map_congr_left fun j hj => ?_
    unfold entG
    rw [getD_snoc (List.mem_range.1 hj)]
  · unfold entG
    rw [getD_last]
theorem hyph_add {r x : RU} {m s : ByteArray} (h1 : x.ps.l = r.ps.l) (h2 : x.es.l = r.es.l ++ [m]) (h3 : x.left = r.left) (h4 : x.right = r.right) (hok : (checkR x).2 = 0)
    (hne : (splitOn 45 m.data.toList).flatten ≠ (lowS s).data.toList) : ruleHyph x s = ruleHyph r s := by
  have hE : (checkE excS x.es.l).2 = 0 := by
    unfold checkR at hok
    split at hok
    · rename_i h; exact absurd hok h
    · split at hok
      · rename_i h; exact absurd hok h
      · rename_i h; exact Decidable.not_not.1 h
  have hent : ∃ e, entO excS m = some e ∧ e.1 = (splitOn 45 m.data.toList).flatten := by
    rw [h2] at hE
    unfold checkE at hE
    split at hE
    · cases hE
    · split at hE
      · rename_i hf
        have hb := firstAt_none hf r.es.l.length (Nat.zero_le _) (by rw [List.length_append]; simp)
        unfold badE at hb
        rw [Bool.or_eq_false_iff] at hb
        have hb1 := hb.1
        unfold badF at hb1
        rw [getD_last] at hb1
        cases he : entO excS m with
        | none => rw [he] at hb1; cases hb1
        | some e =>
          refine ⟨e, rfl, ?_⟩
          unfold entO at he
          cases hc : cutAt excS.m m.data.toList with
          | none => rw [hc] at he; cases he
          | some z =>
            rw [hc] at he
            dsimp only at he
            split at he
            · injection he with he
              subst he
              unfold cutAt at hc
              split at hc
              · cases hc
              · split at hc
                · cases hc
                · injection hc with hc
                  rw [← hc]; try rfl
            · cases he
      · rename_i i hf
        split at hE <;> cases hE
  obtain ⟨e, he, he1⟩ := hent
  have hk : e.1 ≠ (lowS s).data.toList := by rw [he1]; exact hne
  have e1 : hasE (entsN excS x.es.l x.es.l.length) (lowS s).data.toList = hasE (entsN excS r.es.l r.es.l.length) (lowS s).data.toList := by
    rw [h2, ents_snoc, he]
    unfold hasE
    rw [List.any_append]
    simp [hk]
  have e2 : lookE (entsN excS x.es.l x.es.l.length) (lowS s).data.toList = lookE (entsN excS r.es.l r.es.l.length) (lowS s).data.toList := by
    rw [h2, ents_snoc, he]
    unfold lookE
    rw [List.foldl_append]
    simp [hk]
  have e3 : rulePos x s = rulePos r s := by
    unfold rulePos
    rw [e1, e2, h1]
  unfold ruleHyph
  rw [e3, h3, h4]
theorem lvTo_congr {fn fn' : Nat → Pat} {s : ByteArray} : ∀ k, (∀ j, j < k → fn j = fn' j) → lvTo fn s k = lvTo fn' s k
  | 0, _ => rfl
  | k + 1, h => by
    show lvP (patP (fn k)) s (lvTo fn s k) = lvP (patP (fn' k)) s (lvTo fn' s k)
    rw [lvTo_congr k (fun j hj => h j (by omega)), h k (by omega)]
theorem lvD_ge (a : Nat) (ds : List Int) (L : List Int) (j : Nat) : ∀ k, L.getD j 0 ≤ (lvD a ds k L).getD j 0
  | 0 => Int.le_refl _
  | k + 1 => by
    have ih := lvD_ge a ds L j k
    refine Int.le_trans ih ?_
    show (lvD a ds k L).getD j 0 ≤ ((lvD a ds k L).set (a + k) _).getD j 0
    generalize lvD a ds k L = M
    by_cases hj : a + k = j
    · subst hj
      by_cases hl : a + k < M.length
      · have e : (M.set (a + k) (max (M.getD (a + k) 0) (ds.getD k 0))).getD (a + k) 0 = max (M.getD (a + k) 0) (ds.getD k 0) := by
          rw [List.getD_eq_getElem?_getD, List.getElem?_set_self hl]; try rfl
        rw [e]; omega
      · have e : M.set (a + k) (max (M.getD (a + k) 0) (ds.getD k 0)) = M := List.set_eq_of_length_le (by omega)
        rw [e]; exact Int.le_refl _
    · have e : (M.set (a + k) (max (M.getD (a + k) 0) (ds.getD k 0))).getD j 0 = M.getD j 0 := by
        rw [List.getD_eq_getElem?_getD, List.getElem?_set_ne hj, ← List.getD_eq_getElem?_getD]
      rw [e]; exact Int.le_refl _
theorem lvP_ge (p : PV) (s : ByteArray) (L : List Int) (j : Nat) : L.getD j 0 ≤ (lvP p s L).getD j 0 := by
  unfold lvP
  generalize fixs p s = F
  induction F generalizing L with
  | nil => exact Int.le_refl _
  | cons a t ih =>
    rw [List.foldl_cons]
    exact Int.le_trans (lvD_ge a p.dl L j _) (ih _)
theorem lv_add {r y : RU} {m s : ByteArray} (h : y.ps.l = r.ps.l ++ [m]) (j : Nat) : (lvTo (patG r.ps.l) s r.ps.l.length).getD j 0 ≤ (lvTo (patG y.ps.l) s y.ps.l.length).getD j 0 := by
  rw [h, List.length_append, List.length_singleton]
  have e : lvTo (patG (r.ps.l ++ [m])) s r.ps.l.length = lvTo (patG r.ps.l) s r.ps.l.length := lvTo_congr _ (fun i hi => by unfold patG; rw [getD_snoc hi])
  show _ ≤ (lvP (patP (patG (r.ps.l ++ [m]) r.ps.l.length)) s (lvTo (patG (r.ps.l ++ [m])) s r.ps.l.length)).getD j 0
  rw [e]
  exact lvP_ge _ _ _ _
end Go.Proofs.YtlkkociijfdcgaaGreatDoor

/-
  law02.rulesErr; what the calls of TextExceptions return.
-/
namespace Go.Proofs.YtlkkociijfdcgaaGreatDoor
open Go.RowKit Go.Maps Go.Shelf

theorem short_small {l : List ByteArray} {few most : Nat} (h : shortB l few most = true) : l.length ≤ most + 2 ∧ TXSmall l := by
  unfold shortB at h
  split at h
  · cases h
  · rename_i hb
    unfold sizeBad at hb
    cases hf : firstAt (longTx l) (l.length - 0) 0 with
    | some i => rw [hf] at h; cases h
    | none =>
      refine ⟨by omega, fun k hk => ?_⟩
      have h2 := firstAt_none hf k (Nat.zero_le _) (by omega)
      unfold longTx at h2
      rw [decide_eq_false_iff_not] at h2
      omega
def RSmall (r : RU) : Prop := TXSmall r.ps.l ∧ TXSmall r.es.l ∧ TXSmall r.bs.l
theorem small_short {r : RU} (h : shortR r = true) : RSmall r ∧ r.ps.l.length ≤ 62 ∧ r.es.l.length ≤ 42 ∧ r.bs.l.length ≤ 42 := by
  unfold shortR at h
  rw [Bool.and_eq_true, Bool.and_eq_true] at h
  obtain ⟨h1, h2, h3⟩ := h
  have a := short_small h1
  have b := short_small h2
  have c := short_small h3
  exact ⟨⟨a.2, b.2, c.2⟩, a.1, b.1, c.1⟩
theorem rulesErr_any (r : RU) (s : ByteArray) (w : World) (hR : r.at_ w) (hS : RSmall r) (hs : s.size ≤ maxLen) :
    Calls Tryz.prog 59 #[.agg r.cells, .string s] w fun e w' => e = .returned (.int .i64 (ruleErr r s)) ∧ Below w.heap.size w w' := by
  have hb0 := (Below.refl w.heap.size w).alloc (Nat.le_refl _) (.cells #[.slice r.ps.a r.ps.l.length r.ps.c, .slice r.es.a r.es.l.length r.es.c, .slice r.bs.a r.bs.l.length r.bs.c, .int .i64 r.left, .int .i64 r.right] 24)
  have HC := Lib.hid (fun W (h : r.at_ W) => refErr_any r W h hS.1 hS.2.1 hS.2.2)
  have hR0 := hR.below hb0
  unfold RU.cells at *
  by_cases h0 : (checkR r).2 = 0
  · have hb : ((checkR r).2 != 0) = false := by rw [h0]; try rfl
    cases hw : isWordB s
    · have HV := Lib.hid (show ruleErr r s = 3 by unfold ruleErr wordErr; rw [if_neg (by simp [h0]), hw]; rfl)
      have HW := Lib.hid hw
      clear hw h0
      go_enter Tryz.func59, Tryz.ntmps59
      go_wp2_with fail
      refine (HC.out _ hR0).mono ?_
      rintro e w2 ⟨rfl, hb2⟩
      have hlow := hb0.trans (hb2.mono hb0.size)
      clear HC hb2 hb0
      go_wp2_with fail
      refine (refIsWord_any _ _ hs).mono ?_
      rintro e w3 ⟨rfl, rfl⟩
      rw [HW.out]
      go_wp2
      go_ret
      exact ⟨by rw [HV.out]; try rfl, hlow⟩
    · have HV := Lib.hid (show ruleErr r s = 0 by unfold ruleErr wordErr; rw [if_neg (by simp [h0]), hw]; rfl)
      have HW := Lib.hid hw
      clear hw h0
      go_enter Tryz.func59, Tryz.ntmps59
      go_wp2_with fail
      refine (HC.out _ hR0).mono ?_
      rintro e w2 ⟨rfl, hb2⟩
      have hlow := hb0.trans (hb2.mono hb0.size)
      clear HC hb2 hb0
      go_wp2_with fail
      refine (refIsWord_any _ _ hs).mono ?_
      rintro e w3 ⟨rfl, rfl⟩
      rw [HW.out]
      go_wp2
      go_ret
      exact ⟨by rw [HV.out]; try rfl, hlow⟩
  · have hb : ((checkR r).2 != 0) = true := by simpa using h0
    have HV := Lib.hid (show ruleErr r s = (checkR r).2 by unfold ruleErr; rw [if_pos h0])
    clear h0
    go_enter Tryz.func59, Tryz.ntmps59
    go_wp2_with fail
    refine (HC.out _ hR0).mono ?_
    rintro e w2 ⟨rfl, hb2⟩
    have hlow := hb0.trans (hb2.mono hb0.size)
    clear HC hb2 hb0
    go_wp2
    go_ret
    exact ⟨by rw [HV.out]; try rfl, hlow⟩
/-- Rules that lie as a copy's rows. -/
theorem own_at {w : World} {base : Nat} {r r' : RU} (hS : SameR r r') (hO : OwnR w base r') (hz : SizesOk r.ps.l ∧ SizesOk r.es.l ∧ SizesOk r.bs.l) (hl : r.ps.l.length ≤ 1000 ∧ r.es.l.length ≤ 1000 ∧ r.bs.l.length ≤ 1000) : r'.at_ w := by
  obtain ⟨e1, e2, e3, _, _⟩ := hS
  obtain ⟨o1, o2, o3, _⟩ := hO
  refine ⟨⟨texts_own o1 rfl rfl, ?_, ?_⟩, ⟨texts_own o2 rfl rfl, ?_, ?_⟩, ⟨texts_own o3 rfl rfl, ?_, ?_⟩⟩
  · rw [e1]; unfold maxLen; omega
  · rw [e1]; exact hz.1
  · rw [e2]; unfold maxLen; omega
  · rw [e2]; exact hz.2.1
  · rw [e3]; unfold maxLen; omega
  · rw [e3]; exact hz.2.2
theorem hyphens_same {r r1 : RU} {s : ByteArray} (w : World) (hS : SameR r r1) (hR : r1.at_ w) (he : ruleErr r s = 0) (hs : s.size ≤ maxLen) :
    Calls Tryz.prog 62 #[.agg r1.cells, .string s] w fun e w' => (∃ A c, e = .returned (.tuple #[.slice A (ruleHyph r s).length c, .int .i64 0]) ∧ IntsAt w' A (ruleHyph r s)) ∧ Below w.heap.size w w' := by
  refine (hyphens_fn r1 s w hR hs).mono ?_
  rintro e w' ⟨hb, hp⟩
  rw [ruleErr_same hS, if_pos he, ruleHyph_same hS] at hp
  obtain ⟨v, rfl, hI⟩ := hp
  obtain ⟨A, c, rfl, hI, _, _⟩ := hI.shape
  exact ⟨⟨A, c, rfl, hI⟩, hb⟩
theorem levels_same {r r1 : RU} {s : ByteArray} (w : World) (hS : SameR r r1) (hR : r1.at_ w) (he : ruleErr r s = 0) (hs : s.size ≤ maxLen) :
    Calls Tryz.prog 57 #[.agg r1.cells, .string s] w fun e w' => (∃ h, e = .returned (.tuple #[.slice (some ⟨h, 0, none⟩) (s.size + 1) (s.size + 1), .int .i64 0]) ∧ RowX w' h (lvTo (patG r.ps.l) (lowS s) r.ps.l.length)) ∧ Below w.heap.size w w' := by
  refine (levelsOf_fn r1 s w hR hs).mono ?_
  rintro e w' ⟨hb, hp⟩
  rw [ruleErr_same hS, if_pos he, hS.1] at hp
  obtain ⟨h, rfl, hI, _⟩ := hp
  exact ⟨⟨h, rfl, hI⟩, hb⟩
end Go.Proofs.YtlkkociijfdcgaaGreatDoor
