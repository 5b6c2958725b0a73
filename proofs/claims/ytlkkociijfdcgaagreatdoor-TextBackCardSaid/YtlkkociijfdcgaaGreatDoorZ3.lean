/-
  The reference's check of exceptions and bars.
-/
import Derived.Test.YtlkkociijfdcgaaGreatDoorZX
import Derived.Test.YtlkkociijfdcgaaGreatDoorW3
namespace Go.Proofs.YtlkkociijfdcgaaGreatDoor
open Go.RowKit Go.Maps

def TRow (w : World) (base : Nat) (v : Value) (l : List ByteArray) : Prop := w.ownsRow base 9 1 v l.length (txs l)
theorem TRow.shape {w : World} {base : Nat} {v : Value} {l : List ByteArray} (h : TRow w base v l) : ∃ (A : Option Addr) (c : Nat), v = .slice A l.length c ∧ TextsAt w A l ∧ l.length ≤ c ∧ (A = none → c = 0) := by
  have h' := h
  rcases h.2 with ⟨e1, e2⟩ | ⟨g, cap, cur, e1, _, _, hc, _⟩
  · exact ⟨none, 0, by rw [e1, e2], fun k hk => by omega, by omega, fun _ => rfl⟩
  · subst e1
    exact ⟨_, cap, rfl, texts_of_row h', by omega, fun e => (by cases e)⟩
theorem TRow.below {w w' : World} {base : Nat} {v : Value} {l : List ByteArray} (h : TRow w base v l) (hb : Below w.heap.size w w') : TRow w' base v l := own_below h hb
def knownTo (y : Sty) (l : List ByteArray) (k : Nat) : List ByteArray := (List.range k).map fun j => ⟨(entG y l j).1.toArray⟩
theorem knownTo_succ (y : Sty) (l : List ByteArray) (k : Nat) : knownTo y l (k + 1) = knownTo y l k ++ [⟨(entG y l k).1.toArray⟩] := by simp [knownTo, List.range_succ]
theorem knownTo_len (y : Sty) (l : List ByteArray) (k : Nat) : (knownTo y l k).length = k := by simp [knownTo]
theorem hasTx_mem (l : List ByteArray) (s : ByteArray) : hasTx l s = true ↔ s ∈ l := by
  unfold hasTx
  constructor
  · intro h
    cases hf : firstAt (isTx l s) (l.length - 0) 0 with
    | none => rw [hf] at h; cases h
    | some i =>
      obtain ⟨h3, _, h2, _⟩ := firstAt_some hf
      have hi : i < l.length := by omega
      unfold isTx at h3
      have e := toList_inj (by simpa using h3 : (l.getD i noTx).toList = s.toList)
      rw [List.getD_eq_getElem?_getD, List.getElem?_eq_getElem hi] at e
      exact e ▸ List.getElem_mem hi
  · intro h
    obtain ⟨i, hi, rfl⟩ := List.getElem_of_mem h
    cases hf : firstAt (isTx l l[i]) (l.length - 0) 0 with
    | some _ => rfl
    | none =>
      have := firstAt_none hf i (Nat.zero_le _) (by omega)
      unfold isTx at this
      rw [List.getD_eq_getElem?_getD, List.getElem?_eq_getElem hi] at this
      simp at this
theorem known_has (y : Sty) (l : List ByteArray) (k : Nat) (x : List UInt8) : hasTx (knownTo y l k) ⟨x.toArray⟩ = hasE (entsN y l k) x := by
  rw [Bool.eq_iff_iff, hasTx_mem]
  unfold knownTo hasE entsN
  rw [List.any_eq_true]
  constructor
  · intro h
    obtain ⟨j, hj, e⟩ := List.mem_map.1 h
    refine ⟨entG y l j, List.mem_map.2 ⟨j, hj, rfl⟩, ?_⟩
    have e2 : (entG y l j).1.toArray = x.toArray := congrArg ByteArray.data e
    exact decide_eq_true (by simpa using congrArg Array.toList e2)
  · rintro ⟨p, hp, he⟩
    obtain ⟨j, hj, rfl⟩ := List.mem_map.1 hp
    have e := of_decide_eq_true he
    exact List.mem_map.2 ⟨j, hj, by rw [e]⟩
def MkRel (y : Sty) (m : UInt8) (L : Bool) : Prop := ∀ t : ByteArray, entO y t = match refMT m L t.data.toList with
  | none => none
  | some x => if L = false ∧ x.2.length = 0 then none else some x
theorem mkRel_exc : MkRel excS 45 true := fun t => by
  rw [← refMT_exc]
  cases refMT 45 true t.data.toList with
  | none => rfl
  | some x => simp
theorem mkRel_bar : MkRel barS 124 false := fun t => by
  rw [← refMT_bar]
  cases refMT 124 false t.data.toList with
  | none => rfl
  | some x => simp

set_option maxRecDepth 100000 in
set_option maxHeartbeats 2000000 in
theorem checkMarked_any (y : Sty) (m : UInt8) (L : Bool) (hy : MkRel y m L) (b : Option Addr) (l : List ByteArray) (d : Nat) (w : World) (hX : TextsAt w b l) (hl : l.length ≤ maxLen) (hsz : ∀ k, k < l.length → (l.getD k noTx).size ≤ 1000) :
    Calls Tryz.prog 87 #[.slice b l.length d, .int .u8 m.toNat, .bool L] w fun e w' => e = .returned (.tuple #[.int .i64 (checkE y l).1, .int .i64 (checkE y l).2]) ∧ Below w.heap.size w w' := by
  unfold maxLen at hl
  by_cases h1 : 40 < l.length
  · have HE := Lib.hid (show checkE y l = (0, 8) by unfold checkE; rw [if_pos h1])
    have h1' : (40 : Int) < (l.length : Int) := by omega
    go_enter Tryz.func87, Tryz.ntmps87
    go_wp2
    go_ret2
    exact ⟨by rw [HE.out]; rfl, Below.refl _ _⟩
  · have HE := Lib.hid (show checkE y l = (match firstAt (badE y l) (l.length - 0) 0 with
      | none => (0, 0)
      | some i => ((i : Int), if badF y l i = true then 3 else 5)) by unfold checkE; rw [if_neg h1]; rfl)
    have h1' : (l.length : Int) ≤ 40 := by omega
    have HL40 := Lib.hid (show l.length ≤ 40 by omega)
    clear h1
    go_enter Tryz.func87, Tryz.ntmps87
    go_wp2_with fail
    go_loopw [8, 9] (fun v i wr => ∃ k : Nat, k ≤ l.length ∧ i = .int .i64 k ∧ TRow wr w.heap.size v (knownTo y l k) ∧ Hid (firstAt (badE y l) (l.length - 0) 0 = firstAt (badE y l) (l.length - k) k) ∧ Below w.heap.size w wr) (fun _ i _ => l.length - (intOf i).toNat)
    case atStart => exact ⟨0, Nat.zero_le _, rfl, World.ownsRow_nil _ _ _ _, Lib.hid rfl, Below.refl _ _⟩
    case round =>
      obtain ⟨k, hk, rfl, hR, HS, hB⟩ := hrel
      obtain ⟨A, c, rfl, hTA, hAc, hAn⟩ := hR.shape
      have hkn := knownTo_len y l k
      by_cases hlt : k < l.length
      · have hkl : (k : Int) < (l.length : Int) := by omega
        obtain ⟨p1, rfl, hp1, hc1⟩ := (hX.below hB) k hlt
        have hz := hsz k hlt
        obtain ⟨t, et⟩ : ∃ t, t = l.getD k noTx := ⟨_, rfl⟩
        rw [← et] at hc1 hz
        have HO := Lib.hid (show entO y (l.getD k noTx) = match refMT m L t.data.toList with | none => none | some x => if L = false ∧ x.2.length = 0 then none else some x by rw [← et]; exact hy t)
        have HRM := Lib.hid (fun W => readMarked_any m L t W hz)
        clear et
        go_wp2_with fail
        refine (HRM.out _).mono ?_
        rintro e w2 ⟨hb2, hp2⟩
        have hB2 := hB.trans (hb2.mono hB.size)
        have hR2 := hR.below hb2
        have hT2 := hTA.below hb2
        clear HRM hb2 hR hTA hc1
        cases ho : refMk m L true [] [] t.data.toList with
        | none =>
          rw [ho] at hp2
          dsimp only at hp2
          subst hp2
          have hbf : badF y l k = true := by unfold badF; rw [HO.out]; unfold refMT; rw [ho]; rfl
          have hbe : badE y l k = true := by unfold badE; rw [hbf]; rfl
          have HT := Lib.hid (firstAt_stop hlt hbe)
          have HF := Lib.hid hbf
          clear hbf hbe
          go_wp2
          go_ret2
          exact ⟨by rw [HE.out, HS.out, HT.out]; show _ = Ending.returned (.tuple #[.int .i64 (k : Int), .int .i64 (if badF y l k = true then 3 else 5)]); rw [if_pos HF.out]; rfl, hB2⟩
        | some x =>
          rw [ho] at hp2
          dsimp only at hp2
          obtain ⟨v, rfl, hI⟩ := hp2
          obtain ⟨A2, c2, rfl, -, -, -⟩ := hI.shape
          clear hI
          cases hin : inB x.1.length 1 30
          · have hnot : ¬ (1 ≤ x.1.length ∧ x.1.length ≤ 30) := by
              have := of_decide_eq_false hin
              omega
            have hbf : badF y l k = true := by unfold badF; rw [HO.out]; unfold refMT; rw [ho]; dsimp only; rw [if_neg hnot]; rfl
            have hbe : badE y l k = true := by unfold badE; rw [hbf]; rfl
            have HT := Lib.hid (firstAt_stop hlt hbe)
            have HF := Lib.hid hbf
            clear hbf hbe
            clear hnot hin ho
            go_wp2
            go_ret2
            exact ⟨by rw [HE.out, HS.out, HT.out]; show _ = Ending.returned (.tuple #[.int .i64 (k : Int), .int .i64 (if badF y l k = true then 3 else 5)]); rw [if_pos HF.out]; rfl, hB2⟩
          · have hyes : 1 ≤ x.1.length ∧ x.1.length ≤ 30 := by
              have := of_decide_eq_true hin
              omega
            have hMT : refMT m L t.data.toList = some x := by unfold refMT; rw [ho]; dsimp only; rw [if_pos hyes]
            clear hyes hin ho
            by_cases hz0 : L = false ∧ x.2.length = 0
            · obtain ⟨rfl, hz1⟩ := hz0
              have hbf : badF y l k = true := by unfold badF; rw [HO.out]; rw [hMT]; dsimp only; rw [if_pos ⟨rfl, hz1⟩]; rfl
              have hbe : badE y l k = true := by unfold badE; rw [hbf]; rfl
              have HT := Lib.hid (firstAt_stop hlt hbe)
              have HF := Lib.hid hbf
              clear hbf hbe
              have hz2 : ((x.2.length : Int) == 0) = true := by rw [hz1]; rfl
              clear hMT hz1
              go_wp2
              go_ret2
              exact ⟨by rw [HE.out, HS.out, HT.out]; show _ = Ending.returned (.tuple #[.int .i64 (k : Int), .int .i64 (if badF y l k = true then 3 else 5)]); rw [if_pos HF.out]; rfl, hB2⟩
            · have hEO : entO y (l.getD k noTx) = some x := by rw [HO.out, hMT]; dsimp only; rw [if_neg hz0]
              have hEG : entG y l k = x := by unfold entG; rw [hEO]; rfl
              have hbf : badF y l k = false := by unfold badF; rw [hEO]; rfl
              have hba : badA y l k = hasTx (knownTo y l k) ⟨x.1.toArray⟩ := by unfold badA; rw [known_has, hEG]
              have HKN := Lib.hid (show knownTo y l (k + 1) = knownTo y l k ++ [⟨x.1.toArray⟩] by rw [knownTo_succ, hEG])
              have hge : L = true ∨ (L = false ∧ ((x.2.length : Int) == 0) = false) := by
                cases L
                · right; refine ⟨rfl, ?_⟩; rw [beq_eq_false_iff_ne]; intro e; exact hz0 ⟨rfl, by omega⟩
                · left; rfl
              clear hz0 hMT hEO hEG
              have HHT := Lib.hid (fun W (h : TextsAt W A (knownTo y l k)) => hasText_any A (knownTo y l k) c ⟨x.1.toArray⟩ W h (by rw [hkn]; unfold maxLen; omega))
              rw [hkn] at HHT
              cases hh : hasTx (knownTo y l k) ⟨x.1.toArray⟩
              · have hbe : badE y l k = false := by unfold badE; rw [hbf, hba, hh]; rfl
                have HT := Lib.hid (firstAt_go hlt hbe)
                have HH := Lib.hid hh
                clear hbf hbe hba hh
                have hRk : w2.ownsRow w.heap.size 9 1 (.slice A k c) k (txs (knownTo y l k)) := by
                  have h := hR2
                  unfold TRow at h
                  rw [hkn] at h
                  exact h
                have hbw := hB2.size
                obtain ⟨i0, hi0, hz0, hz1, hz2'⟩ := info_parts info_str
                rcases hge with rfl | ⟨rfl, hz2⟩
                all_goals
                  go_wp2_with fail
                  refine (HHT.out _ hT2).mono ?_
                  rintro e w3 ⟨rfl, rfl⟩
                  rw [HH.out]
                  go_wp2_with (at_builtin; refine wpList_append_own _ rfl _ _ 22 rfl w.heap.size 9 i0 _ 1 16 Tryz.underlying22 hi0 hz0 hz1 hz2' rfl (by decide) _ k _ rfl (hRk.alloc _) ⟨w2.heap.size, 0, none⟩ 1 1 [.string ⟨x.1.toArray⟩] rfl rfl (World.news_of_block (cs := #[.string ⟨x.1.toArray⟩]) (t := 9) (fr := (0, 0)) (heap_alloc_new w2 _)) (by simp [Value.oneCell']) (by unfold maxLen; omega) (by omega) (by simp; omega) ?_; intro v5 w5 hown5 hgrow hnil; obtain ⟨g5, c5, rfl⟩ := own_pos hown5)
                  have hB5 := (hB2.alloc hbw (.cells #[.string ⟨x.1.toArray⟩] 9)).grown hgrow (by simp; omega) (fun q hq => (hRk.lt q hq).1)
                  have hR5 : TRow w5 w.heap.size (.slice (some ⟨g5, 0, none⟩) (k + 1) c5) (knownTo y l (k + 1)) := by
                    unfold TRow
                    rw [HKN.out, List.length_append, hkn, ← txs_snoc]
                    exact hown5
                  go_roundw
                  case rel => exact ⟨k + 1, by omega, by go_num, hR5, Lib.hid (HS.out.trans HT.out), hB5⟩
                  case measure => simp [intOf]; omega
              · have hbe : badE y l k = true := by unfold badE; rw [hbf, hba, hh]; rfl
                have HT := Lib.hid (firstAt_stop hlt hbe)
                have HF := Lib.hid hbf
                have HH := Lib.hid hh
                clear hbf hbe hba hh
                rcases hge with rfl | ⟨rfl, hz2⟩
                all_goals
                  go_wp2_with fail
                  refine (HHT.out _ hT2).mono ?_
                  rintro e w3 ⟨rfl, rfl⟩
                  rw [HH.out]
                  go_wp2
                  go_ret2
                  exact ⟨by rw [HE.out, HS.out, HT.out]; show _ = Ending.returned (.tuple #[.int .i64 (k : Int), .int .i64 (if badF y l k = true then 3 else 5)]); rw [if_neg (by rw [HF.out]; decide)]; rfl, hB2⟩
      · have HT := Lib.hid (firstAt_end (q := badE y l) hlt)
        go_wp2
        go_ret2
        exact ⟨by rw [HE.out, HS.out, HT.out]; rfl, hB⟩
end Go.Proofs.YtlkkociijfdcgaaGreatDoor
