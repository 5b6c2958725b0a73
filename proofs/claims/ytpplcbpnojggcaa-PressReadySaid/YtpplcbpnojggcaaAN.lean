/-
  Package press: the order with the least make-ready, by the reference.
-/
import Derived.Test.YtpplcbpnojggcaaAK
import Derived.Test.YtpplcbpnojggcaaAL
namespace Go.Proofs.Ytpplcbpnojggcaa
open Go.RowKit Go.Maps Go.Shelf

def RlPost (st : List Int × Int) (w : World) (e : Ending) (w' : World) : Prop := ∃ (a : Option Addr) (n q : Nat), n = st.1.length ∧ e = .returned (.tuple #[.slice a n q, .int .i64 (max st.2 0)]) ∧ RowsAt 1 intL w' a st.1 ∧ Below w.heap.size w w'
set_option maxRecDepth 100000 in
set_option maxHeartbeats 4000000 in
theorem refLeastReady_any (T : List PR) (ta : Option Addr) (tn tc : Nat) (w : World) (htn : tn = T.length) (hT : TabAt w ta T) (hr : TabRight T) (h5 : T.length ≤ 5) :
    Calls Try.prog 74 #[.slice ta tn tc] w (RlPost (rlF (mkA T) (refOrds T.length T.length [])) w) := by
  subst htn
  have HT := Lib.hid hT; have HR := Lib.hid hr
  have HOR := Lib.hid (refOrders_any T.length h5 T.length [] none 0 0 w rfl (by simp) (RowsAt.nil _ _) (fun _ => rfl))
  have HIT := Lib.hid (refOrds_item (n := T.length) T.length [])
  have HLN := Lib.hid (show (refOrds T.length T.length []).length ≤ 100000 from Nat.le_trans (refOrds_len _ _) (Nat.le_trans (Nat.pow_le_pow_left h5 _) (Nat.le_trans (Nat.pow_le_pow_right (by decide) h5) (by decide))))
  obtain ⟨L, hL⟩ : ∃ L, L = refOrds T.length T.length [] := ⟨_, rfl⟩
  rw [← hL] at HOR HIT HLN ⊢
  clear hT hr hL
  go_enter Try.func74, Try.ntmps74
  go_wp2_with (go_at_call 116; refine HOR.out.mono ?_; rintro e w2 ⟨v2, TT, rfl, hG2, hR2, hm2, hb2⟩; obtain ⟨a2, c2, e2, hr2, -⟩ := hG2.rows prV_l; subst e2)
  have HTT := Lib.hid (show TabAt w2 a2 TT from ⟨hr2, fun x hx => by
    obtain ⟨a3, c3, e3, hr3, -⟩ := (hR2 x hx).rows int_l
    injection e3 with e4
    rw [e4]; exact hr3⟩)
  have HM2 := Lib.hid hm2; have HB2 := Lib.hid hb2
  have HTL := Lib.hid (show TT.length = L.length by have h := congrArg List.length hm2; simpa using h)
  have htl : TT.length ≤ 100000 := by have h1 := HTL.out; have h2 := HLN.out; omega
  clear hG2 hR2 hm2 hb2 hr2
  go_loopw [4, 5, 7] (fun v s i wr => ∃ (k : Nat) (ba : Option Addr) (bn bc : Nat), k ≤ TT.length ∧ i = .int .i64 k ∧ v = .slice ba bn bc ∧ s = .int .i64 (rlF (mkA T) (L.take k)).2 ∧ Hid (bn = (rlF (mkA T) (L.take k)).1.length) ∧ Hid (RowsAt 1 intL wr ba (rlF (mkA T) (L.take k)).1) ∧ Below w2.heap.size w2 wr) (fun _ _ i _ => TT.length - (intOf i).toNat)
  case atStart => exact ⟨0, none, 0, 0, Nat.zero_le _, rfl, rfl, rfl, Lib.hid rfl, Lib.hid (RowsAt.nil _ _), Below.refl _ _⟩
  case round =>
    obtain ⟨k, ba, bn, bc, hk, rfl, rfl, rfl, HBN, HBR, hB⟩ := hrel
    by_cases hlt : k < TT.length
    · have hltL : k < L.length := by have := HTL.out; omega
      obtain ⟨ad, ra, rl, rc, rfl, had, s0, hrow, hrr⟩ := (HTT.out.below hB).pick hlt
      have HLK := Lib.hid (show L[k] = rl by
        have h := HM2.out
        have h1 : (TT.map (·.l))[k]? = some rl := by rw [List.getElem?_map, List.getElem?_eq_getElem hlt, hrr]; rfl
        rw [h, List.getElem?_eq_getElem hltL] at h1
        exact Option.some.inj h1)
      obtain ⟨hi1, hi2⟩ := HIT.out _ (List.getElem_mem hltL)
      rw [HLK.out] at hi1 hi2
      have HIN := Lib.hid (show ∀ y ∈ rl, 0 ≤ y ∧ y < T.length from fun y hy => (hi2 y hy).resolve_left (by simp))
      have HST := Lib.hid (show rlF (mkA T) (L.take (k + 1)) = rlP (mkA T) (rlF (mkA T) (L.take k)) rl by rw [List.take_succ_eq_append_getElem hltL, rlF_snoc, HLK.out])
      have HTW := Lib.hid (HT.out.below (HB2.out.trans (hB.mono HB2.out.size)))
      have HROW := Lib.hid hrow
      have HB := Lib.hid hB
      have hkl : (k : Int) < (TT.length : Int) := by omega
      have hrl : rl.length ≤ 7 := by simp at hi1; omega
      obtain ⟨st, hst⟩ : ∃ st, st = rlF (mkA T) (L.take k) := ⟨_, rfl⟩
      rw [← hst] at HBN HBR HST ⊢
      obtain ⟨bo, ls⟩ := st
      dsimp only at HBN HBR ⊢
      have HRP := Lib.hid (show rlP (mkA T) (bo, ls) rl = if ls < 0 ∨ mkA T rl < ls then (rl, mkA T rl) else (bo, ls) from rfl)
      have HMK := Lib.hid (refMakeReady_any T ta T.length tc rl ra rl.length rc wr rfl rfl HTW.out HR.out HROW.out hrl HIN.out)
      obtain ⟨q, hq⟩ : ∃ q, q = mkA T rl := ⟨_, rfl⟩
      rw [← hq] at HRP HMK
      clear hB hrow hrr hst hi1 hi2 hq
      by_cases c1 : ls < 0
      · have HS := Lib.hid (show rlF (mkA T) (L.take (k + 1)) = (rl, q) by rw [HST.out, HRP.out, if_pos (Or.inl c1)])
        have c1' := decide_eq_true c1
        go_wp2_with (go_at_call 75; refine HMK.out.mono ?_; rintro e w3 ⟨rfl, hb3⟩; have s0 : w3.cell? (ad.add k) = some (.slice ra rl.length rc) := (hb3.cell (by rw [add_block]; exact had)).trans s0; have HR3 := Lib.hid (HROW.out.below hb3); have HB3 := Lib.hid (HB.out.trans (hb3.mono HB.out.size)); clear hb3)
        go_roundw
        case rel => exact ⟨k + 1, ra, rl.length, rc, by omega, by go_num, rfl, by rw [HS.out], Lib.hid (by rw [HS.out]), Lib.hid (by rw [HS.out]; exact HR3.out), HB3.out⟩
        case measure => simp [intOf]; omega
      · have c1' := decide_eq_false c1
        by_cases c2 : q < ls
        · have HS := Lib.hid (show rlF (mkA T) (L.take (k + 1)) = (rl, q) by rw [HST.out, HRP.out, if_pos (Or.inr c2)])
          have c2' := decide_eq_true c2
          go_wp2_with (go_at_call 75; refine HMK.out.mono ?_; rintro e w3 ⟨rfl, hb3⟩; have s0 : w3.cell? (ad.add k) = some (.slice ra rl.length rc) := (hb3.cell (by rw [add_block]; exact had)).trans s0; have HR3 := Lib.hid (HROW.out.below hb3); have HB3 := Lib.hid (HB.out.trans (hb3.mono HB.out.size)); clear hb3)
          go_roundw
          case rel => exact ⟨k + 1, ra, rl.length, rc, by omega, by go_num, rfl, by rw [HS.out], Lib.hid (by rw [HS.out]), Lib.hid (by rw [HS.out]; exact HR3.out), HB3.out⟩
          case measure => simp [intOf]; omega
        · have HS := Lib.hid (show rlF (mkA T) (L.take (k + 1)) = (bo, ls) by rw [HST.out, HRP.out, if_neg (by rintro (h | h); exact c1 h; exact c2 h)])
          have c2' := decide_eq_false c2
          go_wp2_with (go_at_call 75; refine HMK.out.mono ?_; rintro e w3 ⟨rfl, hb3⟩; have HR3 := Lib.hid (HBR.out.below hb3); have HB3 := Lib.hid (HB.out.trans (hb3.mono HB.out.size)); clear hb3)
          go_roundw
          case rel => exact ⟨k + 1, ba, bn, bc, by omega, by go_num, rfl, by rw [HS.out], Lib.hid (by rw [HS.out]; exact HBN.out), Lib.hid (by rw [HS.out]; exact HR3.out), HB3.out⟩
          case measure => simp [intOf]; omega
    · have HTK := Lib.hid (show L.take k = L by rw [List.take_of_length_le (by have := HTL.out; omega)])
      have HB := Lib.hid (HB2.out.trans (hB.mono HB2.out.size))
      rw [HTK.out] at HBN HBR ⊢
      clear hB
      go_wp2
      go_ret2
      exact ⟨ba, bn, bc, HBN.out, rfl, HBR.out, HB.out⟩
theorem mkA_map {T T' : List PR} (h : T'.map (·.l) = T.map (·.l)) : mkA T' = mkA T := by
  funext O; unfold mkA; rw [mkR_map h]
theorem lmF_map {T T' : List PR} (h : T'.map (·.l) = T.map (·.l)) (c : Nat) : lmF T' c = lmF T c := by
  unfold lmF; rw [mkA_map h, map_len h]
theorem rlF_in (mk : List Int → Int) : ∀ (n : Nat) (L : List (List Int)), L.length = n → (rlF mk L).1 ∈ L ∨ (rlF mk L).1 = []
  | 0, L, h => by rw [List.eq_nil_of_length_eq_zero h]; exact Or.inr rfl
  | n + 1, L, h => by
    obtain ⟨L0, O, rfl⟩ : ∃ L0 O, L = L0 ++ [O] := ⟨L.dropLast, L.getLast (fun e => by rw [e] at h; cases h), (List.dropLast_concat_getLast _).symm⟩
    rw [rlF_snoc]
    unfold rlP
    split
    · exact Or.inl (List.mem_append.2 (Or.inr (List.mem_singleton.2 rfl)))
    · rcases rlF_in mk n L0 (by simpa using h) with h1 | h1
      · exact Or.inl (List.mem_append.2 (Or.inl h1))
      · exact Or.inr h1
/-- The orders of both sides, and what both find. -/
theorem least_both {T : List PR} (hr : TabRight T) (h5 : T.length ≤ 5) : ∃ (c : Nat) (F : List Int) (le : Int), OrdsEnd T.length c ∧ lmF T c = (F, le, 0) ∧ rlF (mkA T) (refOrds T.length T.length []) = (F, le) ∧ 0 ≤ le ∧ F.length ≤ 5 ∧ ∀ O, ordErr T.length O = 0 → le ≤ mkA T O := by
  obtain ⟨c, hE, hL⟩ := ords_all h5
  have h0 : ∀ O, 0 ≤ mkA T O := fun O => (mkR_bd hr O _).1
  obtain ⟨h1, h2⟩ := ls_rl (mk := mkA T) (tk := fun O => (mkA T O, 0)) _ (refOrds T.length T.length []) rfl (fun O _ => ⟨h0 O, rfl⟩)
  have hlm : lmF T c = lstF (fun O => (mkA T O, 0)) (refOrds T.length T.length []) := by unfold lmF; rw [hL]
  rcases h2 with ⟨-, -, -, e⟩ | ⟨e1, e2, e3, e4⟩
  · have h3 : (ordsL T.length c).length = 0 := by rw [hL, e]; rfl
    unfold ordsL at h3
    have := hE.pos
    simp at h3; omega
  · refine ⟨c, (rlF (mkA T) (refOrds T.length T.length [])).1, (rlF (mkA T) (refOrds T.length T.length [])).2, hE, ?_, rfl, e3, ?_, fun O hO => e4 O (ord_in_all hO)⟩
    · rw [hlm]
      exact Prod.ext h1 (Prod.ext e2 e1)
    · rcases rlF_in (mkA T) _ (refOrds T.length T.length []) rfl with h | h
      · have h9 := (refOrds_item (n := T.length) T.length [] _ h).1; simp at h9; omega
      · rw [h]; decide
end Go.Proofs.Ytpplcbpnojggcaa
