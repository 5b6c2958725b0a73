/-
  ReadBack: the words of lines.
-/
import Derived.Test.YtomblajlpanmjaaGreatDoorW4
namespace Go.Proofs.YtomblajlpanmjaaGreatDoor
open Go.RowKit Go.Maps Go.Shelf

def BoolsAt (w : World) (a : Option Addr) (l : List Bool) : Prop :=
  ∀ k, k < l.length → ∃ ad, a = some ad ∧ ad.block < w.heap.size ∧ w.cell? (ad.add k) = some (.bool (l.getD k false))
theorem BoolsAt.below {w w' : World} {a : Option Addr} {l : List Bool} (h : BoolsAt w a l) (hb : Below w.heap.size w w') : BoolsAt w' a l := fun k hk => by
  obtain ⟨ad, e, hlt, hc⟩ := h k hk
  exact ⟨ad, e, Nat.lt_of_lt_of_le hlt hb.size, (hb.cell (by rw [add_block]; exact hlt)).trans hc⟩
def badL (f : FT) (L : List LN) (Bs : List Bool) (j : Nat) : Bool := headErr f (L.drop j) (Bs.getD j false) != 0
def readErr (f : FT) (L : List LN) (Bs : List Bool) : Int :=
  if (checkF f).2 ≠ 0 then (checkF f).2 else if Bs.length ≠ L.length then 10 else if 400 < L.length then 8 else match firstAt (badL f L Bs) (L.length - 0) 0 with
    | none => 0
    | some i => headErr f (L.drop i) (Bs.getD i false)
def rbTo (f : FT) (L : List LN) (Bs : List Bool) : Nat → List ByteArray × List UInt8
  | 0 => ([], [])
  | k + 1 => rdLine f (rbTo f L Bs k) (L.getD k noLN).l (Bs.getD k false)
def readW (f : FT) (L : List LN) (Bs : List Bool) : List ByteArray := (rbTo f L Bs L.length).1
def BackPost (w : World) (f : FT) (L : List LN) (Bs : List Bool) (e : Ending) (w' : World) : Prop :=
  Below w.heap.size w w' ∧ if readErr f L Bs = 0 then ∃ v, e = .returned (.tuple #[v, .int .i64 0]) ∧ w'.ownsRow w.heap.size 9 1 v (readW f L Bs).length (txs (readW f L Bs))
    else e = .returned (.tuple #[.slice none 0 0, .int .i64 (readErr f L Bs)])
theorem rdLine_len {f : FT} {st : List ByteArray × List UInt8} {l : List Int} {br : Bool} (htx : ∀ x : Nat, (f.sorts.getD x noTS).text.size ≤ 8) : (rdLine f st l br).1.length ≤ st.1.length + l.length + 1 ∧ (rdLine f st l br).2.length ≤ st.2.length + 8 * l.length := by
  have h1 := rdTo_len (st := st) (l := l) htx l.length
  have h2 := rdTo_len (st := st) (l := l) htx (l.length - 1)
  have h3 := endW_len (rdTo f st l l.length)
  unfold rdLine
  split <;> omega
theorem head_zero {f : FT} {L : List LN} {b : Bool} (h : headErr f L b = 0) : (L.getD 0 noLN).l.length ≤ 300 ∧ (L.getD 0 noLN).l.any (idxBad f.sorts.length) = false ∧ (b = true → 0 < (L.getD 0 noLN).l.length) := by
  unfold headErr at h
  by_cases c1 : 300 < (L.getD 0 noLN).l.length
  · rw [if_pos c1] at h; cases h
  · rw [if_neg c1] at h
    by_cases c2 : (L.getD 0 noLN).l.any (idxBad f.sorts.length) = true
    · rw [if_pos c2] at h; cases h
    · rw [if_neg c2] at h
      refine ⟨by omega, by simpa using c2, fun hb => ?_⟩
      rw [if_neg (by rw [hb]; decide)] at h
      by_cases c3 : hyB f (L.getD 0 noLN).l = false
      · rw [if_pos c3] at h; cases h
      · unfold hyB at c3
        by_cases c4 : (L.getD 0 noLN).l.length ≠ 0
        · omega
        · exact absurd (by rw [decide_eq_false c4]; rfl) c3
theorem TRAt.drew {w : World} {B b : Nat} {f : FT} {a : Option Addr} {c : Nat} {ws : List ByteArray} {cur : List UInt8} (h : TRAt w B b f a c ws cur) : TRAt w.drew B b f a c ws cur := h.below ((Below.refl _ _).drew)
theorem dropL (L : List LN) (k : Nat) : (L.drop k).getD 0 noLN = L.getD k noLN := by rw [List.getD_eq_getElem?_getD, List.getD_eq_getElem?_getD, List.getElem?_drop, Nat.add_zero]

set_option maxRecDepth 100000 in
set_option maxHeartbeats 2000000 in
theorem readBack_any (f : FT) (a : Option Addr) (c : Nat) (A : Option Addr) (L : List LN) (C : Nat) (D : Option Addr) (Bs : List Bool) (G : Nat) (w : World) (hF : FAt w a f) (hX : LinesAt w A L) (hO : OkL L) (hLC : L.length ≤ C) (hBs : BoolsAt w D Bs) (hBl : Bs.length ≤ maxLen) :
    Calls Tryz.prog 38 #[.agg #[.string f.name, .int .i64 f.body, .slice a f.sorts.length c], .slice A L.length C, .slice D Bs.length G] w (BackPost w f L Bs) := by
  have hB0 : Below (w.heap.size + 1) (w.alloc (boxF f a c)) (w.alloc (boxF f a c)) := Below.refl _ _
  have E0 := Env.of hF hB0
  have hLl := hO.1
  unfold maxLen at hLl hBl
  by_cases h0 : (checkF f).2 = 0
  · have H0 := Lib.hid h0
    have HTX := Lib.hid (show ∀ x : Nat, (f.sorts.getD x noTS).text.size ≤ 8 from fun x => by
      by_cases hx : x < f.sorts.length
      · have := text_bd h0 hx; omega
      · rw [List.getD_eq_getElem?_getD, List.getElem?_eq_none (by omega)]; exact Nat.zero_le _)
    go_enter Tryz.func38, Tryz.ntmps38
    go_wp2_with fail
    refine (checkFount_any f a c _ E0.fa.ok (by exact E0.fa.at_) (by exact E0.fa.tab)).mono ?_
    rintro e w1 ⟨rfl, hb⟩
    have E1 := E0.step hF hb
    rw [h0]
    clear hb h0 E0 hB0
    by_cases h1 : Bs.length = L.length
    · have hd1 : ((Bs.length : Int) != (L.length : Int)) = false := by rw [h1]; simp
      by_cases h2 : 400 < L.length
      · have HE := Lib.hid (show readErr f L Bs = 8 by unfold readErr; rw [if_neg (by simp [H0.out]), if_neg (by simp [h1]), if_pos h2])
        have hlow := E1.low
        have h2' : (400 : Int) < (L.length : Int) := by omega
        clear h1
        go_wp2
        go_ret2
        exact ⟨hlow, by rw [HE.out]; rfl⟩
      · have HE := Lib.hid (show readErr f L Bs = (match firstAt (badL f L Bs) (L.length - 0) 0 with
          | none => 0
          | some i => headErr f (L.drop i) (Bs.getD i false)) by unfold readErr; rw [if_neg (by simp [H0.out]), if_neg (by simp [h1]), if_neg h2])
        have h2' : (L.length : Int) ≤ 400 := by omega
        have HL1 := Lib.hid h1
        clear h1
        go_wp2_with fail
        go_loopw [33] (fun i wr => ∃ k : Nat, k ≤ L.length ∧ i = .int .i64 k ∧ Hid (firstAt (badL f L Bs) (L.length - 0) 0 = firstAt (badL f L Bs) (L.length - k) k) ∧ Hid (∀ j, j < k → badL f L Bs j = false) ∧ Env w f a c wr) (fun i _ => L.length - (intOf i).toNat)
        case atStart => exact ⟨0, Nat.zero_le _, rfl, Lib.hid rfl, Lib.hid (fun j hj => by omega), E1⟩
        case round =>
          obtain ⟨k, hk, rfl, HS, HG, E⟩ := hrel
          clear E1
          have q0 := E.c0; have q1 := E.c1; have q2 := E.c2
          by_cases hlt : k < L.length
          · have hXr := hX.below E.low
            obtain ⟨ad, rfl, had, _, _⟩ := hXr k hlt
            obtain ⟨pb, rfl, hpb, hcb⟩ := (hBs.below E.low) k (by rw [HL1.out]; exact hlt)
            have hkl : (k : Int) < (L.length : Int) := by omega
            have hkC : (k : Int) ≤ (C : Int) := by omega
            have hCk : ¬ C = k := by omega
            have hkB : (k : Int) < (Bs.length : Int) := by rw [HL1.out]; exact hkl
            obtain ⟨bk, ebk⟩ : ∃ bk, bk = Bs.getD k false := ⟨_, rfl⟩
            rw [← ebk] at hcb
            have HC := Lib.hid (fun W (hW : FAt W a f) (hXW : LinesAt W (some ad) L) (cc : Nat) => errorOfLine_any f a c (some (ad.add (k * 2))) (L.drop k) cc bk W hW (hXW.drop_ k) (by rw [List.length_drop]; omega) (hO.drop_ k))
            rw [List.length_drop] at HC
            have HQ := Lib.hid (show badL f L Bs k = (headErr f (L.drop k) bk != 0) by rw [ebk]; rfl)
            have EBK := Lib.hid ebk
            clear ebk
            go_wp2_with fail
            go_region_held3 (fun w' => w'.cell? ⟨w.heap.size, 0, none⟩ = some (.string f.name) ∧ w'.cell? ⟨w.heap.size, 1, none⟩ = some (.int .i64 f.body) ∧ w'.cell? ⟨w.heap.size, 2, none⟩ = some (.slice a f.sorts.length c) ∧ w'.cell? (pb.add k) = some (.bool bk)) (go_keep)
              (first | (go_at_call 83; refine (HC.out _ (by exact (E.drew hF).fa) (by exact hXr) _).mono ?_; rintro e w2 ⟨rfl, hb2⟩; have k0 := (hb2.cell (p := ⟨w.heap.size, 0, none⟩) E.lt).trans E.c0; have k1 := (hb2.cell (p := ⟨w.heap.size, 1, none⟩) E.lt).trans E.c1; have k2 := (hb2.cell (p := ⟨w.heap.size, 2, none⟩) E.lt).trans E.c2; have k3 := (hb2.cell (p := pb.add k) (by rw [add_block]; exact hpb)).trans hcb))
            have E2 := (E.drew hF).step hF hb2
            clear hb2 E q0 q1 q2 k0 k1 k2 k3
            cases hq : badL f L Bs k
            · have HT := Lib.hid (firstAt_go hlt hq)
              have hw : headErr f (L.drop k) bk = 0 := by have h := HQ.out; rw [hq] at h; simpa using h.symm
              have HQ0 := Lib.hid hq
              rw [hw]
              clear hq hw
              go_wp2
              go_roundw
              case rel =>
                refine ⟨k + 1, by omega, by go_num, Lib.hid (HS.out.trans HT.out), Lib.hid (fun j hj => ?_), E2⟩
                by_cases hjk : j = k
                · rw [hjk]; exact HQ0.out
                · exact HG.out j (by omega)
              case measure => simp [intOf]; omega
            · have HT := Lib.hid (firstAt_stop hlt hq)
              have hn : (headErr f (L.drop k) bk != 0) = true := by rw [← HQ.out]; exact hq
              have HV := Lib.hid (show readErr f L Bs = headErr f (L.drop k) bk by rw [HE.out, HS.out, HT.out, EBK.out])
              have HN := Lib.hid hn
              have hlow := E2.low
              clear hq
              go_wp2
              go_ret2
              refine ⟨hlow, ?_⟩
              rw [if_neg (by rw [HV.out]; simpa using HN.out), HV.out]
              rfl
          · have HT := Lib.hid (firstAt_end (q := badL f L Bs) hlt)
            obtain rfl : k = L.length := by omega
            have HV := Lib.hid (show readErr f L Bs = 0 by rw [HE.out, HS.out, HT.out])
            obtain ⟨wo, rfl⟩ : ∃ wo : World, wo = wr := ⟨_, rfl⟩
            have HL4 := Lib.hid (show L.length ≤ 400 by omega)
            have hlow := E.low
            have hFr : FAt wo a f := E.fa
            have hXr := hX.below hlow
            have hBr := hBs.below hlow
            have hT0 : TRAt (wo.alloc (.cells #[.string f.name, .int .i64 f.body, .slice a f.sorts.length c, .slice none 0 0, .slice none 0 0] 160)) wo.heap.size wo.heap.size f a c (rbTo f L Bs 0).1 (rbTo f L Bs 0).2 := ⟨⟨_, _, heap_alloc_new _ _, World.ownsRow_nil _ _ _ _, World.ownsRow_nil _ _ _ _⟩, Nat.le_refl _⟩
            have hlow1 : Below wo.heap.size wo (wo.alloc (.cells #[.string f.name, .int .i64 f.body, .slice a f.sorts.length c, .slice none 0 0, .slice none 0 0] 160)) := (Below.refl _ _).alloc (Nat.le_refl _) _
            have q0 := E.c0; have q1 := E.c1; have q2 := E.c2
            clear hF hX hBs HE HS HT
            go_wp2_with fail
            go_loopw [53] (fun i w2 => ∃ k : Nat, k ≤ L.length ∧ i = .int .i64 k ∧ TRAt w2 wo.heap.size wo.heap.size f a c (rbTo f L Bs k).1 (rbTo f L Bs k).2 ∧ Below wo.heap.size wo w2 ∧ (rbTo f L Bs k).1.length ≤ 400 * k ∧ (rbTo f L Bs k).2.length ≤ 2400 * k) (fun i _ => L.length - (intOf i).toNat)
            case atStart => exact ⟨0, Nat.zero_le _, rfl, hT0, hlow1, Nat.zero_le _, Nat.zero_le _⟩
            case round =>
              obtain ⟨k, hk, rfl, hT, hb2, hn1, hn2⟩ := hrel
              have hz2 := hb2.size
              clear q0 q1 q2
              by_cases hlt : k < L.length
              · obtain ⟨ad, rfl, had, ⟨hc0, hc1⟩, hI⟩ := hXr.below hb2 k hlt
                obtain ⟨pb, rfl, hpb, hcb⟩ := (hBr.below hb2) k (by rw [HL1.out]; exact hlt)
                have hkl : (k : Int) < (L.length : Int) := by omega
                have hkB : (k : Int) < (Bs.length : Int) := by rw [HL1.out]; exact hkl
                have hw : headErr f (L.drop k) (Bs.getD k false) = 0 := by have h := HG.out k hlt; unfold badL at h; simpa using h
                obtain ⟨l1, l2, l3⟩ := head_zero hw
                rw [dropL] at l1 l2 l3
                have hIr := (hXr k hlt)
                obtain ⟨_, e9, _, _, hI0⟩ := hIr
                clear e9
                have hlc := (hO.2 k hlt).2
                have HST := Lib.hid (show rbTo f L Bs (k + 1) = rdLine f (rbTo f L Bs k) (L.getD k noLN).l (Bs.getD k false) from rfl)
                have hk4 := HL4.out
                have hrl := rdLine_len (st := rbTo f L Bs k) (l := (L.getD k noLN).l) (br := Bs.getD k false) HTX.out
                have HIX := Lib.hid (fun j (hj : j < (L.getD k noLN).l.length) => idx_of_any l2 hj)
                have HRL := Lib.hid (fun W (hTW : TRAt W wo.heap.size wo.heap.size f a c (rbTo f L Bs k).1 (rbTo f L Bs k).2) (hBW : Below wo.heap.size wo W) (hszW : wo.heap.size ≤ W.heap.size) => readLine_any f a c wo.heap.size wo.heap.size (rbTo f L Bs k) (L.getD k noLN).a (L.getD k noLN).l (L.getD k noLN).c (Bs.getD k false) wo W hTW hFr hI0 hBW (Nat.le_refl _) hszW HIX.out (by omega) hlc l3 HTX.out (by omega) (by omega))
                rw [← HST.out] at HRL hrl
                obtain ⟨x, ex⟩ : ∃ x, x = L.getD k noLN := ⟨_, rfl⟩
                obtain ⟨bk, ebk⟩ : ∃ bk, bk = Bs.getD k false := ⟨_, rfl⟩
                rw [← ex] at hc0 hc1 HRL hrl l1
                rw [← ebk] at hcb HRL
                clear ex ebk l2 l3 hI hI0 HIX hlc hw
                go_wp2_with fail
                have hcb2 := cell_alloc_keep (o := .cells #[.int .i64 x.ms, .slice x.a x.l.length x.c] 80) hcb
                go_region_with ((go_at_call 84; refine (HRL.out _ ((hT.alloc (.cells #[.int .i64 x.ms, .slice x.a x.l.length x.c] 80)).drew) (by exact (hb2.alloc (by omega) _).drew) (by simp; omega)).mono ?_; rintro e w4 ⟨⟨v4, rfl⟩, hT4, hb4⟩))
                all_goals
                  have hb5 := ((hb2.alloc (by omega) (.cells #[.int .i64 x.ms, .slice x.a x.l.length x.c] 80)).drew).trans hb4
                  clear hT hb4 hb2 hcb2 hcb hc0 hc1
                  go_wp2
                  go_roundw
                  case rel => exact ⟨k + 1, by omega, by go_num, by rw [HST.out]; exact hT4, hb5, by omega, by omega⟩
                  case measure => simp [intOf]; omega
              · obtain rfl : k = L.length := by omega
                obtain ⟨v, u, hb, hv, hu⟩ := hT.out
                have c3 : wr.cell? ⟨wo.heap.size, 3, none⟩ = some v := by rw [cell_of_row wr _ 3 _ _ (0, 0) hb]; rfl
                have hlw := hlow.size
                clear hT hu
                go_wp2
                go_ret2
                refine ⟨hlow.trans (hb2.mono hlw), ?_⟩
                rw [if_pos HV.out]
                exact ⟨v, rfl, own_mono hv hlw⟩
    · have HE := Lib.hid (show readErr f L Bs = 10 by unfold readErr; rw [if_neg (by simp [H0.out]), if_pos h1])
      have hlow := E1.low
      have hd1 : ((Bs.length : Int) != (L.length : Int)) = true := by simp; omega
      go_wp2
      go_ret2
      exact ⟨hlow, by rw [HE.out]; rfl⟩
  · have HE := Lib.hid (show readErr f L Bs = (checkF f).2 by unfold readErr; rw [if_pos h0])
    have heb : ((checkF f).2 != 0) = true := by simpa using h0
    have H0 := Lib.hid h0
    clear h0
    go_enter Tryz.func38, Tryz.ntmps38
    go_wp2_with fail
    refine (checkFount_any f a c _ E0.fa.ok (by exact E0.fa.at_) (by exact E0.fa.tab)).mono ?_
    rintro e w1 ⟨rfl, hb⟩
    have hlow := (E0.step hF hb).low
    clear hb
    go_wp2
    go_ret2
    exact ⟨hlow, by rw [HE.out, if_neg H0.out]; rfl⟩
end Go.Proofs.YtomblajlpanmjaaGreatDoor
