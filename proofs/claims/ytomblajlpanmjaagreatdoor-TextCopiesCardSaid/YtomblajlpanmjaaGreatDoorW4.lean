/-
  The reader of lines reads a line.
-/
import Derived.Test.YtomblajlpanmjaaGreatDoorW3
namespace Go.Proofs.YtomblajlpanmjaaGreatDoor
open Go.RowKit Go.Maps Go.Shelf

def rdSort (f : FT) (st : List ByteArray × List UInt8) (x : Int) : List ByteArray × List UInt8 :=
  if (f.sorts.getD x.toNat noTS).kind = 3 then endW st else (st.1, st.2 ++ (f.sorts.getD x.toNat noTS).text.data.toList)
def rdTo (f : FT) (st : List ByteArray × List UInt8) (l : List Int) : Nat → List ByteArray × List UInt8
  | 0 => st
  | k + 1 => rdSort f (rdTo f st l k) (l.getD k 0)
def rdLine (f : FT) (st : List ByteArray × List UInt8) (l : List Int) (br : Bool) : List ByteArray × List UInt8 :=
  if br = true then rdTo f st l (l.length - 1) else endW (rdTo f st l l.length)
theorem endW_len (st : List ByteArray × List UInt8) : (endW st).1.length ≤ st.1.length + 1 ∧ (endW st).2.length ≤ st.2.length := by
  unfold endW
  split
  · exact ⟨by omega, Nat.le_refl _⟩
  · exact ⟨by simp, by simp⟩
theorem rdTo_len {f : FT} {st : List ByteArray × List UInt8} {l : List Int} (htx : ∀ x : Nat, (f.sorts.getD x noTS).text.size ≤ 8) : ∀ k, (rdTo f st l k).1.length ≤ st.1.length + k ∧ (rdTo f st l k).2.length ≤ st.2.length + 8 * k
  | 0 => ⟨Nat.le_refl _, Nat.le_refl _⟩
  | k + 1 => by
    have ih := rdTo_len (st := st) (l := l) htx k
    have he := endW_len (rdTo f st l k)
    have ht := htx (l.getD k 0).toNat
    unfold rdTo rdSort
    split
    · omega
    · rw [List.length_append]
      have : (f.sorts.getD (l.getD k 0).toNat noTS).text.data.toList.length = (f.sorts.getD (l.getD k 0).toNat noTS).text.size := Array.length_toList
      show (rdTo f st l k).1.length ≤ _ ∧ (rdTo f st l k).2.length + _ ≤ _
      omega
theorem TRAt.below {w w' : World} {B b : Nat} {f : FT} {a : Option Addr} {c : Nat} {ws : List ByteArray} {cur : List UInt8} (h : TRAt w B b f a c ws cur) (hb : Below w.heap.size w w') : TRAt w' B b f a c ws cur := by
  obtain ⟨v, u, h1, h2, h3⟩ := h.out
  exact ⟨⟨v, u, (hb.block b (heap_lt h1)).trans h1, own_below h2 hb, own_below h3 hb⟩, h.hB⟩
theorem TRAt.alloc {w : World} {B b : Nat} {f : FT} {a : Option Addr} {c : Nat} {ws : List ByteArray} {cur : List UInt8} (h : TRAt w B b f a c ws cur) (o : Obj) : TRAt (w.alloc o) B b f a c ws cur := h.below ((Below.refl _ _).alloc (Nat.le_refl _) o)
theorem step_append_str {w : World} {ops : Array Oper} {o : Oper} {a : Act} {K : Act → World → Prop} {Q : Exit → Act → World → Prop} {E : Prop} (hgd : o.guard = none) (s x : Operand)
    (ho : o.op = .call { callee := .builtin .append, args := #[s, x], argTypes := #[113, 9] })
    (base n : Nat) (v : Value) (xs : List Value) (hs : a.eval s = v) (hown : w.ownsRow base 5 1 v n xs) (t : ByteArray) (hx : a.eval x = .string t) (hbd : n + t.size ≤ 2000000) (hbase : base ≤ w.heap.size)
    (h : ∀ A' d' w', w'.ownsRow base 5 1 (.slice A' (n + t.size) d') (n + t.size) (xs ++ Lib.strCells t) → w.grownBy w' v.ownBlock → K (a.put o.dst (.slice A' (n + t.size) d')) w') :
    if Region.wanted o (yielded ops a.tmps) = true then Oper.wp Tryz.prog o a w K Q else E := by
  obtain ⟨i0, hi0, hz0, hz1, hz2⟩ := info_parts info_u8
  have hw : Region.wanted o (yielded ops a.tmps) = true := by simp [Region.wanted, hgd]
  rw [if_pos hw]
  obtain ⟨v', w', hr, h2, h3, _⟩ := Lib.run_append_own_string (P := Tryz.prog) w base 113 9 o.type 5 i0 Tryz.underlying113 Tryz.underlying9 hi0 hz0 hz1 hz2 v n xs hown t (by unfold maxLen; omega) (by omega) hbase
  obtain ⟨A', d', rfl, _, _⟩ := own_form h2
  unfold Oper.wp execOp
  simp only [ho, resolve, invoke, builtin, Sem.run_bind, Sem.run_pure, Result.andThen_ok, List.map_toArray, List.map_cons, List.map_nil, hs, hx, hr]
  exact h A' d' w' h2 h3

set_option maxRecDepth 100000 in
set_option maxHeartbeats 2000000 in
theorem readLine_any (f : FT) (a : Option Addr) (c : Nat) (B b : Nat) (st : List ByteArray × List UInt8) (A : Option Addr) (l : List Int) (d : Nat) (br : Bool) (w0 w : World) (h : TRAt w B b f a c st.1 st.2) (hF : FAt w0 a f) (hI : IntsAt w0 A l) (h0 : Below w0.heap.size w0 w) (hB0 : w0.heap.size ≤ B) (hBw : B ≤ w.heap.size)
    (hix : ∀ j, j < l.length → ∃ x : Nat, l.getD j 0 = x ∧ x < f.sorts.length) (hl : l.length ≤ 10000) (hd : l.length ≤ d) (hbr : br = true → 0 < l.length) (htx : ∀ x : Nat, (f.sorts.getD x noTS).text.size ≤ 8) (h1 : st.1.length + l.length ≤ 900000) (h2 : st.2.length + 8 * l.length ≤ 990000) :
    Calls Tryz.prog 84 #[.pointer (some ⟨b, 0, none⟩), .slice A l.length d, .bool br] w fun e w' => (∃ v, e = .returned v) ∧ TRAt w' B b f a c (rdLine f st l br).1 (rdLine f st l br).2 ∧ Below B w w' := by
  have hB := h.hB
  have hFx := hF.at_
  have HL := Lib.hid (rdTo_len (st := st) (l := l) htx)
  have HTX := Lib.hid htx
  have HIX := Lib.hid hix
  clear hix htx
  cases br with
  | false =>
    have HE := Lib.hid (show rdLine f st l false = endW (rdTo f st l l.length) from rfl)
    clear hbr
    go_enter Tryz.func84, Tryz.ntmps84
    go_wp2_with fail
    go_loopw [17] (fun i wr => ∃ k : Nat, k ≤ l.length ∧ i = .int .i64 k ∧ TRAt wr B b f a c (rdTo f st l k).1 (rdTo f st l k).2 ∧ Below B w wr) (fun i _ => l.length - (intOf i).toNat)
    case atStart => exact ⟨0, Nat.zero_le _, rfl, h, Below.refl _ _⟩
    case round =>
      obtain ⟨k, hk, rfl, hT, hbw⟩ := hrel
      have hzr := hbw.size
      have hlow : Below w0.heap.size w0 wr := h0.trans (hbw.mono hB0)
      by_cases hlt : k < l.length
      · obtain ⟨p1, rfl, hp1, hcx⟩ := (hI.below hlow).at_ hlt
        obtain ⟨x, hx, hxn⟩ := HIX.out k hlt
        rw [hx] at hcx
        obtain ⟨pf, rfl, hpf, hsf⟩ := (hFx.below hlow).at_ hxn
        have HST := Lib.hid (show rdTo f st l (k + 1) = rdSort f (rdTo f st l k) (x : Int) by rw [← hx]; rfl)
        have hkl : (k : Int) < (l.length : Int) := by omega
        have hxl : (x : Int) < (f.sorts.length : Int) := by omega
        have hlen := HL.out k
        obtain ⟨y, hy⟩ : ∃ y, y = f.sorts.getD x noTS := ⟨_, rfl⟩
        have hty : y.text.size ≤ 8 := by rw [hy]; exact HTX.out x
        have HRD := Lib.hid (show rdSort f (rdTo f st l k) (x : Int) = if y.kind = 3 then endW (rdTo f st l k) else ((rdTo f st l k).1, (rdTo f st l k).2 ++ y.text.data.toList) by rw [hy]; rfl)
        rw [← hy] at hsf
        obtain ⟨s0, s1, s2, s3⟩ := hsf
        obtain ⟨sk, hsk⟩ : ∃ sk, sk = rdTo f st l k := ⟨_, rfl⟩
        rw [← hsk] at HRD hT hlen HST
        clear hy hx hsk
        obtain ⟨v, u, hb, hv, hu⟩ := hT.out
        have hltb := heap_lt hb
        have c2 : wr.cell? ⟨b, 2, none⟩ = some (.slice (some pf) f.sorts.length c) := by rw [cell_of_row wr b 2 _ _ (0, 0) hb]; rfl
        by_cases h3 : y.kind = 3
        · have HR := Lib.hid (HST.out.trans (HRD.out.trans (if_pos h3)))
          rw [h3] at s2
          clear hb hv hu
          go_wp2_with fail
          refine (endWord_any f (some pf) c B b _ _ _ (hT.alloc _) (by omega) (by omega) (by simp; omega)).mono ?_
          rintro e w2 ⟨⟨v2, rfl⟩, hT2, hb2⟩
          have hb3 := (hbw.alloc (by omega) (.cells #[.string y.name, .string y.text, .int .i64 3, .int .i64 y.width] 97)).trans hb2
          clear hb2 hT
          go_wp2
          go_roundw
          case rel => exact ⟨k + 1, by omega, by go_num, by rw [HR.out]; exact hT2, hb3⟩
          case measure => simp [intOf]; omega
        · have HR := Lib.hid (HST.out.trans (HRD.out.trans (if_neg h3)))
          have hk3 : (y.kind == 3) = false := by rw [beq_eq_false_iff_ne]; exact h3
          obtain ⟨Au, du, rfl, hdu, hAu⟩ := own_form hu
          have c4 : wr.cell? ⟨b, 4, none⟩ = some (.slice Au sk.2.length du) := by rw [cell_of_row wr b 4 _ _ (0, 0) hb]; rfl
          have z4 : wr.frozen? ⟨b, 4, none⟩ = false := by simp [World.frozen?, hb]
          have a1 : (Value.slice Au sk.2.length du).ownBlock ≠ some b := own_off hu hb (by decide)
          have zz : (wr.alloc (.cells #[.string y.name, .string y.text, .int .i64 y.kind, .int .i64 y.width] 97)).frozen? ⟨b, 4, none⟩ = false := (World.frozen?_alloc_past _ _ _ hltb).trans z4
          go_wp2_with fail
          go_region_law (first
            | (refine step_append_str rfl _ _ rfl B sk.2.length _ (byV sk.2) rfl ((hu.alloc _).drew) y.text rfl (by omega) (by simp; omega) ?_; intro A5 d5 w5 hown5 hgrow; have z5 : w5.frozen? ⟨b, 4, none⟩ = false := (hgrow.frozen_far ⟨b, 4, none⟩ (by simp; omega) (Ne.symm a1)).trans zz; have x5 : w5.cell? ⟨b, 4, none⟩ = some (.slice Au sk.2.length du) := (hgrow.cell_far ⟨b, 4, none⟩ (by simp; omega) (Ne.symm a1)).trans ((World.cell?_alloc_past _ _ _ hltb).trans c4)))
          all_goals
            have hb5 := (hgrow.block b (by simp; omega) (fun e => a1 e.symm)).trans ((Below.heap_alloc wr _ b hltb).trans hb)
            have hv5 := ((hv.alloc (.cells #[.string y.name, .string y.text, .int .i64 y.kind, .int .i64 y.width] 97)).drew).kept hgrow (own_apart hv hu (by decide))
            have hB5 := ((hbw.alloc (by omega) (.cells #[.string y.name, .string y.text, .int .i64 y.kind, .int .i64 y.width] 97)).drew).grown hgrow (by simp; omega) (fun q hq => (hu.lt q hq).1)
            have hb6 := heap_set2 hb5 4 (.slice A5 (sk.2.length + y.text.size) d5)
            have hu6 := own_put hown5 hb5 (by decide) 4 (.slice A5 (sk.2.length + y.text.size) d5)
            have hv6 := own_put hv5 hb5 (by decide) 4 (.slice A5 (sk.2.length + y.text.size) d5)
            have hB6 := hB5.setCell (p := ⟨b, 4, none⟩) hB (.slice A5 (sk.2.length + y.text.size) d5)
            have hbyv : byV sk.2 ++ Lib.strCells y.text = byV (sk.2 ++ y.text.data.toList) := by unfold byV Lib.strCells; rw [List.map_append]
            rw [hbyv] at hu6
            have hln : (sk.2 ++ y.text.data.toList).length = sk.2.length + y.text.size := by rw [List.length_append]; rfl
            have hT6 : TRAt (w5.setCell ⟨b, 4, none⟩ (.slice A5 (sk.2.length + y.text.size) d5)) B b f (some pf) c sk.1 (sk.2 ++ y.text.data.toList) := ⟨⟨_, _, hb6, hv6, by rw [hln]; exact hu6⟩, hB⟩
            clear hb5 hv5 hB5 hb6 hu6 hv6 hbyv hln hown5 hgrow z5 x5 hT hb hv hu
            go_wp2
            go_roundw
            case rel => exact ⟨k + 1, by omega, by go_num, by rw [HR.out]; exact hT6, hB6⟩
            case measure => simp [intOf]; omega
      · obtain rfl : k = l.length := by omega
        have hlen := HL.out l.length
        go_wp2_with fail
        refine (endWord_any f a c B b _ _ _ hT (by omega) (by omega) (by omega)).mono ?_
        rintro e w2 ⟨⟨v2, rfl⟩, hT2, hb2⟩
        go_wp2
        go_end0
        exact ⟨⟨_, rfl⟩, by rw [HE.out]; exact hT2, hbw.trans hb2⟩
  | true =>
    obtain ⟨m, hm⟩ : ∃ m, l.length = m + 1 := ⟨l.length - 1, by have := hbr rfl; omega⟩
    have HE := Lib.hid (show rdLine f st l true = rdTo f st l m by show rdTo f st l (l.length - 1) = _; rw [hm]; rfl)
    have hml : m ≤ l.length := by omega
    have hmd : m ≤ d := by omega
    obtain ⟨p0, rfl, _, _⟩ := hI.at_ (k := 0) (by omega)
    have hmdI : (m : Int) ≤ (d : Int) := by omega
    rw [hm]
    clear hbr hm
    go_enter Tryz.func84, Tryz.ntmps84
    go_wp2_with fail
    go_loopw [17] (fun i wr => ∃ k : Nat, k ≤ m ∧ i = .int .i64 k ∧ TRAt wr B b f a c (rdTo f st l k).1 (rdTo f st l k).2 ∧ Below B w wr) (fun i _ => m - (intOf i).toNat)
    case atStart => exact ⟨0, Nat.zero_le _, rfl, h, Below.refl _ _⟩
    case round =>
      obtain ⟨k, hk, rfl, hT, hbw⟩ := hrel
      have hzr := hbw.size
      have hlow : Below w0.heap.size w0 wr := h0.trans (hbw.mono hB0)
      by_cases hlt : k < m
      · obtain ⟨p1, ep1, hp1, hcx⟩ := (hI.below hlow).at_ (k := k) (by omega)
        cases ep1
        obtain ⟨x, hx, hxn⟩ := HIX.out k (by omega)
        rw [hx] at hcx
        obtain ⟨pf, rfl, hpf, hsf⟩ := (hFx.below hlow).at_ hxn
        have HST := Lib.hid (show rdTo f st l (k + 1) = rdSort f (rdTo f st l k) (x : Int) by rw [← hx]; rfl)
        have hkl : (k : Int) < (m : Int) := by omega
        have hxl : (x : Int) < (f.sorts.length : Int) := by omega
        have hlen := HL.out k
        obtain ⟨y, hy⟩ : ∃ y, y = f.sorts.getD x noTS := ⟨_, rfl⟩
        have hty : y.text.size ≤ 8 := by rw [hy]; exact HTX.out x
        have HRD := Lib.hid (show rdSort f (rdTo f st l k) (x : Int) = if y.kind = 3 then endW (rdTo f st l k) else ((rdTo f st l k).1, (rdTo f st l k).2 ++ y.text.data.toList) by rw [hy]; rfl)
        rw [← hy] at hsf
        obtain ⟨s0, s1, s2, s3⟩ := hsf
        obtain ⟨sk, hsk⟩ : ∃ sk, sk = rdTo f st l k := ⟨_, rfl⟩
        rw [← hsk] at HRD hT hlen HST
        clear hy hx hsk
        obtain ⟨v, u, hb, hv, hu⟩ := hT.out
        have hltb := heap_lt hb
        have c2 : wr.cell? ⟨b, 2, none⟩ = some (.slice (some pf) f.sorts.length c) := by rw [cell_of_row wr b 2 _ _ (0, 0) hb]; rfl
        by_cases h3 : y.kind = 3
        · have HR := Lib.hid (HST.out.trans (HRD.out.trans (if_pos h3)))
          rw [h3] at s2
          clear hb hv hu
          go_wp2_with fail
          refine (endWord_any f (some pf) c B b _ _ _ (hT.alloc _) (by omega) (by omega) (by simp; omega)).mono ?_
          rintro e w2 ⟨⟨v2, rfl⟩, hT2, hb2⟩
          have hb3 := (hbw.alloc (by omega) (.cells #[.string y.name, .string y.text, .int .i64 3, .int .i64 y.width] 97)).trans hb2
          clear hb2 hT
          go_wp2
          go_roundw
          case rel => exact ⟨k + 1, by omega, by go_num, by rw [HR.out]; exact hT2, hb3⟩
          case measure => simp [intOf]; omega
        · have HR := Lib.hid (HST.out.trans (HRD.out.trans (if_neg h3)))
          have hk3 : (y.kind == 3) = false := by rw [beq_eq_false_iff_ne]; exact h3
          obtain ⟨Au, du, rfl, hdu, hAu⟩ := own_form hu
          have c4 : wr.cell? ⟨b, 4, none⟩ = some (.slice Au sk.2.length du) := by rw [cell_of_row wr b 4 _ _ (0, 0) hb]; rfl
          have z4 : wr.frozen? ⟨b, 4, none⟩ = false := by simp [World.frozen?, hb]
          have a1 : (Value.slice Au sk.2.length du).ownBlock ≠ some b := own_off hu hb (by decide)
          have zz : (wr.alloc (.cells #[.string y.name, .string y.text, .int .i64 y.kind, .int .i64 y.width] 97)).frozen? ⟨b, 4, none⟩ = false := (World.frozen?_alloc_past _ _ _ hltb).trans z4
          go_wp2_with fail
          go_region_law (first
            | (refine step_append_str rfl _ _ rfl B sk.2.length _ (byV sk.2) rfl ((hu.alloc _).drew) y.text rfl (by omega) (by simp; omega) ?_; intro A5 d5 w5 hown5 hgrow; have z5 : w5.frozen? ⟨b, 4, none⟩ = false := (hgrow.frozen_far ⟨b, 4, none⟩ (by simp; omega) (Ne.symm a1)).trans zz; have x5 : w5.cell? ⟨b, 4, none⟩ = some (.slice Au sk.2.length du) := (hgrow.cell_far ⟨b, 4, none⟩ (by simp; omega) (Ne.symm a1)).trans ((World.cell?_alloc_past _ _ _ hltb).trans c4)))
          all_goals
            have hb5 := (hgrow.block b (by simp; omega) (fun e => a1 e.symm)).trans ((Below.heap_alloc wr _ b hltb).trans hb)
            have hv5 := ((hv.alloc (.cells #[.string y.name, .string y.text, .int .i64 y.kind, .int .i64 y.width] 97)).drew).kept hgrow (own_apart hv hu (by decide))
            have hB5 := ((hbw.alloc (by omega) (.cells #[.string y.name, .string y.text, .int .i64 y.kind, .int .i64 y.width] 97)).drew).grown hgrow (by simp; omega) (fun q hq => (hu.lt q hq).1)
            have hb6 := heap_set2 hb5 4 (.slice A5 (sk.2.length + y.text.size) d5)
            have hu6 := own_put hown5 hb5 (by decide) 4 (.slice A5 (sk.2.length + y.text.size) d5)
            have hv6 := own_put hv5 hb5 (by decide) 4 (.slice A5 (sk.2.length + y.text.size) d5)
            have hB6 := hB5.setCell (p := ⟨b, 4, none⟩) hB (.slice A5 (sk.2.length + y.text.size) d5)
            have hbyv : byV sk.2 ++ Lib.strCells y.text = byV (sk.2 ++ y.text.data.toList) := by unfold byV Lib.strCells; rw [List.map_append]
            rw [hbyv] at hu6
            have hln : (sk.2 ++ y.text.data.toList).length = sk.2.length + y.text.size := by rw [List.length_append]; rfl
            have hT6 : TRAt (w5.setCell ⟨b, 4, none⟩ (.slice A5 (sk.2.length + y.text.size) d5)) B b f (some pf) c sk.1 (sk.2 ++ y.text.data.toList) := ⟨⟨_, _, hb6, hv6, by rw [hln]; exact hu6⟩, hB⟩
            clear hb5 hv5 hB5 hb6 hu6 hv6 hbyv hln hown5 hgrow z5 x5 hT hb hv hu
            go_wp2
            go_roundw
            case rel => exact ⟨k + 1, by omega, by go_num, by rw [HR.out]; exact hT6, hB6⟩
            case measure => simp [intOf]; omega
      · obtain rfl : k = m := by omega
        go_wp2
        go_end0
        exact ⟨⟨_, rfl⟩, by rw [HE.out]; exact hT, hbw⟩
end Go.Proofs.YtomblajlpanmjaaGreatDoor
