/-
  Package press: numberOf; what the world must hold for it (CF turned).
-/
import Derived.Test.YtdgegebplebeoaaGreatDoorXa
import Derived.Test.YtdgegebplebeoaaGreatDoorShelf
import Derived.Lib.AppendIntMem
import Derived.Lib.ItoaLen
import Derived.Lib.AtoiAllCases
import Derived.Deep.CutRange
import Derived.Laws.IdiomStrings
import Derived.Test.YtdgegebplebeoaaGreatDoorEI
import Derived.Laws.Rows
import Derived.BigQuiet

namespace Go.Proofs.YtdgegebplebeoaaGreatDoor
open Go.RowKit

structure WF (w : World) : Prop where
  lt : 0 < w.heap.size
  tab : Lib.TabIs Tryz.prog w "internal/strconv.uint64pow10" .u64 Lib.pow10Tab
  m : ∃ m, w.cell? ⟨1, 0, none⟩ = some (.int .i64 m)
  err : ∃ ev, w.cell? ⟨2, 0, none⟩ = some ev ∧ (ev = .nilIface ∨ ∃ te pe, ev = .iface te pe)
theorem gPow : Tryz.prog.globalNamed "internal/strconv.uint64pow10" = some 0 := by kernel_rfl
theorem cell_ltF {w : World} {p : Addr} {v : Value} (h : w.cell? p = some v) : p.block < w.heap.size := by
  rcases Nat.lt_or_ge p.block w.heap.size with h1 | h1
  · exact h1
  · unfold World.cell? at h
    rw [Array.getElem?_eq_none h1] at h
    cases h
theorem WF.below {w w' : World} (h : WF w) (hb : Below w.heap.size w w') : WF w' := by
  refine ⟨Nat.lt_of_lt_of_le h.lt hb.size, var?_below hb gPow h.lt h.tab, ?_, ?_⟩
  · obtain ⟨m, hm⟩ := h.m
    exact ⟨m, ((bcell hb).1 _ _ (cell_ltF hm)).trans hm⟩
  · obtain ⟨ev, he, h2⟩ := h.err
    exact ⟨ev, ((bcell hb).1 _ _ (cell_ltF he)).trans he, h2⟩
theorem WF.alloc {w : World} (h : WF w) (o : Obj) : WF (w.alloc o) := h.below ((Below.refl _ _).alloc (Nat.le_refl _) o)

theorem okI_of {n : Int} (h : -9223372036854775808 ≤ n ∧ n ≤ 9223372036854775807) : OkI n := by
  have h1 : IntKind.i64.min = -9223372036854775808 := by decide
  have h2 : IntKind.i64.max = 9223372036854775807 := by decide
  exact (Lit.wf_int_iff .i64 n).2 (by omega)
theorem itoaB_any (n : Int) (h : OkI n) (w : World) (hP : WF w) :
    Calls Tryz.prog 22 #[.int .i64 n] w fun e w' => e = .returned (.string (bs (Lib.itoa n))) ∧ Below w.heap.size w w' := by
  obtain ⟨h1, h2⟩ := h.le
  refine (Tryz.strconv_Itoa n h2 h1 w hP.tab).mono ?_
  rintro e w' ⟨rfl, k, os, rfl⟩
  exact ⟨rfl, Lib.below_grow _ w (Nat.le_refl _) k os⟩
theorem bs_len {l : List UInt8} {n : Nat} (h : l.length ≤ n) : (bs l).size ≤ n := by rw [bs_size]; exact h
theorem itoa_len21 {n : Int} (h : OkI n) : (Lib.itoa n).length ≤ 21 := by
  obtain ⟨h1, h2⟩ := h.le
  exact Lib.itoa_length_le n h2 h1
theorem bs_beq (l : List UInt8) (s : ByteArray) : ((bs l).toList == s.toList) = decide (l = s.data.toList) := by
  rw [Lib.toList_data, Lib.toList_data, bs_data, Bool.eq_iff_iff, beq_iff_eq, decide_eq_true_iff]
theorem trim_lib (t : List UInt8) : Lib.trimPrefix t [45] = trimM t := by
  unfold Lib.trimPrefix trimM
  cases t with
  | nil => rfl
  | cons c r =>
    show (if Lib.hasPrefix (c :: r) [45] = true then r else c :: r) = if c = 45 then r else c :: r
    by_cases h : c = 45
    · subst h; rfl
    · rw [if_neg h, if_neg]
      intro e
      unfold Lib.hasPrefix at e
      simp [List.isPrefixOf] at e
      exact h e.symm
theorem trim_len (t : List UInt8) : t.length ≤ (trimM t).length + 1 := by
  unfold trimM; split
  · cases t <;> simp
  · omega

/-- What is read of a number. -/
def NumPostW (w : World) (o : Option Int) (e : Ending) (w' : World) : Prop := ∃ x : Int, e = .returned (.tuple #[.int .i64 x, .bool o.isSome]) ∧ (∀ v, o = some v → x = v) ∧ Below w.heap.size w w'
set_option maxRecDepth 100000 in
set_option maxHeartbeats 4000000 in
theorem numberOf_any (s : ByteArray) (w : World) (hs : s.size ≤ 1000000) (hP : WF w) :
    Calls Tryz.prog 26 #[.string s] w (NumPostW w (numI s.data.toList 7)) := by
  obtain ⟨t, ht⟩ : ∃ t, t = s.data.toList := ⟨_, rfl⟩
  have hlen : t.length = s.size := by rw [ht]; exact Array.length_toList
  have HTR := Lib.hid (fun w => Tryz.strings_TrimPrefix s ⟨#[45]⟩ w)
  have etr : (⟨(Lib.trimPrefix s.data.toList [45]).toArray⟩ : ByteArray) = bs (trimM t) := by rw [← ht, trim_lib]; rfl
  obtain ⟨n, hn⟩ : ∃ n, n = (trimM t).length := ⟨_, rfl⟩
  have hbz : (bs (trimM t)).size = n := by rw [bs_size, hn]
  have hn1 := trim_len t
  have hn2 : n ≤ t.length := by
    rw [hn]; unfold trimM; split
    · rw [List.length_tail]; omega
    · exact Nat.le_refl _
  obtain ⟨o, ho⟩ : ∃ o, o = numI t 7 := ⟨_, rfl⟩
  rw [← ht, ← ho]
  have HET := Lib.hid etr
  obtain ⟨b0, hb0⟩ : ∃ b0, b0 = bs (trimM t) := ⟨_, rfl⟩
  rw [← hb0] at hbz HET
  have hbI : (b0.size : Int) = n := by rw [hbz]
  clear hb0
  by_cases hdn : 7 < n
  · have HO := Lib.hid (show o = none by rw [ho]; exact num_long (by rw [← hn]; exact hdn))
    have hI : (n : Int) > 7 := by omega
    clear ho etr hdn hn ht hlen hn1 hn2 hbz
    go_enter Tryz.func26, Tryz.ntmps26
    go_wp2_with (go_at_call 56; refine (HTR.out _).mono ?_; rintro e w ⟨rfl, rfl⟩; simp only [HET.out])
    go_ret2
    exact ⟨0, by rw [HO.out]; rfl, (fun v hv => by have h := HO.out; rw [h] at hv; cases hv), Below.refl _ _⟩
  have hI : ¬ (n : Int) > 7 := by omega
  have h18 : t.length ≤ 18 := by omega
  have hall := Lib.atoiAll_short t h18
  rw [ht] at hall
  rw [← ht] at hall
  cases ha : Lib.atoi t with
  | none =>
    have HO := Lib.hid (show o = none by rw [ho]; unfold numI; rw [ha])
    rw [ha] at hall
    obtain ⟨ev, hev, hev2⟩ := hP.err
    have HAT := Lib.hid (Tryz.strconv_Atoi_syntax s (by omega) (by rw [← ht]; exact hall) ev w hev hev2)
    clear ho etr hall hdn hn ht hlen hn1 hn2 hbz ha
    go_enter Tryz.func26, Tryz.ntmps26
    go_wp2_with (go_at_call 56; refine (HTR.out _).mono ?_; rintro e w ⟨rfl, rfl⟩; simp only [HET.out])
    refine HAT.out.mono ?_
    rintro e w1 ⟨N, rfl, -, -, hB⟩
    go_wp2_with fail
    go_ret2
    exact ⟨0, by rw [HO.out]; rfl, (fun v hv => by have h := HO.out; rw [h] at hv; cases hv), hB⟩
  | some v =>
    rw [ha] at hall
    have hv := Lib.atoiAll_bounds (l := t) (v := v) hall
    have hok : OkI v := okI_of hv
    have HAT := Lib.hid (Tryz.strconv_Atoi_ok s (by omega) v (by rw [← ht]; exact hall) w)
    obtain ⟨q, hq⟩ : ∃ q, q = decide (Lib.itoa v = t) := ⟨_, rfl⟩
    have hbe : ((bs (Lib.itoa v)).toList == s.toList) = q := by
      rw [hq, ht]; exact bs_beq _ _
    have HO := Lib.hid (show o.isSome = q ∧ ∀ x, o = some x → v = x by
      rw [ho, hq]; unfold numI; rw [ha]
      by_cases e : Lib.itoa v = t
      · have e2 : Lib.itoa v = t ∧ (trimM t).length ≤ 7 := ⟨e, by rw [← hn]; omega⟩
        simp only [if_pos e2]
        exact ⟨by simp [e], fun x hx => Option.some.inj hx⟩
      · have e2 : ¬ (Lib.itoa v = t ∧ (trimM t).length ≤ 7) := fun h => e h.1
        simp only [if_neg e2]
        exact ⟨by simp [e], fun x hx => by cases hx⟩)
    clear ho etr hall hdn hq hn ht hlen hn1 hn2 hbz ha
    go_enter Tryz.func26, Tryz.ntmps26
    go_wp2_with (go_at_call 56; refine (HTR.out _).mono ?_; rintro e w ⟨rfl, rfl⟩; simp only [HET.out])
    refine HAT.out.mono ?_
    rintro e w1 ⟨rfl, hw⟩
    have hB : Below w.heap.size w w1 := by
      rcases hw with rfl | ⟨t, rfl⟩
      · exact Below.refl _ _
      · exact ⟨rfl, rfl, rfl, by rw [Lib.bytesWorld_size]; omega, fun j hj => Lib.bytesWorld_at_old w _ t j hj⟩
    have hP1 := hP.below hB
    go_wp2_with (go_at_call 22; refine (itoaB_any _ hok _ hP1).mono ?_; rintro e w2 ⟨rfl, hb2⟩)
    go_ret2
    exact ⟨v, by rw [HO.out.1]; rfl, HO.out.2, hB.trans (hb2.mono (B' := w.heap.size) hB.size)⟩
/-- A text is returned. -/
def StrPost (w : World) (t : List UInt8) (e : Ending) (w' : World) : Prop := e = .returned (.string (bs t)) ∧ Below w.heap.size w w'
theorem bs_app (a b : List UInt8) : bs a ++ bs b = bs (a ++ b) := by
  have h : (bs a ++ bs b).data.toList = (bs (a ++ b)).data.toList := by rw [ByteArray.data_append]; simp [bs]
  rw [← data_bs (bs a ++ bs b), h, data_bs]
theorem bs_add (a b : List UInt8) (h : a.length + b.length ≤ 1000000) (W : World) : (Op.stringOp .add (bs a) (bs b)).run Tryz.prog W = .ok (.string (bs (a ++ b))) W := by
  have h1 : ¬ ((9223372036854775807 : Int) < ((bs a).size : Int) + ((bs b).size : Int)) := by rw [bs_size, bs_size]; omega
  simp [Op.stringOp, h1, bs_app]
end Go.Proofs.YtdgegebplebeoaaGreatDoor

namespace Go.Proofs.YtdgegebplebeoaaGreatDoor
open Go.RowKit Go.Maps

def preTo (p : List UInt8) (P : List (List UInt8)) : List (List UInt8) := (p ++ P.headD []) :: P.tail
theorem splitOn_form {m : UInt8} (l : List UInt8) : splitOn m l = (splitOn m l).headD [] :: (splitOn m l).tail := by
  cases h : splitOn m l with
  | nil => exact absurd h (splitOn_ne m l)
  | cons a r => rfl
theorem preTo_nil {m : UInt8} (l : List UInt8) : preTo [] (splitOn m l) = splitOn m l := (splitOn_form l).symm
theorem splitOn_cons_ne {m c : UInt8} {r : List UInt8} (h : c ≠ m) : splitOn m (c :: r) = preTo [c] (splitOn m r) := by
  rw [splitOn, if_neg h]
  cases h2 : splitOn m r with
  | nil => exact absurd h2 (splitOn_ne m r)
  | cons a t => rfl
theorem splitOn_cons_eq {m : UInt8} {r : List UInt8} : splitOn m (m :: r) = [] :: splitOn m r := by rw [splitOn, if_pos rfl]
theorem ext_bytes (s : ByteArray) {f k : Nat} : (s.extract f k).data.toList = (s.data.toList.take k).drop f := by
  rw [ByteArray.data_extract, Array.toList_extract, List.extract_eq_take_drop, List.drop_take]
theorem ext_push (s : ByteArray) {f k : Nat} (hf : f ≤ k) (h : k < s.size) : (s.extract f (k + 1)).data.toList = (s.extract f k).data.toList ++ [s[k]] := by
  have hl : k < s.data.toList.length := by rw [Array.length_toList]; exact h
  rw [ext_bytes, ext_bytes, List.take_succ_eq_append_getElem hl, List.drop_append_of_le_length (by rw [List.length_take]; omega)]
  rfl
theorem drop_consB (s : ByteArray) (k : Nat) (h : k < s.size) : s.data.toList.drop k = s[k] :: s.data.toList.drop (k + 1) := by
  have hl : k < s.data.toList.length := by rw [Array.length_toList]; exact h
  rw [List.drop_eq_getElem_cons hl]; rfl
def CutPost (w : World) (m : UInt8) (s : ByteArray) (e : Ending) (w' : World) : Prop :=
  Below w.heap.size w w' ∧ ∃ v, e = .returned v ∧ OwnG 1 9 tx w' w.heap.size v ((splitOn m s.data.toList).map bs)
set_option maxRecDepth 100000 in
set_option maxHeartbeats 4000000 in
theorem cut_any (s : ByteArray) (m : UInt8) (w : World) (hs : s.size ≤ 1000) :
    Calls Tryz.prog 28 #[.string s, .int .u8 m.toNat] w (CutPost w m s) := by
  go_enter Tryz.func28, Tryz.ntmps28
  go_wp2_with fail
  go_loopw [5, 6, 7] (fun v5 v6 i wr => ∃ (k f : Nat) (D : List (List UInt8)), k ≤ s.size ∧ f ≤ k ∧ i = .int .i64 k ∧ v6 = .int .i64 f ∧ OwnG 1 9 tx wr w.heap.size v5 (D.map bs) ∧ D.length ≤ k ∧ Hid (splitOn m s.data.toList = D ++ preTo (s.extract f k).data.toList (splitOn m (s.data.toList.drop k))) ∧ Below w.heap.size w wr) (fun _ _ i _ => s.size - (intOf i).toNat)
  case atStart => exact ⟨0, 0, [], Nat.zero_le _, Nat.le_refl _, rfl, rfl, OwnG.nil _ _, Nat.le_refl _, Lib.hid (by rw [ext_bytes]; exact (preTo_nil _).symm), Below.refl _ _⟩
  case round =>
    obtain ⟨k, f, D, hk, hf, rfl, rfl, hT, hDl, HR, hB⟩ := hrel
    obtain ⟨A, c, e5, -, -, -⟩ := hT.rows tx_l
    subst e5
    have hbw := hB.size
    have hfk : (f : Int) ≤ (k : Int) := by omega
    have hkI : (k : Int) ≤ (s.size : Int) := by omega
    have hfI : (f : Int) ≤ (s.size : Int) := by omega
    have hml : (D.map bs).length = D.length := List.length_map _
    obtain ⟨n, hn⟩ : ∃ n, n = (D.map bs).length := ⟨_, rfl⟩
    have HDN : Hid ((D.map bs).length ≤ 1000) := Lib.hid (by omega)
    rw [← hn] at hT
    rw [← hn]
    clear hn hml
    by_cases hlt : k < s.size
    · have hkl : (k : Int) < (s.size : Int) := by omega
      have HD := Lib.hid (drop_consB s k hlt)
      by_cases hm : s[k] = m
      · have hb : ((s[k].toNat : Int) == (m.toNat : Int)) = true := by rw [hm]; simp
        have HR2 := Lib.hid (show splitOn m s.data.toList = (D ++ [(s.extract f k).data.toList]) ++ preTo (s.extract (k + 1) (k + 1)).data.toList (splitOn m (s.data.toList.drop (k + 1))) by
          have e0 : (s.extract (k + 1) (k + 1)).data.toList = [] := by rw [ext_bytes]; exact List.drop_of_length_le (by rw [List.length_take]; omega)
          rw [HR.out, HD.out, hm, splitOn_cons_eq, e0, preTo_nil]
          simp [preTo])
        have HE : Hid (D.map bs ++ [s.extract f k] = (D ++ [(s.extract f k).data.toList]).map bs) := Lib.hid (by rw [List.map_append, List.map_cons, List.map_nil, data_bs])
        clear hm
        go_wp2_with (at_builtin; refine wpList_appG1 tTx tx_l tx_one wr (s.extract f k) _ rfl rfl _ _ rfl w.heap.size _ (D.map bs) rfl hT rfl (by have := HDN.out; omega) hbw ?_; intro v5 w5 hO5 hg5 hB5 _)
        go_roundw
        case rel => exact ⟨k + 1, k + 1, D ++ [(s.extract f k).data.toList], by omega, Nat.le_refl _, by go_num, by go_num, by rw [← HE.out]; exact hO5, by rw [List.length_append]; simp; omega, HR2, hB.trans hB5⟩
        case measure => simp [intOf]; omega
      · have hb : ((s[k].toNat : Int) == (m.toNat : Int)) = false := by
          rw [beq_eq_false_iff_ne]
          intro e
          exact hm (UInt8.toNat_inj.1 (by omega))
        have HR2 := Lib.hid (show splitOn m s.data.toList = D ++ preTo (s.extract f (k + 1)).data.toList (splitOn m (s.data.toList.drop (k + 1))) by
          rw [HR.out, HD.out, splitOn_cons_ne hm, ext_push s hf hlt]
          simp [preTo])
        clear hm
        go_wp2
        go_roundw
        case rel => exact ⟨k + 1, f, D, by omega, by omega, by go_num, rfl, hT, by omega, HR2, hB⟩
        case measure => simp [intOf]; omega
    · obtain rfl : k = s.size := by omega
      have HE := Lib.hid (show D.map bs ++ [s.extract f s.size] = (splitOn m s.data.toList).map bs by
        rw [HR.out, List.drop_of_length_le (by rw [Array.length_toList]; exact Nat.le_refl _)]
        show D.map bs ++ [s.extract f s.size] = (D ++ [(s.extract f s.size).data.toList ++ []]).map bs
        rw [List.append_nil, List.map_append, List.map_cons, List.map_nil, data_bs])
      go_wp2_with (at_builtin; refine wpList_appG1 tTx tx_l tx_one wr (s.extract f s.size) _ rfl rfl _ _ rfl w.heap.size _ (D.map bs) rfl hT rfl (by have := HDN.out; omega) hbw ?_; intro v5 w5 hO5 hg5 hB5 _)
      go_ret
      exact ⟨hB.trans hB5, v5, rfl, by rw [← HE.out]; exact hO5⟩
end Go.Proofs.YtdgegebplebeoaaGreatDoor

namespace Go.Proofs.YtdgegebplebeoaaGreatDoor
open Go.RowKit Go.Maps

set_option maxRecDepth 100000 in
/-- A number without its sign, from a remainder. -/
theorem size_digit (n : Int) (d : Nat) (h : -9 ≤ n ∧ n ≤ 9) (hd : n.natAbs = d) (w : World) :
    Calls Tryz.prog 61 #[.int .i64 n] w fun e w' => e = .returned (.int .i64 (d : Nat)) ∧ w' = w := by
  obtain ⟨h1, h2⟩ := h
  have HM := Lib.hid (show max n (-n) = (d : Nat) by omega)
  clear hd
  go_enter Tryz.func61, Tryz.ntmps61
  go_wp2
  go_ret
  exact ⟨ret_int HM.out, rfl⟩
def decPre (m : Nat) : List UInt8 := if m = 0 then [] else Lib.decDigits m
theorem decPre_zero : decPre 0 = [] := rfl
theorem decPre_next {m : Nat} (h : m ≠ 0) : decPre m = decPre (m / 10) ++ [UInt8.ofNat (48 + m % 10)] := by
  unfold decPre
  rw [if_neg h]
  by_cases h10 : m < 10
  · rw [Lib.decDigits_one h10, if_pos (by omega), show m % 10 = m by omega]; rfl
  · rw [dg_snoc h10, if_neg (by omega)]
theorem tmod_abs (x : Int) : (x.tmod 10).natAbs = x.natAbs % 10 := by rw [Int.natAbs_tmod]; rfl
theorem tdiv_abs (x : Int) : (x.tdiv 10).natAbs = x.natAbs / 10 := by rw [Int.natAbs_tdiv]; rfl
theorem itoa_pos {n : Int} (h : 0 < n) : Lib.itoa n = decPre n.natAbs := by
  unfold Lib.itoa decPre
  rw [if_neg (by omega), if_neg (by omega), show n.toNat = n.natAbs by omega]
theorem itoa_neg {n : Int} (h : n < 0) : Lib.itoa n = 45 :: decPre n.natAbs := by
  unfold Lib.itoa decPre
  rw [if_pos h, if_neg (by omega)]
set_option maxRecDepth 100000 in
set_option maxHeartbeats 4000000 in
theorem decimal_any (n : Int) (hn : OkI n) (w : World) :
    Calls Tryz.prog 30 #[.int .i64 n] w (StrPost w (Lib.itoa n)) := by
  obtain ⟨b1, b2⟩ := hn.le
  by_cases h0 : n = 0
  · subst h0
    have HZ := Lib.hid (show bs (Lib.itoa 0) = ⟨#[48]⟩ by decide +kernel)
    go_enter Tryz.func30, Tryz.ntmps30
    go_wp2
    go_ret
    exact ⟨by rw [HZ.out]; rfl, Below.refl _ _⟩
  have hn0 : (n == 0) = false := by rw [beq_eq_false_iff_ne]; exact h0
  obtain ⟨na, hna⟩ : ∃ na, na = n.natAbs := ⟨_, rfl⟩
  have hna19 : na < 10 ^ 19 := by have : (10 : Nat) ^ 19 = 10000000000000000000 := by decide
                                  omega
  have HNA := Lib.hid hna; have HN19 := Lib.hid hna19
  by_cases hneg : n < 0
  · have HF := Lib.hid (show Lib.itoa n = [(45 : UInt8)] ++ decPre na by rw [hna, itoa_neg hneg]; rfl)
    clear hna hna19 h0
    go_enter Tryz.func30, Tryz.ntmps30
    go_wp2_with fail
    go_loopw [0, 3] (fun v0 v3 wr => ∃ (x : Int) (j : Nat) (l : List UInt8), v0 = .int .i64 x ∧ v3 = .string (bs l) ∧ j ≤ 19 ∧ x.natAbs < 10 ^ j ∧ l.length ≤ 19 - j ∧ Hid (decPre na = decPre x.natAbs ++ l) ∧ OkI x ∧ Below w.heap.size w wr) (fun v0 _ _ => (intOf v0).natAbs)
    case atStart => exact ⟨n, 19, [], rfl, rfl, Nat.le_refl _, by rw [← HNA.out]; exact HN19.out, by decide, Lib.hid (by rw [← HNA.out]; simp), hn, Below.refl _ _⟩
    case round =>
      obtain ⟨x, j, l, rfl, rfl, hj, hxj, hl, HD, hx, hB⟩ := hrel
      obtain ⟨x1, x2⟩ := hx.le
      by_cases hx0 : x = 0
      · subst hx0
        have hz := HD.out
        rw [show (0 : Int).natAbs = 0 from rfl, decPre_zero, List.nil_append] at hz
        have HE := Lib.hid (show bs ([(45 : UInt8)] ++ l) = bs (Lib.itoa n) by rw [HF.out, hz])
        have ha : ∀ W, (Op.stringOp .add (⟨#[45]⟩ : ByteArray) (bs l)).run Tryz.prog W = .ok (.string (bs ([(45 : UInt8)] ++ l))) W := fun W => bs_add [(45 : UInt8)] l (by simp; omega) W
        clear hz hxj hl
        go_wp2_with fail
        go_ret
        exact ⟨by rw [← HE.out]; rfl, hB⟩
      · have hxb : (x != 0) = true := by simp; exact hx0
        obtain ⟨j, rfl⟩ : ∃ i, j = i + 1 := ⟨j - 1, by
          rcases Nat.eq_zero_or_pos j with h | h
          · rw [h] at hxj; omega
          · omega⟩
        obtain ⟨d, hd⟩ : ∃ d, (x.tmod 10).natAbs = d := ⟨_, rfl⟩
        have hd2 := tmod_abs x
        have hdl : d ≤ 9 := by omega
        have HS := Lib.hid (fun W => size_digit (x.tmod 10) d (by omega) hd W)
        obtain ⟨y, hy⟩ : ∃ y, x.tdiv 10 = y := ⟨_, rfl⟩
        have hya := tdiv_abs x
        rw [hy] at hya
        have hwy : wrap64 y = y := IntWalk.wrap64_in y (by omega)
        have hwu : IntKind.u8.wrap (48 + (d : Int)) = 48 + (d : Int) := u8i_in _ (by omega)
        obtain ⟨cc, ec⟩ : ∃ cc : UInt8, cc = UInt8.ofNat (48 + d) := ⟨_, rfl⟩
        have hcn : (cc.toNat : Int) = 48 + (d : Int) := by rw [ec, ofNat_d (by omega)]; omega
        have hcv : ∀ W : World, (convert 101 9 (.slice (some ⟨W.heap.size, 0, none⟩) 1 1)).run Tryz.prog (W.alloc (.cells #[.int .u8 (48 + (d : Int))] 5)) = .ok (.string ⟨#[cc]⟩) (W.alloc (.cells #[.int .u8 (48 + (d : Int))] 5)) := fun W =>
          run_convert_bytes_back _ 101 9 5 ⟨W.heap.size, 0, none⟩ 1 [cc] Tryz.underlying101 Tryz.underlying5 Tryz.underlying9 (fun j hj => by
            have hj0 : j = 0 := by simpa using hj
            subst hj0
            rw [add0, cell_of_row _ _ 0 _ _ (0, 0) (heap_alloc_new W _), List.getElem_cons_zero, hcn]; rfl)
        have ha : ∀ W, (Op.stringOp .add (⟨#[cc]⟩ : ByteArray) (bs l)).run Tryz.prog W = .ok (.string (bs (cc :: l))) W := fun W => bs_add [cc] l (by simp; omega) W
        have HN := Lib.hid (show decPre na = decPre y.natAbs ++ (cc :: l) by
          rw [HD.out, hya, decPre_next (by omega), ← hd2, hd, ← ec]; simp)
        have HJ : Hid (y.natAbs < 10 ^ j) := Lib.hid (by rw [Nat.pow_succ] at hxj; omega)
        have HY : Hid (OkI y) := Lib.hid (okI_of (by omega))
        have HYM : Hid (y.natAbs < x.natAbs) := Lib.hid (by omega)
        have HCL : Hid ((cc :: l).length ≤ 19 - j) := Lib.hid (by rw [List.length_cons]; omega)
        clear ec hcn hya hd2 hd hxj hl
        go_wp2_with fail
        refine (HS.out _).mono ?_
        rintro e w2 ⟨rfl, rfl⟩
        go_wp2_with fail
        go_roundw
        case rel => exact ⟨y, j, cc :: l, by rw [hwy], rfl, by omega, HJ.out, HCL.out, HN, HY.out, hB.alloc hB.size _⟩
        case measure => simp only [intOf]; rw [hwy]; exact HYM.out
  · have HF := Lib.hid (show Lib.itoa n = ([] : List UInt8) ++ decPre na by rw [hna, itoa_pos (by omega)]; rfl)
    clear hna hna19 h0
    go_enter Tryz.func30, Tryz.ntmps30
    go_wp2_with fail
    go_loopw [0, 3] (fun v0 v3 wr => ∃ (x : Int) (j : Nat) (l : List UInt8), v0 = .int .i64 x ∧ v3 = .string (bs l) ∧ j ≤ 19 ∧ x.natAbs < 10 ^ j ∧ l.length ≤ 19 - j ∧ Hid (decPre na = decPre x.natAbs ++ l) ∧ OkI x ∧ Below w.heap.size w wr) (fun v0 _ _ => (intOf v0).natAbs)
    case atStart => exact ⟨n, 19, [], rfl, rfl, Nat.le_refl _, by rw [← HNA.out]; exact HN19.out, by decide, Lib.hid (by rw [← HNA.out]; simp), hn, Below.refl _ _⟩
    case round =>
      obtain ⟨x, j, l, rfl, rfl, hj, hxj, hl, HD, hx, hB⟩ := hrel
      obtain ⟨x1, x2⟩ := hx.le
      by_cases hx0 : x = 0
      · subst hx0
        have hz := HD.out
        rw [show (0 : Int).natAbs = 0 from rfl, decPre_zero, List.nil_append] at hz
        have HE := Lib.hid (show bs (([] : List UInt8) ++ l) = bs (Lib.itoa n) by rw [HF.out, hz])
        have ha : ∀ W, (Op.stringOp .add (⟨#[]⟩ : ByteArray) (bs l)).run Tryz.prog W = .ok (.string (bs (([] : List UInt8) ++ l))) W := fun W => bs_add ([] : List UInt8) l (by simp; omega) W
        clear hz hxj hl
        go_wp2_with fail
        go_ret
        exact ⟨by rw [← HE.out]; rfl, hB⟩
      · have hxb : (x != 0) = true := by simp; exact hx0
        obtain ⟨j, rfl⟩ : ∃ i, j = i + 1 := ⟨j - 1, by
          rcases Nat.eq_zero_or_pos j with h | h
          · rw [h] at hxj; omega
          · omega⟩
        obtain ⟨d, hd⟩ : ∃ d, (x.tmod 10).natAbs = d := ⟨_, rfl⟩
        have hd2 := tmod_abs x
        have hdl : d ≤ 9 := by omega
        have HS := Lib.hid (fun W => size_digit (x.tmod 10) d (by omega) hd W)
        obtain ⟨y, hy⟩ : ∃ y, x.tdiv 10 = y := ⟨_, rfl⟩
        have hya := tdiv_abs x
        rw [hy] at hya
        have hwy : wrap64 y = y := IntWalk.wrap64_in y (by omega)
        have hwu : IntKind.u8.wrap (48 + (d : Int)) = 48 + (d : Int) := u8i_in _ (by omega)
        obtain ⟨cc, ec⟩ : ∃ cc : UInt8, cc = UInt8.ofNat (48 + d) := ⟨_, rfl⟩
        have hcn : (cc.toNat : Int) = 48 + (d : Int) := by rw [ec, ofNat_d (by omega)]; omega
        have hcv : ∀ W : World, (convert 101 9 (.slice (some ⟨W.heap.size, 0, none⟩) 1 1)).run Tryz.prog (W.alloc (.cells #[.int .u8 (48 + (d : Int))] 5)) = .ok (.string ⟨#[cc]⟩) (W.alloc (.cells #[.int .u8 (48 + (d : Int))] 5)) := fun W =>
          run_convert_bytes_back _ 101 9 5 ⟨W.heap.size, 0, none⟩ 1 [cc] Tryz.underlying101 Tryz.underlying5 Tryz.underlying9 (fun j hj => by
            have hj0 : j = 0 := by simpa using hj
            subst hj0
            rw [add0, cell_of_row _ _ 0 _ _ (0, 0) (heap_alloc_new W _), List.getElem_cons_zero, hcn]; rfl)
        have ha : ∀ W, (Op.stringOp .add (⟨#[cc]⟩ : ByteArray) (bs l)).run Tryz.prog W = .ok (.string (bs (cc :: l))) W := fun W => bs_add [cc] l (by simp; omega) W
        have HN := Lib.hid (show decPre na = decPre y.natAbs ++ (cc :: l) by
          rw [HD.out, hya, decPre_next (by omega), ← hd2, hd, ← ec]; simp)
        have HJ : Hid (y.natAbs < 10 ^ j) := Lib.hid (by rw [Nat.pow_succ] at hxj; omega)
        have HY : Hid (OkI y) := Lib.hid (okI_of (by omega))
        have HYM : Hid (y.natAbs < x.natAbs) := Lib.hid (by omega)
        have HCL : Hid ((cc :: l).length ≤ 19 - j) := Lib.hid (by rw [List.length_cons]; omega)
        clear ec hcn hya hd2 hd hxj hl
        go_wp2_with fail
        refine (HS.out _).mono ?_
        rintro e w2 ⟨rfl, rfl⟩
        go_wp2_with fail
        go_roundw
        case rel => exact ⟨y, j, cc :: l, by rw [hwy], rfl, by omega, HJ.out, HCL.out, HN, HY.out, hB.alloc hB.size _⟩
        case measure => simp only [intOf]; rw [hwy]; exact HYM.out
end Go.Proofs.YtdgegebplebeoaaGreatDoor

namespace Go.Proofs.YtdgegebplebeoaaGreatDoor
open Go.RowKit Go.Maps

def nmFrom (s : ByteArray) (k : Nat) : Bool := (decide (k ≠ 0) || letB ((s.data.toList.headD 0).toNat : Int)) && nmsB (s.data.toList.drop k)
theorem nmFrom_start (s : ByteArray) (h1 : 1 ≤ s.size) (h2 : s.size ≤ 12) : isNameB s = nmFrom s 0 := by
  unfold isNameB nmFrom
  rw [decide_eq_true h1, decide_eq_true h2]; simp
theorem nmFrom_let (s : ByteArray) (k : Nat) (h : k < s.size) (hl : letB (s[k].toNat : Int) = true) : nmFrom s k = nmFrom s (k + 1) := by
  unfold nmFrom
  rw [nms_cons s k h, nm_of_let hl]
  by_cases hk : k = 0
  · subst hk; rw [head_at s h, hl]; simp
  · simp [hk]
theorem nmFrom_first (s : ByteArray) (k : Nat) (h : k < s.size) (hk : k = 0) (hl : letB (s[k].toNat : Int) = false) : nmFrom s k = false := by
  subst hk; unfold nmFrom; rw [head_at s h, hl]; simp
theorem nmFrom_other (s : ByteArray) (k : Nat) (h : k < s.size) (hk : k ≠ 0) (hl : nmB (s[k].toNat : Int) = true) : nmFrom s k = nmFrom s (k + 1) := by
  unfold nmFrom; rw [nms_cons s k h, hl]; simp [hk]
theorem nmFrom_no (s : ByteArray) (k : Nat) (h : k < s.size) (hl : nmB (s[k].toNat : Int) = false) : nmFrom s k = false := by
  unfold nmFrom; rw [nms_cons s k h, hl]; simp
theorem nmFrom_end (s : ByteArray) (k : Nat) (h : ¬ k < s.size) (hk : k ≠ 0) : nmFrom s k = true := by
  unfold nmFrom; rw [nms_end s k h]; simp [hk]

set_option maxHeartbeats 1000000 in
theorem refIsName_any (s : ByteArray) (w : World) (hs : s.size ≤ maxLen) :
    Calls Tryz.prog 32 #[.string s] w fun e w' => e = .returned (.bool (isNameB s)) ∧ w = w' := by
  unfold maxLen at hs
  by_cases h1 : s.size < 1
  · have hn := isName_short s (.inl h1)
    have HN := Lib.hid hn; clear hn
    go_enter Tryz.func32, Tryz.ntmps32
    go_wp2
    go_ret
    exact ⟨ret_bool HN.out.symm, rfl⟩
  by_cases h2 : 12 < s.size
  · have hn := isName_short s (.inr h2)
    have HN := Lib.hid hn; clear hn
    go_enter Tryz.func32, Tryz.ntmps32
    go_wp2
    go_ret
    exact ⟨ret_bool HN.out.symm, rfl⟩
  have HN := Lib.hid (nmFrom_start s (by omega) (by omega))
  have h0 : 0 < s.size := by omega
  go_enter Tryz.func32, Tryz.ntmps32
  go_wp2
  go_loop [3] (fun i => ∃ k : Nat, k ≤ s.size ∧ i = .int .i64 k ∧ Hid (nmFrom s 0 = nmFrom s k)) (fun i => s.size - (intOf i).toNat)
  case atStart => exact ⟨0, Nat.zero_le _, rfl, Lib.hid rfl⟩
  case round =>
    obtain ⟨k, hk, rfl, HR⟩ := hrel
    by_cases hlt : k < s.size
    · by_cases l1 : (97 ≤ (s[k].toNat : Int) ∧ (s[k].toNat : Int) ≤ 122) ∨ (65 ≤ (s[k].toNat : Int) ∧ (s[k].toNat : Int) ≤ 90)
      · have HC := Lib.hid (nmFrom_let s k hlt (by unfold letB; exact decide_eq_true l1))
        go_wp2
        all_goals first | (exfalso; omega) | (exfalso; (simp at *) <;> omega) | skip
        all_goals go_round
        all_goals first | exact ⟨k + 1, by omega, by go_num, Lib.hid (HR.out.trans HC.out)⟩ | (simp [intOf]; omega)
      have l1' : letB (s[k].toNat : Int) = false := by unfold letB; exact decide_eq_false l1
      by_cases hk0 : k = 0
      · have HC := Lib.hid (nmFrom_first s k hlt hk0 l1')
        have hz : ((k : Int) == 0) = true := by simpa using hk0
        clear hk0
        go_wp2
        all_goals first | (exfalso; omega) | (exfalso; (simp at *) <;> omega) | skip
        all_goals go_ret
        all_goals exact ⟨ret_bool (by rw [HN.out, HR.out, HC.out]), rfl⟩
      have hz : ((k : Int) == 0) = false := by simpa using hk0
      by_cases l3 : (s[k].toNat : Int) = 45
      · have HC := Lib.hid (nmFrom_other s k hlt hk0 (nm_of_dash l3))
        have e1 : ((s[k].toNat : Int) != 45) = false := by simpa using l3
        clear l1'
        go_wp2
        all_goals first | (exfalso; omega) | (exfalso; (simp at *) <;> omega) | skip
        all_goals go_round
        all_goals first | exact ⟨k + 1, by omega, by go_num, Lib.hid (HR.out.trans HC.out)⟩ | (simp [intOf]; omega)
      have e1 : ((s[k].toNat : Int) != 45) = true := by simpa using l3
      by_cases l2 : 48 ≤ (s[k].toNat : Int) ∧ (s[k].toNat : Int) ≤ 57
      · have HC := Lib.hid (nmFrom_other s k hlt hk0 (nm_of_dig (by unfold digB; exact decide_eq_true l2)))
        obtain ⟨l2a, l2b⟩ := l2
        clear l1'
        go_wp2
        all_goals first | (exfalso; omega) | (exfalso; (simp at *) <;> omega) | skip
        all_goals go_round
        all_goals first | exact ⟨k + 1, by omega, by go_num, Lib.hid (HR.out.trans HC.out)⟩ | (simp [intOf]; omega)
      · have HC := Lib.hid (nmFrom_no s k hlt (nm_of_none l1' (by unfold digB; exact decide_eq_false l2) l3))
        clear l1'
        go_wp2
        all_goals first | (exfalso; omega) | (exfalso; (simp at *) <;> omega) | skip
        all_goals go_ret
        all_goals exact ⟨ret_bool (by rw [HN.out, HR.out, HC.out]), rfl⟩
    · have HC := Lib.hid (nmFrom_end s k hlt (by omega))
      go_wp2
      go_ret
      exact ⟨ret_bool (by rw [HN.out, HR.out, HC.out]), rfl⟩

theorem toList_injB {a b : ByteArray} (h : a.toList = b.toList) : a = b := by
  rw [ByteArray.toList_eq, ByteArray.toList_eq] at h
  cases a; cases b; congr; exact Array.toList_inj.1 h
theorem eq_tx (x s : ByteArray) : (x.toList == s.toList) = decide (x = s) := by
  rw [Bool.eq_iff_iff]; simp only [beq_iff_eq, decide_eq_true_eq]
  exact ⟨toList_injB, fun h => by rw [h]⟩
set_option maxRecDepth 100000 in
set_option maxHeartbeats 1000000 in
theorem hasText_any (a : Option Addr) (L : List ByteArray) (n c : Nat) (s : ByteArray) (w : World) (hn : n = L.length) (hX : RowsG 1 tx w a L) (hl : n ≤ 1000000) :
    Calls Tryz.prog 34 #[.slice a n c, .string s] w fun e w' => e = .returned (.bool (L.any fun x => decide (x = s))) ∧ w = w' := by
  have HN := Lib.hid hn
  clear hn
  go_enter Tryz.func34, Tryz.ntmps34
  go_wp2
  go_loop [5] (fun i => ∃ k : Nat, k ≤ n ∧ i = .int .i64 k ∧ Hid ((L.any fun x => decide (x = s)) = ((L.drop k).any fun x => decide (x = s)))) (fun i => n - (intOf i).toNat)
  case atStart => exact ⟨0, Nat.zero_le _, rfl, Lib.hid (by rw [List.drop_zero])⟩
  case round =>
    obtain ⟨k, hk, rfl, HR⟩ := hrel
    by_cases hlt : k < n
    · have hlt2 : k < L.length := by have := HN.out; omega
      have hkl : (k : Int) < (n : Int) := by omega
      obtain ⟨ad, rfl, had, hc⟩ := hX.txt hlt2
      have HS := Lib.hid (any_step (p := fun x => decide (x = s)) hlt2)
      have hq := eq_tx L[k] s
      obtain ⟨x, ex⟩ : ∃ x, x = L[k] := ⟨_, rfl⟩
      rw [← ex] at hc hq HS
      clear ex
      by_cases e : x = s
      · have hq' : (x.toList == s.toList) = true := by rw [hq]; exact decide_eq_true e
        have HE := Lib.hid e
        clear hq e
        go_wp2
        go_ret
        exact ⟨ret_bool (by rw [HR.out, HS.out]; simp [HE.out]), rfl⟩
      · have hq' : (x.toList == s.toList) = false := by rw [hq]; exact decide_eq_false e
        have HE := Lib.hid e
        clear hq e
        go_wp2
        go_round
        case rel => exact ⟨k + 1, by omega, by go_num, Lib.hid (by rw [HR.out, HS.out]; simp [HE.out])⟩
        case measure => simp [intOf]; omega
    · have HE := Lib.hid (any_stop (p := fun x => decide (x = s)) (L := L) (k := k) (by have := HN.out; omega))
      obtain rfl : k = n := by omega
      go_wp2
      go_ret
      exact ⟨ret_bool (by rw [HR.out, HE.out]), rfl⟩
def CopyTPost (L : List ByteArray) (n : Nat) (w : World) (e : Ending) (w' : World) : Prop := ∃ a c, e = .returned (.slice a n c) ∧ RowsG 1 tx w' a L ∧ (∀ ad, a = some ad → w.heap.size ≤ ad.block) ∧ (a = none → c = 0) ∧ Below w.heap.size w w'
set_option maxHeartbeats 1000000 in
theorem copyTexts_any (a : Option Addr) (L : List ByteArray) (n c : Nat) (w : World) (hn : n = L.length) (hX : RowsG 1 tx w a L) (hl : L.length ≤ 1000000) (hd : a = none → c = 0) :
    Calls Tryz.prog 24 #[.slice a n c] w (CopyTPost L n w) := by
  have hown : OwnG 1 9 tx (w.alloc (.cells #[] 9)) w.heap.size (.slice (some ⟨w.heap.size, 0, none⟩) 0 0) [] :=
    World.ownsRow_made (e := 9) (size := 1) (base := w.heap.size) w #[] 0 (Nat.le_refl _) (Nat.zero_le _) rfl
  have hB := (Below.refl w.heap.size w).alloc (Nat.le_refl _) (.cells #[] 9)
  have HX := Lib.hid (hX.alloc (.cells #[] 9))
  have HN := Lib.hid hn; have HL := Lib.hid hl
  clear hX hn hl
  go_enter Tryz.func24, Tryz.ntmps24
  go_wp2_with (at_builtin; refine wpList_appG tTx tx_l tx_one _ rfl _ _ rfl w.heap.size _ [] rfl hown a L n c HN.out rfl HX.out hd (by simp) HL.out (by simp) ?_; intro v2 w2 hO2 hg2 hb2 ho2; obtain ⟨a2, c2, e2, hr2, hn2, hl2⟩ := hO2.rows tx_l; rw [List.nil_append] at e2 hr2; rw [← HN.out] at e2; subst e2)
  go_ret
  exact ⟨a2, c2, rfl, hr2, hl2, hn2, hB.trans hb2⟩
theorem RowsG.set {α : Type} {n : Nat} {g : α → List Value} {w : World} {a : Option Addr} {L : List α} (h : RowsG n g w a L) {p : Addr} (hp : ∀ ad, a = some ad → ad.block ≠ p.block) (u : Value) : RowsG n g (w.setCell p u) a L := fun k hk => by
  obtain ⟨ad, e, hlt, hs⟩ := h k hk
  refine ⟨ad, e, by rw [World.size_setCell]; exact hlt, fun j hj => ?_⟩
  rw [World.cell?_setCell_other _ _ _ _ (fun e2 => hp ad e (by have := congrArg Addr.block e2; rw [fld_block, add_block] at this; exact this.symm))]
  exact hs j hj
def CopyRPost (x : Run) (n : Nat) (w : World) (e : Ending) (w' : World) : Prop := ∃ a c, e = .returned (.agg #[.string x.job, .int .i64 x.day, .int .i64 x.wanted, .int .i64 x.given, .slice a n c, .int .i64 x.ready, .int .i64 x.hour]) ∧ RowsG 1 tx w' a x.cols ∧ (a = none → c = 0) ∧ Below w.heap.size w w'
theorem info_run : (Tryz.prog.info? 24).map (·.size) = some 7 := by kernel_rfl
end Go.Proofs.YtdgegebplebeoaaGreatDoor

namespace Go.Proofs.YtdgegebplebeoaaGreatDoor
open Go.RowKit Go.Maps

theorem res_run {fn : Func} {p : Tmp} {tmps : Array Value} {Y : World} {d : Nat} {T : TypeId} {x0 x1 x2 x3 x4 x5 x6 : Value} (hf : fn.results = #[.cell p 24]) (hp : tmps.getD p undef = .pointer (some ⟨d, 0, none⟩)) (h : BoxAt Y d #[x0, x1, x2, x3, x4, x5, x6] T) :
    (results fn tmps).run Tryz.prog Y = .ok (.agg #[x0, x1, x2, x3, x4, x5, x6]) Y := by
  have hl : (loadVar 24 ⟨d, 0, none⟩).run Tryz.prog Y = .ok (.agg #[x0, x1, x2, x3, x4, x5, x6]) Y := run_loadVar_row (P := Tryz.prog) Y d T 24 _ (0, 0) _ h Tryz.underlying24 rfl info_run
  have hp' : tmps[p]?.getD undef = .pointer (some ⟨d, 0, none⟩) := by simpa using hp
  simp only [results, hf]
  simp [hp', asAddr, hl]
theorem box7 {Z : World} {d : Nat} {T : TypeId} {x0 x1 x2 x3 x4 x5 x6 : Value} (h : BoxAt Z d #[x0, x1, x2, x3, x4, x5, x6] T) (y0 y1 y2 y3 y4 y5 y6 : Value) :
    BoxAt (((((((Z.setCell ⟨d, 0, none⟩ y0).setCell ⟨d, 1, none⟩ y1).setCell ⟨d, 2, none⟩ y2).setCell ⟨d, 3, none⟩ y3).setCell ⟨d, 4, none⟩ y4).setCell ⟨d, 5, none⟩ y5).setCell ⟨d, 6, none⟩ y6) d #[y0, y1, y2, y3, y4, y5, y6] T := by
  have h0 : BoxAt (Z.setCell ⟨d, 0, none⟩ y0) d #[y0, x1, x2, x3, x4, x5, x6] T := h.set 0 y0
  have h1 : BoxAt ((Z.setCell ⟨d, 0, none⟩ y0).setCell ⟨d, 1, none⟩ y1) d #[y0, y1, x2, x3, x4, x5, x6] T := h0.set 1 y1
  have h2 : BoxAt (((Z.setCell ⟨d, 0, none⟩ y0).setCell ⟨d, 1, none⟩ y1).setCell ⟨d, 2, none⟩ y2) d #[y0, y1, y2, x3, x4, x5, x6] T := h1.set 2 y2
  have h3 : BoxAt ((((Z.setCell ⟨d, 0, none⟩ y0).setCell ⟨d, 1, none⟩ y1).setCell ⟨d, 2, none⟩ y2).setCell ⟨d, 3, none⟩ y3) d #[y0, y1, y2, y3, x4, x5, x6] T := h2.set 3 y3
  have h4 : BoxAt (((((Z.setCell ⟨d, 0, none⟩ y0).setCell ⟨d, 1, none⟩ y1).setCell ⟨d, 2, none⟩ y2).setCell ⟨d, 3, none⟩ y3).setCell ⟨d, 4, none⟩ y4) d #[y0, y1, y2, y3, y4, x5, x6] T := h3.set 4 y4
  have h5 : BoxAt ((((((Z.setCell ⟨d, 0, none⟩ y0).setCell ⟨d, 1, none⟩ y1).setCell ⟨d, 2, none⟩ y2).setCell ⟨d, 3, none⟩ y3).setCell ⟨d, 4, none⟩ y4).setCell ⟨d, 5, none⟩ y5) d #[y0, y1, y2, y3, y4, y5, x6] T := h4.set 5 y5
  have h6 : BoxAt (((((((Z.setCell ⟨d, 0, none⟩ y0).setCell ⟨d, 1, none⟩ y1).setCell ⟨d, 2, none⟩ y2).setCell ⟨d, 3, none⟩ y3).setCell ⟨d, 4, none⟩ y4).setCell ⟨d, 5, none⟩ y5).setCell ⟨d, 6, none⟩ y6) d #[y0, y1, y2, y3, y4, y5, y6] T := h5.set 6 y6
  exact h6
theorem below7 {B : Nat} {w Z : World} {d : Nat} (h : Below B w Z) (hd : B ≤ d) (y0 y1 y2 y3 y4 y5 y6 : Value) : Below B w (((((((Z.setCell ⟨d, 0, none⟩ y0).setCell ⟨d, 1, none⟩ y1).setCell ⟨d, 2, none⟩ y2).setCell ⟨d, 3, none⟩ y3).setCell ⟨d, 4, none⟩ y4).setCell ⟨d, 5, none⟩ y5).setCell ⟨d, 6, none⟩ y6) :=
  (((((((h.setCell (p := ⟨d, 0, none⟩) hd y0).setCell (p := ⟨d, 1, none⟩) hd y1).setCell (p := ⟨d, 2, none⟩) hd y2).setCell (p := ⟨d, 3, none⟩) hd y3).setCell (p := ⟨d, 4, none⟩) hd y4).setCell (p := ⟨d, 5, none⟩) hd y5).setCell (p := ⟨d, 6, none⟩) hd y6)
theorem rowsG7 {α : Type} {n : Nat} {g : α → List Value} {Z : World} {a : Option Addr} {L : List α} {d : Nat} (h : RowsG n g Z a L) (hd : ∀ ad, a = some ad → ad.block ≠ d) (y0 y1 y2 y3 y4 y5 y6 : Value) : RowsG n g (((((((Z.setCell ⟨d, 0, none⟩ y0).setCell ⟨d, 1, none⟩ y1).setCell ⟨d, 2, none⟩ y2).setCell ⟨d, 3, none⟩ y3).setCell ⟨d, 4, none⟩ y4).setCell ⟨d, 5, none⟩ y5).setCell ⟨d, 6, none⟩ y6) a L :=
  (((((((h.set (p := ⟨d, 0, none⟩) hd y0).set (p := ⟨d, 1, none⟩) hd y1).set (p := ⟨d, 2, none⟩) hd y2).set (p := ⟨d, 3, none⟩) hd y3).set (p := ⟨d, 4, none⟩) hd y4).set (p := ⟨d, 5, none⟩) hd y5).set (p := ⟨d, 6, none⟩) hd y6)
set_option maxRecDepth 100000 in
set_option maxHeartbeats 2000000 in
theorem copyRun_any (x : Run) (a : Option Addr) (n c : Nat) (w : World) (hn : n = x.cols.length) (hX : RowsG 1 tx w a x.cols) (hl : x.cols.length ≤ 1000000) (hd : a = none → c = 0) :
    Calls Tryz.prog 7 #[.agg #[.string x.job, .int .i64 x.day, .int .i64 x.wanted, .int .i64 x.given, .slice a n c, .int .i64 x.ready, .int .i64 x.hour]] w (CopyRPost x n w) := by
  have HC := Lib.hid (fun W (h : RowsG 1 tx W a x.cols) => copyTexts_any a x.cols n c W hn h hl hd)
  unfold CopyRPost
  obtain ⟨job, day, wanted, given, cols, ready, hour⟩ := x
  dsimp only at HC hX ⊢
  have hb0 := ((Below.refl w.heap.size w).alloc (Nat.le_refl _) (.cells #[.string job, .int .i64 day, .int .i64 wanted, .int .i64 given, .slice a n c, .int .i64 ready, .int .i64 hour] 24)).alloc (by simp) (.cells #[.string ⟨#[]⟩, .int .i64 0, .int .i64 0, .int .i64 0, .slice none 0 0, .int .i64 0, .int .i64 0] 24)
  have bx := (BoxAt.new w #[.string job, .int .i64 day, .int .i64 wanted, .int .i64 given, .slice a n c, .int .i64 ready, .int .i64 hour] 24).alloc (.cells #[.string ⟨#[]⟩, .int .i64 0, .int .i64 0, .int .i64 0, .slice none 0 0, .int .i64 0, .int .i64 0] 24)
  have bz := BoxAt.new (w.alloc (.cells #[.string job, .int .i64 day, .int .i64 wanted, .int .i64 given, .slice a n c, .int .i64 ready, .int .i64 hour] 24)) #[.string ⟨#[]⟩, .int .i64 0, .int .i64 0, .int .i64 0, .slice none 0 0, .int .i64 0, .int .i64 0] 24
  rw [World.size_alloc] at bz
  have HX := Lib.hid ((hX.alloc (.cells #[.string job, .int .i64 day, .int .i64 wanted, .int .i64 given, .slice a n c, .int .i64 ready, .int .i64 hour] 24)).alloc (.cells #[.string ⟨#[]⟩, .int .i64 0, .int .i64 0, .int .i64 0, .slice none 0 0, .int .i64 0, .int .i64 0] 24))
  clear hX hn hl hd
  go_enter Tryz.func7, Tryz.ntmps7
  go_wp2_with (go_at_call 24; refine (HC.out _ HX.out).mono ?_; rintro e w1 ⟨a1, c1, rfl, hr1, hlo1, hnil1, hb1⟩; have BX := bx.below hb1; have BZ := bz.below hb1; have HB := Lib.hid (hb0.trans (hb1.mono hb0.size)); have HR := Lib.hid hr1; have HBZ := Lib.hid BZ; have HBX := Lib.hid BX; have k0 := BX.cell 0; have k1 := BX.cell 1; have k2 := BX.cell 2; have k3 := BX.cell 3; have k4 := BX.cell 4; have k5 := BX.cell 5; have k6 := BX.cell 6; have z4 : w1.frozen? ⟨w.heap.size, 4, none⟩ = false := BX.free 4; have l1 := BX.lt; have m0 := BZ.cell 0; have m1 := BZ.cell 1; have m2 := BZ.cell 2; have m3 := BZ.cell 3; have m4 := BZ.cell 4; have m5 := BZ.cell 5; have m6 := BZ.cell 6; have y0 := BZ.free 0; have y1 := BZ.free 1; have y2 := BZ.free 2; have y3 := BZ.free 3; have y4 := BZ.free 4; have y5 := BZ.free 5; have y6 := BZ.free 6; have l2 := BZ.lt; simp only [List.getElem?_toArray, List.getElem?_cons_zero, List.getElem?_cons_succ] at k0 k1 k2 k3 k4 k5 k6 m0 m1 m2 m3 m4 m5 m6; clear hb1 hr1 bx bz hb0 BX BZ)
  obtain ⟨Y, hY⟩ : ∃ Y, Y = ((((((((w1.setCell ⟨w.heap.size, 4, none⟩ (.slice a1 n c1)).setCell ⟨w.heap.size + 1, 0, none⟩ (.string job)).setCell ⟨w.heap.size + 1, 1, none⟩ (.int .i64 day)).setCell ⟨w.heap.size + 1, 2, none⟩ (.int .i64 wanted)).setCell ⟨w.heap.size + 1, 3, none⟩ (.int .i64 given)).setCell ⟨w.heap.size + 1, 4, none⟩ (.slice a1 n c1)).setCell ⟨w.heap.size + 1, 5, none⟩ (.int .i64 ready)).setCell ⟨w.heap.size + 1, 6, none⟩ (.int .i64 hour)) := ⟨_, rfl⟩
  have bY : BoxAt Y (w.heap.size + 1) #[.string job, .int .i64 day, .int .i64 wanted, .int .i64 given, .slice a1 n c1, .int .i64 ready, .int .i64 hour] 24 := by rw [hY]; exact box7 (HBZ.out.set_other (by show w.heap.size + 1 ≠ w.heap.size; omega) _) _ _ _ _ _ _ _
  have hlow : ∀ ad, a1 = some ad → w.heap.size + 2 ≤ ad.block := fun ad e => by have := hlo1 ad e; simpa using this
  have hR9 : RowsG 1 tx Y a1 cols := by
    rw [hY]
    exact rowsG7 (HR.out.set (p := ⟨w.heap.size, 4, none⟩) (fun ad e => by have h9 := hlow ad e; show ad.block ≠ w.heap.size; omega) _) (fun ad e => by have h9 := hlow ad e; omega) _ _ _ _ _ _ _
  have hB9 : Below w.heap.size w Y := by
    rw [hY]
    exact below7 (HB.out.setCell (p := ⟨w.heap.size, 4, none⟩) (Nat.le_refl _) _) (by omega) _ _ _ _ _ _ _
  rw [← hY]
  exact bodyPost_ret (res_run rfl rfl bY) rfl ⟨a1, c1, rfl, hR9, hnil1, hB9⟩
end Go.Proofs.YtdgegebplebeoaaGreatDoor

namespace Go.Proofs.YtdgegebplebeoaaGreatDoor
open Go.RowKit Go.Maps

theorem RowsG.take {α : Type} {n : Nat} {g : α → List Value} {w : World} {a : Option Addr} {L : List α} (h : RowsG n g w a L) (k : Nat) : RowsG n g w a (L.take k) := fun j hj => by
  have hj' : j < L.length := by rw [List.length_take] at hj; omega
  obtain ⟨ad, e, hlt, hs⟩ := h j hj'
  refine ⟨ad, e, hlt, fun i hi => ?_⟩
  rw [List.getElem_take]; exact hs i hi
theorem strsUnder : Tryz.prog.underlying 22 = some (.slice (Tryz.prog.elem 22)) := by kernel_rfl
theorem info_str : (Tryz.prog.info? 9).map (fun i => (i.zero, i.size, i.bytes)) = some (some (.string ⟨#[]⟩), 1, 16) := by kernel_rfl
theorem strSize (W : World) : (sizeOf (Tryz.prog.elem 22)).run Tryz.prog W = .ok 1 W := by
  obtain ⟨i0, hi0, hz0, hz1, hz2⟩ := info_parts info_str
  have e : Tryz.prog.elem 22 = 9 := by kernel_rfl
  rw [e]
  simp [sizeOf, typeInfo, hi0, hz1]
set_option maxRecDepth 100000 in
set_option maxHeartbeats 4000000 in
theorem refCheckRun_any (x : Run) (a : Option Addr) (c : Nat) (w : World) (hj : x.job.size ≤ maxLen) (hr : RowsG 1 tx w a x.cols) (hcap : x.cols.length ≤ c) (hl : x.cols.length ≤ 1000000) (hc : ∀ s ∈ x.cols, s.size ≤ maxLen) :
    Calls Tryz.prog 12 #[.agg #[.string x.job, .int .i64 x.day, .int .i64 x.wanted, .int .i64 x.given, .slice a x.cols.length c, .int .i64 x.ready, .int .i64 x.hour]] w (CheckPost (runErr x) w) := by
  obtain ⟨job, day, wanted, given, cols, ready, hour⟩ := x
  have hj : job.size ≤ maxLen := hj
  have hl : cols.length ≤ 1000000 := hl
  have HCAP : Hid (cols.length ≤ c) := Lib.hid hcap
  have HCS : Hid (∀ s ∈ cols, s.size ≤ maxLen) := Lib.hid hc
  have HRR : Hid (RowsG 1 tx w a cols) := Lib.hid hr
  clear hc hr hcap
  dsimp only
  have bx := BoxAt.new w #[.string job, .int .i64 day, .int .i64 wanted, .int .i64 given, .slice a cols.length c, .int .i64 ready, .int .i64 hour] 24
  have hb := (Below.refl w.heap.size w).alloc (Nat.le_refl _) (.cells #[.string job, .int .i64 day, .int .i64 wanted, .int .i64 given, .slice a cols.length c, .int .i64 ready, .int .i64 hour] 24)
  cases h1 : isNameB job
  · have HE := Lib.hid (show runErr ⟨job, day, wanted, given, cols, ready, hour⟩ = 4 by unfold runErr; rw [if_pos h1])
    go_enter Tryz.func12, Tryz.ntmps12
    go_wp2_with (first | (go_at_call 32; refine (refIsName_any _ _ hj).mono ?_; rintro e w' ⟨rfl, rfl⟩) | (go_at_call 33; refine (within_any _ _ _ _).mono ?_; rintro e w' ⟨rfl, rfl⟩))
    go_ret
    exact ⟨ret_int HE.out.symm, hb⟩
  cases h2 : inB day 0 100000
  · have HE := Lib.hid (show runErr ⟨job, day, wanted, given, cols, ready, hour⟩ = 2 by unfold runErr; rw [if_neg (by simp [h1])]; rw [if_pos h2])
    go_enter Tryz.func12, Tryz.ntmps12
    go_wp2_with (first | (go_at_call 32; refine (refIsName_any _ _ hj).mono ?_; rintro e w' ⟨rfl, rfl⟩) | (go_at_call 33; refine (within_any _ _ _ _).mono ?_; rintro e w' ⟨rfl, rfl⟩))
    go_ret
    exact ⟨ret_int HE.out.symm, hb⟩
  cases h3 : inB wanted 1 2000
  · have HE := Lib.hid (show runErr ⟨job, day, wanted, given, cols, ready, hour⟩ = 2 by unfold runErr; rw [if_neg (by simp [h1])]; rw [if_neg (by simp [h2])]; rw [if_pos h3])
    go_enter Tryz.func12, Tryz.ntmps12
    go_wp2_with (first | (go_at_call 32; refine (refIsName_any _ _ hj).mono ?_; rintro e w' ⟨rfl, rfl⟩) | (go_at_call 33; refine (within_any _ _ _ _).mono ?_; rintro e w' ⟨rfl, rfl⟩))
    go_ret
    exact ⟨ret_int HE.out.symm, hb⟩
  cases h4 : inB given wanted 2000
  · have HE := Lib.hid (show runErr ⟨job, day, wanted, given, cols, ready, hour⟩ = 2 by unfold runErr; rw [if_neg (by simp [h1])]; rw [if_neg (by simp [h2])]; rw [if_neg (by simp [h3])]; rw [if_pos h4])
    go_enter Tryz.func12, Tryz.ntmps12
    go_wp2_with (first | (go_at_call 32; refine (refIsName_any _ _ hj).mono ?_; rintro e w' ⟨rfl, rfl⟩) | (go_at_call 33; refine (within_any _ _ _ _).mono ?_; rintro e w' ⟨rfl, rfl⟩))
    go_ret
    exact ⟨ret_int HE.out.symm, hb⟩
  by_cases h5 : cols.length = 0
  · have HE := Lib.hid (show runErr ⟨job, day, wanted, given, cols, ready, hour⟩ = 10 by unfold runErr; rw [if_neg (by simp [h1])]; rw [if_neg (by simp [h2])]; rw [if_neg (by simp [h3])]; rw [if_neg (by simp [h4])]; rw [if_pos h5])
    have h5' : ((cols.length : Int) == 0) = true := by simpa using h5
    clear h5
    go_enter Tryz.func12, Tryz.ntmps12
    go_wp2_with (first | (go_at_call 32; refine (refIsName_any _ _ hj).mono ?_; rintro e w' ⟨rfl, rfl⟩) | (go_at_call 33; refine (within_any _ _ _ _).mono ?_; rintro e w' ⟨rfl, rfl⟩))
    go_ret
    exact ⟨ret_int HE.out.symm, hb⟩
  have h5' : ((cols.length : Int) == 0) = false := by simpa using h5
  by_cases h6 : 6 < cols.length
  · have HE := Lib.hid (show runErr ⟨job, day, wanted, given, cols, ready, hour⟩ = 8 by unfold runErr; rw [if_neg (by simp [h1])]; rw [if_neg (by simp [h2])]; rw [if_neg (by simp [h3])]; rw [if_neg (by simp [h4])]; rw [if_neg h5]; rw [if_pos h6])
    have h6' : decide ((cols.length : Int) > 6) = true := decide_eq_true (by omega)
    clear h5 h6
    go_enter Tryz.func12, Tryz.ntmps12
    go_wp2_with (first | (go_at_call 32; refine (refIsName_any _ _ hj).mono ?_; rintro e w' ⟨rfl, rfl⟩) | (go_at_call 33; refine (within_any _ _ _ _).mono ?_; rintro e w' ⟨rfl, rfl⟩))
    go_ret
    exact ⟨ret_int HE.out.symm, hb⟩
  have h6' : decide ((cols.length : Int) > 6) = false := decide_eq_false (by omega)
  have HE0 := Lib.hid (show runErr ⟨job, day, wanted, given, cols, ready, hour⟩ = if namesErr (cols.take 0) (cols.drop 0) ≠ 0 then namesErr (cols.take 0) (cols.drop 0) else if inB ready 0 10000 = false then 2 else if inB hour 1 10000 = false then 2 else 0 by unfold runErr; rw [if_neg (by simp [h1])]; rw [if_neg (by simp [h2])]; rw [if_neg (by simp [h3])]; rw [if_neg (by simp [h4])]; rw [if_neg h5]; rw [if_neg h6]; rfl)
  have h56 : 0 < cols.length ∧ cols.length ≤ 6 := by omega
  obtain ⟨h5n, h6n⟩ := h56
  clear h5 h6
  go_enter Tryz.func12, Tryz.ntmps12
  go_wp2_with (first | (go_at_call 32; refine (refIsName_any _ _ hj).mono ?_; rintro e w' ⟨rfl, rfl⟩) | (go_at_call 33; refine (within_any _ _ _ _).mono ?_; rintro e w' ⟨rfl, rfl⟩))
  obtain ⟨w0, hw0⟩ : ∃ w0, w0 = w.alloc (.cells #[.string job, .int .i64 day, .int .i64 wanted, .int .i64 given, .slice a cols.length c, .int .i64 ready, .int .i64 hour] 24) := ⟨_, rfl⟩
  rw [← hw0] at hb bx ⊢
  clear hw0
  go_loopw [3] (fun i wr => ∃ k : Nat, k ≤ cols.length ∧ i = .int .i64 k ∧ Hid (namesErr (cols.take 0) (cols.drop 0) = namesErr (cols.take k) (cols.drop k)) ∧ BoxAt wr w.heap.size #[.string job, .int .i64 day, .int .i64 wanted, .int .i64 given, .slice a cols.length c, .int .i64 ready, .int .i64 hour] 24 ∧ Below w.heap.size w wr) (fun i _ => cols.length - (intOf i).toNat)
  case atStart => exact ⟨0, Nat.zero_le _, rfl, Lib.hid rfl, bx, hb⟩
  case round =>
    obtain ⟨k, hk, rfl, HR, bx1, hB⟩ := hrel
    clear hb bx
    have HB := Lib.hid hB
    have HBX := Lib.hid bx1
    have c4 : wr.cell? ⟨w.heap.size, 4, none⟩ = some (.slice a cols.length c) := bx1.cell 4
    have c5 : wr.cell? ⟨w.heap.size, 5, none⟩ = some (.int .i64 ready) := bx1.cell 5
    have c6 : wr.cell? ⟨w.heap.size, 6, none⟩ = some (.int .i64 hour) := bx1.cell 6
    have hbl := bx1.lt
    by_cases hlt : k < cols.length
    · have hlt' : (k : Int) < (cols.length : Int) := by omega
      obtain ⟨ad, rfl, had, s0⟩ := (HRR.out.below hB).txt hlt
      have hsz : cols[k].size ≤ maxLen := HCS.out _ (List.getElem_mem hlt)
      have hcut : ∀ W, (Instr.sliceAt 22 (.slice (some ad) cols.length c) none (some (.int .i64 (k : Int))) none).run Tryz.prog W = .ok (.slice (some ad) k c) W := fun W => cut_low (P := Tryz.prog) 22 ad cols.length c k strsUnder 1 strSize (by have := HCAP.out; omega) W
      have HT := Lib.hid (fun W (h : RowsG 1 tx W (some ad) cols) => hasText_any (some ad) (cols.take k) k c cols[k] W (by rw [List.length_take]; omega) (h.take k) (by omega))
      have HRW := Lib.hid (HRR.out.below hB)
      have HNE := Lib.hid (show nmErr (cols.take k) cols[k] = if isNameB cols[k] = false then 4 else if ((cols.take k).any fun x => decide (x = cols[k])) = true then 5 else 0 from rfl)
      have HGO := Lib.hid (fun he => namesErr_go hlt he)
      have HST := Lib.hid (fun he => namesErr_stop hlt he)
      obtain ⟨q, hq⟩ : ∃ q, q = nmErr (cols.take k) cols[k] := ⟨_, rfl⟩
      rw [← hq] at HNE HGO HST
      obtain ⟨bb, hbb⟩ : ∃ bb, bb = (cols.take k).any fun x => decide (x = cols[k]) := ⟨_, rfl⟩
      rw [← hbb] at HNE HT
      obtain ⟨s, es⟩ : ∃ s, s = cols[k] := ⟨_, rfl⟩
      rw [← es] at s0 hsz HNE HT
      clear es hq hbb bx1 hB
      have HX := Lib.hid (fun (he : q ≠ 0) => (show runErr ⟨job, day, wanted, given, cols, ready, hour⟩ = q by rw [HE0.out, HR.out, HST.out he, if_pos he]))
      cases h7 : isNameB s
      · have HQ := Lib.hid (show q = 4 by rw [HNE.out, if_pos h7])
        go_wp2_with (go_at_call 32; refine (refIsName_any _ _ hsz).mono ?_; rintro e w' ⟨rfl, rfl⟩)
        go_ret
        exact ⟨ret_int (by rw [HX.out (by rw [HQ.out]; decide), HQ.out]), HB.out⟩
      cases bb
      · have HQ := Lib.hid (show q = 0 by rw [HNE.out, if_neg (by simp [h7]), if_neg (by decide)])
        go_wp2_with (go_at_call 32; refine (refIsName_any _ _ hsz).mono ?_; rintro e w' ⟨rfl, rfl⟩)
        go_quiet ((go_at_call 34; exact Calls.quiet_of_same (flip_same (HT.out _ HRW.out))))
        go_wp2
        go_roundw
        case rel => exact ⟨k + 1, by omega, by go_num, Lib.hid (HR.out.trans (HGO.out HQ.out)), HBX.out.drewN _, below_drewN HB.out _⟩
        case measure => simp [intOf]; omega
      · have HQ := Lib.hid (show q = 5 by rw [HNE.out, if_neg (by simp [h7]), if_pos rfl])
        go_wp2_with (go_at_call 32; refine (refIsName_any _ _ hsz).mono ?_; rintro e w' ⟨rfl, rfl⟩)
        go_quiet ((go_at_call 34; exact Calls.quiet_of_same (flip_same (HT.out _ HRW.out))))
        go_wp2
        go_ret
        exact ⟨ret_int (by rw [HX.out (by rw [HQ.out]; decide), HQ.out]), below_drewN HB.out _⟩
    · have HX := Lib.hid (show runErr ⟨job, day, wanted, given, cols, ready, hour⟩ = if inB ready 0 10000 = false then 2 else if inB hour 1 10000 = false then 2 else 0 by rw [HE0.out, HR.out, namesErr_end hlt, if_neg (by simp)])
      obtain rfl : k = cols.length := by omega
      clear bx1 hB
      cases h8 : inB ready 0 10000
      · have HY := Lib.hid (show runErr ⟨job, day, wanted, given, cols, ready, hour⟩ = 2 by rw [HX.out, if_pos h8])
        go_wp2_with (first | (go_at_call 32; refine (refIsName_any _ _ hj).mono ?_; rintro e w' ⟨rfl, rfl⟩) | (go_at_call 33; refine (within_any _ _ _ _).mono ?_; rintro e w' ⟨rfl, rfl⟩))
        go_ret
        exact ⟨ret_int HY.out.symm, HB.out⟩
      cases h9 : inB hour 1 10000
      · have HY := Lib.hid (show runErr ⟨job, day, wanted, given, cols, ready, hour⟩ = 2 by rw [HX.out, if_neg (by simp [h8]), if_pos h9])
        go_wp2_with (first | (go_at_call 32; refine (refIsName_any _ _ hj).mono ?_; rintro e w' ⟨rfl, rfl⟩) | (go_at_call 33; refine (within_any _ _ _ _).mono ?_; rintro e w' ⟨rfl, rfl⟩))
        go_ret
        exact ⟨ret_int HY.out.symm, HB.out⟩
      have HY := Lib.hid (show runErr ⟨job, day, wanted, given, cols, ready, hour⟩ = 0 by rw [HX.out, if_neg (by simp [h8]), if_neg (by simp [h9])])
      go_wp2_with (first | (go_at_call 32; refine (refIsName_any _ _ hj).mono ?_; rintro e w' ⟨rfl, rfl⟩) | (go_at_call 33; refine (within_any _ _ _ _).mono ?_; rintro e w' ⟨rfl, rfl⟩))
      go_ret
      exact ⟨ret_int HY.out.symm, HB.out⟩
end Go.Proofs.YtdgegebplebeoaaGreatDoor

namespace Go.Proofs.YtdgegebplebeoaaGreatDoor
open Go.RowKit Go.Maps Go.Shelf

theorem join_snocR : ∀ (a : List (List UInt8)) (x s : List UInt8), a ≠ [] → Lib.join (a ++ [x]) s = Lib.join a s ++ s ++ x
  | [], _, _, h => absurd rfl h
  | [y], x, s, _ => by rw [List.singleton_append, join_cons, join_one, join_one]
  | y :: z :: r, x, s, _ => by
    have ih := join_snocR (z :: r) x s (by simp)
    rw [show (y :: z :: r) ++ [x] = y :: z :: (r ++ [x]) from rfl, join_cons, join_cons]
    rw [show (z :: r) ++ [x] = z :: (r ++ [x]) from rfl] at ih
    rw [ih]; simp
/-- The numbers that stand in a run's text. -/
def numsOf (x : Run) : List Int := [x.day, x.wanted, x.given, x.ready, x.hour]
/-- The words of a run: so many of its numbers, so many of its colours. -/
def wdN (x : Run) (k : Nat) : List (List UInt8) := x.job.data.toList :: ((numsOf x).take k).map Lib.itoa
def wdC (x : Run) (k : Nat) : List (List UInt8) := wdN x 5 ++ (x.cols.take k).map (·.data.toList)
theorem wdN_next {x : Run} {k : Nat} (hk : k < 5) : Lib.join (wdN x (k + 1)) [32] = Lib.join (wdN x k) [32] ++ [32] ++ Lib.itoa ((numsOf x).getD k 0) := by
  have hl : (numsOf x).length = 5 := rfl
  have e : wdN x (k + 1) = wdN x k ++ [Lib.itoa ((numsOf x).getD k 0)] := by
    unfold wdN
    rw [List.take_succ_eq_append_getElem (by omega), List.map_append, getD_eqI (by omega)]; rfl
  rw [e, join_snocR _ _ _ (by unfold wdN; simp)]
theorem wdC_zero (x : Run) : wdC x 0 = wdN x 5 := by unfold wdC; simp
theorem wdC_end (x : Run) : Lib.join (wdC x x.cols.length) [32] = fmtR x := by unfold wdC fmtR; rw [List.take_length]; rfl
theorem wdC_next {x : Run} {k : Nat} (hk : k < x.cols.length) : Lib.join (wdC x (k + 1)) [32] = Lib.join (wdC x k) [32] ++ [32] ++ x.cols[k].data.toList := by
  have e : wdC x (k + 1) = wdC x k ++ [x.cols[k].data.toList] := by
    unfold wdC
    rw [List.take_succ_eq_append_getElem hk, List.map_append, List.append_assoc]; rfl
  rw [e, join_snocR _ _ _ (by unfold wdC wdN; simp)]
theorem wdN_len {x : Run} (hj : x.job.size ≤ 30) (hn : ∀ y ∈ numsOf x, OkI y) : ∀ k, k ≤ 5 → (Lib.join (wdN x k) [32]).length ≤ 30 + 22 * k
  | 0, _ => by
    show (Lib.join [x.job.data.toList] [32]).length ≤ _
    rw [join_one, Array.length_toList]; exact hj
  | k + 1, h => by
    have ih := wdN_len hj hn k (by omega)
    have hl : (numsOf x).length = 5 := rfl
    have h1 := itoa_len21 (hn ((numsOf x).getD k 0) (by rw [getD_eqI (by omega)]; exact List.getElem_mem _))
    rw [wdN_next (by omega), List.length_append, List.length_append]
    simp only [List.length_cons, List.length_nil]
    omega
theorem wdC_len {x : Run} (hj : x.job.size ≤ 30) (hn : ∀ y ∈ numsOf x, OkI y) (hs : ∀ s ∈ x.cols, s.size ≤ 30) : ∀ k, k ≤ x.cols.length → (Lib.join (wdC x k) [32]).length ≤ 140 + 31 * k
  | 0, _ => by rw [wdC_zero]; have := wdN_len hj hn 5 (by omega); omega
  | k + 1, h => by
    have ih := wdC_len hj hn hs k (by omega)
    have h1 := hs _ (List.getElem_mem (show k < x.cols.length by omega))
    have h2 : x.cols[k].data.toList.length = x.cols[k].size := Array.length_toList
    rw [wdC_next (by omega), List.length_append, List.length_append]
    simp only [List.length_cons, List.length_nil]
    omega
theorem box5 {Z : World} {d : Nat} {T : TypeId} {x0 x1 x2 x3 x4 : Value} (h : BoxAt Z d #[x0, x1, x2, x3, x4] T) (y0 y1 y2 y3 y4 : Value) :
    BoxAt (((((Z.setCell ⟨d, 0, none⟩ y0).setCell ⟨d, 1, none⟩ y1).setCell ⟨d, 2, none⟩ y2).setCell ⟨d, 3, none⟩ y3).setCell ⟨d, 4, none⟩ y4) d #[y0, y1, y2, y3, y4] T := by
  have h0 : BoxAt (Z.setCell ⟨d, 0, none⟩ y0) d #[y0, x1, x2, x3, x4] T := h.set 0 y0
  have h1 : BoxAt ((Z.setCell ⟨d, 0, none⟩ y0).setCell ⟨d, 1, none⟩ y1) d #[y0, y1, x2, x3, x4] T := h0.set 1 y1
  have h2 : BoxAt (((Z.setCell ⟨d, 0, none⟩ y0).setCell ⟨d, 1, none⟩ y1).setCell ⟨d, 2, none⟩ y2) d #[y0, y1, y2, x3, x4] T := h1.set 2 y2
  have h3 : BoxAt ((((Z.setCell ⟨d, 0, none⟩ y0).setCell ⟨d, 1, none⟩ y1).setCell ⟨d, 2, none⟩ y2).setCell ⟨d, 3, none⟩ y3) d #[y0, y1, y2, y3, x4] T := h2.set 3 y3
  exact h3.set 4 y4
end Go.Proofs.YtdgegebplebeoaaGreatDoor

namespace Go.Proofs.YtdgegebplebeoaaGreatDoor
open Go.RowKit Go.Maps Go.Shelf

set_option maxRecDepth 100000 in
set_option maxHeartbeats 1000000 in
theorem texts_same (L : List ByteArray) (a1 a2 : Option Addr) (c1 c2 : Nat) (w : World) (h1 : RowsG 1 tx w a1 L) (h2 : RowsG 1 tx w a2 L) (hl : L.length ≤ maxLen) :
    Calls Tryz.prog 31 #[.slice a1 L.length c1, .slice a2 L.length c2] w fun e w' => e = .returned (.bool true) ∧ Drew w w' := by
  unfold maxLen at hl
  have hne : ((L.length : Int) != (L.length : Int)) = false := by simp
  go_enter Tryz.func31, Tryz.ntmps31
  go_wp2_with fail
  go_loopw [5] (fun i wr => ∃ k : Nat, k ≤ L.length ∧ i = .int .i64 k ∧ Drew w wr) (fun i _ => L.length - (intOf i).toNat)
  case atStart => exact ⟨0, Nat.zero_le _, rfl, Drew.refl _⟩
  case round =>
    obtain ⟨k, hk, rfl, hD⟩ := hrel
    by_cases hlt : k < L.length
    · obtain ⟨p1, rfl, hp1, hc1⟩ := (hD.rowsG h1).txt hlt
      obtain ⟨p2, rfl, hp2, hc2⟩ := (hD.rowsG h2).txt hlt
      have hkl : (k : Int) < (L.length : Int) := by omega
      obtain ⟨y, ey⟩ : ∃ y, y = L[k] := ⟨_, rfl⟩
      rw [← ey] at hc1 hc2
      have hq : (y.toList == y.toList) = true := by simp
      clear ey
      go_wp2_with fail
      go_quiet (fail)
      go_wp2
      go_roundw
      case rel => exact ⟨k + 1, by omega, by go_num, hD.drewN _⟩
      case measure => simp [intOf]; omega
    · go_wp2
      go_ret
      exact ⟨rfl, hD⟩
def runA (x : Run) (a : Option Addr) (c : Nat) : Value := .agg #[.string x.job, .int .i64 x.day, .int .i64 x.wanted, .int .i64 x.given, .slice a x.cols.length c, .int .i64 x.ready, .int .i64 x.hour]
set_option maxRecDepth 100000 in
set_option maxHeartbeats 4000000 in
theorem sameRun_any (x : Run) (a1 a2 : Option Addr) (c1 c2 : Nat) (w : World) (h1 : RowsG 1 tx w a1 x.cols) (h2 : RowsG 1 tx w a2 x.cols) (hl : x.cols.length ≤ maxLen) :
    Calls Tryz.prog 11 #[runA x a1 c1, runA x a2 c2] w (AggPost (.bool true) w) := by
  unfold runA
  obtain ⟨job, day, wanted, given, cols, ready, hour⟩ := x
  dsimp only at h1 h2 hl ⊢
  have hb0 := ((Below.refl w.heap.size w).alloc (Nat.le_refl _) (.cells #[.string job, .int .i64 day, .int .i64 wanted, .int .i64 given, .slice a1 cols.length c1, .int .i64 ready, .int .i64 hour] 24)).alloc (by simp) (.cells #[.string job, .int .i64 day, .int .i64 wanted, .int .i64 given, .slice a2 cols.length c2, .int .i64 ready, .int .i64 hour] 24)
  have HTS := Lib.hid (texts_same cols a1 a2 c1 c2 _ (h1.below hb0) (h2.below hb0) hl)
  have HB := Lib.hid hb0
  have q0 : (job.toList == job.toList) = true := by simp
  have q1 : (day == day) = true := by simp
  have q2 : (wanted == wanted) = true := by simp
  have q3 : (given == given) = true := by simp
  have q4 : (ready == ready) = true := by simp
  have q5 : (hour == hour) = true := by simp
  clear h1 h2 hl hb0
  go_enter Tryz.func11, Tryz.ntmps11
  go_wp2_with (first | (go_at_call 31; refine HTS.out.mono ?_; rintro e w2 ⟨rfl, hd⟩; have HB2 := Lib.hid (hd.below HB.out); clear hd))
  go_ret
  exact ⟨rfl, HB2.out⟩
end Go.Proofs.YtdgegebplebeoaaGreatDoor
