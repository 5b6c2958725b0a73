/-
  Package impose: FormatFolds.
-/
import Derived.Test.YtgoandhlcekmiaaGreatDoorCG
import Derived.Test.YtgoandhlcekmiaaGreatDoorKE
namespace Go.Proofs.YtgoandhlcekmiaaGreatDoor
open Go.RowKit

/-- The words that are written so far, and nothing behind them. -/
def wordsTo (L : List Fold) (k : Nat) : List Value := (L.map fun f => Value.string (bs (wordM f))).take k ++ List.replicate (L.length - k) (.string ⟨#[]⟩)
theorem wordsTo_len (L : List Fold) {k : Nat} (hk : k ≤ L.length) : (wordsTo L k).length = L.length := by
  unfold wordsTo
  rw [List.length_append, List.length_take, List.length_map, List.length_replicate]; omega
theorem wordsTo_zero (L : List Fold) : (wordsTo L 0).toArray = madeCells #[Value.string ⟨#[]⟩] (L.length * 1) := by
  apply Array.ext'
  simp [madeCells, wordsTo, Nat.mod_one]
  apply List.ext_getElem
  · simp
  · intro i h1 h2; simp
theorem wordsTo_set (L : List Fold) {k : Nat} (hk : k < L.length) : (wordsTo L k).set k (.string (bs (wordM L[k]))) = wordsTo L (k + 1) := by
  unfold wordsTo
  have hl : ((L.map fun f => Value.string (bs (wordM f))).take k).length = k := by rw [List.length_take, List.length_map]; omega
  have hm : k < (L.map fun f => Value.string (bs (wordM f))).length := by rw [List.length_map]; exact hk
  rw [List.set_append_right k _ (by omega), hl, Nat.sub_self, show L.length - k = (L.length - (k + 1)) + 1 by omega, List.replicate_succ, List.set_cons_zero, List.take_succ_eq_append_getElem hm, List.append_assoc, List.getElem_map]
  rfl
theorem wordsTo_end (L : List Fold) : wordsTo L L.length = L.map fun f => Value.string (bs (wordM f)) := by
  unfold wordsTo
  rw [Nat.sub_self, List.take_of_length_le (by rw [List.length_map]; exact Nat.le_refl _)]
  simp
theorem word_len {f : Fold} (h : OkI f.c) : (wordM f).length ≤ 22 := by
  unfold wordM
  rw [List.length_cons]
  split
  · simp
  · have := itoa_len21 h; omega
theorem join_len : ∀ {L : List (List UInt8)}, (∀ x ∈ L, x.length ≤ 22) → (Lib.join L [32]).length ≤ 23 * L.length
  | [], _ => by simp [Lib.join]
  | [x], h => by rw [join_one]; have := h x List.mem_cons_self; simp; omega
  | x :: y :: r, h => by
    have h1 := join_len (L := y :: r) fun z hz => h z (List.mem_cons_of_mem _ hz)
    have h2 := h x List.mem_cons_self
    rw [join_cons]
    simp only [List.length_append, List.length_cons, List.length_nil] at h1 ⊢
    omega
theorem fmt_len {L : List Fold} (h : ∀ f ∈ L, OkI f.c) : (fmtM L).length ≤ 23 * L.length := by
  have := join_len (L := L.map wordM) fun x hx => by
    obtain ⟨f, hf, rfl⟩ := List.mem_map.1 hx
    exact word_len (h f hf)
  rwa [List.length_map] at this
theorem info_strW : (Tryz.prog.info? 9).map (fun i => (i.zero, i.size, i.bytes)) = some (some (.string ⟨#[]⟩), 1, 16) := by kernel_rfl
theorem joinW_any (g : Nat) (L : List Fold) (w : World) (bx : BoxAt w g (L.map fun f => Value.string (bs (wordM f))).toArray 9) (hl : L.length ≤ 20) (hc : ∀ f ∈ L, OkI f.c) :
    Calls Tryz.prog 38 #[.slice (some ⟨g, 0, none⟩) L.length L.length, .string ⟨#[32]⟩] w (StrPost w (fmtM L)) := by
  have h1 : ((L.map fun f => bs (wordM f)).map (·.data.toList)) = L.map wordM := by
    rw [List.map_map]; try rfl
  have h2 := fmt_len hc
  have h := Tryz.strings_Join g 0 L.length (L.map fun f => bs (wordM f)) ⟨#[32]⟩ w (fun j x hx => by
    have := bx.cell j
    rw [Nat.zero_add, this]
    rw [List.getElem?_map] at hx
    obtain ⟨f, hf, rfl⟩ := Option.map_eq_some_iff.1 hx
    simp [hf]) bx.lt (by rw [List.length_map]; omega) (by rw [List.length_map]; exact Nat.le_refl _) (by
      rw [h1]
      have h2 : (Lib.join (L.map wordM) [32]).length ≤ 23 * L.length := h2
      show (Lib.join (L.map wordM) [32]).length ≤ _
      omega)
  rw [h1, List.length_map] at h
  exact h.mono fun e w' he => he
set_option maxRecDepth 100000 in
set_option maxHeartbeats 4000000 in
theorem formatFolds_any (a : Option Addr) (L : List Fold) (n c : Nat) (w : World) (hn : n = L.length) (hL : RowsAt 2 Fold.l w a L) (hl : n ≤ 20) (hc : ∀ f ∈ L, OkI f.c) (hP : WF w) :
    Calls Tryz.prog 11 #[.slice a n c] w (StrPost w (fmtM L)) := by
  have hmk := fun W => run_make_rowX Tryz.underlying99 info_strW .i64 .i64 n (by omega) (by omega) W
  obtain ⟨g, hg⟩ : ∃ g, w.heap.size = g := ⟨_, rfl⟩
  have HN := Lib.hid hn; have HC := Lib.hid hc
  have bx0 : BoxAt (w.alloc (.cells (madeCells #[Value.string ⟨#[]⟩] (n * 1)) 9)) g (wordsTo L 0).toArray 9 := by
    rw [wordsTo_zero, ← hn, ← hg]; exact BoxAt.new _ _ _
  have hb0 := (Below.refl w.heap.size w).alloc (Nat.le_refl _) (.cells (madeCells #[Value.string ⟨#[]⟩] (n * 1)) 9)
  rw [Nat.mul_one] at bx0 hb0
  have HG := Lib.hid hg
  have hgw : w.heap.size ≤ g := by omega
  clear hn hc
  go_enter Tryz.func11, Tryz.ntmps11
  go_wp2_with fail
  go_loopw [11] (fun i wr => ∃ k : Nat, k ≤ n ∧ i = .int .i64 k ∧ BoxAt wr g (wordsTo L k).toArray 9 ∧ Below w.heap.size w wr) (fun i _ => n - (intOf i).toNat)
  case atStart => exact ⟨0, Nat.zero_le _, rfl, bx0, hb0⟩
  case round =>
    obtain ⟨k, hk, rfl, bx, hB⟩ := hrel
    clear bx0 hb0
    have hfr := bx.free
    have hlt0 := bx.lt
    by_cases hlt : k < n
    · have hkL : k < L.length := by have := HN.out; omega
      obtain ⟨ad, rfl, had, s0, s1⟩ := (hL.below hB).fold hkL
      obtain ⟨x, ex⟩ : ∃ x, x = L[k] := ⟨_, rfl⟩
      have hxi := HC.out L[k] (List.getElem_mem hkL)
      rw [← ex] at s0 s1 hxi
      have hkn : (k : Int) < (n : Int) := by omega
      have hcI : (wordsTo L k).toArray.size = n := by
        have := HN.out
        have h2 := wordsTo_len L (k := k) (by omega)
        rw [List.size_toArray, h2]; omega
      have HX : Hid ((wordsTo L k).toArray.setIfInBounds k (.string (bs (wordM x))) = (wordsTo L (k + 1)).toArray) := Lib.hid (by rw [ex, ← wordsTo_set L hkL]; simp)
      obtain ⟨cs, hcs⟩ : ∃ cs, cs = (wordsTo L k).toArray := ⟨_, rfl⟩
      rw [← hcs] at bx HX hcI
      have bxa := bx.alloc (.cells #[.int .i64 x.k, .int .i64 x.c] 59)
      have hBa := hB.alloc hB.size (.cells #[.int .i64 x.k, .int .i64 x.c] 59)
      have hwf := hP.below hBa
      clear hcs ex
      go_wp2_with fail
      refine (wordOf_any x _ hxi hwf).mono ?_
      rintro e w2 ⟨rfl, hb2⟩
      have bx2 := bxa.below hb2
      have f2 := bx2.free
      have c2 := bx2.cell k
      have hlt2 := bx2.lt
      rw [Array.getElem?_eq_getElem (by omega)] at c2
      go_wp2
      go_roundw
      case rel => exact ⟨k + 1, by omega, by go_num, by have := bx2.set k (.string (bs (wordM x))); rw [HX.out] at this; exact this, (hBa.trans (hb2.mono (B' := w.heap.size) hBa.size)).setCell (by omega) _⟩
      case measure => simp [intOf]; omega
    · have hkn : ¬ (k : Int) < (n : Int) := by omega
      have hkL : k = L.length := by have := HN.out; omega
      have HE := Lib.hid (show (wordsTo L k).toArray = (L.map fun f => Value.string (bs (wordM f))).toArray by rw [hkL, wordsTo_end])
      rw [HE.out] at bx
      have HJ := Lib.hid (joinW_any g L wr bx (by have := HN.out; omega) HC.out)
      rw [← HN.out] at HJ
      go_wp2_with (go_at_call 38; refine HJ.out.mono ?_; rintro e w2 ⟨rfl, hb2⟩)
      go_ret
      exact ⟨rfl, hB.trans (hb2.mono (B' := w.heap.size) hB.size)⟩
end Go.Proofs.YtgoandhlcekmiaaGreatDoor

namespace Go.Proofs.YtgoandhlcekmiaaGreatDoor
open Go.RowKit

/-- What a text is read as: folds of the call's own, and an error. -/
def FParsePost (w : World) (M : List Fold × Int) (e : Ending) (w' : World) : Prop :=
  ∃ (a : Option Addr) (n c : Nat), e = .returned (.tuple #[.slice a n c, .int .i64 M.2]) ∧ n = M.1.length ∧ RowsAt 2 Fold.l w' a M.1 ∧ (a = none → c = 0) ∧ Below w.heap.size w w'
theorem FParsePost.none {w w' : World} {M : List Fold × Int} {q : Int} (h : M = ([], q)) (hb : Below w.heap.size w w') : FParsePost w M (.returned (.tuple #[.slice none 0 0, .int .i64 q])) w' := by
  subst h; exact ⟨Option.none, 0, 0, rfl, rfl, RowsAt.nil _ _, fun _ => rfl, hb⟩
theorem word_cell {P : List ByteArray} {N k : Nat} (hk : k < P.length) : (Lib.cellsOf P N)[k]? = some (.string P[k]) := by
  unfold Lib.cellsOf
  rw [List.getElem?_toArray, List.getElem?_append_left (by rw [List.length_map]; exact hk), List.getElem?_map, List.getElem?_eq_getElem hk]; rfl
theorem pick_str {x : ByteArray} {t : List UInt8} (h : x.data.toList = t) : x = bs t := by rw [← h, data_bs]
theorem size_of_list {x : ByteArray} {t : List UInt8} (h : x.data.toList = t) : x.size = t.length := by rw [← h]; exact Array.length_toList.symm
theorem le_sum : ∀ {l : List Nat} {x : Nat}, x ∈ l → x ≤ l.sum
  | [], _, h => absurd h List.not_mem_nil
  | a :: r, x, h => by
    rw [List.sum_cons]
    rcases List.mem_cons.1 h with rfl | h
    · omega
    · have := le_sum h; omega
theorem split_size (m : UInt8) (l : List UInt8) : ∀ x ∈ splitOn m l, x.length ≤ l.length := by
  intro x hx
  have h1 := splitOn_len m l
  have h2 : x.length ≤ (splitOn m l).flatten.length := by
    obtain ⟨k, hk, rfl⟩ := List.getElem_of_mem hx
    rw [List.length_flatten]
    exact le_sum (List.mem_map.2 ⟨_, hx, rfl⟩)
  have h3 : 1 ≤ (splitOn m l).length := List.length_pos_iff.2 (splitOn_ne m l)
  omega
set_option maxRecDepth 100000 in
set_option maxHeartbeats 4000000 in
theorem parseFolds_any (s : ByteArray) (w : World) (hs : s.size ≤ 1000) (hP : WF w) :
    Calls Tryz.prog 10 #[.string s] w (FParsePost w (parseM s.data.toList)) := by
  by_cases h0 : s.size = 0
  · obtain rfl : s = ⟨#[]⟩ := by
      have : s.data.toList = [] := List.length_eq_zero_iff.1 (by rw [Array.length_toList]; exact h0)
      rw [← data_bs s, this]; try rfl
    clear h0
    go_enter Tryz.func10, Tryz.ntmps10
    go_wp2
    go_ret2
    exact FParsePost.none rfl (Below.refl _ _)
  have hne : s.data.toList ≠ [] := fun e => by
    have := congrArg List.length e
    rw [Array.length_toList] at this
    have e2 : s.data.size = s.size := rfl
    rw [List.length_nil] at this; omega
  have hse2 : (s.toList == ([] : List UInt8)) = false := by
    rw [beq_eq_false_iff_ne, Lib.toList_data]; exact hne
  have hse : s ≠ ⟨#[]⟩ := fun e => by rw [e] at h0; exact h0 rfl
  obtain ⟨M, hM⟩ : ∃ M, M = parseM s.data.toList := ⟨_, rfl⟩
  have HM := Lib.hid hM
  rw [← hM]
  clear hM
  obtain ⟨m, hm⟩ := hP.m
  have hsp := Tryz.strings_SplitN s ⟨#[32]⟩ 13 m w (by omega) hm (by decide) (by decide) (by decide)
  obtain ⟨hS1, hS2⟩ := splitB_some 32 s (N := 13) (by decide)
  obtain ⟨N, hN⟩ : ∃ N, N = min 13 (s.size + 1) := ⟨_, rfl⟩
  rw [← hN] at hS1 hS2 hsp
  obtain ⟨P, hPP⟩ : ∃ P, P = Lib.splitB ⟨#[32]⟩ 0 (N - 1) s := ⟨_, rfl⟩
  rw [← hPP] at hS1 hS2 hsp
  obtain ⟨g, hg⟩ : ∃ g, w.heap.size = g := ⟨_, rfl⟩
  have HG := Lib.hid hg
  have hgw : w.heap.size ≤ g := by omega
  have bx0 : BoxAt (w.alloc (.cells (Lib.cellsOf P N) 9)) g (Lib.cellsOf P N) 9 := by
    rw [← hg]; exact BoxAt.new _ _ _
  have hb0 := (Below.refl w.heap.size w).alloc (Nat.le_refl _) (.cells (Lib.cellsOf P N) 9)
  rw [hg] at hsp
  have HSP := Lib.hid hsp
  clear hm hN hPP hsp
  by_cases h12 : 12 < P.length
  · have HZ := Lib.hid (show M = ([], 8) by rw [HM.out]; exact parseM_large hne (by have := hS1.1 (by omega); omega))
    have hI : (12 : Int) < (P.length : Int) := by omega
    clear hS1 hS2 h12
    go_enter Tryz.func10, Tryz.ntmps10
    go_wp2_with (go_at_call 35; refine HSP.out.mono ?_; rintro e w1 ⟨rfl, rfl⟩)
    go_ret2
    exact FParsePost.none HZ.out hb0
  have hn12 : ¬ 12 < (Go.Proofs.YtgoandhlcekmiaaGreatDoor.splitOn 32 s.data.toList).length := fun h => h12 (by have := hS1.2 (by omega); omega)
  have hws := hS2 (by omega)
  obtain ⟨ws, ews⟩ : ∃ ws, ws = Go.Proofs.YtgoandhlcekmiaaGreatDoor.splitOn 32 s.data.toList := ⟨_, rfl⟩
  rw [← ews] at hws hn12
  have hPl : P.length = ws.length := by rw [← hws, List.length_map]
  have HPL := Lib.hid hPl
  have HNE := Lib.hid hne; have HN12 := Lib.hid hn12; have HEW := Lib.hid ews; have HWS := Lib.hid hws
  have HSZ : Hid (∀ x ∈ ws, x.length ≤ 1000) := Lib.hid (by
    intro x hx
    rw [ews] at hx
    have := split_size 32 _ x hx
    have e2 : s.data.toList.length = s.size := Array.length_toList
    rw [e2] at this
    exact Nat.le_trans this hs)
  obtain ⟨pl, hpl⟩ : ∃ pl, pl = P.length := ⟨_, rfl⟩
  have HPP := Lib.hid hpl
  have hp12 : pl ≤ 12 := by omega
  have hI : ¬ (12 : Int) < (pl : Int) := by omega
  have HSP2 := Lib.hid (show Calls Tryz.prog 35 #[.string s, .string ⟨#[32]⟩, .int .i64 13] w fun e w' => e = .returned (.slice (some ⟨g, 0, none⟩) pl N) ∧ w' = w.alloc (.cells (Lib.cellsOf P N) 9) by rw [hpl]; exact HSP.out)
  clear hS1 hS2 h12 hws hPl hpl ews hn12 HSP
  go_enter Tryz.func10, Tryz.ntmps10
  go_wp2_with (go_at_call 35; refine HSP2.out.mono ?_; rintro e w1 ⟨rfl, rfl⟩)
  go_loopw [5, 19] (fun v5 i wr => ∃ (k : Nat) (D : List Fold), k ≤ pl ∧ i = .int .i64 k ∧ OwnR 2 59 Fold.l wr (g + 1) v5 D ∧ D.length ≤ k ∧ BoxAt wr g (Lib.cellsOf P N) 9 ∧ Below w.heap.size w wr ∧ Hid (allM ws = (allM (ws.drop k)).map (D ++ ·))) (fun _ i _ => pl - (intOf i).toNat)
  case atStart => exact ⟨0, [], Nat.zero_le _, rfl, OwnR.nil _ _, Nat.le_refl _, bx0, hb0, Lib.hid (by simp)⟩
  case round =>
    obtain ⟨k, D, hk, rfl, hO, hDk, bx, hB, HR⟩ := hrel
    clear bx0 hb0
    have hltg := bx.lt
    obtain ⟨a5, c5, e5, hr5, -, -, hn5, -⟩ := hO.rows fold_l
    subst e5
    obtain ⟨dl, hdl⟩ : ∃ dl, dl = D.length := ⟨_, rfl⟩
    have HDL := Lib.hid hdl
    rw [← hdl] at hO hDk
    rw [← hdl]
    clear hdl
    by_cases hlt : k < pl
    · have hkP : k < P.length := by have := HPP.out; omega
      have hkw : k < ws.length := by have := HPL.out; omega
      have hkI : (k : Int) < (pl : Int) := by omega
      have hc := bx.cell k
      rw [word_cell hkP] at hc
      obtain ⟨x, ex⟩ : ∃ x, x = P[k] := ⟨_, rfl⟩
      have hxw : x.data.toList = ws[k] := by
        rw [ex]
        have h1 : (P.map (·.data.toList))[k]? = ws[k]? := by rw [HWS.out]
        rw [List.getElem?_map, List.getElem?_eq_getElem hkP, List.getElem?_eq_getElem hkw] at h1
        exact Option.some.inj h1
      rw [← ex] at hc
      have hxs : x.size ≤ 1000 := by rw [size_of_list hxw]; exact HSZ.out _ (List.getElem_mem hkw)
      have HXW := Lib.hid hxw
      have hwf := hP.below hB
      obtain ⟨o, ho⟩ : ∃ o, readM x.data.toList = o := ⟨_, rfl⟩
      have HO := Lib.hid ho
      have hfo := foldOf_any x wr hxs hwf
      rw [ho] at hfo
      have HFO := Lib.hid hfo
      clear ex hxw ho hfo
      go_wp2_with fail
      refine HFO.out.mono ?_
      rintro e w2 ⟨fk, fc, rfl, hf, hb2⟩
      have hB2 := hB.trans (hb2.mono (B' := w.heap.size) hB.size)
      have bx2 := bx.below hb2
      have hO2 := hO.below hb2
      cases o with
      | none =>
        have HZ := Lib.hid (show M = ([], 7) by
          rw [HM.out]
          exact parseM_none HNE.out (by rw [← HEW.out]; exact HN12.out) (by rw [← HEW.out, HR.out, allM_stop hkw (by rw [← HXW.out]; exact HO.out)]; rfl))
        go_wp2_with fail
        go_ret2
        exact FParsePost.none HZ.out (hB2.alloc hB2.size _)
      | some f =>
        obtain rfl : f = ⟨fk, fc⟩ := hf f rfl
        have HR2 := Lib.hid (show allM ws = (allM (ws.drop (k + 1))).map ((D ++ [⟨fk, fc⟩]) ++ ·) by rw [HR.out]; exact allM_go hkw (by rw [← HXW.out]; exact HO.out))
        have bx3 := bx2.alloc (.cells #[.int .i64 fk, .int .i64 fc] 59)
        have hO3 := hO2.alloc (.cells #[.int .i64 fk, .int .i64 fc] 59)
        have hB3 := hB2.alloc hB2.size (.cells #[.int .i64 fk, .int .i64 fc] 59)
        have hlt3 := bx3.lt
        clear hB2 bx2 hO2
        go_wp2_with (at_builtin; refine wpList_appX tFold fold_l _ (⟨fk, fc⟩ : Fold) _ rfl rfl _ _ rfl (g + 1) _ D rfl hO3 (by show Value.slice (some ⟨w2.heap.size + 1, 0, none⟩) 1 1 = _; simp) (by have := HDL.out; omega) (by omega) ?_; intro gg cg wg hOg hgg hBg)
        go_roundw
        case rel => exact ⟨k + 1, D ++ [⟨fk, fc⟩], by omega, by go_num, hOg, by have := HDL.out; rw [List.length_append]; simp; omega, bx3.grown hgg (fun e => by have := (hO3.lt g e.symm).1; omega), hB3.grown hgg (Nat.le_trans hB3.size (Nat.le_refl _)) (fun q hq => by have := (hO3.lt q hq).1; omega), HR2⟩
        case measure => simp [intOf]; omega
    · have hkI : ¬ (k : Int) < (pl : Int) := by omega
      have HZ := Lib.hid (show M = (D, 0) by
        rw [HM.out]
        exact parseM_some HNE.out (by rw [← HEW.out]; exact HN12.out) (by rw [← HEW.out]; exact allM_end (k := k) (by have := HPL.out; have := HPP.out; omega) HR.out))
      go_wp2_with fail
      go_ret2
      exact ⟨a5, dl, c5, by rw [HZ.out]; try rfl, by rw [HZ.out]; exact HDL.out, by rw [HZ.out]; exact hr5, hn5, hB⟩
end Go.Proofs.YtgoandhlcekmiaaGreatDoor
