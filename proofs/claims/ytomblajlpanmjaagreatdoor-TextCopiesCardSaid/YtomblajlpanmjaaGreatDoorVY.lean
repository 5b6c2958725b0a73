/-
  SortsOf and FewestSorts.
-/
import Derived.Test.YtomblajlpanmjaaGreatDoorVK
namespace Go.Proofs.YtomblajlpanmjaaGreatDoor
open Go.RowKit Go.Maps Go.Shelf

def ixs (p : PC) (pl : Nat) : List Nat := (List.range p.f.sorts.length).filter (fun i => mayB p pl (p.f.sorts.getD i noTS))
theorem mays_ix (p : PC) (pl : Nat) : ∀ k, k ≤ p.f.sorts.length → (mays p pl k).map (·.1) = (List.range k).filter (fun i => mayB p pl (p.f.sorts.getD i noTS))
  | 0, _ => rfl
  | k + 1, h => by
    have ih := mays_ix p pl k (by omega)
    rw [List.range_succ, List.filter_append]
    by_cases hm : mayB p pl (p.f.sorts.getD k noTS) = true
    · rw [mays_hit ⟨by omega, hm⟩, List.map_append, ih, List.filter_cons_of_pos (p := fun i => mayB p pl (p.f.sorts.getD i noTS)) (a := k) (l := []) hm]
      rfl
    · rw [mays_miss ((Bool.not_eq_true _).mp hm), ih, List.filter_cons_of_neg (p := fun i => mayB p pl (p.f.sorts.getD i noTS)) (a := k) (l := []) hm]
      simp
theorem ixs_eq (p : PC) (pl : Nat) : (mays p pl p.f.sorts.length).map (·.1) = ixs p pl := mays_ix p pl _ (Nat.le_refl _)
theorem longAt_ix (p : PC) (pl : Nat) : longAt p pl = (ixs p pl).foldl (lstep p) (0, 0) := by
  rw [← ixs_eq, List.foldl_map]; try rfl
theorem lcAt_ix (p : PC) (pl : Nat) (M : List Int) : lcAt p pl M = (ixs p pl).foldl (lcStep p pl) (M.set pl 31) := by
  rw [← ixs_eq, List.foldl_map]; try rfl
theorem leX_ix (p : PC) (L : List Int) (pl : Nat) : (leX p L pl).map (·.1) = (ixs p pl).find? (leB p L pl) := by
  rw [← ixs_eq, List.find?_map]; try rfl
theorem fewSet_ix (p : PC) (L : List Int) (k pl : Nat) (acc : List Int) : fewSet p L (k + 1) pl acc = if pl < p.t.size then match (ixs p pl).find? (leB p L pl) with
    | some i => fewSet p L k (pl + tsize p i) (acc ++ [(i : Int)])
    | none => none
    else some acc := by
  rw [← leX_ix]
  show (if _ then _ else _) = _
  split
  · cases leX p L pl <;> rfl
  · rfl
section
variable (f : FT) (a a' : Option Addr) (c c' : Nat) (t : ByteArray) (ba ba' : Option Addr) (bc bc' : Nat) (bl : List Int)
theorem longSet_same : ∀ (k pl : Nat) (acc : List Int), longSet ⟨f, a, c, t, ba, bc, bl⟩ k pl acc = longSet ⟨f, a', c', t, ba', bc', bl⟩ k pl acc
  | 0, _, _ => rfl
  | k + 1, pl, acc => by
    have h : longAt ⟨f, a, c, t, ba, bc, bl⟩ pl = longAt ⟨f, a', c', t, ba', bc', bl⟩ pl := by rw [longAt_ix, longAt_ix]; try rfl
    show (if _ then (if 0 < (longAt ⟨f, a, c, t, ba, bc, bl⟩ pl).2 then longSet ⟨f, a, c, t, ba, bc, bl⟩ k (pl + (longAt ⟨f, a, c, t, ba, bc, bl⟩ pl).2) (acc ++ [((longAt ⟨f, a, c, t, ba, bc, bl⟩ pl).1 : Int)]) else none) else _) = _
    rw [longSet_same k, h]
    rfl
theorem lcTo_same : ∀ k, lcTo ⟨f, a, c, t, ba, bc, bl⟩ k = lcTo ⟨f, a', c', t, ba', bc', bl⟩ k
  | 0 => rfl
  | k + 1 => by
    show lcAt ⟨f, a, c, t, ba, bc, bl⟩ _ (lcTo ⟨f, a, c, t, ba, bc, bl⟩ k) = lcAt ⟨f, a', c', t, ba', bc', bl⟩ _ (lcTo ⟨f, a', c', t, ba', bc', bl⟩ k)
    rw [lcTo_same k, lcAt_ix, lcAt_ix]
    rfl
theorem fewSet_same (L : List Int) : ∀ (k pl : Nat) (acc : List Int), fewSet ⟨f, a, c, t, ba, bc, bl⟩ L k pl acc = fewSet ⟨f, a', c', t, ba', bc', bl⟩ L k pl acc
  | 0, _, _ => rfl
  | k + 1, pl, acc => by
    rw [fewSet_ix, fewSet_ix]
    have h : (ixs ⟨f, a, c, t, ba, bc, bl⟩ pl).find? (leB ⟨f, a, c, t, ba, bc, bl⟩ L pl) = (ixs ⟨f, a', c', t, ba', bc', bl⟩ pl).find? (leB ⟨f, a', c', t, ba', bc', bl⟩ L pl) := rfl
    rw [h]
    cases (ixs ⟨f, a', c', t, ba', bc', bl⟩ pl).find? (leB ⟨f, a', c', t, ba', bc', bl⟩ L pl) with
    | none => rfl
    | some i =>
      show (if _ then fewSet ⟨f, a, c, t, ba, bc, bl⟩ L k (pl + tsize ⟨f, a, c, t, ba, bc, bl⟩ i) _ else _) = _
      rw [fewSet_same L k]
      rfl
theorem fewP_same : fewP ⟨f, a, c, t, ba, bc, bl⟩ = fewP ⟨f, a', c', t, ba', bc', bl⟩ := by
  unfold fewP
  have h : lcL ⟨f, a, c, t, ba, bc, bl⟩ = lcL ⟨f, a', c', t, ba', bc', bl⟩ := lcTo_same ..
  rw [h, fewSet_same f a a' c c' t ba ba' bc bc' bl]
end
def longWay : Way where
  fn := 93
  S := longP
  same := fun f a a' c c' t ba ba' bc bc' bl => longSet_same f a a' c c' t ba ba' bc bc' bl _ _ _
  en := enters_of Tryz.func93 (by kernel_rfl) rfl
  ok := longest_any
def fewWay : Way where
  fn := 95
  S := fewP
  same := fewP_same
  en := enters_of Tryz.func95 (by kernel_rfl) rfl
  ok := fewest_any
set_option maxRecDepth 100000 in
set_option maxHeartbeats 800000 in
theorem sortsOf_fn (f : FT) (a : Option Addr) (c : Nat) (r : RU) (s : ByteArray) (w : World) (hF : FAt w a f) (hR : r.at_ w) (hs : s.size ≤ maxLen) :
    Calls Tryz.prog 48 #[.agg #[.string f.name, .int .i64 f.body, .slice a f.sorts.length c], .agg r.cells, .string s] w (SortsPost w longWay f r s) := by
  have hb0 := ((Below.refl w.heap.size w).alloc (Nat.le_refl _) (boxF f a c)).alloc (by simp) (boxR r)
  have HC := Lib.hid (sortsBy_any longWay f a c r s ((w.alloc (boxF f a c)).alloc (boxR r)) ⟨hF.ok, hF.at_.below hb0, hF.tab.below hb0 hF.tab.1⟩ (hR.below hb0) hs)
  unfold boxF boxR RU.cells at *
  rw [show longWay.fn = 93 from rfl] at HC
  by_cases he : sortsErr longWay f r s = 0
  · go_enter Tryz.func48, Tryz.ntmps48
    go_wp2_with fail
    refine HC.out.mono ?_
    rintro e w1 ⟨hb1, hp1⟩
    rw [if_pos he] at hp1
    obtain ⟨v, l, hS, rfl, hrow⟩ := hp1
    obtain ⟨a9, c9, rfl, -, -, -⟩ := hrow.shape
    have hlow := hb0.trans (hb1.mono hb0.size)
    have hrow' := hrow.mono hb0.size
    clear HC hb0 hb1 hrow
    go_wp2
    go_ret2
    refine ⟨hlow, ?_⟩
    rw [if_pos he]
    exact ⟨_, l, hS, rfl, hrow'⟩
  · go_enter Tryz.func48, Tryz.ntmps48
    go_wp2_with fail
    refine HC.out.mono ?_
    rintro e w1 ⟨hb1, hp1⟩
    rw [if_neg he] at hp1
    subst hp1
    have hlow := hb0.trans (hb1.mono hb0.size)
    clear HC hb0 hb1
    go_wp2
    go_ret2
    refine ⟨hlow, ?_⟩
    rw [if_neg he]
    exact rfl
set_option maxRecDepth 100000 in
set_option maxHeartbeats 800000 in
theorem fewestSorts_fn (f : FT) (a : Option Addr) (c : Nat) (r : RU) (s : ByteArray) (w : World) (hF : FAt w a f) (hR : r.at_ w) (hs : s.size ≤ maxLen) :
    Calls Tryz.prog 52 #[.agg #[.string f.name, .int .i64 f.body, .slice a f.sorts.length c], .agg r.cells, .string s] w (SortsPost w fewWay f r s) := by
  have hb0 := ((Below.refl w.heap.size w).alloc (Nat.le_refl _) (boxF f a c)).alloc (by simp) (boxR r)
  have HC := Lib.hid (sortsBy_any fewWay f a c r s ((w.alloc (boxF f a c)).alloc (boxR r)) ⟨hF.ok, hF.at_.below hb0, hF.tab.below hb0 hF.tab.1⟩ (hR.below hb0) hs)
  unfold boxF boxR RU.cells at *
  rw [show fewWay.fn = 95 from rfl] at HC
  by_cases he : sortsErr fewWay f r s = 0
  · go_enter Tryz.func52, Tryz.ntmps52
    go_wp2_with fail
    refine HC.out.mono ?_
    rintro e w1 ⟨hb1, hp1⟩
    rw [if_pos he] at hp1
    obtain ⟨v, l, hS, rfl, hrow⟩ := hp1
    obtain ⟨a9, c9, rfl, -, -, -⟩ := hrow.shape
    have hlow := hb0.trans (hb1.mono hb0.size)
    have hrow' := hrow.mono hb0.size
    clear HC hb0 hb1 hrow
    go_wp2
    go_ret2
    refine ⟨hlow, ?_⟩
    rw [if_pos he]
    exact ⟨_, l, hS, rfl, hrow'⟩
  · go_enter Tryz.func52, Tryz.ntmps52
    go_wp2_with fail
    refine HC.out.mono ?_
    rintro e w1 ⟨hb1, hp1⟩
    rw [if_neg he] at hp1
    subst hp1
    have hlow := hb0.trans (hb1.mono hb0.size)
    clear HC hb0 hb1
    go_wp2
    go_ret2
    refine ⟨hlow, ?_⟩
    rw [if_neg he]
    exact rfl
end Go.Proofs.YtomblajlpanmjaaGreatDoor
/-
  Where the letters of a pattern are found.
-/
namespace Go.Proofs.YtomblajlpanmjaaGreatDoor
open Go.RowKit Go.Maps Go.Shelf
attribute [local go_sem] Oper.semAt_some

/-- A pattern as it lies. -/
structure PV where
  ls : ByteArray
  da : Option Addr
  dl : List Int
  dc : Nat
  st : Bool
  en : Bool
def PV.cells (p : PV) : Array Value := #[.string p.ls, .slice p.da p.dl.length p.dc, .bool p.st, .bool p.en]
def foundB (p : PV) (s : ByteArray) (i : Nat) : Bool := !(p.st && decide (0 < i)) && (!(p.en && decide (i + p.ls.size < s.size)) && preB (s.extract i s.size) p.ls)
abbrev FoundIx (p : PV) (s : ByteArray) := { i : Nat // i + p.ls.size ≤ s.size ∧ foundB p s i = true }
def founds (p : PV) (s : ByteArray) : Nat → List (FoundIx p s)
  | 0 => []
  | k + 1 => founds p s k ++ (if h : k + p.ls.size ≤ s.size ∧ foundB p s k = true then [⟨k, h⟩] else [])
theorem founds_len (p : PV) (s : ByteArray) : ∀ k, (founds p s k).length ≤ k
  | 0 => Nat.le_refl _
  | k + 1 => by
    have := founds_len p s k
    unfold founds
    rw [List.length_append]
    split <;> simp <;> omega
theorem founds_hit {p : PV} {s : ByteArray} {k : Nat} (h : k + p.ls.size ≤ s.size ∧ foundB p s k = true) : founds p s (k + 1) = founds p s k ++ [⟨k, h⟩] := by
  show founds p s k ++ (if h : k + p.ls.size ≤ s.size ∧ foundB p s k = true then [⟨k, h⟩] else []) = _
  rw [dif_pos h]
theorem founds_miss {p : PV} {s : ByteArray} {k : Nat} (h : foundB p s k = false) : founds p s (k + 1) = founds p s k := by
  show founds p s k ++ (if h : k + p.ls.size ≤ s.size ∧ foundB p s k = true then [⟨k, h⟩] else []) = _
  rw [dif_neg (fun e => by rw [h] at e; cases e.2), List.append_nil]
def foundsN (p : PV) (s : ByteArray) : Nat := s.size + 1 - p.ls.size
theorem foundIn_any (p : PV) (s : ByteArray) (w : World) :
    Calls Tryz.prog 187 #[.agg p.cells, .string s] w fun e w' => e = .returned (.func (.func 212) #[] #[.pointer (some ⟨w.heap.size + 1, 0, none⟩), .pointer (some ⟨w.heap.size, 0, none⟩)]) ∧ w' = (w.alloc (.cells p.cells 225)).alloc (.cells #[.string s] 9) := by
  unfold PV.cells
  go_enter Tryz.func187, Tryz.ntmps187
  go_wp2
  go_ret
  exact ⟨rfl, rfl⟩
set_option maxRecDepth 100000 in
set_option maxHeartbeats 1000000 in
theorem foundIn1_any (p : PV) (s : ByteArray) (n₀ b1 b2 l n : Nat) (J Jx : List (FoundIx p s) → World → Prop) (W : World)
    (hb1 : W.heap[b1]? = some (.cells #[.string s] 9 (0, 0))) (hb2 : W.heap[b2]? = some (.cells p.cells 225 (0, 0))) (hs : s.size ≤ 1000) (hls : p.ls.size ≤ 1000)
    (hJ : AbidesFrom W.heap.size J)
    (hY : ∀ pre x W1, J pre W1 → pre.length < foundsN p s → YieldAt Fence.wide (n - 1) Tryz.prog l #[.int .i64 ((x : FoundIx p s).1 : Int)] W1 fun e W' =>
      (e = .returned (.bool true) ∧ J (pre ++ [x]) W' ∧ Kp2 n₀ b1 b2 W1 W') ∨ (e = .returned (.bool false) ∧ Jx (pre ++ [x]) W'))
    (hj0 : J [] W) :
    CallsIn Fence.wide n Tryz.prog 212 #[.func (.yield l) #[] #[], .pointer (some ⟨b1, 0, none⟩), .pointer (some ⟨b2, 0, none⟩)] W fun e W' => (∃ v, e = .returned v) ∧
      ((∃ ys, ys = founds p s (foundsN p s) ∧ J ys W') ∨ (∃ pre, (∃ k, k ≤ foundsN p s ∧ pre = founds p s k) ∧ Jx pre W')) := by
  have hB1 := heap_lt hb1
  have hB2 := heap_lt hb2
  have HB1 := Lib.hid hb1; have HB2 := Lib.hid hb2
  have HJ := Lib.hid hJ
  have HY := Lib.hid hY
  have k1 : W.cell? ⟨b1, 0, none⟩ = some (.string s) := by rw [cell_of_row W b1 0 _ _ (0, 0) hb1]; try rfl
  have k2 : W.cell? ⟨b2, 0, none⟩ = some (.string p.ls) := by rw [cell_of_row W b2 0 _ _ (0, 0) hb2]; try rfl
  have hN : ∀ k : Nat, k < foundsN p s ↔ k + p.ls.size ≤ s.size := fun k => by unfold foundsN; omega
  have HN := Lib.hid hN
  have hNN : foundsN p s ≤ 1001 := by unfold foundsN; omega
  clear hJ hY hb1 hb2 hN
  refine callsIn_of_wp Tryz.func212 rfl trivial ?_ rfl
  simp only [Tryz.ntmps212, List.size_toArray, List.length_cons, List.length_nil, Nat.reduceAdd, Nat.reduceSub, Array.replicate_succ, Array.replicate_zero, List.push_toArray, List.append_toArray, List.nil_append, List.cons_append]
  gi_wp2
  gi_loopw [14] (fun v14 wr => ∃ k : Nat, k ≤ foundsN p s ∧ v14 = .int .i64 k ∧ J (founds p s k) wr ∧ Kp2 n₀ b1 b2 W wr) (fun v14 _ => foundsN p s - (intOf v14).toNat)
  case atStart => exact ⟨0, Nat.zero_le _, rfl, hj0, Kp2.refl _ _ _ _⟩
  case round =>
    obtain ⟨k, hk, rfl, hJs, hK⟩ := hrel
    clear k1 k2 hj0
    have hb1r : wr.heap[b1]? = some (.cells #[.string s] 9 (0, 0)) := hK.2.1.trans HB1.out
    have hb2r : wr.heap[b2]? = some (.cells p.cells 225 (0, 0)) := hK.2.2.trans HB2.out
    have hsz := hK.1.size
    have q1 : wr.cell? ⟨b1, 0, none⟩ = some (.string s) := by rw [cell_of_row wr b1 0 _ _ (0, 0) hb1r]; try rfl
    have q2 : wr.cell? ⟨b2, 0, none⟩ = some (.string p.ls) := by rw [cell_of_row wr b2 0 _ _ (0, 0) hb2r]; try rfl
    have q3 : wr.cell? ⟨b2, 2, none⟩ = some (.bool p.st) := by rw [cell_of_row wr b2 2 _ _ (0, 0) hb2r]; try rfl
    have q4 : wr.cell? ⟨b2, 3, none⟩ = some (.bool p.en) := by rw [cell_of_row wr b2 3 _ _ (0, 0) hb2r]; try rfl
    by_cases hlt : k < foundsN p s
    · have hfit := (HN.out k).1 hlt
      have hlt' : (k : Int) < (s.size : Int) - (p.ls.size : Int) + 1 := by omega
      have hlt2 : (k : Int) ≤ (s.size : Int) := by omega
      have hk0 : (0 : Int) ≤ (k : Int) := by omega
      have HFB := Lib.hid (show foundB p s k = (!(p.st && decide (0 < k)) && (!(p.en && decide (k + p.ls.size < s.size)) && preB (s.extract k s.size) p.ls)) from rfl)
      have hk2 := heap_lt hb2r
      have hk1 := heap_lt hb1r
      clear hb1r hb2r
      cases e1 : p.st
      · rw [e1] at q3 HFB
        cases e2 : p.en
        · rw [e2] at q4 HFB
          cases e4 : preB (s.extract k s.size) p.ls
          · have E4 := Lib.hid e4; clear e4
            have hmB := Lib.hid (founds_miss (show foundB p s k = false by rw [HFB.out]; simp [E4.out]))
            gi_wp2
            refine wpIn_wide.2 ?_
            go_quiet ((go_at_call 162; exact Calls.quiet_of_same (hasPre_eq E4.out)))
            gi_wp2
            go_roundw
            case rel => exact ⟨k + 1, by omega, by go_num, by rw [hmB.out]; exact HJ.out _ _ _ none hJs (grown_of_below (below_drewN (Below.refl _ _) _)) (fun r e => by cases e), hK.trans (Kp2.of_drewN _ _ _ _ _)⟩
            case measure => simp [intOf]; omega
          · have E4 := Lib.hid e4; clear e4
            have hok : foundB p s k = true := by rw [HFB.out]; rw [E4.out]; try rfl
            obtain ⟨xe, hx1, hx2⟩ : ∃ xe : FoundIx p s, xe.1 = k ∧ founds p s (k + 1) = founds p s k ++ [xe] := ⟨⟨k, hfit, hok⟩, rfl, founds_hit ⟨hfit, hok⟩⟩
            have HX2 := Lib.hid hx2
            have HX1 := Lib.hid hx1
            clear hx2 hx1 hok
            gi_wp2
            refine wpIn_wide.2 ?_
            go_quiet ((go_at_call 162; exact Calls.quiet_of_same (hasPre_eq E4.out)))
            have hJB := HJ.out _ _ _ none hJs (grown_of_below (below_drewN (Below.refl wr.heap.size wr) nq)) (fun r e => by cases e)
            obtain ⟨fn, tmps, assign, body, hy, hR⟩ := HY.out _ xe (wr.drewN nq) hJB (by have := founds_len p s k; omega)
            rw [HX1.out] at hy
            have hKB := hK.trans (Kp2.of_drewN n₀ b1 b2 wr nq)
            gi_wp2
            refine ⟨fun h => (by simp [Fence.wide] at h), hR.mono ?_⟩
            rintro e W3 (⟨rfl, hJ3, hk3⟩ | ⟨rfl, hJx3⟩)
            · gi_wp2
              go_roundw
              case rel => exact ⟨k + 1, by omega, by go_num, by rw [HX2.out]; exact hJ3, hKB.trans hk3⟩
              case measure => simp [intOf]; omega
            · gi_wp2
              refine bodyPost_ret (results_none rfl _ _ _) rfl ?_
              exact ⟨⟨_, rfl⟩, .inr ⟨_, ⟨k + 1, by omega, HX2.out.symm⟩, hJx3⟩⟩
        · rw [e2] at q4 HFB
          by_cases hl : k + p.ls.size < s.size
          · have hl' : (k : Int) < (s.size : Int) - (p.ls.size : Int) := by omega
            have hmB := Lib.hid (founds_miss (show foundB p s k = false by rw [HFB.out]; simp [hl]))
            gi_wp2
            refine wpIn_wide.2 ?_
            go_quiet (fail)
            gi_wp2
            go_roundw
            case rel => exact ⟨k + 1, by omega, by go_num, by rw [hmB.out]; exact HJ.out _ _ _ none hJs (grown_of_below (below_drewN (Below.refl _ _) _)) (fun r e => by cases e), hK.trans (Kp2.of_drewN _ _ _ _ _)⟩
            case measure => simp [intOf]; omega
          · have hl' : ¬ (k : Int) < (s.size : Int) - (p.ls.size : Int) := by omega
            have HL := Lib.hid hl; clear hl
            cases e4 : preB (s.extract k s.size) p.ls
            · have E4 := Lib.hid e4; clear e4
              have hmB := Lib.hid (founds_miss (show foundB p s k = false by rw [HFB.out]; simp [E4.out]))
              gi_wp2
              refine wpIn_wide.2 ?_
              go_quiet ((go_at_call 162; exact Calls.quiet_of_same (hasPre_eq E4.out)))
              gi_wp2
              go_roundw
              case rel => exact ⟨k + 1, by omega, by go_num, by rw [hmB.out]; exact HJ.out _ _ _ none hJs (grown_of_below (below_drewN (Below.refl _ _) _)) (fun r e => by cases e), hK.trans (Kp2.of_drewN _ _ _ _ _)⟩
              case measure => simp [intOf]; omega
            · have E4 := Lib.hid e4; clear e4
              have hok : foundB p s k = true := by rw [HFB.out]; rw [E4.out]; simp [HL.out]
              obtain ⟨xe, hx1, hx2⟩ : ∃ xe : FoundIx p s, xe.1 = k ∧ founds p s (k + 1) = founds p s k ++ [xe] := ⟨⟨k, hfit, hok⟩, rfl, founds_hit ⟨hfit, hok⟩⟩
              have HX2 := Lib.hid hx2
              have HX1 := Lib.hid hx1
              clear hx2 hx1 hok
              gi_wp2
              refine wpIn_wide.2 ?_
              go_quiet ((go_at_call 162; exact Calls.quiet_of_same (hasPre_eq E4.out)))
              have hJB := HJ.out _ _ _ none hJs (grown_of_below (below_drewN (Below.refl wr.heap.size wr) nq)) (fun r e => by cases e)
              obtain ⟨fn, tmps, assign, body, hy, hR⟩ := HY.out _ xe (wr.drewN nq) hJB (by have := founds_len p s k; omega)
              rw [HX1.out] at hy
              have hKB := hK.trans (Kp2.of_drewN n₀ b1 b2 wr nq)
              gi_wp2
              refine ⟨fun h => (by simp [Fence.wide] at h), hR.mono ?_⟩
              rintro e W3 (⟨rfl, hJ3, hk3⟩ | ⟨rfl, hJx3⟩)
              · gi_wp2
                go_roundw
                case rel => exact ⟨k + 1, by omega, by go_num, by rw [HX2.out]; exact hJ3, hKB.trans hk3⟩
                case measure => simp [intOf]; omega
              · gi_wp2
                refine bodyPost_ret (results_none rfl _ _ _) rfl ?_
                exact ⟨⟨_, rfl⟩, .inr ⟨_, ⟨k + 1, by omega, HX2.out.symm⟩, hJx3⟩⟩
      · rw [e1] at q3 HFB
        by_cases h0 : 0 < k
        · have h0' : (k : Int) > 0 := by omega
          have hmB := Lib.hid (founds_miss (show foundB p s k = false by rw [HFB.out]; simp [h0]))
          gi_wp2
          refine wpIn_wide.2 ?_
          go_quiet (fail)
          gi_wp2
          go_roundw
          case rel => exact ⟨k + 1, by omega, by go_num, by rw [hmB.out]; exact HJ.out _ _ _ none hJs (grown_of_below (below_drewN (Below.refl _ _) _)) (fun r e => by cases e), hK.trans (Kp2.of_drewN _ _ _ _ _)⟩
          case measure => simp [intOf]; omega
        · have H0 := Lib.hid h0
          cases e2 : p.en
          · rw [e2] at q4 HFB
            cases e4 : preB (s.extract k s.size) p.ls
            · have E4 := Lib.hid e4; clear e4
              have hmB := Lib.hid (founds_miss (show foundB p s k = false by rw [HFB.out]; simp [E4.out]))
              gi_wp2
              refine wpIn_wide.2 ?_
              go_quiet ((go_at_call 162; exact Calls.quiet_of_same (hasPre_eq E4.out)))
              gi_wp2
              go_roundw
              case rel => exact ⟨k + 1, by omega, by go_num, by rw [hmB.out]; exact HJ.out _ _ _ none hJs (grown_of_below (below_drewN (Below.refl _ _) _)) (fun r e => by cases e), hK.trans (Kp2.of_drewN _ _ _ _ _)⟩
              case measure => simp [intOf]; omega
            · have E4 := Lib.hid e4; clear e4
              have hok : foundB p s k = true := by rw [HFB.out]; rw [E4.out]; rw [decide_eq_false H0.out]; try rfl
              obtain ⟨xe, hx1, hx2⟩ : ∃ xe : FoundIx p s, xe.1 = k ∧ founds p s (k + 1) = founds p s k ++ [xe] := ⟨⟨k, hfit, hok⟩, rfl, founds_hit ⟨hfit, hok⟩⟩
              have HX2 := Lib.hid hx2
              have HX1 := Lib.hid hx1
              clear hx2 hx1 hok
              gi_wp2
              refine wpIn_wide.2 ?_
              go_quiet ((go_at_call 162; exact Calls.quiet_of_same (hasPre_eq E4.out)))
              have hJB := HJ.out _ _ _ none hJs (grown_of_below (below_drewN (Below.refl wr.heap.size wr) nq)) (fun r e => by cases e)
              obtain ⟨fn, tmps, assign, body, hy, hR⟩ := HY.out _ xe (wr.drewN nq) hJB (by have := founds_len p s k; omega)
              rw [HX1.out] at hy
              have hKB := hK.trans (Kp2.of_drewN n₀ b1 b2 wr nq)
              gi_wp2
              refine ⟨fun h => (by simp [Fence.wide] at h), hR.mono ?_⟩
              rintro e W3 (⟨rfl, hJ3, hk3⟩ | ⟨rfl, hJx3⟩)
              · gi_wp2
                go_roundw
                case rel => exact ⟨k + 1, by omega, by go_num, by rw [HX2.out]; exact hJ3, hKB.trans hk3⟩
                case measure => simp [intOf]; omega
              · gi_wp2
                refine bodyPost_ret (results_none rfl _ _ _) rfl ?_
                exact ⟨⟨_, rfl⟩, .inr ⟨_, ⟨k + 1, by omega, HX2.out.symm⟩, hJx3⟩⟩
          · rw [e2] at q4 HFB
            by_cases hl : k + p.ls.size < s.size
            · have hl' : (k : Int) < (s.size : Int) - (p.ls.size : Int) := by omega
              have hmB := Lib.hid (founds_miss (show foundB p s k = false by rw [HFB.out]; simp [hl]))
              gi_wp2
              refine wpIn_wide.2 ?_
              go_quiet (fail)
              gi_wp2
              go_roundw
              case rel => exact ⟨k + 1, by omega, by go_num, by rw [hmB.out]; exact HJ.out _ _ _ none hJs (grown_of_below (below_drewN (Below.refl _ _) _)) (fun r e => by cases e), hK.trans (Kp2.of_drewN _ _ _ _ _)⟩
              case measure => simp [intOf]; omega
            · have hl' : ¬ (k : Int) < (s.size : Int) - (p.ls.size : Int) := by omega
              have HL := Lib.hid hl; clear hl
              cases e4 : preB (s.extract k s.size) p.ls
              · have E4 := Lib.hid e4; clear e4
                have hmB := Lib.hid (founds_miss (show foundB p s k = false by rw [HFB.out]; simp [E4.out]))
                gi_wp2
                refine wpIn_wide.2 ?_
                go_quiet ((go_at_call 162; exact Calls.quiet_of_same (hasPre_eq E4.out)))
                gi_wp2
                go_roundw
                case rel => exact ⟨k + 1, by omega, by go_num, by rw [hmB.out]; exact HJ.out _ _ _ none hJs (grown_of_below (below_drewN (Below.refl _ _) _)) (fun r e => by cases e), hK.trans (Kp2.of_drewN _ _ _ _ _)⟩
                case measure => simp [intOf]; omega
              · have E4 := Lib.hid e4; clear e4
                have hok : foundB p s k = true := by rw [HFB.out]; rw [E4.out]; rw [decide_eq_false H0.out]; simp [HL.out]
                obtain ⟨xe, hx1, hx2⟩ : ∃ xe : FoundIx p s, xe.1 = k ∧ founds p s (k + 1) = founds p s k ++ [xe] := ⟨⟨k, hfit, hok⟩, rfl, founds_hit ⟨hfit, hok⟩⟩
                have HX2 := Lib.hid hx2
                have HX1 := Lib.hid hx1
                clear hx2 hx1 hok
                gi_wp2
                refine wpIn_wide.2 ?_
                go_quiet ((go_at_call 162; exact Calls.quiet_of_same (hasPre_eq E4.out)))
                have hJB := HJ.out _ _ _ none hJs (grown_of_below (below_drewN (Below.refl wr.heap.size wr) nq)) (fun r e => by cases e)
                obtain ⟨fn, tmps, assign, body, hy, hR⟩ := HY.out _ xe (wr.drewN nq) hJB (by have := founds_len p s k; omega)
                rw [HX1.out] at hy
                have hKB := hK.trans (Kp2.of_drewN n₀ b1 b2 wr nq)
                gi_wp2
                refine ⟨fun h => (by simp [Fence.wide] at h), hR.mono ?_⟩
                rintro e W3 (⟨rfl, hJ3, hk3⟩ | ⟨rfl, hJx3⟩)
                · gi_wp2
                  go_roundw
                  case rel => exact ⟨k + 1, by omega, by go_num, by rw [HX2.out]; exact hJ3, hKB.trans hk3⟩
                  case measure => simp [intOf]; omega
                · gi_wp2
                  refine bodyPost_ret (results_none rfl _ _ _) rfl ?_
                  exact ⟨⟨_, rfl⟩, .inr ⟨_, ⟨k + 1, by omega, HX2.out.symm⟩, hJx3⟩⟩
    · obtain rfl : k = foundsN p s := by omega
      have hge : ¬ ((foundsN p s : Nat) : Int) < (s.size : Int) - (p.ls.size : Int) + 1 := by have := mt (HN.out (foundsN p s)).2 (by omega); omega
      gi_wp2
      go_end0
      first
        | exact ⟨⟨_, rfl⟩, .inl ⟨_, rfl, hJs⟩⟩
        | exact ⟨⟨_, rfl⟩, .inl hJs⟩
/-- The loop's function over the places at which the letters are found. -/
theorem foundIn_stops (p : PV) (s : ByteArray) (n₀ b1 b2 n : Nat) (w : World)
    (hb1 : w.heap[b1]? = some (.cells #[.string s] 9 (0, 0))) (hb2 : w.heap[b2]? = some (.cells p.cells 225 (0, 0))) (hs : s.size ≤ 1000) (hls : p.ls.size ≤ 1000) :
    SeqStopsK Fence.wide n Tryz.prog 212 #[.pointer (some ⟨b1, 0, none⟩), .pointer (some ⟨b2, 0, none⟩)] (fun x : FoundIx p s => #[.int .i64 (x.1 : Int)]) (Kp2 n₀ b1 b2) (fun ys => ys = founds p s (foundsN p s)) (fun pre => ∃ k, k ≤ foundsN p s ∧ pre = founds p s k) (foundsN p s) w :=
  fun l J Jx W hW hJ _ hY hj0 =>
    foundIn1_any p s n₀ b1 b2 l n J Jx W ((hW.block _ (heap_lt hb1)).trans hb1) ((hW.block _ (heap_lt hb2)).trans hb2) hs hls hJ hY hj0
end Go.Proofs.YtomblajlpanmjaaGreatDoor

/-
  Levels: maths.
-/
namespace Go.Proofs.YtomblajlpanmjaaGreatDoor
open Go.RowKit Go.Maps Go.Shelf

def lvD (a : Nat) (ds : List Int) : Nat → List Int → List Int
  | 0, L => L
  | k + 1, L => (lvD a ds k L).set (a + k) (max ((lvD a ds k L).getD (a + k) 0) (ds.getD k 0))
def lvF (p : PV) (s : ByteArray) (L : List Int) (l : List (FoundIx p s)) : List Int := l.foldl (fun M x => lvD x.1 p.dl p.dl.length M) L
def fixs (p : PV) (s : ByteArray) : List Nat := (List.range (foundsN p s)).filter (foundB p s)
def lvP (p : PV) (s : ByteArray) (L : List Int) : List Int := (fixs p s).foldl (fun M a => lvD a p.dl p.dl.length M) L
theorem lvF_snoc (p : PV) (s : ByteArray) (L : List Int) (l : List (FoundIx p s)) (x : FoundIx p s) : lvF p s L (l ++ [x]) = lvD x.1 p.dl p.dl.length (lvF p s L l) := by
  unfold lvF; rw [List.foldl_append]; try rfl
theorem founds_ix (p : PV) (s : ByteArray) : ∀ k, k ≤ foundsN p s → (founds p s k).map (·.1) = (List.range k).filter (foundB p s)
  | 0, _ => rfl
  | k + 1, h => by
    have ih := founds_ix p s k (by omega)
    rw [List.range_succ, List.filter_append]
    by_cases hm : foundB p s k = true
    · rw [founds_hit ⟨by unfold foundsN at h; omega, hm⟩, List.map_append, ih, List.filter_cons_of_pos (p := foundB p s) (a := k) (l := []) hm]
      rfl
    · rw [founds_miss ((Bool.not_eq_true _).mp hm), ih, List.filter_cons_of_neg (p := foundB p s) (a := k) (l := []) hm]
      simp
theorem lvF_all (p : PV) (s : ByteArray) (L : List Int) : lvF p s L (founds p s (foundsN p s)) = lvP p s L := by
  unfold lvP fixs
  rw [← founds_ix p s _ (Nat.le_refl _), List.foldl_map]
  rfl
/-- A pattern, wherever its digits lie. -/
def pvOf (x : Pat) (s : ByteArray) (A : Option Addr) (c : Nat) : PV := ⟨s, A, x.ds, c, x.start, x.stop⟩
def patP (x : Pat) : PV := pvOf x ⟨x.ls.toArray⟩ none 0
theorem lvP_pat (x : Pat) (ls : ByteArray) (A : Option Addr) (c : Nat) (h : ls.data.toList = x.ls) (s : ByteArray) (L : List Int) : lvP (pvOf x ls A c) s L = lvP (patP x) s L := by
  have e : ls = ⟨x.ls.toArray⟩ := by
    cases ls with
    | mk d => simp at h; rw [← h]
  subst e
  rfl
def lvTo (fn : Nat → Pat) (s : ByteArray) : Nat → List Int
  | 0 => List.replicate (s.size + 1) 0
  | k + 1 => lvP (patP (fn k)) s (lvTo fn s k)
/-- Numbers of a table of levels lie within bounds. -/
def LvOk (n : Nat) (M : List Int) : Prop := M.length = n ∧ ∀ j, 0 ≤ M.getD j 0 ∧ M.getD j 0 ≤ 9
theorem LvOk.set_ {n : Nat} {M : List Int} (h : LvOk n M) (k : Nat) (v : Int) (hv : 0 ≤ v ∧ v ≤ 9) : LvOk n (M.set k v) := by
  refine ⟨by rw [List.length_set]; exact h.1, fun j => ?_⟩
  rw [List.getD_eq_getElem?_getD, List.getElem?_set]
  split
  · split
    · exact hv
    · exact ⟨by decide, by decide⟩
  · rw [← List.getD_eq_getElem?_getD]; exact h.2 j
theorem lvD_ok {n : Nat} {M : List Int} (h : LvOk n M) (a : Nat) {ds : List Int} (hd : ∀ k, ds.getD k 0 ≤ 9) : ∀ k, LvOk n (lvD a ds k M)
  | 0 => h
  | k + 1 => by
    have ih := lvD_ok h a hd k
    have h1 := ih.2 (a + k)
    have h2 := hd k
    exact ih.set_ _ _ ⟨by omega, by omega⟩
theorem lvF_ok {p : PV} {s : ByteArray} {n : Nat} (hd : ∀ k, p.dl.getD k 0 ≤ 9) : ∀ (l : List (FoundIx p s)) {M : List Int}, LvOk n M → LvOk n (lvF p s M l)
  | [], _, h => h
  | x :: l, _, h => lvF_ok hd l (lvD_ok h x.1 hd _)
theorem lvP_ok {p : PV} {s : ByteArray} {n : Nat} {M : List Int} (hd : ∀ k, p.dl.getD k 0 ≤ 9) (h : LvOk n M) : LvOk n (lvP p s M) := by
  rw [← lvF_all]; exact lvF_ok hd _ h
theorem lvTo_ok {fn : Nat → Pat} {s : ByteArray} {m : Nat} (hd : ∀ j, j < m → ∀ k, (fn j).ds.getD k 0 ≤ 9) : ∀ k, k ≤ m → LvOk (s.size + 1) (lvTo fn s k)
  | 0, _ => ⟨by simp [lvTo], fun j => by
      show 0 ≤ (List.replicate (s.size + 1) (0 : Int)).getD j 0 ∧ (List.replicate (s.size + 1) (0 : Int)).getD j 0 ≤ 9
      rw [List.getD_eq_getElem?_getD, List.getElem?_replicate]
      split <;> exact ⟨by decide, by decide⟩⟩
  | k + 1, h => lvP_ok (hd k (by omega)) (lvTo_ok hd k (by omega))
end Go.Proofs.YtomblajlpanmjaaGreatDoor
