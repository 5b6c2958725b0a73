/-
  CopyOf: a copy's parts in memory of their own.
-/
import Derived.Test.YtlkkociijfdcgaaGreatDoorZY
import Derived.Test.YtlkkociijfdcgaaGreatDoorW7
import Derived.Test.YtlkkociijfdcgaaGreatDoorQY
import Derived.Deep.AppendLies
import Derived.Test.YtlkkociijfdcgaaGreatDoorPB
namespace Go.Proofs.YtlkkociijfdcgaaGreatDoor
open Go.RowKit Go.Maps Go.Shelf

theorem infoCP : (Tryz.prog.info? 123).map (fun i => (i.zero, i.size, i.bytes)) = some (some (.agg #[.int .i64 0, .slice none 0 0]), 2, 32) := by kernel_rfl
/-- The first n parts of a copy, that are one's own. -/
def COwn (w : World) (B : Nat) (v : Value) (n : Nat) (l : List CP) : Prop :=
  ∃ xs, w.ownsRow B 123 2 v n xs ∧ ∀ j, j < n → ∃ v2, xs[j * 2]? = some (.int .i64 (l.getD j noCP).kd) ∧ xs[j * 2 + 1]? = some v2 ∧ w.ownsRow B 9 1 v2 (l.getD j noCP).l.length (txs (l.getD j noCP).l)
theorem COwn.below {w w' : World} {B n : Nat} {v : Value} {l : List CP} (h : COwn w B v n l) (hb : Below w.heap.size w w') : COwn w' B v n l := by
  obtain ⟨xs, h1, h2⟩ := h
  refine ⟨xs, own_low2 h1 hb, fun j hj => ?_⟩
  obtain ⟨v2, e1, e2, i2⟩ := h2 j hj
  exact ⟨v2, e1, e2, own_low2 i2 hb⟩
theorem own_monoC {w : World} {base base' e n size : Nat} {v : Value} {xs : List Value} (h : w.ownsRow base e size v n xs) (hB : base' ≤ base) : w.ownsRow base' e size v n xs := by
  rcases h.2 with ⟨e1, e2⟩ | ⟨g, cap, cur, e1, e2, e3, e4⟩
  · exact ⟨h.1, Or.inl ⟨e1, e2⟩⟩
  · exact ⟨h.1, Or.inr ⟨g, cap, cur, e1, Nat.le_trans hB e2, e3, e4⟩⟩
set_option maxRecDepth 100000 in
set_option maxHeartbeats 4000000 in
theorem copyOf_any (a : Option Addr) (l : List CP) (c : Nat) (w : World) (hX : PartsAt w a l) (hl : l.length ≤ 1000) (hO : ∀ k, k < l.length → (l.getD k noCP).l.length ≤ 1000 ∧ ((l.getD k noCP).a = none → (l.getD k noCP).c = 0)) :
    Calls Tryz.prog 29 #[.slice a l.length c] w fun e w' => ∃ v, e = .returned v ∧ COwn w' w.heap.size v l.length l ∧ Below w.heap.size w w' := by
  have HX := Lib.hid hX
  clear hX
  obtain ⟨i0, hi0, hz0, hz1, hz2⟩ := info_parts infoCP
  go_enter Tryz.func29, Tryz.ntmps29
  go_wp2_with fail
  go_loopw [3, 4] (fun v3 v4 wr => ∃ k : Nat, k ≤ l.length ∧ v4 = .int .i64 k ∧ COwn wr w.heap.size v3 k l ∧ Below w.heap.size w wr) (fun _ v4 _ => l.length - (intOf v4).toNat)
  case atStart => exact ⟨0, Nat.zero_le _, rfl, ⟨[], World.ownsRow_nil _ _ _ _, fun _ hj => absurd hj (Nat.not_lt_zero _)⟩, Below.refl _ _⟩
  case round =>
    obtain ⟨k, hk, rfl, hown, hB⟩ := hrel
    by_cases hlt : k < l.length
    · have hkl : (k : Int) < (l.length : Int) := by omega
      have hk0 : (0 : Int) ≤ (k : Int) := by omega
      obtain ⟨ad, rfl, hal, ⟨hc0, hc1⟩, hT⟩ := (HX.out.below hB) k hlt
      obtain ⟨ho1, ho2⟩ := hO k hlt
      have HCO := Lib.hid (fun W (h : TextsAt W (l.getD k noCP).a (l.getD k noCP).l) => copyTexts_any (l.getD k noCP).a (l.getD k noCP).l (l.getD k noCP).c W h (by omega) ho2)
      obtain ⟨x, ex⟩ : ∃ x, x = l.getD k noCP := ⟨_, rfl⟩
      rw [← ex] at hc0 hc1 hT ho1 HCO
      have EX := Lib.hid ex
      obtain ⟨xs, hv, hxs⟩ := hown
      have hxl := hv.1
      obtain ⟨A, d, rfl, hdn, hAd⟩ := own_form hv
      have HXS := Lib.hid hxs
      have hBz := hB.size
      clear ex ho2 hxs
      go_wp2_with fail
      go_region_law (first
        | (refine step_append_lies _ (by rfl) _ _ _ (by rfl) w.heap.size 123 i0 _ 2 32 Tryz.underlying42 hi0 hz0 hz1 hz2 rfl (by omega) _ k _ (by rfl) (hv6.alloc _)
            ⟨w6.heap.size, 0, none⟩ 1 1 [.int .i64 x.kd, .slice (some ⟨g6, 0, none⟩) x.l.length cp6] (by rfl) (by rfl) (World.news_of_block (cs := #[.int .i64 x.kd, .slice (some ⟨g6, 0, none⟩) x.l.length cp6]) (t := 123) (fr := (0, 0)) (heap_alloc_new w6 _)) (by simp [Value.oneCell'])
            (by omega) (by unfold maxLen; omega) (by omega) (by simp; omega) (w6.heap.size + 1) (by simp) ?_; intro gg cap5 w5 hown5 hgrow hat hlt5)
        | (go_simp; refine (HCO.out wr.drew (by exact hT)).mono ?_; rintro e w6 ⟨g6, cp6, rfl, ho6, hb6⟩; have hz6 : wr.heap.size ≤ w6.heap.size := hb6.size; have hv6 := own_low hv.drew hb6; have c06 : w6.cell? (ad.add (k * 2)) = some (.int .i64 x.kd) := (hb6.cell (p := ad.add (k * 2)) (by rw [add_block]; exact hal)).trans hc0))
      all_goals
        have hB5 := ((hB.drew.trans (hb6.mono hBz)).alloc (by omega) (.cells #[.int .i64 x.kd, .slice (some ⟨g6, 0, none⟩) x.l.length cp6] 123)).grown hgrow (by simp; omega) (fun q hq => (hv.lt q hq).1)
        have hown9 : COwn w5 w.heap.size (.slice (some ⟨gg, 0, none⟩) (k + 1) cap5) (k + 1) l := by
          refine ⟨_, hown5, fun j hj => ?_⟩
          by_cases hj2 : j < k
          · obtain ⟨v2, e1, e2, i2⟩ := HXS.out j hj2
            have i6 := own_low i2.drew hb6
            refine ⟨v2, ?_, ?_, (i6.alloc _).kept hgrow (own_apart i6 hv6 (by decide))⟩
            · rw [List.getElem?_append_left (by omega)]; exact e1
            · rw [List.getElem?_append_left (by omega)]; exact e2
          · obtain rfl : j = k := by omega
            rw [← EX.out]
            have o6 := own_monoC ho6 hBz
            refine ⟨_, ?_, ?_, (o6.alloc _).kept hgrow (own_apart o6 hv6 (by decide))⟩
            · rw [List.getElem?_append_right (by omega), hxl, Nat.sub_self]; try rfl
            · rw [List.getElem?_append_right (by omega), hxl, show j * 2 + 1 - j * 2 = 1 by omega]; try rfl
        clear hown5 hgrow hat hlt5 hv6 ho6 hb6 c06
        go_wp2
        go_roundw
        case rel => exact ⟨k + 1, by omega, by go_num, hown9, hB5⟩
        case measure => simp [intOf]; omega
    · obtain rfl : k = l.length := by omega
      have hkl : ¬ (l.length : Int) < (l.length : Int) := by omega
      obtain ⟨xs, hv, -⟩ := id hown
      obtain ⟨A, d, rfl, -, -⟩ := own_form hv
      clear hv
      go_wp2
      go_ret
      exact ⟨_, rfl, hown, hB⟩
end Go.Proofs.YtlkkociijfdcgaaGreatDoor

namespace Go.Proofs.YtlkkociijfdcgaaGreatDoor
open Go.RowKit Go.Maps Go.Shelf

theorem firstAt_congr2 {q q' : Nat → Bool} : ∀ n k, (∀ j, k ≤ j → j < k + n → q j = q' j) → firstAt q n k = firstAt q' n k
  | 0, _, _ => rfl
  | n + 1, k, h => by
    show (if q k = true then some k else firstAt q n (k + 1)) = (if q' k = true then some k else firstAt q' n (k + 1))
    rw [h k (Nat.le_refl _) (by omega), firstAt_congr2 n (k + 1) (fun j h1 h2 => h j (by omega) (by omega))]
/-- One sort more in a table of counts. -/
def tally1 (M : List Int) (n : Int) : List Int := M.set n.toNat (M.getD n.toNat 0 + 1)
def tally (M l : List Int) : List Int := l.foldl tally1 M
def tallyTo (M l : List Int) (k : Nat) : List Int := tally M (l.take k)
theorem tallyTo_succ {M l : List Int} {k : Nat} (h : k < l.length) : tallyTo M l (k + 1) = tally1 (tallyTo M l k) (l.getD k 0) := by
  unfold tallyTo tally
  rw [List.take_succ_eq_append_getElem h, List.foldl_append, List.getD_eq_getElem?_getD, List.getElem?_eq_getElem h]
  rfl
theorem tallyTo_all (M l : List Int) : tallyTo M l l.length = tally M l := by unfold tallyTo; rw [List.take_length]
def wd (f : FT) (r : RU) (ws : List ByteArray) (k : Nat) : List Int := (wordSet f r (ws.getD k noTx)).getD []
def tallyW (f : FT) (r : RU) (ws : List ByteArray) (M : List Int) : Nat → List Int
  | 0 => M
  | k + 1 => tally (tallyW f r ws M k) (wd f r ws k)
def tallyP (f : FT) (r : RU) (l : List CP) (M : List Int) : Nat → List Int
  | 0 => M
  | k + 1 => tallyW f r (l.getD k noCP).l (tallyP f r l M k) (l.getD k noCP).l.length
def noWd (f : FT) (r : RU) (ws : List ByteArray) (k : Nat) : Bool := (wordSet f r (ws.getD k noTx)).isNone
def noPt (f : FT) (r : RU) (l : List CP) (k : Nat) : Bool := (firstAt (noWd f r (l.getD k noCP).l) ((l.getD k noCP).l.length - 0) 0).isSome
def needsE (f : FT) (r : RU) (l : List CP) : Int := if (firstAt (noPt f r l) (l.length - 0) 0).isSome = true then 6 else 0
def needsX (f : FT) (r : RU) (l : List CP) : List Int := tallyP f r l (List.replicate f.sorts.length 0) l.length
/-- A table of counts. -/
def TOk (N : Nat) (b : Int) (M : List Int) : Prop := M.length = N ∧ ∀ j, 0 ≤ M.getD j 0 ∧ M.getD j 0 ≤ b
theorem TOk.mono {N : Nat} {b b' : Int} {M : List Int} (h : TOk N b M) (hb : b ≤ b') : TOk N b' M := ⟨h.1, fun j => ⟨(h.2 j).1, Int.le_trans (h.2 j).2 hb⟩⟩
theorem set_getD (M : List Int) (i j : Nat) (v : Int) : (M.set i v).getD j 0 = if i = j ∧ j < M.length then v else M.getD j 0 := by
  rw [List.getD_eq_getElem?_getD, List.getElem?_set]
  by_cases h : i = j
  · subst h
    by_cases h2 : i < M.length
    · rw [if_pos rfl, if_pos h2, if_pos ⟨rfl, h2⟩]; try rfl
    · rw [if_pos rfl, if_neg h2, if_neg (fun h => h2 h.2), List.getD_eq_getElem?_getD, List.getElem?_eq_none (by omega)]
  · rw [if_neg h, if_neg (fun h2 => h h2.1), List.getD_eq_getElem?_getD]
theorem TOk.one {N : Nat} {b : Int} {M : List Int} (h : TOk N b M) (n : Int) : TOk N (b + 1) (tally1 M n) := by
  refine ⟨by unfold tally1; rw [List.length_set]; exact h.1, fun j => ?_⟩
  unfold tally1
  rw [set_getD]
  have h1 := h.2 j
  have h2 := h.2 n.toNat
  split <;> omega
theorem TOk.all {N : Nat} : ∀ (l : List Int) {b : Int} {M : List Int}, TOk N b M → TOk N (b + (l.length : Int)) (tally M l)
  | [], _, _, h => h.mono (by simp)
  | n :: l, b, M, h => by
    have := TOk.all l (h.one n)
    exact this.mono (by simp; omega)
theorem TOk.to {N : Nat} {b : Int} {M : List Int} (h : TOk N b M) (l : List Int) (k : Nat) (hk : k ≤ l.length) : TOk N (b + (k : Int)) (tallyTo M l k) :=
  (TOk.all (l.take k) h).mono (by rw [List.length_take]; omega)
theorem TOk.zero (N : Nat) : TOk N 0 (List.replicate N 0) := ⟨List.length_replicate, fun j => by rw [rep_getD]; exact ⟨Int.le_refl _, Int.le_refl _⟩⟩
theorem wd_len (f : FT) (r : RU) (ws : List ByteArray) (k : Nat) : (wd f r ws k).length ≤ (ws.getD k noTx).size := by
  unfold wd
  cases h : wordSet f r (ws.getD k noTx) with
  | none => exact Nat.zero_le _
  | some l => exact wordSet_len h
theorem TOk.words {N : Nat} {f : FT} {r : RU} {ws : List ByteArray} {b : Int} {M : List Int} (h : TOk N b M) (hs : ∀ k, k < ws.length → (ws.getD k noTx).size ≤ 1000) : ∀ k, k ≤ ws.length → TOk N (b + 1000 * (k : Int)) (tallyW f r ws M k)
  | 0, _ => h.mono (by omega)
  | k + 1, hk => by
    have := TOk.all (wd f r ws k) (TOk.words (f := f) (r := r) h hs k (by omega))
    refine this.mono ?_
    have h1 := wd_len f r ws k
    have h2 := hs k (by omega)
    omega
/-- The words of a copy are not too long, and not too many. -/
def LowP (l : List CP) : Prop := ∀ k, k < l.length → (l.getD k noCP).l.length ≤ 100 ∧ ∀ j, j < (l.getD k noCP).l.length → ((l.getD k noCP).l.getD j noTx).size ≤ 1000
theorem TOk.parts {N : Nat} {f : FT} {r : RU} {l : List CP} {b : Int} {M : List Int} (h : TOk N b M) (hl : LowP l) : ∀ k, k ≤ l.length → TOk N (b + 100000 * (k : Int)) (tallyP f r l M k)
  | 0, _ => h.mono (by omega)
  | k + 1, hk => by
    obtain ⟨h1, h2⟩ := hl k (by omega)
    refine ((TOk.parts (f := f) (r := r) h hl k (by omega)).words (f := f) (r := r) h2 _ (Nat.le_refl _)).mono ?_
    omega
/-- Counts add up. -/
theorem tally1_add {N : Nat} {M Z : List Int} {n : Int} (hM : M.length = N) (hZ : Z.length = N) {A : List Int} (h : ∀ j, j < N → M.getD j 0 = A.getD j 0 + Z.getD j 0) : ∀ j, j < N → (tally1 M n).getD j 0 = A.getD j 0 + (tally1 Z n).getD j 0 := fun j hj => by
  unfold tally1
  rw [set_getD, set_getD, hM, hZ, h j hj]
  by_cases e : n.toNat = j ∧ j < N
  · rw [if_pos e, if_pos e, e.1, h j hj]; omega
  · rw [if_neg e, if_neg e]
theorem tally1_len (M : List Int) (n : Int) : (tally1 M n).length = M.length := List.length_set
theorem tally_len : ∀ (l : List Int) (M : List Int), (tally M l).length = M.length
  | [], _ => rfl
  | n :: l, M => (tally_len l (tally1 M n)).trans (tally1_len M n)
theorem tally_add {N : Nat} {A : List Int} : ∀ (l : List Int) {M Z : List Int}, M.length = N → Z.length = N → (∀ j, j < N → M.getD j 0 = A.getD j 0 + Z.getD j 0) → ∀ j, j < N → (tally M l).getD j 0 = A.getD j 0 + (tally Z l).getD j 0
  | [], _, _, _, _, h => h
  | n :: l, M, Z, hM, hZ, h => tally_add l (M := tally1 M n) (Z := tally1 Z n) ((tally1_len _ _).trans hM) ((tally1_len _ _).trans hZ) (tally1_add hM hZ h)
theorem tallyW_len (f : FT) (r : RU) (ws : List ByteArray) (M : List Int) : ∀ k, (tallyW f r ws M k).length = M.length
  | 0 => rfl
  | k + 1 => (tally_len _ _).trans (tallyW_len f r ws M k)
theorem tallyW_add {N : Nat} {f : FT} {r : RU} {ws : List ByteArray} {A M Z : List Int} (hM : M.length = N) (hZ : Z.length = N) (h : ∀ j, j < N → M.getD j 0 = A.getD j 0 + Z.getD j 0) : ∀ k, ∀ j, j < N → (tallyW f r ws M k).getD j 0 = A.getD j 0 + (tallyW f r ws Z k).getD j 0
  | 0 => h
  | k + 1 => tally_add _ ((tallyW_len ..).trans hM) ((tallyW_len ..).trans hZ) (tallyW_add hM hZ h k)
theorem tallyP_congr {f : FT} {r : RU} {l l' : List CP} (M : List Int) : ∀ k, (∀ j, j < k → (l'.getD j noCP).l = (l.getD j noCP).l) → tallyP f r l' M k = tallyP f r l M k
  | 0, _ => rfl
  | k + 1, h => by
    show tallyW f r (l'.getD k noCP).l (tallyP f r l' M k) (l'.getD k noCP).l.length = tallyW f r (l.getD k noCP).l (tallyP f r l M k) (l.getD k noCP).l.length
    rw [tallyP_congr M k (fun j hj => h j (by omega)), h k (by omega)]
theorem getD_cat {l : List CP} {x : CP} {j : Nat} (h : j < l.length) : (l ++ [x]).getD j noCP = l.getD j noCP := by
  rw [List.getD_eq_getElem?_getD, List.getD_eq_getElem?_getD, List.getElem?_append_left h]
theorem getD_end (l : List CP) (x : CP) : (l ++ [x]).getD l.length noCP = x := by
  rw [List.getD_eq_getElem?_getD, List.getElem?_append_right (Nat.le_refl _), Nat.sub_self]; try rfl
theorem needs_sum (f : FT) (r : RU) (l : List CP) (x : CP) : ∀ j, j < f.sorts.length → (needsX f r (l ++ [x])).getD j 0 = (needsX f r l).getD j 0 + (needsX f r [x]).getD j 0 := by
  unfold needsX
  rw [List.length_append]
  have hl : (tallyP f r l (List.replicate f.sorts.length 0) l.length).length = f.sorts.length := by
    have : ∀ k, (tallyP f r l (List.replicate f.sorts.length 0) k).length = f.sorts.length := by
      intro k
      induction k with
      | zero => exact List.length_replicate
      | succ k ih => exact (tallyW_len ..).trans ih
    exact this _
  show ∀ j, j < f.sorts.length → (tallyW f r ((l ++ [x]).getD l.length noCP).l (tallyP f r (l ++ [x]) (List.replicate f.sorts.length 0) l.length) ((l ++ [x]).getD l.length noCP).l.length).getD j 0 = (tallyP f r l (List.replicate f.sorts.length 0) l.length).getD j 0 + (tallyW f r x.l (List.replicate f.sorts.length 0) x.l.length).getD j 0
  rw [getD_end, tallyP_congr (l := l) (l' := l ++ [x]) _ l.length (fun j hj => by rw [getD_cat hj])]
  exact tallyW_add (N := f.sorts.length) hl List.length_replicate (fun j _ => by rw [rep_getD]; omega) _
/-- Copies with the same words. -/
def SameP (l l' : List CP) : Prop := l'.length = l.length ∧ ∀ j, j < l.length → (l'.getD j noCP).kd = (l.getD j noCP).kd ∧ (l'.getD j noCP).l = (l.getD j noCP).l
section
variable {l l' : List CP} {f : FT} {r : RU}
theorem needsX_same (h : SameP l l') : needsX f r l' = needsX f r l := by
  unfold needsX
  rw [h.1]
  exact tallyP_congr _ _ (fun j hj => (h.2 j hj).2)
theorem needsE_same (h : SameP l l') : needsE f r l' = needsE f r l := by
  unfold needsE
  rw [h.1]
  rw [firstAt_congr2 (l.length - 0) 0 (q := noPt f r l') (q' := noPt f r l) (fun j _ hj => by unfold noPt; rw [(h.2 j (by omega)).2])]
theorem checkP_same (h : SameP l l') : checkP l' = checkP l := by
  unfold checkP
  rw [h.1]
  have e := firstAt_congr2 (l.length - 0) 0 (q := isBadP l') (q' := isBadP l) (fun j _ hj => by unfold isBadP; rw [(h.2 j (by omega)).1, (h.2 j (by omega)).2])
  rw [e]
  split
  · rfl
  · cases hc : firstAt (isBadP l) (l.length - 0) 0 with
    | none => rfl
    | some i =>
      have := (firstAt_some hc).2.2.1
      show ((i : Int), partErr (l'.getD i noCP).kd (l'.getD i noCP).l) = ((i : Int), partErr (l.getD i noCP).kd (l.getD i noCP).l)
      rw [(h.2 i (by omega)).1, (h.2 i (by omega)).2]
end
theorem okP_same {l l' : List CP} (h : SameP l l') (hO : OkP l) : OkP l' := ⟨by rw [h.1]; exact hO.1, fun k hk => by rw [h.1] at hk; rw [(h.2 k hk).2]; exact hO.2 k hk⟩
theorem exists_list {P : Nat → CP → Prop} : ∀ n, (∀ j, j < n → ∃ x, P j x) → ∃ l : List CP, l.length = n ∧ ∀ j, j < n → P j (l.getD j noCP)
  | 0, _ => ⟨[], rfl, fun _ h => absurd h (Nat.not_lt_zero _)⟩
  | n + 1, h => by
    obtain ⟨l, hl, hp⟩ := exists_list n (fun j hj => h j (by omega))
    obtain ⟨x, hx⟩ := h n (by omega)
    refine ⟨l ++ [x], by rw [List.length_append, hl]; try rfl, fun j hj => ?_⟩
    by_cases e : j = n
    · subst e
      rw [← hl, getD_end, hl]; exact hx
    · rw [getD_cat (by omega)]; exact hp j (by omega)
theorem cown_parts {w : World} {B n : Nat} {v : Value} {l : List CP} (h : COwn w B v n l) (hn : l.length = n) : ∃ A c l', v = .slice A n c ∧ PartsAt w A l' ∧ SameP l l' := by
  obtain ⟨xs, ho, hx⟩ := h
  obtain ⟨l', hl', hp⟩ := exists_list (P := fun j x => xs[j * 2]? = some (.int .i64 x.kd) ∧ xs[j * 2 + 1]? = some (.slice x.a x.l.length x.c) ∧ x.kd = (l.getD j noCP).kd ∧ x.l = (l.getD j noCP).l ∧ TextsAt w x.a x.l) n (fun j hj => by
    obtain ⟨v2, h1, h2, h3⟩ := hx j hj
    rcases h3.2 with ⟨e1, e2⟩ | ⟨g, cap, cur, e1, e2⟩
    · have h0 : (l.getD j noCP).l = [] := List.length_eq_zero_iff.1 e2
      refine ⟨⟨(l.getD j noCP).kd, none, 0, []⟩, h1, ?_, rfl, h0.symm, fun k hk => absurd hk (Nat.not_lt_zero _)⟩
      rw [h2, e1]; try rfl
    · rw [e1] at h3 h2
      exact ⟨⟨(l.getD j noCP).kd, some ⟨g, 0, none⟩, cap, (l.getD j noCP).l⟩, h1, h2, rfl, rfl, texts_of_row h3⟩)
  rcases ho.2 with ⟨e1, e2⟩ | ⟨g, cap, cur, e1, e2⟩
  · subst e2
    exact ⟨none, 0, l', e1, fun k hk => absurd hk (by omega), by omega, fun j hj => absurd hj (by omega)⟩
  · subst e1
    refine ⟨some ⟨g, 0, none⟩, cap, l', rfl, fun k hk => ?_, by omega, fun j hj => ⟨(hp j (by omega)).2.2.1, (hp j (by omega)).2.2.2.1⟩⟩
    obtain ⟨q1, q2, q3, q4, q5⟩ := hp k (by omega)
    refine ⟨_, rfl, (ho.lt g rfl).2, ⟨ho.cells (g := g) rfl (k * 2) _ q1, ?_⟩, q5⟩
    have := ho.cells (g := g) rfl (k * 2 + 1) _ q2
    rw [Addr.add_mid] at this ⊢
    exact this
end Go.Proofs.YtlkkociijfdcgaaGreatDoor

namespace Go.Proofs.YtlkkociijfdcgaaGreatDoor
open Go.RowKit Go.Maps Go.Shelf

theorem part_ok {kd : Int} {l : List ByteArray} (h : partErr kd l = 0) : l.length ≤ 100 ∧ ∀ j, j < l.length → wordErr (l.getD j noTx) = 0 := by
  unfold partErr at h
  split at h
  · exact absurd h (by decide)
  split at h
  · exact absurd h (by decide)
  split at h
  · exact absurd h (by decide)
  split at h
  · exact absurd h (by decide)
  split at h
  · exact absurd h (by decide)
  rename_i h100 _ hb
  refine ⟨by omega, fun j hj => ?_⟩
  have hn : firstAt (badTx l) (l.length - 0) 0 = none := by
    cases hc : firstAt (badTx l) (l.length - 0) 0 with
    | none => rfl
    | some i => rw [hc] at hb; exact absurd rfl hb
  have := firstAt_none hn j (Nat.zero_le _) (by omega)
  unfold badTx at this
  unfold wordErr
  rw [if_pos (by simpa using this)]
theorem parts_ok {l : List CP} (h : (checkP l).2 = 0) : l.length ≤ 60 ∧ ∀ k, k < l.length → (l.getD k noCP).l.length ≤ 100 ∧ ∀ j, j < (l.getD k noCP).l.length → wordErr ((l.getD k noCP).l.getD j noTx) = 0 := by
  unfold checkP at h
  by_cases h60 : 60 < l.length
  · rw [if_pos h60] at h; exact absurd h (by decide)
  · rw [if_neg h60] at h
    refine ⟨by omega, fun k hk => ?_⟩
    cases hf : firstAt (isBadP l) (l.length - 0) 0 with
    | some i =>
      rw [hf] at h
      have := (firstAt_some hf).1
      unfold isBadP at this
      change partErr (l.getD i noCP).kd (l.getD i noCP).l = 0 at h
      rw [h] at this
      exact absurd this (by decide)
    | none =>
      have := firstAt_none hf k (Nat.zero_le _) (by omega)
      unfold isBadP at this
      exact part_ok (kd := (l.getD k noCP).kd) (by simpa using this)
theorem lowP_ok {l : List CP} (h : (checkP l).2 = 0) : LowP l := fun k hk => by
  obtain ⟨h1, h2⟩ := (parts_ok h).2 k hk
  exact ⟨h1, fun j hj => by have := (word_size (h2 j hj)).2; omega⟩
/-- The error of Needs. -/
def needsErr (f : FT) (r : RU) (l : List CP) : Int := if setErr f r ≠ 0 then setErr f r else if (checkP l).2 ≠ 0 then (checkP l).2 else needsE f r l
def NeedsPost (w : World) (N : Nat) (E : Int) (X : List Int) (e : Ending) (w' : World) : Prop :=
  Below w.heap.size w w' ∧ if E ≠ 0 then e = .returned (.tuple #[.slice none 0 0, .int .i64 E]) else ∃ g, e = .returned (.tuple #[.slice (some ⟨g, 0, none⟩) N N, .int .i64 0]) ∧ RowX w' g X
/-- Words and counts, in the middle of a copy. -/
structure NdB (w W2 : World) (g : Nat) (M : List Int) (wr : World) : Prop where
  low : Below W2.heap.size W2 wr
  row : RowX wr g M
set_option maxRecDepth 100000 in
set_option maxHeartbeats 4000000 in
theorem needs_any (f : FT) (a : Option Addr) (c : Nat) (r : RU) (b : Option Addr) (l : List CP) (d : Nat) (w : World) (hF : FAt w a f) (hR : r.at_ w) (hX : PartsAt w b l) (hO : OkP l) :
    Calls Tryz.prog 55 #[.agg #[.string f.name, .int .i64 f.body, .slice a f.sorts.length c], .agg r.cells, .slice b l.length d] w (NeedsPost w f.sorts.length (needsErr f r l) (needsX f r l)) := by
  have hb0 := ((Below.refl w.heap.size w).alloc (Nat.le_refl _) (.cells #[.string f.name, .int .i64 f.body, .slice a f.sorts.length c] 59)).alloc (by simp) (.cells #[.slice r.ps.a r.ps.l.length r.ps.c, .slice r.es.a r.es.l.length r.es.c, .slice r.bs.a r.bs.l.length r.bs.c, .int .i64 r.left, .int .i64 r.right] 24)
  have n0 : ((w.alloc (.cells #[.string f.name, .int .i64 f.body, .slice a f.sorts.length c] 59)).alloc (.cells #[.slice r.ps.a r.ps.l.length r.ps.c, .slice r.es.a r.es.l.length r.es.c, .slice r.bs.a r.bs.l.length r.bs.c, .int .i64 r.left, .int .i64 r.right] 24)).heap[w.heap.size]? = some (.cells #[.string f.name, .int .i64 f.body, .slice a f.sorts.length c] 59 (0, 0)) := heap_keep (heap_new w _)
  have HSO := Lib.hid (setterOf_any f a c r _ (hF.below hb0) (hR.below hb0))
  have HCK := Lib.hid (fun W (h : Below w.heap.size w W) => CheckParts_any b l d W (hX.below h) hO)
  have hl' : l.length ≤ 9223372036854775807 := by have := hO.1; unfold maxLen at this; omega
  have HX := Lib.hid hX
  obtain ⟨E, hE⟩ : ∃ E, E = needsErr f r l := ⟨_, rfl⟩
  have HE := Lib.hid hE
  rw [← hE]
  unfold RU.cells at *
  clear hE hX
  by_cases h0 : setErr f r = 0
  · have hb : (setErr f r != 0) = false := by rw [h0]; try rfl
    have hcf : (checkF f).2 = 0 ∧ (checkR r).2 = 0 := by
      unfold setErr at h0
      by_cases h1 : (checkF f).2 = 0
      · rw [if_neg (fun h => h h1)] at h0; exact ⟨h1, h0⟩
      · rw [if_pos h1] at h0; exact absurd h0 h1
    have HWO := Lib.hid (fun W g b1 b2 base s (hFS : SortsAt W a f.sorts) (hB : BookAt W base r g b1 b2) (hs : s.size ≤ maxLen) => setWord_any f a c r g b1 b2 base s W hFS hB hcf.1 hs)
    have HFS := Lib.hid hF.at_
    have H0 := Lib.hid h0
    have HE2 := Lib.hid (show E = if (checkP l).2 ≠ 0 then (checkP l).2 else needsE f r l by rw [HE.out]; unfold needsErr; rw [if_neg (fun h => h h0)])
    have HPO := Lib.hid (fun (h : (checkP l).2 = 0) => parts_ok h)
    have HLW := Lib.hid (fun (h : (checkP l).2 = 0) => lowP_ok h)
    have hN : f.sorts.length ≤ 1000000 := by have := frame_ok hcf.1; omega
    unfold setV at HWO
    clear hF hR h0 HE hcf hO
    obtain ⟨CP1, hCP1⟩ : ∃ x, x = (checkP l).1 := ⟨_, rfl⟩
    obtain ⟨CP2, hCP2⟩ : ∃ x, x = (checkP l).2 := ⟨_, rfl⟩
    rw [← hCP1, ← hCP2] at HCK
    rw [← hCP2] at HE2 HPO HLW
    clear hCP1 hCP2
    go_enter Tryz.func55, Tryz.ntmps55
    go_wp2_with fail
    refine HSO.out.mono ?_
    rintro e w1 ⟨hb1, hp1⟩
    rw [if_pos H0.out] at hp1
    obtain ⟨g, b1, b2, rfl, hbk⟩ := hp1
    have hlow1 := hb0.trans (hb1.mono hb0.size)
    have n1 := (hb1.block _ (heap_lt n0)).trans n0
    have hst := heap_new w1 (.cells #[.string f.name, .int .i64 f.body, .slice a f.sorts.length c, .slice (some ⟨g, 0, none⟩) r.ps.l.length r.ps.l.length, .map (some b1), .map (some b2), .int .i64 r.left, .int .i64 r.right] 183)
    have n2 := heap_keep (o := .cells #[.string f.name, .int .i64 f.body, .slice a f.sorts.length c, .slice (some ⟨g, 0, none⟩) r.ps.l.length r.ps.l.length, .map (some b1), .map (some b2), .int .i64 r.left, .int .i64 r.right] 183) n1
    have hlow2 := hlow1.alloc hlow1.size (.cells #[.string f.name, .int .i64 f.body, .slice a f.sorts.length c, .slice (some ⟨g, 0, none⟩) r.ps.l.length r.ps.l.length, .map (some b1), .map (some b2), .int .i64 r.left, .int .i64 r.right] 183)
    have hbk2 := hbk.alloc (.cells #[.string f.name, .int .i64 f.body, .slice a f.sorts.length c, .slice (some ⟨g, 0, none⟩) r.ps.l.length r.ps.l.length, .map (some b1), .map (some b2), .int .i64 r.left, .int .i64 r.right] 183)
    unfold setV
    obtain ⟨W1, hW1⟩ : ∃ W1, W1 = w1.alloc (.cells #[.string f.name, .int .i64 f.body, .slice a f.sorts.length c, .slice (some ⟨g, 0, none⟩) r.ps.l.length r.ps.l.length, .map (some b1), .map (some b2), .int .i64 r.left, .int .i64 r.right] 183) := ⟨_, rfl⟩
    rw [← hW1] at hst hlow2 hbk2 n2
    have hK1 : StK w w1.heap.size f a c r g b1 b2 W1 := ⟨hst, hlow2⟩
    have HW1 := Lib.hid hW1
    have hlt1 := hlow1.size
    clear hW1 hst hbk hb1 HSO hlow1 hb0 n1 n0
    go_wp2_with fail
    rw [← HW1.out]
    refine (HCK.out W1 hlow2).mono ?_
    rintro e W2 ⟨rfl, hb2⟩
    have hK2 := hK1.below hb2
    have hbk3 := hbk2.below hb2
    have n3 := (hb2.block _ (heap_lt n2)).trans n2
    have hz2 := hb2.size
    have hltW : w1.heap.size < W1.heap.size := heap_lt hK1.box
    clear hK1 hbk2 n2 hb2 HCK hlow2 HW1
    by_cases hc : CP2 = 0
    · subst hc
      have HE3 := Lib.hid (show E = needsE f r l by rw [HE2.out, if_neg (fun h => h rfl)])
      obtain ⟨hl60, hpok⟩ := HPO.out rfl
      have HPK := Lib.hid hpok
      have hlow := HLW.out rfl
      have HT := Lib.hid (fun k (hk : k ≤ l.length) => TOk.parts (N := f.sorts.length) (f := f) (r := r) (TOk.zero f.sorts.length) hlow k hk)
      have HLW2 := Lib.hid hlow
      have q2 : W2.cell? ⟨w.heap.size, 2, none⟩ = some (.slice a f.sorts.length c) := cell_of_row W2 _ 2 _ _ (0, 0) n3
      have hmk := fun W => (show (Instr.makeSlice 63 (.int .i64 (f.sorts.length : Int)) (.int .i64 (f.sorts.length : Int))).run Tryz.prog W = .ok (.slice (some ⟨W.heap.size, 0, none⟩) f.sorts.length f.sorts.length) (W.alloc (.cells (madeCells #[.int .i64 0] f.sorts.length) 3)) from
        run_make_row' (P := Tryz.prog) 63 3 (.int .i64 0) 8 Tryz.underlying63 info3 rfl .i64 .i64 f.sorts.length (by omega) (by omega) W)
      have hr3 : RowX (W2.alloc (.cells (madeCells #[.int .i64 0] f.sorts.length) 3)) W2.heap.size (tallyP f r l (List.replicate f.sorts.length 0) 0) := by
        unfold RowX
        rw [heap_new]
        congr 2
        apply Array.ext'
        rw [toList_madeCells_one]
        show _ = vals (List.replicate f.sorts.length 0)
        simp [vals]
      have hB3 := (Below.refl W2.heap.size W2).alloc (Nat.le_refl _) (.cells (madeCells #[.int .i64 0] f.sorts.length) 3)
      have HST := Lib.hid (show needsE f r l = if (firstAt (noPt f r l) (l.length - 0) 0).isSome = true then 6 else 0 from rfl)
      obtain ⟨Z, hZ⟩ : ∃ Z, Z = List.replicate f.sorts.length (0 : Int) := ⟨_, rfl⟩
      have HNX := Lib.hid (show tallyP f r l Z l.length = needsX f r l by rw [hZ]; try rfl)
      rw [← hZ] at HT hr3
      clear hlow hpok HPO HLW hZ HE2
      go_wp2_with fail
      clear hmk
      go_loopw [44] (fun v44 wr => ∃ k : Nat, k ≤ l.length ∧ v44 = .int .i64 k ∧ Hid (firstAt (noPt f r l) (l.length - 0) 0 = firstAt (noPt f r l) (l.length - k) k) ∧ NdB w W2 W2.heap.size (tallyP f r l Z k) wr) (fun v44 _ => l.length - (intOf v44).toNat)
      case atStart => exact ⟨0, Nat.zero_le _, rfl, Lib.hid rfl, ⟨hB3, hr3⟩⟩
      case round =>
        obtain ⟨k, hk, rfl, HS, hN1⟩ := hrel
        clear hB3 hr3
        have hKr := hK2.below hN1.low
        by_cases hlt : k < l.length
        · have hkl : (k : Int) < (l.length : Int) := by omega
          obtain ⟨p0, hp0, hp1, hc1, ht1⟩ := (HX.out.below hKr.low) k hlt
          subst hp0
          obtain ⟨p0', hp0', -, -, ht0⟩ := HX.out k hlt
          have hpk := HPK.out k hlt
          have hnp : noPt f r l k = (firstAt (noWd f r (l.getD k noCP).l) ((l.getD k noCP).l.length - 0) 0).isSome := rfl
          have htk : tallyP f r l Z (k + 1) = tallyW f r (l.getD k noCP).l (tallyP f r l Z k) (l.getD k noCP).l.length := rfl
          obtain ⟨P, hP⟩ : ∃ P, P = l.getD k noCP := ⟨_, rfl⟩
          rw [← hP] at hc1 ht1 hpk hnp htk ht0
          obtain ⟨hP100, hpw⟩ := hpk
          have HPW := Lib.hid hpw
          have hsz1 : ∀ j, j < P.l.length → (P.l.getD j noTx).size ≤ 1000 := fun j hj => by have := (word_size (hpw j hj)).2; omega
          have HTW := Lib.hid (fun j (hj : j ≤ P.l.length) => (HT.out k hk).words (f := f) (r := r) hsz1 j hj)
          have HNP := Lib.hid hnp
          have HTK := Lib.hid htk
          have HTX := Lib.hid ht0
          obtain ⟨M, hM⟩ : ∃ M, M = tallyP f r l Z k := ⟨_, rfl⟩
          rw [← hM] at hN1 HTW HTK
          obtain ⟨y1, y2⟩ := hc1
          have hbA := (Below.refl wr.heap.size wr).alloc (Nat.le_refl _) (.cells #[.int .i64 P.kd, .slice P.a P.l.length P.c] 123)
          have hN2 : NdB w W2 W2.heap.size M (wr.alloc (.cells #[.int .i64 P.kd, .slice P.a P.l.length P.c] 123)) := ⟨hN1.low.trans (hbA.mono hN1.low.size), hN1.row.below hbA⟩
          have hM0 : tallyW f r P.l M 0 = M := rfl
          rw [← hM0] at hN2
          have hm := HT.out k hk
          clear hP hp0' ht0 ht1 hpw hsz1 hnp htk hM hN1 hKr hbA hM0 hm
          go_wp2_with fail
          go_loopw [51] (fun v51 wi => ∃ j : Nat, j ≤ P.l.length ∧ v51 = .int .i64 j ∧ Hid (firstAt (noWd f r P.l) (P.l.length - 0) 0 = firstAt (noWd f r P.l) (P.l.length - j) j) ∧ NdB w W2 W2.heap.size (tallyW f r P.l M j) wi) (fun v51 _ => P.l.length - (intOf v51).toNat)
          case atStart => exact ⟨0, Nat.zero_le _, rfl, Lib.hid rfl, hN2⟩
          case round =>
            obtain ⟨j, hj, rfl, HS2, hN3⟩ := hrel
            clear hN2
            have hKr := hK2.below hN3.low
            by_cases hjt : j < P.l.length
            · have hjl : (j : Int) < (P.l.length : Int) := by omega
              obtain ⟨pw, hpa, hpw1, hpw2⟩ := (HTX.out.below hKr.low).at_ hjt
              rw [hpa]
              have hwe := HPW.out j hjt
              have hnw : noWd f r P.l j = (wordSet f r (P.l.getD j noTx)).isNone := rfl
              have hwd : wd f r P.l j = (wordSet f r (P.l.getD j noTx)).getD [] := rfl
              have htw : tallyW f r P.l M (j + 1) = tally (tallyW f r P.l M j) (wd f r P.l j) := rfl
              obtain ⟨t, ht⟩ : ∃ t, t = P.l.getD j noTx := ⟨_, rfl⟩
              rw [← ht] at hpw2 hwe hnw hwd
              have hts := (word_size hwe).2
              have HW := Lib.hid (HWO.out wr g b1 b2 _ t (HFS.out.below hKr.low) (hbk3.below hN3.low) (by unfold maxLen; omega))
              have HOI := Lib.hid (fun ls (h : wordSet f r t = some ls) => And.intro (wordSet_idx h) (wordSet_len h))
              rw [hwe] at HW
              obtain ⟨o, ho⟩ : ∃ o, o = wordSet f r t := ⟨_, rfl⟩
              rw [← ho] at HW HOI hnw hwd
              obtain ⟨c0, c1, c2, c3, c4, c5, c6, c7⟩ := hKr.sc
              have HNW := Lib.hid hnw
              have HWD := Lib.hid hwd
              have HTT := Lib.hid htw
              clear ht ho hnw hwd htw hwe hpw1
              cases o with
              | none =>
                go_wp2_with fail
                refine HW.out.mono ?_
                rintro e w5 ⟨hb5, hp5⟩
                rw [if_neg (fun h => h rfl)] at hp5
                dsimp only at hp5
                subst hp5
                have hlow5 := (hKr.below hb5).low
                have h1 : firstAt (noWd f r P.l) (P.l.length - 0) 0 = some j := by rw [HS2.out]; exact firstAt_stop hjt (by rw [HNW.out]; rfl)
                have h2 : noPt f r l k = true := by rw [HNP.out, h1]; try rfl
                have h3 : firstAt (noPt f r l) (l.length - 0) 0 = some k := by rw [HS.out]; exact firstAt_stop hlt h2
                have HV := Lib.hid (show E = 6 by rw [HE3.out, HST.out, h3]; try rfl)
                clear h1 h2 h3
                go_wp2
                go_ret2
                rw [HV.out]
                exact ⟨hlow5, rfl⟩
              | some ls =>
                obtain ⟨hix, hln⟩ := HOI.out ls rfl
                have hlo := hKr.low
                have hg5 := hN3.row.lt
                have hT0 := HTW.out j hj
                go_wp2_with fail
                refine HW.out.mono ?_
                rintro e w5 ⟨hb5, hp5⟩
                rw [if_neg (fun h => h rfl)] at hp5
                dsimp only at hp5
                obtain ⟨A5, k5, rfl, hI5⟩ := hp5
                have hN5 : NdB w W2 W2.heap.size (tallyTo (tallyW f r P.l M j) ls 0) w5 := ⟨hN3.low.trans (hb5.mono hN3.low.size), hN3.row.below hb5⟩
                obtain ⟨U, hU⟩ : ∃ U, U = tallyW f r P.l M j := ⟨_, rfl⟩
                rw [← hU] at hN5 hT0
                have HTT2 := Lib.hid (show tallyW f r P.l M (j + 1) = tally U ls by rw [HTT.out, HWD.out, hU]; try rfl)
                obtain ⟨B5, hB5⟩ : ∃ B, B = wr.heap.size := ⟨_, rfl⟩
                rw [← hB5] at hI5 hg5
                have HIX := Lib.hid hix
                have HT5 := Lib.hid hT0
                clear hU hB5 hKr hN3 hb5 hlo c0 c1 c2 c3 c4 c5 c6 c7 HW hix hT0 hpw2 HTT
                go_wp2_with fail
                go_loopw [66] (fun v66 wi => ∃ i : Nat, i ≤ ls.length ∧ v66 = .int .i64 i ∧ NdB w W2 W2.heap.size (tallyTo U ls i) wi ∧ IRow wi B5 (.slice A5 ls.length k5) ls) (fun v66 _ => ls.length - (intOf v66).toNat)
                case atStart => exact ⟨0, Nat.zero_le _, rfl, hN5, hI5⟩
                case round =>
                  obtain ⟨i, hi, rfl, hN6, hI6⟩ := hrel
                  clear hN5 hI5
                  by_cases hit : i < ls.length
                  · have hil : (i : Int) < (ls.length : Int) := by omega
                    obtain ⟨x, hx, hxe⟩ := HIX.out i hit
                    obtain ⟨ad, hae, hal, hay⟩ := hI6.ints.2 i hit
                    rw [hxe] at hay
                    have hT6 := HT5.out.to ls i hi
                    have ca := hN6.row.cell (j := x) (by rw [hT6.1]; exact hx)
                    have fa := hN6.row.frozen x
                    have hTS := Lib.hid (tallyTo_succ (M := U) hit)
                    obtain ⟨V, hV⟩ : ∃ V, V = tallyTo U ls i := ⟨_, rfl⟩
                    rw [← hV] at ca hT6 hTS hN6
                    rw [hxe] at hTS
                    obtain ⟨cv, hcv⟩ : ∃ cv, cv = V.getD x 0 := ⟨_, rfl⟩
                    have hcb := hT6.2 x
                    rw [← hcv] at ca hcb
                    have HCV := Lib.hid (show tallyTo U ls (i + 1) = V.set x (cv + 1) by rw [hTS.out, hcv]; try rfl)
                    have j0 : (0 : Int) ≤ (x : Int) := by omega
                    have j1 : (x : Int) < (f.sorts.length : Int) := by omega
                    have j3 : IntKind.i64.wrap (cv + 1) = cv + 1 := by rw [IntKind.wrap_i64]; omega
                    have hN7 : NdB w W2 W2.heap.size (V.set x (cv + 1)) (wr.setCell ⟨W2.heap.size, x, none⟩ (.int .i64 (cv + 1))) := ⟨hN6.low.setCell (p := ⟨W2.heap.size, x, none⟩) (Nat.le_refl _) _, hN6.row.set_ x (cv + 1)⟩
                    have hI7 := hI6.set (p := ⟨W2.heap.size, x, none⟩) hg5 (.int .i64 (cv + 1))
                    have HXE := Lib.hid hxe
                    subst hae
                    clear hcv hV hxe hTS hT6 hal
                    go_wp2_with fail
                    go_roundw
                    case rel => exact ⟨i + 1, by omega, by go_num, by rw [HCV.out]; exact hN7, hI7⟩
                    case measure => simp [intOf]; omega
                  · obtain rfl : i = ls.length := by omega
                    have hil : ¬ (ls.length : Int) < (ls.length : Int) := by omega
                    rw [tallyTo_all] at hN6
                    have HS3 := Lib.hid (HS2.out.trans (firstAt_go hjt (by rw [HNW.out]; rfl)))
                    clear hI6
                    go_wp2
                    go_roundw
                    case rel => exact ⟨j + 1, by omega, by go_num, HS3, by rw [HTT2.out]; exact hN6⟩
                    case measure => simp [intOf]; omega
            · obtain rfl : j = P.l.length := by omega
              have hjl : ¬ (P.l.length : Int) < (P.l.length : Int) := by omega
              have h1 := firstAt_end (q := noWd f r P.l) hjt
              have HS4 := Lib.hid (HS.out.trans (firstAt_go hlt (by rw [HNP.out, HS2.out, h1]; rfl)))
              clear h1 hKr
              go_wp2
              go_roundw
              case rel => exact ⟨k + 1, by omega, by go_num, HS4, by rw [HTK.out]; exact hN3⟩
              case measure => simp [intOf]; omega
        · obtain rfl : k = l.length := by omega
          have hkl : ¬ (l.length : Int) < (l.length : Int) := by omega
          have h1 := firstAt_end (q := noPt f r l) hlt
          have HV := Lib.hid (show E = 0 by rw [HE3.out, HST.out, HS.out, h1]; try rfl)
          have hlow := hKr.low
          have hrow := hN1.row
          rw [HNX.out] at hrow
          clear h1 hKr hN1
          go_wp2
          go_ret2
          rw [HV.out]
          exact ⟨hlow, _, rfl, hrow⟩
    · have hcb : (CP2 != 0) = true := by simpa using hc
      have HV := Lib.hid (show E = CP2 by rw [HE2.out, if_pos hc])
      have hlow := hK2.low
      clear HE2
      go_wp2
      go_ret2
      rw [HV.out]
      exact ⟨hlow, by rw [if_pos hc]; try rfl⟩
  · have hb : (setErr f r != 0) = true := by simpa using h0
    have HV := Lib.hid (show E = setErr f r by rw [HE.out]; unfold needsErr; rw [if_pos h0])
    have H0 := Lib.hid h0
    clear h0 HE hF hR hO
    go_enter Tryz.func55, Tryz.ntmps55
    go_wp2_with fail
    refine HSO.out.mono ?_
    rintro e w1 ⟨hb1, hp1⟩
    rw [if_neg H0.out] at hp1
    subst hp1
    have hlow1 := hb0.trans (hb1.mono hb0.size)
    have hlow2 := hlow1.alloc hlow1.size (.cells #[.string ⟨#[]⟩, .int .i64 0, .slice none 0 0, .slice none 0 0, .map none, .map none, .int .i64 0, .int .i64 0] 183)
    unfold noSet
    clear hb1 hb0 HSO hlow1
    go_wp2
    go_ret2
    rw [HV.out]
    exact ⟨hlow2, by rw [if_pos H0.out]; try rfl⟩
end Go.Proofs.YtlkkociijfdcgaaGreatDoor

namespace Go.Proofs.YtlkkociijfdcgaaGreatDoor
open Go.RowKit Go.Maps Go.Shelf

theorem FRK.set {w wr : World} {f : FT} {a : Option Addr} {c : Nat} {r : RU} (h : FRK w f a c r wr) (j : Nat) (u : Value) : FRK w f a c r (wr.setCell ⟨w.heap.size + 2, j, none⟩ u) :=
  ⟨(Below.heap_setCell _ _ _ _ (by show w.heap.size ≠ w.heap.size + 2; omega)).trans h.fb, (Below.heap_setCell _ _ _ _ (by show w.heap.size + 1 ≠ w.heap.size + 2; omega)).trans h.rb, h.low.setCell (p := ⟨w.heap.size + 2, j, none⟩) (by show w.heap.size ≤ w.heap.size + 2; omega) u⟩
theorem FRK.drew {w wr : World} {f : FT} {a : Option Addr} {c : Nat} {r : RU} (h : FRK w f a c r wr) : FRK w f a c r wr.drew := ⟨h.fb, h.rb, h.low.drew⟩
set_option maxRecDepth 100000 in
set_option maxHeartbeats 4000000 in
theorem refNeeds_any (f : FT) (a : Option Addr) (c : Nat) (r : RU) (b : Option Addr) (l : List CP) (d : Nat) (w : World) (hF : SortsAt w a f.sorts) (hR : r.at_ w) (hSm : RSmall r) (hcf : (checkF f).2 = 0) (hcr : (checkR r).2 = 0) (hX : PartsAt w b l) (hcp : (checkP l).2 = 0) :
    Calls Tryz.prog 56 #[.agg #[.string f.name, .int .i64 f.body, .slice a f.sorts.length c], .agg r.cells, .slice b l.length d] w (NeedsPost w f.sorts.length (needsE f r l) (needsX f r l)) := by
  have hK0 := frk_start w f a c r
  have HX := Lib.hid hX
  have HSO := Lib.hid (fun s W (h : FRK w f a c r W) (hs : s.size ≤ 1000) => refSortsOf_any f a c r s W (hF.below h.low) (hR.below h.low) hSm hcf hcr hs)
  have hN : f.sorts.length ≤ 1000000 := by have := frame_ok hcf; omega
  obtain ⟨hl60, hpok⟩ := parts_ok hcp
  have HPK := Lib.hid hpok
  have hlow := lowP_ok hcp
  have HT := Lib.hid (fun k (hk : k ≤ l.length) => TOk.parts (N := f.sorts.length) (f := f) (r := r) (TOk.zero f.sorts.length) hlow k hk)
  obtain ⟨E, hE⟩ : ∃ E, E = needsE f r l := ⟨_, rfl⟩
  have HE3 := Lib.hid (show E = if (firstAt (noPt f r l) (l.length - 0) 0).isSome = true then 6 else 0 from hE)
  rw [← hE]
  unfold RU.cells at *
  clear hE hX hF hR hcf hcr hcp hpok hlow
  obtain ⟨q0, q1, q2⟩ := hK0.fc
  have hmk := fun W => (show (Instr.makeSlice 63 (.int .i64 (f.sorts.length : Int)) (.int .i64 (f.sorts.length : Int))).run Tryz.prog W = .ok (.slice (some ⟨W.heap.size, 0, none⟩) f.sorts.length f.sorts.length) (W.alloc (.cells (madeCells #[.int .i64 0] f.sorts.length) 3)) from
    run_make_row' (P := Tryz.prog) 63 3 (.int .i64 0) 8 Tryz.underlying63 info3 rfl .i64 .i64 f.sorts.length (by omega) (by omega) W)
  obtain ⟨W2, hW2⟩ : ∃ W2, W2 = (w.alloc (.cells #[.string f.name, .int .i64 f.body, .slice a f.sorts.length c] 59)).alloc (.cells #[.slice r.ps.a r.ps.l.length r.ps.c, .slice r.es.a r.es.l.length r.es.c, .slice r.bs.a r.bs.l.length r.bs.c, .int .i64 r.left, .int .i64 r.right] 24) := ⟨_, rfl⟩
  have hz2 : W2.heap.size = w.heap.size + 2 := by rw [hW2]; simp
  have hr3 : RowX (W2.alloc (.cells (madeCells #[.int .i64 0] f.sorts.length) 3)) (w.heap.size + 2) (tallyP f r l (List.replicate f.sorts.length 0) 0) := by
    unfold RowX
    rw [← hz2, heap_new]
    congr 2
    apply Array.ext'
    rw [toList_madeCells_one]
    show _ = vals (List.replicate f.sorts.length 0)
    simp [vals]
  rw [← hW2] at hK0
  have hK1 := hK0.below ((Below.refl W2.heap.size W2).alloc (Nat.le_refl _) (.cells (madeCells #[.int .i64 0] f.sorts.length) 3))
  rw [hW2] at hK1 hr3
  obtain ⟨Z, hZ⟩ : ∃ Z, Z = List.replicate f.sorts.length (0 : Int) := ⟨_, rfl⟩
  have HNX := Lib.hid (show tallyP f r l Z l.length = needsX f r l by rw [hZ]; try rfl)
  rw [← hZ] at HT hr3
  clear hZ hK0 hz2 hW2
  go_enter Tryz.func56, Tryz.ntmps56
  go_wp2_with fail
  clear hmk q0 q1 q2
  go_loopw [9] (fun v9 wr => ∃ k : Nat, k ≤ l.length ∧ v9 = .int .i64 k ∧ Hid (firstAt (noPt f r l) (l.length - 0) 0 = firstAt (noPt f r l) (l.length - k) k) ∧ FRK w f a c r wr ∧ RowX wr (w.heap.size + 2) (tallyP f r l Z k)) (fun v9 _ => l.length - (intOf v9).toNat)
  case atStart => exact ⟨0, Nat.zero_le _, rfl, Lib.hid rfl, hK1, hr3⟩
  case round =>
    obtain ⟨k, hk, rfl, HS, hK1', hN1⟩ := hrel
    clear hK1 hr3
    by_cases hlt : k < l.length
    · have hkl : (k : Int) < (l.length : Int) := by omega
      have hk0 : (0 : Int) ≤ (k : Int) := by omega
      obtain ⟨p0, hp0, hp1, hc1, ht0⟩ := HX.out k hlt
      have hpk := HPK.out k hlt
      have hnp : noPt f r l k = (firstAt (noWd f r (l.getD k noCP).l) ((l.getD k noCP).l.length - 0) 0).isSome := rfl
      have htk : tallyP f r l Z (k + 1) = tallyW f r (l.getD k noCP).l (tallyP f r l Z k) (l.getD k noCP).l.length := rfl
      obtain ⟨P, hP⟩ : ∃ P, P = l.getD k noCP := ⟨_, rfl⟩
      rw [← hP] at hc1 hpk hnp htk ht0
      obtain ⟨hP100, hpw⟩ := hpk
      have HPW := Lib.hid hpw
      have hsz1 : ∀ j, j < P.l.length → (P.l.getD j noTx).size ≤ 1000 := fun j hj => by have := (word_size (hpw j hj)).2; omega
      have HTW := Lib.hid (fun j (hj : j ≤ P.l.length) => (HT.out k hk).words (f := f) (r := r) hsz1 j hj)
      have HNP := Lib.hid hnp
      have HTK := Lib.hid htk
      have HTX := Lib.hid ht0
      have HY2 := Lib.hid hc1.2
      obtain ⟨M, hM⟩ : ∃ M, M = tallyP f r l Z k := ⟨_, rfl⟩
      rw [← hM] at hN1 HTW HTK
      have hM0 : tallyW f r P.l M 0 = M := rfl
      rw [← hM0] at hN1
      subst hp0
      have hpyw : (p0.add (k * 2)).block < w.heap.size := by rw [add_block]; exact hp1
      clear hP ht0 hpw hsz1 hnp htk hM hM0 hc1
      go_wp2_with fail
      go_loopw [10] (fun v10 wi => ∃ j : Nat, j ≤ P.l.length ∧ v10 = .int .i64 j ∧ Hid (firstAt (noWd f r P.l) (P.l.length - 0) 0 = firstAt (noWd f r P.l) (P.l.length - j) j) ∧ FRK w f a c r wi ∧ RowX wi (w.heap.size + 2) (tallyW f r P.l M j)) (fun v10 _ => P.l.length - (intOf v10).toNat)
      case atStart => exact ⟨0, Nat.zero_le _, rfl, Lib.hid rfl, hK1', hN1⟩
      case round =>
        obtain ⟨j, hj, rfl, HS2, hK, hN3⟩ := hrel
        clear hN1 hK1'
        have hlt1 := hK.lt
        have hlt0 : w.heap.size < wr.heap.size := by omega
        have hpyb : (p0.add (k * 2)).block < wr.heap.size := by omega
        have hy2 := (hK.low.cell (p := ⟨(p0.add (k * 2)).block, (p0.add (k * 2)).off + 1, none⟩) hpyw).trans HY2.out
        by_cases hjt : j < P.l.length
        · have hjl : (j : Int) < (P.l.length : Int) := by omega
          have hj0 : (0 : Int) ≤ (j : Int) := by omega
          obtain ⟨pw, hpa, hpw1, hpw2⟩ := (HTX.out.below hK.low).at_ hjt
          have hpwb : (pw.add j).block < wr.heap.size := by rw [add_block]; exact hpw1
          rw [hpa] at hy2
          have hwe := HPW.out j hjt
          have hnw : noWd f r P.l j = (wordSet f r (P.l.getD j noTx)).isNone := rfl
          have hwd : wd f r P.l j = (wordSet f r (P.l.getD j noTx)).getD [] := rfl
          have htw : tallyW f r P.l M (j + 1) = tally (tallyW f r P.l M j) (wd f r P.l j) := rfl
          obtain ⟨t, ht⟩ : ∃ t, t = P.l.getD j noTx := ⟨_, rfl⟩
          rw [← ht] at hpw2 hwe hnw hwd
          have hts := (word_size hwe).2
          have HRS := Lib.hid (fun W (h : FRK w f a c r W) => HSO.out t W h (by omega))
          have HOI := Lib.hid (fun ls (h : wordSet f r t = some ls) => And.intro (wordSet_idx h) (wordSet_len h))
          obtain ⟨o, ho⟩ : ∃ o, o = wordSet f r t := ⟨_, rfl⟩
          rw [← ho] at HRS HOI hnw hwd
          obtain ⟨c0, c1, c2⟩ := hK.fc
          obtain ⟨d0, d1, d2, d3, d4⟩ := hK.rc
          have HNW := Lib.hid hnw
          have HWD := Lib.hid hwd
          have HTT := Lib.hid htw
          clear ht ho hnw hwd htw hwe hpw1
          cases o with
          | none =>
            have h1 : firstAt (noWd f r P.l) (P.l.length - 0) 0 = some j := by rw [HS2.out]; exact firstAt_stop hjt (by rw [HNW.out]; rfl)
            have h2 : noPt f r l k = true := by rw [HNP.out, h1]; try rfl
            have h3 : firstAt (noPt f r l) (l.length - 0) 0 = some k := by rw [HS.out]; exact firstAt_stop hlt h2
            have HV := Lib.hid (show E = 6 by rw [HE3.out, h3]; try rfl)
            clear h1 h2 h3
            go_wp2_with fail
            go_region_held3 (fun w' => w'.cell? ⟨w.heap.size, 0, none⟩ = some (.string f.name) ∧ w'.cell? ⟨w.heap.size, 1, none⟩ = some (.int .i64 f.body) ∧ w'.cell? ⟨w.heap.size, 2, none⟩ = some (.slice a f.sorts.length c) ∧ w'.cell? ⟨w.heap.size + 1, 0, none⟩ = some (.slice r.ps.a r.ps.l.length r.ps.c) ∧ w'.cell? ⟨w.heap.size + 1, 1, none⟩ = some (.slice r.es.a r.es.l.length r.es.c) ∧ w'.cell? ⟨w.heap.size + 1, 2, none⟩ = some (.slice r.bs.a r.bs.l.length r.bs.c) ∧ w'.cell? ⟨w.heap.size + 1, 3, none⟩ = some (.int .i64 r.left) ∧ w'.cell? ⟨w.heap.size + 1, 4, none⟩ = some (.int .i64 r.right) ∧ w'.cell? ⟨(p0.add (k * 2)).block, (p0.add (k * 2)).off + 1, none⟩ = some (.slice (some pw) P.l.length P.c) ∧ w'.cell? (pw.add j) = some (.string t)) (go_keep)
              (first | (go_at_call 44; refine (HRS.out _ (by first | exact hK | exact ⟨hK.fb, hK.rb, hK.low.drew⟩)).mono ?_; rintro e w4 ⟨hb4d, rfl⟩; have hb4 : Below wr.heap.size wr w4 := (Below.refl _ _).drew.trans hb4d; have k0 := (hb4.cell (p := ⟨w.heap.size, 0, none⟩) hlt0).trans c0; have k1 := (hb4.cell (p := ⟨w.heap.size, 1, none⟩) hlt0).trans c1; have k2 := (hb4.cell (p := ⟨w.heap.size, 2, none⟩) hlt0).trans c2; have k3 := (hb4.cell (p := ⟨w.heap.size + 1, 0, none⟩) hlt1).trans d0; have k4 := (hb4.cell (p := ⟨w.heap.size + 1, 1, none⟩) hlt1).trans d1; have k5 := (hb4.cell (p := ⟨w.heap.size + 1, 2, none⟩) hlt1).trans d2; have k6 := (hb4.cell (p := ⟨w.heap.size + 1, 3, none⟩) hlt1).trans d3; have k7 := (hb4.cell (p := ⟨w.heap.size + 1, 4, none⟩) hlt1).trans d4; have k8 := (hb4.cell (p := ⟨(p0.add (k * 2)).block, (p0.add (k * 2)).off + 1, none⟩) hpyb).trans hy2; have k9 := (hb4.cell (p := pw.add j) hpwb).trans hpw2))
            have hlow := (hK.below hb4).low
            go_wp2
            go_ret2
            rw [HV.out]
            exact ⟨hlow, rfl⟩
          | some ls =>
            obtain ⟨hix, hln⟩ := HOI.out ls rfl
            have hT0 := HTW.out j hj
            go_wp2_with fail
            go_region_held3 (fun w' => w'.cell? ⟨w.heap.size, 0, none⟩ = some (.string f.name) ∧ w'.cell? ⟨w.heap.size, 1, none⟩ = some (.int .i64 f.body) ∧ w'.cell? ⟨w.heap.size, 2, none⟩ = some (.slice a f.sorts.length c) ∧ w'.cell? ⟨w.heap.size + 1, 0, none⟩ = some (.slice r.ps.a r.ps.l.length r.ps.c) ∧ w'.cell? ⟨w.heap.size + 1, 1, none⟩ = some (.slice r.es.a r.es.l.length r.es.c) ∧ w'.cell? ⟨w.heap.size + 1, 2, none⟩ = some (.slice r.bs.a r.bs.l.length r.bs.c) ∧ w'.cell? ⟨w.heap.size + 1, 3, none⟩ = some (.int .i64 r.left) ∧ w'.cell? ⟨w.heap.size + 1, 4, none⟩ = some (.int .i64 r.right) ∧ w'.cell? ⟨(p0.add (k * 2)).block, (p0.add (k * 2)).off + 1, none⟩ = some (.slice (some pw) P.l.length P.c) ∧ w'.cell? (pw.add j) = some (.string t)) (go_keep)
              (first | (go_at_call 44; refine (HRS.out _ (by first | exact hK | exact ⟨hK.fb, hK.rb, hK.low.drew⟩)).mono ?_; rintro e w4 ⟨hb4d, v4, rfl, hI4⟩; have hb4 : Below wr.heap.size wr w4 := (Below.refl _ _).drew.trans hb4d; have k0 := (hb4.cell (p := ⟨w.heap.size, 0, none⟩) hlt0).trans c0; have k1 := (hb4.cell (p := ⟨w.heap.size, 1, none⟩) hlt0).trans c1; have k2 := (hb4.cell (p := ⟨w.heap.size, 2, none⟩) hlt0).trans c2; have k3 := (hb4.cell (p := ⟨w.heap.size + 1, 0, none⟩) hlt1).trans d0; have k4 := (hb4.cell (p := ⟨w.heap.size + 1, 1, none⟩) hlt1).trans d1; have k5 := (hb4.cell (p := ⟨w.heap.size + 1, 2, none⟩) hlt1).trans d2; have k6 := (hb4.cell (p := ⟨w.heap.size + 1, 3, none⟩) hlt1).trans d3; have k7 := (hb4.cell (p := ⟨w.heap.size + 1, 4, none⟩) hlt1).trans d4; have k8 := (hb4.cell (p := ⟨(p0.add (k * 2)).block, (p0.add (k * 2)).off + 1, none⟩) hpyb).trans hy2; have k9 := (hb4.cell (p := pw.add j) hpwb).trans hpw2))
            obtain ⟨A4, q4, rfl, hIn4, -, -⟩ := hI4.shape
            have hK4 := hK.below hb4
            have hN4 : RowX w4 (w.heap.size + 2) (tallyTo (tallyW f r P.l M j) ls 0) := hN3.below hb4
            have hg5 := hN3.lt
            obtain ⟨U, hU⟩ : ∃ U, U = tallyW f r P.l M j := ⟨_, rfl⟩
            rw [← hU] at hN4 hT0
            have HTT2 := Lib.hid (show tallyW f r P.l M (j + 1) = tally U ls by rw [HTT.out, HWD.out, hU]; try rfl)
            obtain ⟨B5, hB5⟩ : ∃ B, B = wr.heap.size := ⟨_, rfl⟩
            change IRow w4 wr.heap.size (.slice A4 ls.length q4) ls at hI4
            rw [← hB5] at hI4 hg5
            have HIX := Lib.hid hix
            have HT5 := Lib.hid hT0
            clear hU hB5 hN3 hK hb4 hb4d hIn4 c0 c1 c2 d0 d1 d2 d3 d4 k0 k1 k2 k3 k4 k5 k6 k7 k8 k9 HRS hix hT0 hpw2 hy2 HTT hpyb hpwb hlt0 hlt1
            go_wp2_with fail
            go_loopw [13] (fun v13 wi => ∃ i : Nat, i ≤ ls.length ∧ v13 = .int .i64 i ∧ FRK w f a c r wi ∧ RowX wi (w.heap.size + 2) (tallyTo U ls i) ∧ IRow wi B5 (.slice A4 ls.length q4) ls) (fun v13 _ => ls.length - (intOf v13).toNat)
            case atStart => exact ⟨0, Nat.zero_le _, rfl, hK4, hN4, hI4⟩
            case round =>
              obtain ⟨i, hi, rfl, hK6, hN6, hI6⟩ := hrel
              clear hN4 hI4 hK4
              by_cases hit : i < ls.length
              · have hil : (i : Int) < (ls.length : Int) := by omega
                have hi0 : (0 : Int) ≤ (i : Int) := by omega
                obtain ⟨x, hx, hxe⟩ := HIX.out i hit
                obtain ⟨ad, hae, hal, hay⟩ := hI6.ints.2 i hit
                rw [hxe] at hay
                have hT6 := HT5.out.to ls i hi
                have ca := hN6.cell (j := x) (by rw [hT6.1]; exact hx)
                have fa := hN6.frozen x
                have hTS := Lib.hid (tallyTo_succ (M := U) hit)
                obtain ⟨V, hV⟩ : ∃ V, V = tallyTo U ls i := ⟨_, rfl⟩
                rw [← hV] at ca hT6 hTS hN6
                rw [hxe] at hTS
                obtain ⟨cv, hcv⟩ : ∃ cv, cv = V.getD x 0 := ⟨_, rfl⟩
                have hcb := hT6.2 x
                rw [← hcv] at ca hcb
                have HCV := Lib.hid (show tallyTo U ls (i + 1) = V.set x (cv + 1) by rw [hTS.out, hcv]; try rfl)
                have j0 : (0 : Int) ≤ (x : Int) := by omega
                have j1 : (x : Int) < (f.sorts.length : Int) := by omega
                have j3 : IntKind.i64.wrap (cv + 1) = cv + 1 := by rw [IntKind.wrap_i64]; omega
                have hN7 := hN6.set_ x (cv + 1)
                have hK7 := hK6.set x (.int .i64 (cv + 1))
                have hI7 := hI6.set (p := ⟨w.heap.size + 2, x, none⟩) hg5 (.int .i64 (cv + 1))
                subst hae
                clear hcv hV hxe hTS hT6 hal
                go_wp2_with fail
                go_region
                go_wp2
                go_roundw
                case rel => exact ⟨i + 1, by omega, by go_num, hK7.drew, by rw [HCV.out]; exact hN7.drew, hI7.drew⟩
                case measure => simp [intOf]; omega
              · obtain rfl : i = ls.length := by omega
                have hil : ¬ (ls.length : Int) < (ls.length : Int) := by omega
                rw [tallyTo_all] at hN6
                have HS3 := Lib.hid (HS2.out.trans (firstAt_go hjt (by rw [HNW.out]; rfl)))
                clear hI6
                go_wp2
                go_roundw
                case rel => exact ⟨j + 1, by omega, by go_num, HS3, hK6, by rw [HTT2.out]; exact hN6⟩
                case measure => simp [intOf]; omega
        · obtain rfl : j = P.l.length := by omega
          have hjl : ¬ (P.l.length : Int) < (P.l.length : Int) := by omega
          have h1 := firstAt_end (q := noWd f r P.l) hjt
          have HS4 := Lib.hid (HS.out.trans (firstAt_go hlt (by rw [HNP.out, HS2.out, h1]; rfl)))
          clear h1
          go_wp2
          go_roundw
          case rel => exact ⟨k + 1, by omega, by go_num, HS4, hK, by rw [HTK.out]; exact hN3⟩
          case measure => simp [intOf]; omega
    · obtain rfl : k = l.length := by omega
      have hkl : ¬ (l.length : Int) < (l.length : Int) := by omega
      have h1 := firstAt_end (q := noPt f r l) hlt
      have HV := Lib.hid (show E = 0 by rw [HE3.out, HS.out, h1]; try rfl)
      have hlow := hK1'.low
      rw [HNX.out] at hN1
      clear h1 hK1'
      go_wp2
      go_ret2
      rw [HV.out]
      exact ⟨hlow, _, rfl, hN1⟩
end Go.Proofs.YtlkkociijfdcgaaGreatDoor

namespace Go.Proofs.YtlkkociijfdcgaaGreatDoor
open Go.RowKit Go.Maps Go.Shelf

/-- What all Needs answer. -/
def NAns (w : World) (E : Int) (L : List Int) (e : Ending) (w' : World) : Prop :=
  Below w.heap.size w w' ∧ ∃ A k, e = .returned (.tuple #[.slice A L.length k, .int .i64 E]) ∧ IntsAt w' A L
def nList (E : Int) (X : List Int) : List Int := if E = 0 then X else []
theorem needsX_len (f : FT) (r : RU) (l : List CP) : (needsX f r l).length = f.sorts.length := by
  have : ∀ k, (tallyP f r l (List.replicate f.sorts.length 0) k).length = f.sorts.length := by
    intro k
    induction k with
    | zero => exact List.length_replicate
    | succ k ih => exact (tallyW_len ..).trans ih
  exact this _
theorem needsPost_ans {w : World} {f : FT} {r : RU} {l : List CP} {E : Int} {e : Ending} {w' : World} (h : NeedsPost w f.sorts.length E (needsX f r l) e w') : NAns w E (nList E (needsX f r l)) e w' := by
  obtain ⟨hb, h⟩ := h
  refine ⟨hb, ?_⟩
  unfold nList
  by_cases h0 : E = 0
  · rw [if_neg (fun h => h h0)] at h
    rw [if_pos h0, needsX_len]
    obtain ⟨g, rfl, hr⟩ := h
    exact ⟨_, _, by rw [h0], hr.ints⟩
  · rw [if_pos h0] at h
    rw [if_neg h0]
    exact ⟨none, 0, h, fun k hk => absurd hk (Nat.not_lt_zero _)⟩
section
variable {f : FT} {r r' : RU} {l l' : List CP}
theorem tallyW_rules (h : SameR r r') (ws : List ByteArray) (M : List Int) : ∀ k, tallyW f r' ws M k = tallyW f r ws M k
  | 0 => rfl
  | k + 1 => by
    show tally (tallyW f r' ws M k) (wd f r' ws k) = tally (tallyW f r ws M k) (wd f r ws k)
    rw [tallyW_rules h ws M k]
    unfold wd
    rw [wordSet_same h]
theorem tallyP_rules (h : SameR r r') (M : List Int) : ∀ k, tallyP f r' l M k = tallyP f r l M k
  | 0 => rfl
  | k + 1 => by
    show tallyW f r' _ (tallyP f r' l M k) _ = tallyW f r _ (tallyP f r l M k) _
    rw [tallyP_rules h M k, tallyW_rules h]
theorem needsX_rules (h : SameR r r') : needsX f r' l = needsX f r l := tallyP_rules h _ _
theorem needsE_rules (h : SameR r r') : needsE f r' l = needsE f r l := by
  have h1 : ∀ ws, noWd f r' ws = noWd f r ws := fun ws => by funext k; unfold noWd; rw [wordSet_same h]
  have h2 : noPt f r' l = noPt f r l := by funext k; unfold noPt; rw [h1]
  unfold needsE
  rw [h2]
theorem needsErr_same (h : SameR r r') (hp : SameP l l') : needsErr f r' l' = needsErr f r l := by
  unfold needsErr
  rw [setErr_same h, checkP_same hp, needsE_rules h, needsE_same hp]
end
theorem needs_ans (f : FT) (a : Option Addr) (c : Nat) (r r' : RU) (b : Option Addr) (l l' : List CP) (n d : Nat) (w : World) (hn : l.length = n) (hF : FAt w a f) (hR : r'.at_ w) (hSm : SameR r r') (hX : PartsAt w b l') (hP : SameP l l') (hO : OkP l) :
    Calls Tryz.prog 55 #[.agg #[.string f.name, .int .i64 f.body, .slice a f.sorts.length c], .agg r'.cells, .slice b n d] w (NAns w (needsErr f r l) (nList (needsErr f r l) (needsX f r l))) := by
  have h := needs_any f a c r' b l' d w hF hR hX (okP_same hP hO)
  rw [needsErr_same hSm hP, needsX_rules hSm, needsX_same hP, hP.1, hn] at h
  exact h.mono (fun e w' h => needsPost_ans h)
theorem copyOf_parts (a : Option Addr) (l : List CP) (n c : Nat) (w : World) (hn : l.length = n) (hX : PartsAt w a l) (hl : l.length ≤ 1000) (hO : ∀ k, k < l.length → (l.getD k noCP).l.length ≤ 1000 ∧ ((l.getD k noCP).a = none → (l.getD k noCP).c = 0)) :
    Calls Tryz.prog 29 #[.slice a n c] w fun e w' => ∃ A k l', e = .returned (.slice A n k) ∧ PartsAt w' A l' ∧ SameP l l' ∧ Below w.heap.size w w' := by
  subst hn
  refine (copyOf_any a l c w hX hl hO).mono ?_
  rintro e w' ⟨v, rfl, hC, hb⟩
  obtain ⟨A, k, l', rfl, h1, h2⟩ := cown_parts hC rfl
  exact ⟨A, k, l', rfl, h1, h2, hb⟩
theorem light_small {l : List CP} (h : lightB l = true) : l.length ≤ 62 ∧ ∀ k, k < l.length → (l.getD k noCP).l.length ≤ 102 := by
  unfold lightB at h
  split at h
  · cases h
  · rename_i hs
    have h62 : l.length ≤ 62 := by unfold sizeBad at hs; omega
    refine ⟨h62, fun k hk => ?_⟩
    cases hc : firstAt (darkP l) (l.length - 0) 0 with
    | some i => rw [hc] at h; cases h
    | none =>
      have := firstAt_none hc k (Nat.zero_le _) (by omega)
      unfold darkP at this
      exact (short_small (few := 8) (most := 100) (by simpa using this)).1
theorem checkP_iff {l : List CP} : (checkP l).2 = 0 ↔ l.length ≤ 60 ∧ ∀ k, k < l.length → isBadP l k = false := by
  unfold checkP
  by_cases h60 : 60 < l.length
  · rw [if_pos h60]
    constructor
    · intro h; exact absurd h (by decide)
    · intro h; omega
  · rw [if_neg h60]
    cases hf : firstAt (isBadP l) (l.length - 0) 0 with
    | none => exact ⟨fun _ => ⟨by omega, fun k hk => firstAt_none hf k (Nat.zero_le _) (by omega)⟩, fun _ => rfl⟩
    | some i =>
      obtain ⟨h1, _, h2, _⟩ := firstAt_some hf
      constructor
      · intro h
        change partErr (l.getD i noCP).kd (l.getD i noCP).l = 0 at h
        unfold isBadP at h1
        rw [h] at h1
        exact absurd h1 (by decide)
      · intro h
        have := h.2 i (by omega)
        rw [h1] at this
        cases this
theorem needsE_iff {f : FT} {r : RU} {l : List CP} : needsE f r l = 0 ↔ ∀ k, k < l.length → noPt f r l k = false := by
  unfold needsE
  cases hf : firstAt (noPt f r l) (l.length - 0) 0 with
  | none => exact ⟨fun _ k hk => firstAt_none hf k (Nat.zero_le _) (by omega), fun _ => rfl⟩
  | some i =>
    obtain ⟨h1, _, h2, _⟩ := firstAt_some hf
    constructor
    · intro h; exact absurd h (by simp)
    · intro h
      have := h i (by omega)
      rw [h1] at this
      cases this
theorem needsErr_parts {f : FT} {r : RU} {l : List CP} {x : CP} (h : needsErr f r (l ++ [x]) = 0) : needsErr f r l = 0 ∧ needsErr f r [x] = 0 := by
  unfold needsErr at h ⊢
  by_cases h0 : setErr f r = 0
  · rw [if_neg (fun h => h h0)] at h
    by_cases h1 : (checkP (l ++ [x])).2 = 0
    · rw [if_neg (fun h => h h1)] at h
      obtain ⟨c1, c2⟩ := checkP_iff.1 h1
      have n1 := needsE_iff.1 h
      have hlen : (l ++ [x]).length = l.length + 1 := by rw [List.length_append]; try rfl
      rw [hlen] at c1 c2 n1
      have hb1 : ∀ k, k < l.length → isBadP l k = false := fun k hk => by have := c2 k (by omega); unfold isBadP at this ⊢; rwa [getD_cat hk] at this
      have hb2 : isBadP [x] 0 = false := by have := c2 l.length (by omega); unfold isBadP at this ⊢; rwa [getD_end] at this
      have hn1 : ∀ k, k < l.length → noPt f r l k = false := fun k hk => by have := n1 k (by omega); unfold noPt at this ⊢; rwa [getD_cat hk] at this
      have hn2 : noPt f r [x] 0 = false := by have := n1 l.length (by omega); unfold noPt at this ⊢; rwa [getD_end] at this
      refine ⟨?_, ?_⟩
      · rw [if_neg (fun h => h h0), if_neg (fun h => h (checkP_iff.2 ⟨by omega, hb1⟩))]
        exact needsE_iff.2 hn1
      · have hc2 : (checkP [x]).2 = 0 := checkP_iff.2 ⟨by simp, fun k hk => by obtain rfl : k = 0 := (by simpa using hk); exact hb2⟩
        rw [if_neg (fun h => h h0), if_neg (fun h => h hc2)]
        exact needsE_iff.2 (fun k hk => by obtain rfl : k = 0 := (by simpa using hk); exact hn2)
    · rw [if_pos h1] at h; exact absurd h h1
  · rw [if_pos h0] at h; exact absurd h h0
theorem needsX_bd {f : FT} {r : RU} {l : List CP} (h : needsErr f r l = 0) (j : Nat) : 0 ≤ (needsX f r l).getD j 0 ∧ (needsX f r l).getD j 0 ≤ 100000 * (l.length : Int) := by
  unfold needsErr at h
  by_cases h0 : setErr f r = 0
  · rw [if_neg (fun h => h h0)] at h
    by_cases h1 : (checkP l).2 = 0
    · have := (TOk.parts (N := f.sorts.length) (f := f) (r := r) (TOk.zero f.sorts.length) (lowP_ok h1) l.length (Nat.le_refl _)).2 j
      unfold needsX
      rw [Int.zero_add] at this
      exact this
    · rw [if_pos h1] at h; exact absurd h h1
  · rw [if_pos h0] at h; exact absurd h h0
/-- A copy as an argument: where its parts' words lie. -/
def capP (l : List CP) : Prop := ∀ k, k < l.length → ((l.getD k noCP).a = none → (l.getD k noCP).c = 0)
set_option maxRecDepth 100000 in
set_option maxHeartbeats 8000000 in
theorem needs_walk (f : FT) (a : Option Addr) (c : Nat) (r : RU) (b : Option Addr) (l : List CP) (d : Nat) (w : World) (hF : FIn w f a c) (hR : r.at_ w) (hT : TabOk w) (hc : capR r) (hX : PartsAt w b l) (hO : OkP l) (hcP : capP l) (hld : l.length ≤ d) :
    Calls Tryz.prog 9 #[.agg #[.string f.name, .int .i64 f.body, .slice a f.sorts.length c], .agg r.cells, .slice b l.length d] w fun e w' => e = .returned (.bool true) ∧ Below w.heap.size w w' := by
  have hK0 := frk_start w f a c r
  have HF := Lib.hid (fun W (h : FRK w f a c r W) => hF.below h.low)
  have HR := Lib.hid (fun W (h : FRK w f a c r W) => hR.below h.low)
  have HX := Lib.hid (fun W (h : FRK w f a c r W) => hX.below h.low)
  have HT := Lib.hid (fun W (h : FRK w f a c r W) => hT.below h.low hT.1)
  have hz : SizesOk r.ps.l ∧ SizesOk r.es.l ∧ SizesOk r.bs.l := ⟨hR.1.2.2, hR.2.1.2.2, hR.2.2.2.2⟩
  have HSR := Lib.hid (fun W (h : r.at_ W) => Short_any r W h)
  have HCP0 := Lib.hid (fun W (h : r.at_ W) h1 h2 h3 => copyRules_any r W h hc h1 h2 h3)
  have HLI := Lib.hid (fun W (h : PartsAt W b l) => light_any b l d W h hO)
  have HCK := Lib.hid (fun W (h : PartsAt W b l) => refCheckParts_any b l d W h hO)
  have hcap := hF.nil
  unfold RU.cells at *
  clear hF hR hT hc hX
  go_enter Tryz.func9, Tryz.ntmps9
  go_wp2_with fail
  refine (awake_any _ (HT.out _ hK0)).mono ?_
  rintro e w2 ⟨rfl, hb2⟩
  have hK2 := hK0.below hb2
  clear hK0 hb2
  obtain ⟨c0, c1, c2⟩ := hK2.fc
  go_wp2_with fail
  refine (few2_any f a c _ (HF.out _ hK2).at_.ok (HF.out _ hK2).at_.at_).mono ?_
  rintro e w3 ⟨rfl, hb3⟩
  have hK3 := hK2.below hb3
  clear hK2 hb3 c0 c1 c2
  cases hfew : few2B f
  · have hlow := hK3.low
    go_wp2
    go_ret
    exact ⟨rfl, hlow⟩
  obtain ⟨d0, d1, d2, d3, d4⟩ := hK3.rc
  go_wp2_with fail
  refine (HSR.out _ (HR.out _ hK3)).mono ?_
  rintro e w4 ⟨rfl, hb4⟩
  have hK4 := hK3.below hb4
  clear hK3 hb4 d0 d1 d2 d3 d4
  cases hsh : shortR r
  · have hlow := hK4.low
    go_wp2
    go_ret
    exact ⟨rfl, hlow⟩
  go_wp2_with fail
  refine (HLI.out _ (HX.out _ hK4)).mono ?_
  rintro e w4' ⟨rfl, rfl⟩
  cases hsw : lightB l
  · have hlow := hK4.low
    go_wp2
    go_ret
    exact ⟨rfl, hlow⟩
  obtain ⟨hSm, hl1, hl2, hl3⟩ := small_short hsh
  obtain ⟨hwl, hws⟩ := light_small hsw
  have hn122 := few2_len hfew
  have hl : r.ps.l.length ≤ 1000 ∧ r.es.l.length ≤ 1000 ∧ r.bs.l.length ≤ 1000 := ⟨by omega, by omega, by omega⟩
  have HCP := Lib.hid (fun W (h : r.at_ W) => HCP0.out W h hl.1 hl.2.1 hl.2.2)
  have HCF := Lib.hid (fun W (h : FRK w f a c r W) => copyFount_any f a c W (HF.out W h).at_ (by omega) hcap)
  have HFE := Lib.hid (fun W (h : FRK w f a c r W) => refFountErr_any f a c W (HF.out W h))
  have HRE := Lib.hid (fun W (h : FRK w f a c r W) => refErr_any r W (HR.out W h) hSm.1 hSm.2.1 hSm.2.2)
  have HAT := Lib.hid (fun W (r2 : RU) (h1 : SameR r r2) B (h2 : OwnR W B r2) => own_at h1 h2 hz hl)
  have HCO := Lib.hid (fun W (h : FRK w f a c r W) => copyOf_parts b l l.length d W rfl (HX.out W h) (by omega) (fun k hk => ⟨by have := hws k hk; omega, hcP k hk⟩))
  have HNE := Lib.hid (fun W (r2 : RU) (g k g2 k2) (l2 : List CP) (h1 : FAt W (some ⟨g, 0, none⟩) f) (h2 : r2.at_ W) (h3 : SameR r r2) (h4 : PartsAt W g2 l2) (h5 : SameP l l2) => needs_ans f (some ⟨g, 0, none⟩) k r r2 g2 l l2 l.length k2 W rfl h1 h2 h3 h4 h5 hO)
  have HRN := Lib.hid (fun W (h : FRK w f a c r W) hf he hp => Calls.mono (refNeeds_any f a c r b l d W (HF.out W h).at_.at_ (HR.out W h) hSm hf he (HX.out W h) hp) (fun e w' h => needsPost_ans h))
  obtain ⟨FE, hFE⟩ : ∃ FE, FE = (checkF f).2 := ⟨_, rfl⟩
  obtain ⟨RE, hRE⟩ : ∃ RE, RE = (checkR r).2 := ⟨_, rfl⟩
  obtain ⟨CE1, hCE1⟩ : ∃ CE, CE = (checkP l).1 := ⟨_, rfl⟩
  obtain ⟨CE, hCE⟩ : ∃ CE, CE = (checkP l).2 := ⟨_, rfl⟩
  obtain ⟨NE, hNE⟩ : ∃ NE, NE = needsE f r l := ⟨_, rfl⟩
  obtain ⟨E, hE⟩ : ∃ E, E = if FE ≠ 0 then FE else if RE ≠ 0 then RE else if CE ≠ 0 then CE else NE := ⟨_, rfl⟩
  have hE2 : needsErr f r l = E := by
    rw [hE, hFE, hRE, hCE, hNE]
    unfold needsErr setErr
    by_cases h1 : (checkF f).2 = 0
    · simp [h1]
    · simp [h1]
  have HE0 := Lib.hid hE2
  rw [hE2] at HNE
  rw [← hCE, ← hCE1] at HCK
  rw [← hFE, ← hRE, ← hCE, ← hNE] at HRN
  rw [← hFE] at HFE
  rw [← hRE] at HRE
  have HE := Lib.hid hE
  obtain ⟨L, hL⟩ : ∃ L, L = nList E (needsX f r l) := ⟨_, rfl⟩
  have hLL : L.length ≤ 1000 := by
    rw [hL]
    unfold nList
    by_cases h : E = 0
    · rw [if_pos h, needsX_len]; omega
    · rw [if_neg h]; exact Nat.zero_le _
  rw [← hL] at HNE
  have HLE := Lib.hid hL
  have hws2 := Lib.hid hws
  clear hE hE2 hFE hRE hCE hCE1 hNE hsh hfew hsw HSR HCP0 HLI hz HT hL hws
  unfold RU.cells at HCP HRE HNE HRN
  obtain ⟨c0, c1, c2⟩ := hK4.fc
  obtain ⟨d0, d1, d2, d3, d4⟩ := hK4.rc
  have hlt4 := hK4.lt
  have hlt4a : w.heap.size < w4.heap.size := by omega
  go_wp2_with fail
  go_region_held3 (fun w' => w'.cell? ⟨w.heap.size, 0, none⟩ = some (.string f.name) ∧ w'.cell? ⟨w.heap.size, 1, none⟩ = some (.int .i64 f.body) ∧ w'.cell? ⟨w.heap.size, 2, none⟩ = some (.slice a f.sorts.length c) ∧ w'.cell? ⟨w.heap.size + 1, 0, none⟩ = some (.slice r.ps.a r.ps.l.length r.ps.c) ∧ w'.cell? ⟨w.heap.size + 1, 1, none⟩ = some (.slice r.es.a r.es.l.length r.es.c) ∧ w'.cell? ⟨w.heap.size + 1, 2, none⟩ = some (.slice r.bs.a r.bs.l.length r.bs.c) ∧ w'.cell? ⟨w.heap.size + 1, 3, none⟩ = some (.int .i64 r.left) ∧ w'.cell? ⟨w.heap.size + 1, 4, none⟩ = some (.int .i64 r.right)) (go_keep)
    (first
     | (go_at_call 38; refine (HCF.out _ (by first | exact hK4 | exact ⟨hK4.fb, hK4.rb, hK4.low.drew⟩)).mono ?_; rintro e w7 ⟨g7, cp7, rfl, hk7, hF7, hb7d⟩; have hb7 : Below w4.heap.size w4 w7 := (Below.refl _ _).drew.trans hb7d; have k0 := (hb7.cell (p := ⟨w.heap.size, 0, none⟩) hlt4a).trans c0; have k1 := (hb7.cell (p := ⟨w.heap.size, 1, none⟩) hlt4a).trans c1; have k2 := (hb7.cell (p := ⟨w.heap.size, 2, none⟩) hlt4a).trans c2; have k3 := (hb7.cell (p := ⟨w.heap.size + 1, 0, none⟩) hlt4).trans d0; have k4 := (hb7.cell (p := ⟨w.heap.size + 1, 1, none⟩) hlt4).trans d1; have k5 := (hb7.cell (p := ⟨w.heap.size + 1, 2, none⟩) hlt4).trans d2; have k6 := (hb7.cell (p := ⟨w.heap.size + 1, 3, none⟩) hlt4).trans d3; have k7 := (hb7.cell (p := ⟨w.heap.size + 1, 4, none⟩) hlt4).trans d4)
     | (go_at_call 20; refine (HCP.out _ (HR.out _ (hK4.below hb7))).mono ?_; rintro e w8 ⟨r8, rfl, hS8, hO8, hb8⟩; have hb87 : Below w4.heap.size w4 w8 := hb7.trans (hb8.mono hb7.size); have k0 := (hb87.cell (p := ⟨w.heap.size, 0, none⟩) hlt4a).trans c0; have k1 := (hb87.cell (p := ⟨w.heap.size, 1, none⟩) hlt4a).trans c1; have k2 := (hb87.cell (p := ⟨w.heap.size, 2, none⟩) hlt4a).trans c2; have k3 := (hb87.cell (p := ⟨w.heap.size + 1, 0, none⟩) hlt4).trans d0; have k4 := (hb87.cell (p := ⟨w.heap.size + 1, 1, none⟩) hlt4).trans d1; have k5 := (hb87.cell (p := ⟨w.heap.size + 1, 2, none⟩) hlt4).trans d2; have k6 := (hb87.cell (p := ⟨w.heap.size + 1, 3, none⟩) hlt4).trans d3; have k7 := (hb87.cell (p := ⟨w.heap.size + 1, 4, none⟩) hlt4).trans d4)
     | (go_at_call 29; refine (HCO.out _ (hK4.below hb87)).mono ?_; rintro e w9 ⟨g9, cp9, l9, rfl, hX9, hP9, hb9d⟩; have hb9 : Below w4.heap.size w4 w9 := hb87.trans (hb9d.mono hb87.size); have k0 := (hb9.cell (p := ⟨w.heap.size, 0, none⟩) hlt4a).trans c0; have k1 := (hb9.cell (p := ⟨w.heap.size, 1, none⟩) hlt4a).trans c1; have k2 := (hb9.cell (p := ⟨w.heap.size, 2, none⟩) hlt4a).trans c2; have k3 := (hb9.cell (p := ⟨w.heap.size + 1, 0, none⟩) hlt4).trans d0; have k4 := (hb9.cell (p := ⟨w.heap.size + 1, 1, none⟩) hlt4).trans d1; have k5 := (hb9.cell (p := ⟨w.heap.size + 1, 2, none⟩) hlt4).trans d2; have k6 := (hb9.cell (p := ⟨w.heap.size + 1, 3, none⟩) hlt4).trans d3; have k7 := (hb9.cell (p := ⟨w.heap.size + 1, 4, none⟩) hlt4).trans d4)
     | (go_at_call 55; refine (HNE.out _ r8 g7 cp7 g9 cp9 l9 ((hF7.below hb8).below hb9d) ((HAT.out _ _ hS8 _ hO8).below hb9d) hS8 hX9 hP9).mono ?_; rintro e wA ⟨hbAd, AwA, cwA, rfl, hVwA⟩; replace hVwA := Lib.hid hVwA; have hbA : Below w4.heap.size w4 wA := hb9.trans (hbAd.mono hb9.size); have k0 := (hbA.cell (p := ⟨w.heap.size, 0, none⟩) hlt4a).trans c0; have k1 := (hbA.cell (p := ⟨w.heap.size, 1, none⟩) hlt4a).trans c1; have k2 := (hbA.cell (p := ⟨w.heap.size, 2, none⟩) hlt4a).trans c2; have k3 := (hbA.cell (p := ⟨w.heap.size + 1, 0, none⟩) hlt4).trans d0; have k4 := (hbA.cell (p := ⟨w.heap.size + 1, 1, none⟩) hlt4).trans d1; have k5 := (hbA.cell (p := ⟨w.heap.size + 1, 2, none⟩) hlt4).trans d2; have k6 := (hbA.cell (p := ⟨w.heap.size + 1, 3, none⟩) hlt4).trans d3; have k7 := (hbA.cell (p := ⟨w.heap.size + 1, 4, none⟩) hlt4).trans d4))
  have hKA := hK4.below hbA
  clear c0 c1 c2 d0 d1 d2 d3 d4 hK4 hbA hlt4 hlt4a hb7 hb8 hb87 hb9 hF7 hO8 hS8 hX9 hP9 hbAd hb7d hb9d
  obtain ⟨c0, c1, c2⟩ := hKA.fc
  go_wp2_with fail
  refine (HFE.out _ hKA).mono ?_
  rintro e w10 ⟨rfl, hb10⟩
  have hK10 := hKA.below hb10
  have hV10 := hVwA.out.below hb10
  clear c0 c1 c2 hKA hb10 hVwA
  by_cases hf0 : FE = 0
  · have hfb : (FE == 0) = true := by rw [hf0]; try rfl
    obtain ⟨d0, d1, d2, d3, d4⟩ := hK10.rc
    go_wp2_with fail
    refine (HRE.out _ hK10).mono ?_
    rintro e w11 ⟨rfl, hb11⟩
    have hK11 := hK10.below hb11
    have hV11 := hV10.below hb11
    clear d0 d1 d2 d3 d4 hK10 hb11 hV10
    by_cases hr0 : RE = 0
    · have hrb : (RE == 0) = true := by rw [hr0]; try rfl
      go_wp2_with fail
      refine (HCK.out _ (HX.out _ hK11)).mono ?_
      rintro e w11' ⟨rfl, rfl⟩
      by_cases hc0 : CE = 0
      · have hcb : (CE == 0) = true := by rw [hc0]; try rfl
        have hEW : E = NE := by rw [HE.out, if_neg (fun h => h hf0), if_neg (fun h => h hr0), if_neg (fun h => h hc0)]
        subst hEW
        obtain ⟨c0, c1, c2⟩ := hK11.fc
        obtain ⟨d0, d1, d2, d3, d4⟩ := hK11.rc
        have HRX := Lib.hid (HRN.out _ hK11 hf0 hr0 hc0)
        rw [← HLE.out] at HRX
        go_wp2_with fail
        refine HRX.out.mono ?_
        rintro e w12 ⟨hb12, A2, q2, rfl, hV2⟩
        have hK12 := hK11.below hb12
        have hV12 := hV11.below hb12
        have HSA := ints_any AwA L cwA A2 L q2 w12 hV12 hV2 (by unfold maxLen; omega) (by unfold maxLen; omega)
        rw [decide_eq_true rfl] at HSA
        have HI := Lib.hid HSA
        clear c0 c1 c2 d0 d1 d2 d3 d4 hK11 hb12 hV11 hV2 HSA HRX
        have hEE : (E != E) = false := by simp
        go_wp2_with fail
        refine HI.out.mono ?_
        rintro e w13 ⟨rfl, hD13⟩
        have hb13 := hD13.below (Below.refl w12.heap.size w12)
        have hK13 := hK12.below hb13
        have hV13 := hV12.below hb13
        clear hD13 hb13 hK12 hV12 HI hEE
        have hlow := hK13.low
        by_cases hE0 : E = 0
        · have heb : (E != 0) = false := by rw [hE0]; try rfl
          by_cases hl0 : l.length = 0
          · have hlb : ((l.length : Int) == 0) = true := by rw [hl0]; try rfl
            go_wp2
            go_ret
            exact ⟨rfl, hlow⟩
          · have hlb : ((l.length : Int) == 0) = false := by rw [beq_eq_false_iff_ne]; omega
            have hnz : ¬ (l.length : Int) = 0 := by omega
            obtain ⟨l0, x0, hlx⟩ : ∃ l0 x0, l = l0 ++ [x0] := ⟨l.dropLast, l.getLast (fun h => hl0 (by rw [h]; try rfl)), (List.dropLast_concat_getLast _).symm⟩
            have hlen0 : l.length = l0.length + 1 := by rw [hlx, List.length_append]; try rfl
            have hm1 : (l.length : Int) - 1 = (l0.length : Int) := by omega
            have hg0 : ∀ k, k < l0.length → l0.getD k noCP = l.getD k noCP := fun k hk => by rw [hlx, getD_cat hk]
            have hg1 : x0 = l.getD l0.length noCP := by rw [hlx, getD_end]
            have HE00 : needsErr f r l0 = 0 ∧ needsErr f r [x0] = 0 := needsErr_parts (by rw [← hlx, HE0.out, hE0])
            have hO0 : OkP l0 := ⟨by have := hO.1; omega, fun k hk => by rw [hg0 k hk]; exact hO.2 k (by omega)⟩
            have hO1 : OkP [x0] := ⟨by show 1 ≤ maxLen; decide, fun k hk => by obtain rfl : k = 0 := (by simpa using hk); show x0.l.length ≤ maxLen ∧ SizesOk x0.l; rw [hg1]; exact hO.2 _ (by omega)⟩
            have HX0 := Lib.hid (fun W (h : FRK w f a c r W) => show PartsAt W b l0 from fun k hk => by rw [hg0 k hk]; exact HX.out W h k (by omega))
            have hX1 : ∀ W, FRK w f a c r W → ∃ ad, b = some ad ∧ PartsAt W (some (ad.add (l0.length * 2))) [x0] := fun W h => by
              obtain ⟨ad, e, hb', hp, ht⟩ := HX.out W h l0.length (by omega)
              rw [← hg1] at hp ht
              refine ⟨ad, e, fun k hk => ?_⟩
              obtain rfl : k = 0 := (by simpa using hk)
              exact ⟨_, rfl, by rw [add_block]; exact hb', by rw [Nat.zero_mul, Addr.add_zero']; exact hp, ht⟩
            obtain ⟨ad, hbad, -⟩ := hX1 _ hK13
            have HX1 := Lib.hid (fun W (h : FRK w f a c r W) => show PartsAt W (some (ad.add (l0.length * 2))) [x0] by obtain ⟨ad2, e2, h2⟩ := hX1 W h; rw [hbad] at e2; cases e2; exact h2)
            have hws0 : ∀ k, k < l0.length → (l0.getD k noCP).l.length ≤ 1000 ∧ ((l0.getD k noCP).a = none → (l0.getD k noCP).c = 0) := fun k hk => by rw [hg0 k hk]; exact ⟨by have := hws2.out k (by omega); omega, hcP k (by omega)⟩
            have hws1 : ∀ k, k < [x0].length → ([x0].getD k noCP).l.length ≤ 1000 ∧ (([x0].getD k noCP).a = none → ([x0].getD k noCP).c = 0) := fun k hk => by
              obtain rfl : k = 0 := (by simpa using hk)
              show x0.l.length ≤ 1000 ∧ (x0.a = none → x0.c = 0)
              rw [hg1]
              exact ⟨by have := hws2.out l0.length (by omega); omega, hcP _ (by omega)⟩
            have HCO0 := Lib.hid (fun W (h : FRK w f a c r W) => copyOf_parts b l0 l0.length d W rfl (HX0.out W h) (by omega) hws0)
            have HCO1 := Lib.hid (fun W (h : FRK w f a c r W) => copyOf_parts (some (ad.add (l0.length * 2))) [x0] 1 (d - l0.length) W rfl (HX1.out W h) (by show 1 ≤ 1000; decide) hws1)
            have HNE0 := Lib.hid (fun W (r2 : RU) (g k g2 k2) (l2 : List CP) (h1 : FAt W (some ⟨g, 0, none⟩) f) (h2 : r2.at_ W) (h3 : SameR r r2) (h4 : PartsAt W g2 l2) (h5 : SameP l0 l2) => needs_ans f (some ⟨g, 0, none⟩) k r r2 g2 l0 l2 l0.length k2 W rfl h1 h2 h3 h4 h5 hO0)
            have HNE1 := Lib.hid (fun W (r2 : RU) (g k g2 k2) (l2 : List CP) (h1 : FAt W (some ⟨g, 0, none⟩) f) (h2 : r2.at_ W) (h3 : SameR r r2) (h4 : PartsAt W g2 l2) (h5 : SameP [x0] l2) => needs_ans f (some ⟨g, 0, none⟩) k r r2 g2 [x0] l2 1 k2 W rfl h1 h2 h3 h4 h5 hO1)
            rw [HE00.1, show nList 0 (needsX f r l0) = needsX f r l0 from rfl] at HNE0
            rw [HE00.2, show nList 0 (needsX f r [x0]) = needsX f r [x0] from rfl] at HNE1
            unfold RU.cells at HNE0 HNE1
            have hsum := needs_sum f r l0 x0
            have hLX : L = needsX f r (l0 ++ [x0]) := by rw [HLE.out, hE0, ← hlx]; try rfl
            rw [← hLX] at hsum
            obtain ⟨L0, hL0⟩ : ∃ L0, L0 = needsX f r l0 := ⟨_, rfl⟩
            obtain ⟨L1, hL1⟩ : ∃ L1, L1 = needsX f r [x0] := ⟨_, rfl⟩
            have hn : L.length = f.sorts.length := by rw [hLX]; exact needsX_len ..
            have hn0 : L0.length = f.sorts.length := by rw [hL0]; exact needsX_len ..
            have hn1 : L1.length = f.sorts.length := by rw [hL1]; exact needsX_len ..
            have hbd0 : ∀ j, 0 ≤ L0.getD j 0 ∧ L0.getD j 0 ≤ 100000 * (l0.length : Int) := fun j => by rw [hL0]; exact (needsX_bd HE00.1 j)
            have hbd1 : ∀ j, 0 ≤ L1.getD j 0 ∧ L1.getD j 0 ≤ 100000 * (([x0] : List CP).length : Int) := fun j => by rw [hL1]; exact (needsX_bd HE00.2 j)
            rw [← hL0, ← hL1] at hsum
            rw [← hL0] at HNE0
            rw [← hL1] at HNE1
            have HSUM := Lib.hid hsum
            have HB0 := Lib.hid hbd0
            have HB1 := Lib.hid hbd1
            have HN := Lib.hid (And.intro hn (And.intro hn0 hn1))
            subst hbad
            have hlo0 : (0 : Int) ≤ (l0.length : Int) := by omega
            have hsl0 := fun W => (show (Instr.slice 42 (.slice (some ad) l.length d) none (some (.int .i64 (l0.length : Int))) none).run Tryz.prog W = .ok (.slice (some ad) l0.length d) W by
              have h1 : (l0.length : Int) ≤ (d : Int) := by omega
              simp [Instr.slice, Instr.sliceBounds, run_underlying Tryz.underlying42, hlo0, h1, go_sem])
            have hsl1 := fun W => (show (Instr.slice 42 (.slice (some ad) l.length d) (some (.int .i64 (l0.length : Int))) none none).run Tryz.prog W = .ok (.slice (some (ad.add (l0.length * 2))) 1 (d - l0.length)) W by
              have h1 : (l0.length : Int) ≤ (l.length : Int) := by omega
              have h2 : ¬ d = l0.length := by omega
              have h3 : l.length - l0.length = 1 := by omega
              simp [Instr.slice, Instr.sliceBounds, run_underlying Tryz.underlying42, hlo0, h1, h2, h3, go_sem])
            have hhi0 : (l0.length : Int) ≤ (d : Int) := by omega
            have hhi1 : (l0.length : Int) ≤ (l.length : Int) := by omega
            have hwr : IntKind.i64.wrap ((l.length : Int) - 1) = (l0.length : Int) := by rw [IntKind.wrap_i64]; omega
            have HLD := Lib.hid (And.intro hlen0 hld)
            obtain ⟨c0, c1, c2⟩ := hK13.fc
            obtain ⟨d0, d1, d2, d3, d4⟩ := hK13.rc
            have hlt4 := hK13.lt
            have hlt4a : w.heap.size < w13.heap.size := by omega
            clear hlx hg0 hg1 HE00 hO0 hO1 hX1 hws0 hws1 hsum hLX hL0 hL1 hn hn0 hn1 hbd0 hbd1 HX0 HX1 HNE HCO hlow hlen0 hm1
            go_wp2_with fail
            go_region_held3 (fun w' => w'.cell? ⟨w.heap.size, 0, none⟩ = some (.string f.name) ∧ w'.cell? ⟨w.heap.size, 1, none⟩ = some (.int .i64 f.body) ∧ w'.cell? ⟨w.heap.size, 2, none⟩ = some (.slice a f.sorts.length c) ∧ w'.cell? ⟨w.heap.size + 1, 0, none⟩ = some (.slice r.ps.a r.ps.l.length r.ps.c) ∧ w'.cell? ⟨w.heap.size + 1, 1, none⟩ = some (.slice r.es.a r.es.l.length r.es.c) ∧ w'.cell? ⟨w.heap.size + 1, 2, none⟩ = some (.slice r.bs.a r.bs.l.length r.bs.c) ∧ w'.cell? ⟨w.heap.size + 1, 3, none⟩ = some (.int .i64 r.left) ∧ w'.cell? ⟨w.heap.size + 1, 4, none⟩ = some (.int .i64 r.right)) (go_keep)
              (first
               | (go_at_call 38; refine (HCF.out _ (by first | exact hK13 | exact ⟨hK13.fb, hK13.rb, hK13.low.drew⟩)).mono ?_; rintro e w7 ⟨g7, cp7, rfl, hk7, hF7, hb7d⟩; have hb7 : Below w13.heap.size w13 w7 := (Below.refl _ _).drew.trans hb7d; have k0 := (hb7.cell (p := ⟨w.heap.size, 0, none⟩) hlt4a).trans c0; have k1 := (hb7.cell (p := ⟨w.heap.size, 1, none⟩) hlt4a).trans c1; have k2 := (hb7.cell (p := ⟨w.heap.size, 2, none⟩) hlt4a).trans c2; have k3 := (hb7.cell (p := ⟨w.heap.size + 1, 0, none⟩) hlt4).trans d0; have k4 := (hb7.cell (p := ⟨w.heap.size + 1, 1, none⟩) hlt4).trans d1; have k5 := (hb7.cell (p := ⟨w.heap.size + 1, 2, none⟩) hlt4).trans d2; have k6 := (hb7.cell (p := ⟨w.heap.size + 1, 3, none⟩) hlt4).trans d3; have k7 := (hb7.cell (p := ⟨w.heap.size + 1, 4, none⟩) hlt4).trans d4)
               | (go_at_call 20; refine (HCP.out _ (HR.out _ (hK13.below hb7))).mono ?_; rintro e w8 ⟨r8, rfl, hS8, hO8, hb8⟩; have hb87 : Below w13.heap.size w13 w8 := hb7.trans (hb8.mono hb7.size); have k0 := (hb87.cell (p := ⟨w.heap.size, 0, none⟩) hlt4a).trans c0; have k1 := (hb87.cell (p := ⟨w.heap.size, 1, none⟩) hlt4a).trans c1; have k2 := (hb87.cell (p := ⟨w.heap.size, 2, none⟩) hlt4a).trans c2; have k3 := (hb87.cell (p := ⟨w.heap.size + 1, 0, none⟩) hlt4).trans d0; have k4 := (hb87.cell (p := ⟨w.heap.size + 1, 1, none⟩) hlt4).trans d1; have k5 := (hb87.cell (p := ⟨w.heap.size + 1, 2, none⟩) hlt4).trans d2; have k6 := (hb87.cell (p := ⟨w.heap.size + 1, 3, none⟩) hlt4).trans d3; have k7 := (hb87.cell (p := ⟨w.heap.size + 1, 4, none⟩) hlt4).trans d4)
               | (go_at_call 29; refine (HCO0.out _ (hK13.below hb87)).mono ?_; rintro e w9 ⟨g9, cp9, l9, rfl, hX9, hP9, hb9d⟩; have hb9 : Below w13.heap.size w13 w9 := hb87.trans (hb9d.mono hb87.size); have k0 := (hb9.cell (p := ⟨w.heap.size, 0, none⟩) hlt4a).trans c0; have k1 := (hb9.cell (p := ⟨w.heap.size, 1, none⟩) hlt4a).trans c1; have k2 := (hb9.cell (p := ⟨w.heap.size, 2, none⟩) hlt4a).trans c2; have k3 := (hb9.cell (p := ⟨w.heap.size + 1, 0, none⟩) hlt4).trans d0; have k4 := (hb9.cell (p := ⟨w.heap.size + 1, 1, none⟩) hlt4).trans d1; have k5 := (hb9.cell (p := ⟨w.heap.size + 1, 2, none⟩) hlt4).trans d2; have k6 := (hb9.cell (p := ⟨w.heap.size + 1, 3, none⟩) hlt4).trans d3; have k7 := (hb9.cell (p := ⟨w.heap.size + 1, 4, none⟩) hlt4).trans d4)
               | (go_at_call 55; refine (HNE0.out _ r8 g7 cp7 g9 cp9 l9 ((hF7.below hb8).below hb9d) ((HAT.out _ _ hS8 _ hO8).below hb9d) hS8 hX9 hP9).mono ?_; rintro e wB ⟨hbAd, AwB, cwB, rfl, hVwB⟩; replace hVwB := Lib.hid hVwB; have hbA : Below w13.heap.size w13 wB := hb9.trans (hbAd.mono hb9.size); have k0 := (hbA.cell (p := ⟨w.heap.size, 0, none⟩) hlt4a).trans c0; have k1 := (hbA.cell (p := ⟨w.heap.size, 1, none⟩) hlt4a).trans c1; have k2 := (hbA.cell (p := ⟨w.heap.size, 2, none⟩) hlt4a).trans c2; have k3 := (hbA.cell (p := ⟨w.heap.size + 1, 0, none⟩) hlt4).trans d0; have k4 := (hbA.cell (p := ⟨w.heap.size + 1, 1, none⟩) hlt4).trans d1; have k5 := (hbA.cell (p := ⟨w.heap.size + 1, 2, none⟩) hlt4).trans d2; have k6 := (hbA.cell (p := ⟨w.heap.size + 1, 3, none⟩) hlt4).trans d3; have k7 := (hbA.cell (p := ⟨w.heap.size + 1, 4, none⟩) hlt4).trans d4))
            have hKB := hK13.below hbA
            have hVB := hV13.below hbA
            clear c0 c1 c2 d0 d1 d2 d3 d4 k0 k1 k2 k3 k4 k5 k6 k7 hK13 hV13 hbA hlt4 hlt4a hb7 hb8 hb87 hb9 hF7 hO8 hS8 hX9 hP9 hbAd hb7d hb9d hsl0
            obtain ⟨c0, c1, c2⟩ := hKB.fc
            obtain ⟨d0, d1, d2, d3, d4⟩ := hKB.rc
            have hlt4 := hKB.lt
            have hlt4a : w.heap.size < wB.heap.size := by omega
            go_wp2_with fail
            go_region_held3 (fun w' => w'.cell? ⟨w.heap.size, 0, none⟩ = some (.string f.name) ∧ w'.cell? ⟨w.heap.size, 1, none⟩ = some (.int .i64 f.body) ∧ w'.cell? ⟨w.heap.size, 2, none⟩ = some (.slice a f.sorts.length c) ∧ w'.cell? ⟨w.heap.size + 1, 0, none⟩ = some (.slice r.ps.a r.ps.l.length r.ps.c) ∧ w'.cell? ⟨w.heap.size + 1, 1, none⟩ = some (.slice r.es.a r.es.l.length r.es.c) ∧ w'.cell? ⟨w.heap.size + 1, 2, none⟩ = some (.slice r.bs.a r.bs.l.length r.bs.c) ∧ w'.cell? ⟨w.heap.size + 1, 3, none⟩ = some (.int .i64 r.left) ∧ w'.cell? ⟨w.heap.size + 1, 4, none⟩ = some (.int .i64 r.right)) (go_keep)
              (first
               | (go_at_call 38; refine (HCF.out _ (by first | exact hKB | exact ⟨hKB.fb, hKB.rb, hKB.low.drew⟩)).mono ?_; rintro e w7 ⟨g7, cp7, rfl, hk7, hF7, hb7d⟩; have hb7 : Below wB.heap.size wB w7 := (Below.refl _ _).drew.trans hb7d; have k0 := (hb7.cell (p := ⟨w.heap.size, 0, none⟩) hlt4a).trans c0; have k1 := (hb7.cell (p := ⟨w.heap.size, 1, none⟩) hlt4a).trans c1; have k2 := (hb7.cell (p := ⟨w.heap.size, 2, none⟩) hlt4a).trans c2; have k3 := (hb7.cell (p := ⟨w.heap.size + 1, 0, none⟩) hlt4).trans d0; have k4 := (hb7.cell (p := ⟨w.heap.size + 1, 1, none⟩) hlt4).trans d1; have k5 := (hb7.cell (p := ⟨w.heap.size + 1, 2, none⟩) hlt4).trans d2; have k6 := (hb7.cell (p := ⟨w.heap.size + 1, 3, none⟩) hlt4).trans d3; have k7 := (hb7.cell (p := ⟨w.heap.size + 1, 4, none⟩) hlt4).trans d4)
               | (go_at_call 20; refine (HCP.out _ (HR.out _ (hKB.below hb7))).mono ?_; rintro e w8 ⟨r8, rfl, hS8, hO8, hb8⟩; have hb87 : Below wB.heap.size wB w8 := hb7.trans (hb8.mono hb7.size); have k0 := (hb87.cell (p := ⟨w.heap.size, 0, none⟩) hlt4a).trans c0; have k1 := (hb87.cell (p := ⟨w.heap.size, 1, none⟩) hlt4a).trans c1; have k2 := (hb87.cell (p := ⟨w.heap.size, 2, none⟩) hlt4a).trans c2; have k3 := (hb87.cell (p := ⟨w.heap.size + 1, 0, none⟩) hlt4).trans d0; have k4 := (hb87.cell (p := ⟨w.heap.size + 1, 1, none⟩) hlt4).trans d1; have k5 := (hb87.cell (p := ⟨w.heap.size + 1, 2, none⟩) hlt4).trans d2; have k6 := (hb87.cell (p := ⟨w.heap.size + 1, 3, none⟩) hlt4).trans d3; have k7 := (hb87.cell (p := ⟨w.heap.size + 1, 4, none⟩) hlt4).trans d4)
               | (go_at_call 29; refine (HCO1.out _ (hKB.below hb87)).mono ?_; rintro e w9 ⟨g9, cp9, l9, rfl, hX9, hP9, hb9d⟩; have hb9 : Below wB.heap.size wB w9 := hb87.trans (hb9d.mono hb87.size); have k0 := (hb9.cell (p := ⟨w.heap.size, 0, none⟩) hlt4a).trans c0; have k1 := (hb9.cell (p := ⟨w.heap.size, 1, none⟩) hlt4a).trans c1; have k2 := (hb9.cell (p := ⟨w.heap.size, 2, none⟩) hlt4a).trans c2; have k3 := (hb9.cell (p := ⟨w.heap.size + 1, 0, none⟩) hlt4).trans d0; have k4 := (hb9.cell (p := ⟨w.heap.size + 1, 1, none⟩) hlt4).trans d1; have k5 := (hb9.cell (p := ⟨w.heap.size + 1, 2, none⟩) hlt4).trans d2; have k6 := (hb9.cell (p := ⟨w.heap.size + 1, 3, none⟩) hlt4).trans d3; have k7 := (hb9.cell (p := ⟨w.heap.size + 1, 4, none⟩) hlt4).trans d4)
               | (go_at_call 55; refine (HNE1.out _ r8 g7 cp7 g9 cp9 l9 ((hF7.below hb8).below hb9d) ((HAT.out _ _ hS8 _ hO8).below hb9d) hS8 hX9 hP9).mono ?_; rintro e wC ⟨hbAd, AwC, cwC, rfl, hVwC⟩; replace hVwC := Lib.hid hVwC; have hbA : Below wB.heap.size wB wC := hb9.trans (hbAd.mono hb9.size); have k0 := (hbA.cell (p := ⟨w.heap.size, 0, none⟩) hlt4a).trans c0; have k1 := (hbA.cell (p := ⟨w.heap.size, 1, none⟩) hlt4a).trans c1; have k2 := (hbA.cell (p := ⟨w.heap.size, 2, none⟩) hlt4a).trans c2; have k3 := (hbA.cell (p := ⟨w.heap.size + 1, 0, none⟩) hlt4).trans d0; have k4 := (hbA.cell (p := ⟨w.heap.size + 1, 1, none⟩) hlt4).trans d1; have k5 := (hbA.cell (p := ⟨w.heap.size + 1, 2, none⟩) hlt4).trans d2; have k6 := (hbA.cell (p := ⟨w.heap.size + 1, 3, none⟩) hlt4).trans d3; have k7 := (hbA.cell (p := ⟨w.heap.size + 1, 4, none⟩) hlt4).trans d4))
            have hKC := hKB.below hbA
            have hVC := hVB.below hbA
            have hV0 := hVwB.out.below hbA
            have hV1 := hVwC.out
            have hlow := hKC.low
            clear c0 c1 c2 d0 d1 d2 d3 d4 k0 k1 k2 k3 k4 k5 k6 k7 hKB hKC hVB hVwB hVwC hbA hlt4 hlt4a hb7 hb8 hb87 hb9 hF7 hO8 hS8 hX9 hP9 hbAd hb7d hb9d hsl1
            have hq0 : ((L0.length : Int) != (L.length : Int)) = false := by rw [HN.out.1, HN.out.2.1]; simp
            have hq1 : ((L1.length : Int) != (L.length : Int)) = false := by rw [HN.out.1, HN.out.2.2]; simp
            go_wp2_with fail
            go_loopw [15] (fun v15 wi => ∃ i : Nat, i ≤ L.length ∧ v15 = .int .i64 i ∧ Below wC.heap.size wC wi) (fun v15 _ => L.length - (intOf v15).toNat)
            case atStart => exact ⟨0, Nat.zero_le _, rfl, Below.refl _ _⟩
            case round =>
              obtain ⟨i, hi, rfl, hbi⟩ := hrel
              by_cases hil : i < L.length
              · have hil' : (i : Int) < (L.length : Int) := by omega
                have hi0 : (0 : Int) ≤ (i : Int) := by omega
                have hl0i : (i : Int) < (L0.length : Int) := by have := HN.out; omega
                have hl1i : (i : Int) < (L1.length : Int) := by have := HN.out; omega
                obtain ⟨a0, e0, -, y0⟩ := (hV0.below hbi) i (by omega)
                obtain ⟨a1, e1, -, y1⟩ := (hV1.below hbi) i (by omega)
                obtain ⟨a2, e2, -, y2⟩ := (hVC.below hbi) i hil
                have hs := HSUM.out i (by have := HN.out; omega)
                have hb0 := HB0.out i
                have hb1 := HB1.out i
                have hld := HLD.out
                simp only [List.length_singleton] at hb1
                obtain ⟨z0, hz0⟩ : ∃ z, z = L0.getD i 0 := ⟨_, rfl⟩
                obtain ⟨z1, hz1⟩ : ∃ z, z = L1.getD i 0 := ⟨_, rfl⟩
                obtain ⟨z2, hz2⟩ : ∃ z, z = L.getD i 0 := ⟨_, rfl⟩
                rw [← hz0] at y0 hb0 hs
                rw [← hz1] at y1 hb1 hs
                rw [← hz2] at y2 hs
                have hw : IntKind.i64.wrap (z0 + z1) = z2 := by rw [IntKind.wrap_i64]; omega
                have hne : (z2 != z2) = false := by simp
                have HS3 := Lib.hid hs
                rw [e0, e1, e2]
                clear hz0 hz1 hz2 hs hld hb0 hb1 e0 e1 e2
                go_wp2_with fail
                go_quiet (fail)
                go_wp2
                go_roundw
                case rel => exact ⟨i + 1, by omega, by go_num, below_drewN hbi _⟩
                case measure => simp [intOf]; omega
              · obtain rfl : i = L.length := by omega
                have hil' : ¬ (L.length : Int) < (L.length : Int) := by omega
                have hlow2 := hlow.trans (hbi.mono hlow.size)
                go_wp2
                go_ret
                exact ⟨rfl, hlow2⟩
        · have heb : (E != 0) = true := by simpa using hE0
          go_wp2
          go_ret
          exact ⟨rfl, hlow⟩
      · have hcb : (CE == 0) = false := by simpa using hc0
        have hcb2 : (CE != 0) = true := by simpa using hc0
        have hEW : E = CE := by rw [HE.out, if_neg (fun h => h hf0), if_neg (fun h => h hr0), if_pos hc0]
        subst hEW
        obtain rfl : L = [] := by rw [HLE.out]; exact if_neg hc0
        have HSA := ints_any AwA [] cwA none [] 0 w11 hV11 (fun k hk => absurd hk (Nat.not_lt_zero _)) (by decide) (by decide)
        have hlow := hK11.low
        have hEE : (E != E) = false := by simp
        clear hV11
        go_wp2_with fail
        refine HSA.mono ?_
        rintro e w13 ⟨rfl, hD13⟩
        have hlow2 := hlow.trans ((hD13.below (Below.refl _ _)).mono hlow.size)
        clear hD13
        go_wp2
        go_ret
        exact ⟨rfl, hlow2⟩
    · have hrb : (RE == 0) = false := by simpa using hr0
      have hrb2 : (RE != 0) = true := by simpa using hr0
      have hEW : E = RE := by rw [HE.out, if_neg (fun h => h hf0), if_pos hr0]
      subst hEW
      obtain rfl : L = [] := by rw [HLE.out]; exact if_neg hr0
      have HSA := ints_any AwA [] cwA none [] 0 w11 hV11 (fun k hk => absurd hk (Nat.not_lt_zero _)) (by decide) (by decide)
      have hlow := hK11.low
      have hEE : (E != E) = false := by simp
      clear hV11
      go_wp2_with fail
      refine HSA.mono ?_
      rintro e w13 ⟨rfl, hD13⟩
      have hlow2 := hlow.trans ((hD13.below (Below.refl _ _)).mono hlow.size)
      clear hD13
      go_wp2
      go_ret
      exact ⟨rfl, hlow2⟩
  · have hfb : (FE == 0) = false := by simpa using hf0
    have hfb2 : (FE != 0) = true := by simpa using hf0
    have hEW : E = FE := by rw [HE.out, if_pos hf0]
    subst hEW
    obtain rfl : L = [] := by rw [HLE.out]; exact if_neg hf0
    have HSA := ints_any AwA [] cwA none [] 0 w10 hV10 (fun k hk => absurd hk (Nat.not_lt_zero _)) (by decide) (by decide)
    have hlow := hK10.low
    have hEE : (E != E) = false := by simp
    clear hV10
    go_wp2_with fail
    refine HSA.mono ?_
    rintro e w13 ⟨rfl, hD13⟩
    have hlow2 := hlow.trans ((hD13.below (Below.refl _ _)).mono hlow.size)
    clear hD13
    go_wp2
    go_ret
    exact ⟨rfl, hlow2⟩
end Go.Proofs.YtlkkociijfdcgaaGreatDoor
