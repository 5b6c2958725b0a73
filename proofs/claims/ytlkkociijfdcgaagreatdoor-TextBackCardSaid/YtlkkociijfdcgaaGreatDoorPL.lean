/-
  The hyphens of a word.
-/
import Derived.Test.YtlkkociijfdcgaaGreatDoorVP
import Derived.Test.YtlkkociijfdcgaaGreatDoorW7
import Derived.Test.YtlkkociijfdcgaaGreatDoorZ3
import Derived.Test.YtlkkociijfdcgaaGreatDoorVO
import Derived.Deep.CutRange
import Derived.Test.YtlkkociijfdcgaaGreatDoorZX
import Derived.Test.YtlkkociijfdcgaaGreatDoorZ6
import Derived.Test.YtlkkociijfdcgaaGreatDoorZ5
namespace Go.Proofs.YtlkkociijfdcgaaGreatDoor
open Go.RowKit Go.Maps Go.Shelf

def nearB (l r n : Int) (x : Int) : Bool := decide (l ≤ x) && decide (r ≤ n - x)
def hyTo (l r n : Int) (P : List Int) : Nat → List Int
  | 0 => []
  | k + 1 => if nearB l r n (P.getD k 0) = true then hyTo l r n P k ++ [P.getD k 0] else hyTo l r n P k
theorem hyTo_len (l r n : Int) (P : List Int) : ∀ k, (hyTo l r n P k).length ≤ k
  | 0 => Nat.le_refl _
  | k + 1 => by
    have := hyTo_len l r n P k
    unfold hyTo
    split
    · rw [List.length_append]; simp; omega
    · omega
def ruleHyph (r : RU) (s : ByteArray) : List Int := hyTo r.left r.right s.size (rulePos r s) (rulePos r s).length
set_option maxRecDepth 100000 in
set_option maxHeartbeats 800000 in
theorem hyphens_any (r : RU) (base g b1 b2 : Nat) (s : ByteArray) (w : World) (hB : BookAt w base r g b1 b2) (hok : ∀ j, j < r.ps.l.length → PatOk (patG r.ps.l j)) (hn : r.ps.l.length ≤ 1000) (hs : s.size ≤ 1000) (hascii : ∀ (j : Nat) (b : UInt8), s.data.toList[j]? = some b → b.toNat < 128)
    (hbd : (rulePos r s).length ≤ 1001 ∧ ∀ j, 0 ≤ (rulePos r s).getD j 0 ∧ (rulePos r s).getD j 0 ≤ 2000) :
    Calls Tryz.prog 121 #[bookV r g b1 b2, .string s] w fun e w' => ∃ (a : Option Addr) (c : Nat), e = .returned (.slice a (ruleHyph r s).length c) ∧ IRow w' w.heap.size (.slice a (ruleHyph r s).length c) (ruleHyph r s) ∧ Below w.heap.size w w' := by
  have hbk := hB.below ((Below.refl _ _).alloc (Nat.le_refl _) (.cells #[.slice (some ⟨g, 0, none⟩) r.ps.l.length r.ps.l.length, .map (some b1), .map (some b2), .int .i64 r.left, .int .i64 r.right] 134))
  have HPH := Lib.hid (possibleHyphens_any r base g b1 b2 s _ hbk hok hn hs hascii)
  have HRH := Lib.hid (show ruleHyph r s = hyTo r.left r.right s.size (rulePos r s) (rulePos r s).length from rfl)
  obtain ⟨hbl, hbn⟩ := hbd
  obtain ⟨P, hP⟩ : ∃ P, P = rulePos r s := ⟨_, rfl⟩
  rw [← hP] at hbl hbn HPH HRH
  have HBN := Lib.hid hbn
  clear hP hbn hbk hB hok hascii
  unfold bookV at *
  go_enter Tryz.func121, Tryz.ntmps121
  go_wp2_with fail
  refine HPH.out.mono ?_
  rintro e w1 ⟨a, c, rfl, hI, hb1⟩
  have hbw : Below w.heap.size w w1 := ((Below.refl _ _).alloc (Nat.le_refl _) (.cells #[.slice (some ⟨g, 0, none⟩) r.ps.l.length r.ps.l.length, .map (some b1), .map (some b2), .int .i64 r.left, .int .i64 r.right] 134)).trans (hb1.mono (by simp))
  have hbx : w1.heap[w.heap.size]? = some (.cells #[.slice (some ⟨g, 0, none⟩) r.ps.l.length r.ps.l.length, .map (some b1), .map (some b2), .int .i64 r.left, .int .i64 r.right] 134 (0, 0)) := (hb1.block _ (by simp)).trans (heap_new w _)
  have hzw := heap_lt hbx
  clear hb1
  go_wp2
  go_loopw [5, 12] (fun v5 v12 wr => ∃ k : Nat, k ≤ P.length ∧ v12 = .int .i64 k ∧ IRow wr w1.heap.size v5 (hyTo r.left r.right s.size P k) ∧ Below w1.heap.size w1 wr) (fun _ v12 _ => P.length - (intOf v12).toNat)
  case atStart => exact ⟨0, Nat.zero_le _, rfl, IRow.nil _ _, Below.refl _ _⟩
  case round =>
    obtain ⟨k, hk, rfl, hR, hbr⟩ := hrel
    by_cases hlt : k < P.length
    · have hlt' : (k : Int) < (P.length : Int) := by omega
      obtain ⟨ad, rfl, hal, hy⟩ := (hI.below hbr).at_ hlt
      have hbxr := (hbr.block _ hzw).trans hbx
      have c3 : wr.cell? ⟨w.heap.size, 3, none⟩ = some (.int .i64 r.left) := by rw [cell_of_row wr _ 3 _ _ (0, 0) hbxr]; try rfl
      have c4 : wr.cell? ⟨w.heap.size, 4, none⟩ = some (.int .i64 r.right) := by rw [cell_of_row wr _ 4 _ _ (0, 0) hbxr]; try rfl
      have hd := HBN.out k
      have hol := hyTo_len r.left r.right s.size P k
      have hst : hyTo r.left r.right s.size P (k + 1) = if nearB r.left r.right s.size (P.getD k 0) = true then hyTo r.left r.right s.size P k ++ [P.getD k 0] else hyTo r.left r.right s.size P k := rfl
      generalize P.getD k 0 = x at hy hd hst
      have HST := Lib.hid hst
      clear hst hbxr
      have hw1 : IntKind.i64.wrap ((s.size : Int) - x) = (s.size : Int) - x := by rw [IntKind.wrap_i64]; omega
      by_cases h1 : r.left ≤ x
      · by_cases h2 : r.right ≤ (s.size : Int) - x
        · have HN := Lib.hid (show nearB r.left r.right s.size x = true by unfold nearB; simp [h1, h2])
          obtain ⟨a9, d9, hv9, -, -, -⟩ := hR.shape
          subst hv9
          have hbl2 := hbr.size
          have hql : (hyTo r.left r.right s.size P k).length ≤ 1000000 := by omega
          go_wp2_with (at_builtin; refine wpList_app1 wr _ rfl _ _ rfl w1.heap.size _ (hyTo r.left r.right s.size P k) rfl hR rfl hql hbl2 ?_; intro g9 c9 w9 hrow9 hgrow9 hb9)
          go_roundw
          case rel => exact ⟨k + 1, by omega, by go_num, by rw [HST.out, if_pos HN.out]; simpa using hrow9, hbr.trans hb9⟩
          case measure => simp [intOf]; omega
        · have HN := Lib.hid (show nearB r.left r.right s.size x = false by unfold nearB; simp [h2])
          go_wp2
          go_roundw
          case rel => exact ⟨k + 1, by omega, by go_num, by rw [HST.out, if_neg (by rw [HN.out]; decide)]; exact hR, hbr⟩
          case measure => simp [intOf]; omega
      · have HN := Lib.hid (show nearB r.left r.right s.size x = false by unfold nearB; simp [h1])
        go_wp2
        go_roundw
        case rel => exact ⟨k + 1, by omega, by go_num, by rw [HST.out, if_neg (by rw [HN.out]; decide)]; exact hR, hbr⟩
        case measure => simp [intOf]; omega
    · obtain rfl : k = P.length := by omega
      obtain ⟨a9, d9, hv9, hi9, -, -⟩ := hR.shape
      subst hv9
      go_wp2
      go_ret
      rw [HRH.out]
      exact ⟨_, _, rfl, hR.mono (by have := hbw.size; omega), hbw.trans (hbr.mono (by have := hbw.size; omega))⟩
end Go.Proofs.YtlkkociijfdcgaaGreatDoor
/-
  What right rules and words keep; LevelsOf.
-/
namespace Go.Proofs.YtlkkociijfdcgaaGreatDoor
open Go.RowKit Go.Maps Go.Shelf

theorem getD_digs {l : List Int} (h : ∀ e ∈ l, -1 ≤ e ∧ e ≤ 9) (k : Nat) : -1 ≤ l.getD k 0 ∧ l.getD k 0 ≤ 9 := by
  rw [List.getD_eq_getElem?_getD]
  cases hk : l[k]? with
  | none => exact ⟨by decide, by decide⟩
  | some e => exact h e (List.mem_of_getElem? hk)
theorem pats_ok {l : List ByteArray} (h : (checkPats l).2 = 0) : l.length ≤ 60 ∧ ∀ j, j < l.length → PatOk (patG l j) := by
  unfold checkPats at h
  by_cases h60 : 60 < l.length
  · rw [if_pos h60] at h; exact absurd h (by decide)
  · rw [if_neg h60] at h
    refine ⟨by omega, fun j hj => ?_⟩
    cases hf : firstAt (badPat l) (l.length - 0) 0 with
    | some i => rw [hf] at h; exact absurd (show (3 : Int) = 0 from h) (by decide)
    | none =>
      have hb := firstAt_none hf j (Nat.zero_le _) (by omega)
      unfold badPat at hb
      unfold patG
      cases hp : patOf (l.getD j noTx).data.toList with
      | none => rw [hp] at hb; cases hb
      | some x =>
        obtain ⟨_, h2, h3, h4, _⟩ := patOf_ok hp
        exact ⟨h3, h2, getD_digs h4⟩
theorem rules_ok {r : RU} {s : ByteArray} (h : ruleErr r s = 0) : (checkR r).2 = 0 ∧ wordErr s = 0 := by
  unfold ruleErr at h
  by_cases h1 : (checkR r).2 = 0
  · rw [if_neg (by simp [h1])] at h; exact ⟨h1, h⟩
  · rw [if_pos h1] at h; exact absurd h h1
theorem checkR_pats {r : RU} (h : (checkR r).2 = 0) : r.ps.l.length ≤ 60 ∧ ∀ j, j < r.ps.l.length → PatOk (patG r.ps.l j) := by
  refine pats_ok ?_
  unfold checkR at h
  by_cases h1 : (checkPats r.ps.l).2 = 0
  · exact h1
  · rw [if_pos h1] at h; exact h
theorem word_ascii {s : ByteArray} (h : wordErr s = 0) : ∀ (j : Nat) (b : UInt8), s.data.toList[j]? = some b → b.toNat < 128 := by
  intro j b hb
  unfold wordErr isWordB at h
  split at h
  · rename_i h1
    rw [Bool.and_eq_true] at h1
    have := List.all_eq_true.1 h1.2 b (List.mem_of_getElem? hb)
    unfold prB at this
    rw [decide_eq_true_eq] at this
    omega
  · exact absurd h (by decide)
end Go.Proofs.YtlkkociijfdcgaaGreatDoor

/-
  Hyphened: a word with its hyphens.
-/
namespace Go.Proofs.YtlkkociijfdcgaaGreatDoor
open Go.RowKit Go.Maps Go.Shelf

/-- Ahead of place k: where the last one was. -/
def fromAt (P : List Int) : Nat → Int
  | 0 => 0
  | k + 1 => P.getD k 0
def Asc (n : Nat) (P : List Int) : Prop := ∀ k, k < P.length → fromAt P k ≤ P.getD k 0 ∧ P.getD k 0 ≤ n
theorem fromAt_ok {n : Nat} {P : List Int} (h : Asc n P) : ∀ k, k ≤ P.length → 0 ≤ fromAt P k ∧ fromAt P k ≤ n
  | 0, _ => ⟨Int.le_refl _, by show (0 : Int) ≤ n; omega⟩
  | k + 1, hk => by
    have h1 := fromAt_ok h k (by omega)
    have h2 := h k (by omega)
    show 0 ≤ P.getD k 0 ∧ P.getD k 0 ≤ n
    omega
def hyOut (s : ByteArray) (P : List Int) : Nat → List UInt8
  | 0 => []
  | k + 1 => hyOut s P k ++ ((s.extract (fromAt P k).toNat (P.getD k 0).toNat).data.toList ++ [45])
def hyText (s : ByteArray) (P : List Int) : ByteArray := ⟨(hyOut s P P.length ++ (s.extract (fromAt P P.length).toNat s.size).data.toList).toArray⟩
theorem hyOut_len (s : ByteArray) (P : List Int) (hs : s.size ≤ 1000) : ∀ k, (hyOut s P k).length ≤ 1001 * k
  | 0 => Nat.le_refl _
  | k + 1 => by
    have ih := hyOut_len s P hs k
    have : (s.extract (fromAt P k).toNat (P.getD k 0).toNat).data.toList.length ≤ 1000 := by
      show (s.extract _ _).data.size ≤ _
      change (s.extract _ _).size ≤ _
      rw [ByteArray.size_extract]; omega
    unfold hyOut
    simp only [List.length_append, List.length_singleton]
    omega
theorem bld_below {B b : Nat} {l : List UInt8} {w w' : World} (h : Bld B b l w) (hb : Below w.heap.size w w') : Bld B b l w' := by
  have hlt := h.lt
  rcases h with ⟨h1, v, h2, h3, h4⟩ | ⟨h1, v, h2, h3, h4⟩
  · exact .inl ⟨h1, v, (hb.block b hlt).trans h2, own_below h3 hb, h4⟩
  · exact .inr ⟨h1, v, (hb.block b hlt).trans h2, own_below h3 hb, h4⟩
theorem IRow.oth {w w' : World} {base b : Nat} {v : Value} {l : List Int} (h : IRow w base v l) (ho : Oth b w w') (hb : b < base) : IRow w' base v l := by
  refine ⟨h.1, ?_⟩
  rcases h.2 with hn | ⟨g, cap, cur, e1, hg, hh, hr⟩
  · exact .inl hn
  · exact .inr ⟨g, cap, cur, e1, hg, (ho g _ _ _ (by omega) hh (by decide)).trans hh, hr⟩
def HyphenedPost (w : World) (r : RU) (s : ByteArray) (e : Ending) (w' : World) : Prop :=
  Below w.heap.size w w' ∧ if ruleErr r s = 0 then e = .returned (.tuple #[.string (hyText s (ruleHyph r s)), .int .i64 0]) else e = .returned (.tuple #[.string ⟨#[]⟩, .int .i64 (ruleErr r s)])
set_option maxRecDepth 100000 in
set_option maxHeartbeats 800000 in
theorem hyphened_fn (r : RU) (s : ByteArray) (w : World) (hR : r.at_ w) (hs : s.size ≤ maxLen)
    (hbd : ruleErr r s = 0 → ((rulePos r s).length ≤ 1001 ∧ ∀ j, 0 ≤ (rulePos r s).getD j 0 ∧ (rulePos r s).getD j 0 ≤ 2000) ∧ (ruleHyph r s).length ≤ 1001 ∧ Asc s.size (ruleHyph r s)) :
    Calls Tryz.prog 63 #[.agg r.cells, .string s] w (HyphenedPost w r s) := by
  have hb0 := (Below.refl w.heap.size w).alloc (Nat.le_refl _) (boxR r)
  have HC := Lib.hid (bookFor_any r s (w.alloc (boxR r)) (hR.below hb0) hs)
  unfold boxR RU.cells at *
  by_cases he : ruleErr r s = 0
  · obtain ⟨o1, o2⟩ := rules_ok he
    obtain ⟨hn, hok⟩ := checkR_pats o1
    obtain ⟨hb2, hpl, hasc⟩ := hbd he
    have hsz := (word_size o2).2
    have HHY := Lib.hid (fun g b1 b2 W (h : BookAt W (w.heap.size + 1) r g b1 b2) => hyphens_any r (w.heap.size + 1) g b1 b2 s W h hok (by omega) (by omega) (word_ascii o2) hb2)
    have HHE := Lib.hid he
    obtain ⟨P, hP⟩ : ∃ P, P = ruleHyph r s := ⟨_, rfl⟩
    rw [← hP] at hpl hasc HHY
    have HPP := Lib.hid hP
    have HASC := Lib.hid hasc
    clear hok o1 o2 hbd hb2 hP hasc
    go_enter Tryz.func63, Tryz.ntmps63
    go_wp2_with fail
    refine HC.out.mono ?_
    rintro e w1 ⟨hb1, hp1⟩
    rw [if_pos he] at hp1
    obtain ⟨g, b1, b2, rfl, hbk⟩ := hp1
    have hlow := hb0.trans (hb1.mono hb0.size)
    have hbk2 := (hbk.alloc (.cells #[.slice (some ⟨g, 0, none⟩) r.ps.l.length r.ps.l.length, .map (some b1), .map (some b2), .int .i64 r.left, .int .i64 r.right] 134)).alloc (.cells #[.pointer none, .slice none 0 0] 140)
    have hlow2 := (hlow.alloc (by have := hlow.size; omega) (.cells #[.slice (some ⟨g, 0, none⟩) r.ps.l.length r.ps.l.length, .map (some b1), .map (some b2), .int .i64 r.left, .int .i64 r.right] 134)).alloc (by have := hlow.size; simp; omega) (.cells #[.pointer none, .slice none 0 0] 140)
    have HL := Lib.hid (HHY.out g b1 b2 _ (by simpa using hbk2))
    have hBn := Bld.new (w1.alloc (.cells #[.slice (some ⟨g, 0, none⟩) r.ps.l.length r.ps.l.length, .map (some b1), .map (some b2), .int .i64 r.left, .int .i64 r.right] 134))
    clear HC HHY hbk hbk2 hb1 hb0 he
    unfold bookV at *
    go_wp2_with fail
    refine HL.out.mono ?_
    rintro e w2 ⟨a, c, rfl, hI, hb2⟩
    rw [World.size_alloc] at hBn
    have hBl := bld_below hBn hb2
    have hlow3 := hlow2.trans (hb2.mono hlow2.size)
    simp only [World.size_alloc] at hI hb2
    have hz2 := hb2.size
    simp only [World.size_alloc] at hz2
    have hz1 := hlow2.size
    simp only [World.size_alloc] at hz1
    have hz0 := hlow.size
    clear HL hBn hb2 hlow2 hlow
    go_wp2
    go_loopw [9, 25] (fun v9 v25 wr => ∃ k : Nat, k ≤ P.length ∧ v25 = .int .i64 k ∧ v9 = .int .i64 (fromAt P k) ∧ Bld (w1.heap.size + 1) (w1.heap.size + 1) (hyOut s P k) wr ∧ IRow wr (w1.heap.size + 1 + 1) (.slice a P.length c) P ∧ Below (w1.heap.size + 1) w2 wr) (fun _ v25 _ => P.length - (intOf v25).toNat)
    case atStart => exact ⟨0, Nat.zero_le _, rfl, rfl, hBl, hI, Below.refl _ _⟩
    case round =>
      obtain ⟨k, hk, rfl, rfl, hB, hR, hbr⟩ := hrel
      have hBw := hbr.size
      have hol := hyOut_len s P (by omega) k
      have hfk := fromAt_ok HASC.out k hk
      by_cases hlt : k < P.length
      · have hlt' : (k : Int) < (P.length : Int) := by omega
        obtain ⟨a', c', hv, hints, -, -⟩ := hR.shape
        cases hv
        obtain ⟨ad, rfl, hal, hy⟩ := hints.at_ hlt
        have hac := HASC.out k hlt
        have hst : hyOut s P (k + 1) = hyOut s P k ++ ((s.extract (fromAt P k).toNat (P.getD k 0).toNat).data.toList ++ [45]) := rfl
        have hfn : fromAt P (k + 1) = P.getD k 0 := rfl
        obtain ⟨p0, hp0⟩ : ∃ p0 : Nat, fromAt P k = p0 := ⟨(fromAt P k).toNat, by omega⟩
        obtain ⟨q, hq⟩ : ∃ q : Nat, P.getD k 0 = q := ⟨(P.getD k 0).toNat, by omega⟩
        rw [hp0, hq] at hac hst
        rw [hq] at hfn hy
        rw [hp0]
        rw [Int.toNat_natCast, Int.toNat_natCast] at hst
        have HST := Lib.hid hst
        have HFN := Lib.hid hfn
        have g0 : (0 : Int) ≤ (p0 : Int) := by omega
        have g1 : (p0 : Int) ≤ (q : Int) := hac.1
        have g2 : (q : Int) ≤ (s.size : Int) := hac.2
        have hes : (s.extract p0 q).size ≤ 1000 := by rw [ByteArray.size_extract]; omega
        have hol2 : (hyOut s P k).length ≤ 1100000 := by have : 1001 * k ≤ 1001 * 1001 := Nat.mul_le_mul_left _ (by omega); omega
        have h45 : (ByteArray.mk #[45]).size = 1 := rfl
        have hsum : (hyOut s P k).length + (s.extract p0 q ++ ⟨#[45]⟩).size ≤ 140737488355328 := by rw [ByteArray.size_append]; omega
        have hBw2 : w1.heap.size + 1 ≤ wr.heap.size := by omega
        clear hst hfn hp0 hq hac hfk hol hints h45
        go_wp2_with fail
        refine Calls.mono (wStr_kept (w1.heap.size + 1) (w1.heap.size + 1) (hyOut s P k) _ wr hB ?_ hBw2) ?_
        · exact hsum
        rintro e w4 ⟨rfl, hB4, hb4, ho4⟩
        have hR4 := hR.oth ho4 (by omega)
        have HB4 := Lib.hid hB4
        clear hB4 hB hR ho4
        go_wp2
        go_roundw
        case rel => exact ⟨k + 1, by omega, by go_num, by rw [HFN.out], by rw [HST.out]; simpa using HB4.out, hR4, hbr.trans hb4⟩
        case measure => simp [intOf]; omega
      · obtain rfl : k = P.length := by omega
        obtain ⟨p0, hp0⟩ : ∃ p0 : Nat, fromAt P P.length = p0 := ⟨(fromAt P P.length).toNat, by omega⟩
        have htx : hyText s P = ⟨(hyOut s P P.length ++ (s.extract p0 s.size).data.toList).toArray⟩ := by unfold hyText; rw [hp0, Int.toNat_natCast]
        rw [hp0] at hfk ⊢
        have HTX := Lib.hid htx
        have hes : (s.extract p0 s.size).size ≤ 1000 := by rw [ByteArray.size_extract]; omega
        have g0 : (0 : Int) ≤ (p0 : Int) := hfk.1
        have g2 : (p0 : Int) ≤ (s.size : Int) := hfk.2
        have hol2 : (hyOut s P P.length).length ≤ 1100000 := by have : 1001 * P.length ≤ 1001 * 1001 := Nat.mul_le_mul_left _ (by omega); omega
        have hsum2 : (hyOut s P P.length).length + (s.extract p0 s.size).size ≤ 140737488355328 := by omega
        have hBw2 : w1.heap.size + 1 ≤ wr.heap.size := by omega
        clear htx hp0 hfk hol
        go_wp2_with fail
        refine Calls.mono (wStr_kept (w1.heap.size + 1) (w1.heap.size + 1) (hyOut s P P.length) (s.extract p0 s.size) wr hB hsum2 hBw2) ?_
        rintro e w4 ⟨rfl, hB4, hb4, ho4⟩
        have hz4 := hb4.size
        have hb24 := hbr.trans hb4
        have hz5 : w1.heap.size + 1 ≤ w4.heap.size := by have := hb24.size; omega
        clear hB hR ho4 hbr hb4
        go_wp2_with fail
        refine (bStr_any _ _ _ _ hB4 hz5).mono ?_
        rintro e w5 ⟨rfl, hb5⟩
        rw [← HTX.out]
        go_wp2
        go_ret2
        refine ⟨hlow3.trans ((hb24.trans hb5).mono (by omega)), ?_⟩
        rw [if_pos HHE.out, ← HPP.out]
        exact rfl
  · go_enter Tryz.func63, Tryz.ntmps63
    go_wp2_with fail
    refine HC.out.mono ?_
    rintro e w1 ⟨hb1, hp1⟩
    rw [if_neg he] at hp1
    obtain ⟨v, rfl, a0, n0, c0, m1, m2, l0, r0, rfl⟩ := hp1
    have hlow := hb0.trans (hb1.mono hb0.size)
    have hlow2 := hlow.alloc (by have := hlow.size; omega) (.cells #[.slice a0 n0 c0, .map m1, .map m2, .int .i64 l0, .int .i64 r0] 134)
    clear HC hb0 hb1
    go_wp2
    go_ret2
    refine ⟨hlow2, ?_⟩
    rw [if_neg he]
    exact rfl
end Go.Proofs.YtlkkociijfdcgaaGreatDoor

/-
  The places of hyphens ascend within the word.
-/
namespace Go.Proofs.YtlkkociijfdcgaaGreatDoor
open Go.RowKit Go.Maps Go.Shelf

def Srt (n : Nat) (P : List Int) : Prop := P.Pairwise (· ≤ ·) ∧ ∀ x ∈ P, 0 ≤ x ∧ x ≤ (n : Int)
theorem Srt.asc {n : Nat} {P : List Int} (h : Srt n P) : Asc n P := by
  intro k hk
  have e : P.getD k 0 = P[k] := by rw [List.getD_eq_getElem?_getD, List.getElem?_eq_getElem hk]; try rfl
  have hb := h.2 _ (List.getElem_mem hk)
  rw [e]
  refine ⟨?_, hb.2⟩
  cases k with
  | zero => exact hb.1
  | succ k =>
    have hk2 : k < P.length := by omega
    have e2 : P.getD k 0 = P[k] := by rw [List.getD_eq_getElem?_getD, List.getElem?_eq_getElem hk2]; try rfl
    show P.getD k 0 ≤ _
    rw [e2]
    exact List.pairwise_iff_getElem.1 h.1 k (k + 1) hk2 hk (by omega)
theorem Srt.getD {n : Nat} {P : List Int} (h : Srt n P) (j : Nat) : 0 ≤ P.getD j 0 ∧ P.getD j 0 ≤ (n : Int) := by
  rw [List.getD_eq_getElem?_getD]
  cases e : P[j]? with
  | none => exact ⟨Int.le_refl _, by show (0 : Int) ≤ n; omega⟩
  | some x => exact h.2 x (List.mem_of_getElem? e)
theorem hyTo_eq (l r n : Int) (P : List Int) : ∀ k, k ≤ P.length → hyTo l r n P k = (P.take k).filter (nearB l r n)
  | 0, _ => rfl
  | k + 1, h => by
    have ih := hyTo_eq l r n P k (by omega)
    have hk : k < P.length := by omega
    have e : P.getD k 0 = P[k] := by rw [List.getD_eq_getElem?_getD, List.getElem?_eq_getElem hk]; try rfl
    rw [List.take_succ_eq_append_getElem hk, List.filter_append]
    unfold hyTo
    rw [e, ih]
    by_cases hb : nearB l r n P[k] = true
    · rw [if_pos hb, List.filter_cons_of_pos hb, List.filter_nil]
    · rw [if_neg hb, List.filter_cons_of_neg hb, List.filter_nil, List.append_nil]
theorem ruleHyph_eq (r : RU) (s : ByteArray) : ruleHyph r s = (rulePos r s).filter (nearB r.left r.right s.size) := by
  unfold ruleHyph
  rw [hyTo_eq _ _ _ _ _ (Nat.le_refl _), List.take_length]
theorem odds_srt (L : List Int) : ∀ k, (odds L k).Pairwise (· ≤ ·) ∧ ∀ x ∈ odds L k, 0 ≤ x ∧ x < (k : Int)
  | 0 => ⟨List.Pairwise.nil, fun x hx => (by cases hx)⟩
  | k + 1 => by
    obtain ⟨h1, h2⟩ := odds_srt L k
    unfold odds
    split
    · refine ⟨List.pairwise_append.2 ⟨h1, List.pairwise_singleton _ _, fun a ha b hb => ?_⟩, fun x hx => ?_⟩
      · have := h2 a ha
        obtain rfl := List.mem_singleton.1 hb
        omega
      · rcases List.mem_append.1 hx with hx | hx
        · have := h2 x hx; omega
        · obtain rfl := List.mem_singleton.1 hx
          omega
    · exact ⟨h1, fun x hx => by have := h2 x hx; omega⟩
theorem sumL_mono (ps : List (List UInt8)) {i j : Nat} (h : i ≤ j) : sumL ps i ≤ sumL ps j := by
  unfold sumL
  have e : (ps.take j).take i = ps.take i := by rw [List.take_take, Nat.min_eq_left h]
  have e2 : ((ps.take j).take i).flatten.length + ((ps.take j).drop i).flatten.length = (ps.take j).flatten.length := by
    rw [← List.length_append, ← List.flatten_append, List.take_append_drop]
  rw [e] at e2
  omega
theorem cutAt_srt {m : UInt8} {l : List UInt8} {x : List UInt8 × List Int} (h : cutAt m l = some x) : Srt x.1.length x.2 := by
  unfold cutAt at h
  by_cases c1 : 59 < l.length
  · rw [if_pos c1] at h; cases h
  · rw [if_neg c1] at h
    by_cases c2 : (splitOn m l).any List.isEmpty = true
    · rw [if_pos c2] at h; cases h
    · rw [if_neg c2] at h
      injection h with h
      rw [← h]
      have hat : ∀ k (hk : k < (placesOf 0 (splitOn m l)).length), (placesOf 0 (splitOn m l))[k] = sumL (splitOn m l) (k + 1) := fun k hk => by
        have hk' := hk
        rw [placesOf_len] at hk'
        have h2 := placesOf_at (splitOn m l) 0 k (by omega)
        rw [List.getElem?_eq_getElem hk] at h2
        injection h2 with h2
        rw [h2, Int.zero_add]
      refine ⟨List.pairwise_iff_getElem.2 fun i j hi hj hij => ?_, fun y hy => ?_⟩
      · show (placesOf 0 (splitOn m l))[i] ≤ (placesOf 0 (splitOn m l))[j]
        rw [hat i hi, hat j hj]
        exact sumL_mono _ (by omega)
      · obtain ⟨k, hk, rfl⟩ := List.getElem_of_mem hy
        show 0 ≤ (placesOf 0 (splitOn m l))[k] ∧ (placesOf 0 (splitOn m l))[k] ≤ _
        rw [hat k hk]
        exact sumL_le _ _
theorem lookE_mem {key : List UInt8} : ∀ (E : List (List UInt8 × List Int)) (l : List Int), E.foldl (fun acc p => if p.1 = key then p.2 else acc) l = l ∨ ∃ p ∈ E, p.1 = key ∧ E.foldl (fun acc p => if p.1 = key then p.2 else acc) l = p.2
  | [], l => .inl rfl
  | p :: E, l => by
    rw [List.foldl_cons]
    by_cases hp : p.1 = key
    · rw [if_pos hp]
      rcases lookE_mem E p.2 with h | ⟨q, hq, h1, h2⟩
      · exact .inr ⟨p, by simp, hp, h⟩
      · exact .inr ⟨q, by simp [hq], h1, h2⟩
    · rw [if_neg hp]
      rcases lookE_mem E l with h | ⟨q, hq, h1, h2⟩
      · exact .inl h
      · exact .inr ⟨q, by simp [hq], h1, h2⟩
theorem lookE_srt (y : Sty) (l : List ByteArray) (k : Nat) (key : List UInt8) : Srt key.length (lookE (entsN y l k) key) := by
  unfold lookE
  rcases lookE_mem (key := key) (entsN y l k) [] with h | ⟨p, hp, h1, h2⟩
  · rw [h]; exact ⟨List.Pairwise.nil, fun x hx => (by cases hx)⟩
  · rw [h2]
    unfold entsN at hp
    obtain ⟨j, _, rfl⟩ := List.mem_map.1 hp
    unfold entG at h1 ⊢
    cases h : entO y (l.getD j noTx) with
    | none => exact ⟨List.Pairwise.nil, fun x hx => (by cases hx)⟩
    | some x =>
      rw [h] at h1
      have hx : Srt x.1.length x.2 := by
        unfold entO at h
        cases hc : cutAt y.m (l.getD j noTx).data.toList with
        | none => rw [hc] at h; cases h
        | some z =>
          rw [hc] at h
          dsimp only at h
          split at h
          · injection h with h; rw [← h]; exact cutAt_srt hc
          · cases h
      have e : x.1 = key := h1
      rw [← e]
      exact hx
theorem rulePos_srt (r : RU) (s : ByteArray) : Srt s.size (rulePos r s) := by
  unfold rulePos
  split
  · have h := lookE_srt excS r.es.l r.es.l.length (lowS s).data.toList
    have e : (lowS s).data.toList.length = s.size := lowS_size s
    rw [e] at h
    exact h
  · split
    · obtain ⟨h1, h2⟩ := odds_srt (lvTo (patG r.ps.l) (lowS s) r.ps.l.length) (s.size + 1)
      exact ⟨h1, fun x hx => by have := h2 x hx; omega⟩
    · exact ⟨List.Pairwise.nil, fun x hx => (by cases hx)⟩
theorem rulePos_len (r : RU) (s : ByteArray) (hs : s.size ≤ 1000) : (rulePos r s).length ≤ 1001 := by
  unfold rulePos
  split
  · have := (lookE_places (entsN_places excS r.es.l r.es.l.length) (lowS s).data.toList).1
    omega
  · split
    · have := odds_len (lvTo (patG r.ps.l) (lowS s) r.ps.l.length) (s.size + 1)
      omega
    · simp
theorem ruleHyph_srt (r : RU) (s : ByteArray) : Srt s.size (ruleHyph r s) := by
  rw [ruleHyph_eq]
  have h := rulePos_srt r s
  exact ⟨h.1.filter _, fun x hx => h.2 x ((List.mem_filter.1 hx).1)⟩
theorem hyph_bounds {r : RU} {s : ByteArray} (h : ruleErr r s = 0) : ((rulePos r s).length ≤ 1001 ∧ ∀ j, 0 ≤ (rulePos r s).getD j 0 ∧ (rulePos r s).getD j 0 ≤ 2000) ∧ (ruleHyph r s).length ≤ 1001 ∧ Asc s.size (ruleHyph r s) := by
  have hsz := (word_size (rules_ok h).2).2
  have h1 := rulePos_len r s (by omega)
  refine ⟨⟨h1, fun j => ?_⟩, ?_, (ruleHyph_srt r s).asc⟩
  · have := (rulePos_srt r s).getD j
    omega
  · rw [ruleHyph_eq]
    exact Nat.le_trans (List.length_filter_le _ _) h1
theorem hyphened_ok (r : RU) (s : ByteArray) (w : World) (hR : r.at_ w) (hs : s.size ≤ maxLen) :
    Calls Tryz.prog 63 #[.agg r.cells, .string s] w (HyphenedPost w r s) := hyphened_fn r s w hR hs hyph_bounds
end Go.Proofs.YtlkkociijfdcgaaGreatDoor

namespace Go.Proofs.YtlkkociijfdcgaaGreatDoor
open Go.RowKit Go.Maps Go.Shelf

def houseP : List ByteArray := [⟨#[97, 49, 98]⟩, ⟨#[50, 98, 108]⟩, ⟨#[98, 51, 108]⟩]
def houseB : List ByteArray := [⟨#[115, 104, 101, 108, 102, 124, 102, 117, 108]⟩]
def houseR (a1 : Option Addr) (c1 : Nat) (a2 : Option Addr) (c2 : Nat) : RU := ⟨⟨a1, c1, houseP⟩, ⟨none, 0, []⟩, ⟨a2, c2, houseB⟩, 2, 2⟩
def shelfful : ByteArray := ⟨#[115, 104, 101, 108, 102, 102, 117, 108]⟩
def table : ByteArray := ⟨#[116, 97, 98, 108, 101]⟩
def ffl : ByteArray := ⟨#[102, 102, 108]⟩
def awakeL (a1 : Option Addr) (c1 : Nat) (a2 : Option Addr) (c2 : Nat) : List LN := [⟨1, a1, c1, [0, 1, 7]⟩, ⟨1, a2, c2, [9, 0, 12, 3]⟩]
section
variable (a1 : Option Addr) (c1 : Nat) (a2 : Option Addr) (c2 : Nat)
theorem ex3 : ruleErr (houseR a1 c1 a2 c2) table = 0 := by kernel_rfl
theorem ex4 : hyText table (ruleHyph (houseR a1 c1 a2 c2) table) = ⟨#[116, 97, 98, 45, 108, 101]⟩ := by kernel_rfl
theorem ex5 : sortsErr longWay faceF (houseR a1 c1 a2 c2) shelfful = 0 := by kernel_rfl
theorem ex6 : longWay.S (wordP faceF none 0 (houseR a1 c1 a2 c2) shelfful 0 shelfful.size) = some [5, 6, 0, 3, 1, 1, 4, 3] := by kernel_rfl
theorem ex7 : sortsErr fewWay faceF (houseR a1 c1 a2 c2) ffl = 0 := by kernel_rfl
theorem ex8 : fewWay.S (wordP faceF none 0 (houseR a1 c1 a2 c2) ffl 0 ffl.size) = some [1, 11] := by kernel_rfl
theorem ex9 : readErr faceF (awakeL a1 c1 a2 c2) [true, false] = 0 := by kernel_rfl
theorem ex10 : readW faceF (awakeL a1 c1 a2 c2) [true, false] = [⟨#[101, 102, 102, 105, 101]⟩, ⟨#[108]⟩] := by kernel_rfl
end
end Go.Proofs.YtlkkociijfdcgaaGreatDoor

namespace Go.Proofs.YtlkkociijfdcgaaGreatDoor
open Go.RowKit Go.Maps Go.Shelf

set_option maxRecDepth 100000 in
set_option maxHeartbeats 1000000 in
theorem House_any (w : World) : Calls Tryz.prog 80 #[] w fun e w' => ∃ a1 a2, e = .returned (.agg (houseR a1 3 a2 1).cells) ∧ (houseR a1 3 a2 1).at_ w' ∧ Below w.heap.size w w' := by
  go_enter Tryz.func80, Tryz.ntmps80
  go_wp2
  obtain ⟨w3, e3⟩ : ∃ w3, w3 = (((w.alloc (.cells #[.slice (some ⟨w.heap.size + 1, 0, none⟩) 3 3, .slice none 0 0, .slice (some ⟨w.heap.size + 1 + 1, 0, none⟩) 1 1, .int .i64 2, .int .i64 2] 24)).alloc (.cells #[.string ⟨#[97, 49, 98]⟩, .string ⟨#[50, 98, 108]⟩, .string ⟨#[98, 51, 108]⟩] 9)).alloc (.cells #[.string ⟨#[115, 104, 101, 108, 102, 124, 102, 117, 108]⟩] 9)) := ⟨_, rfl⟩
  have hb := heap_keep (o := (.cells #[.string ⟨#[115, 104, 101, 108, 102, 124, 102, 117, 108]⟩] 9)) (heap_keep (o := (.cells #[.string ⟨#[97, 49, 98]⟩, .string ⟨#[50, 98, 108]⟩, .string ⟨#[98, 51, 108]⟩] 9)) (heap_new w (.cells #[.slice (some ⟨w.heap.size + 1, 0, none⟩) 3 3, .slice none 0 0, .slice (some ⟨w.heap.size + 1 + 1, 0, none⟩) 1 1, .int .i64 2, .int .i64 2] 24)))
  have ht1 := (texts_alloc houseP (w.alloc (.cells #[.slice (some ⟨w.heap.size + 1, 0, none⟩) 3 3, .slice none 0 0, .slice (some ⟨w.heap.size + 1 + 1, 0, none⟩) 1 1, .int .i64 2, .int .i64 2] 24))).below ((Below.refl _ _).alloc (Nat.le_refl _) (.cells #[.string ⟨#[115, 104, 101, 108, 102, 124, 102, 117, 108]⟩] 9))
  have ht2 := texts_alloc houseB ((w.alloc (.cells #[.slice (some ⟨w.heap.size + 1, 0, none⟩) 3 3, .slice none 0 0, .slice (some ⟨w.heap.size + 1 + 1, 0, none⟩) 1 1, .int .i64 2, .int .i64 2] 24)).alloc (.cells #[.string ⟨#[97, 49, 98]⟩, .string ⟨#[50, 98, 108]⟩, .string ⟨#[98, 51, 108]⟩] 9))
  have hB : Below w.heap.size w (((w.alloc (.cells #[.slice (some ⟨w.heap.size + 1, 0, none⟩) 3 3, .slice none 0 0, .slice (some ⟨w.heap.size + 1 + 1, 0, none⟩) 1 1, .int .i64 2, .int .i64 2] 24)).alloc (.cells #[.string ⟨#[97, 49, 98]⟩, .string ⟨#[50, 98, 108]⟩, .string ⟨#[98, 51, 108]⟩] 9)).alloc (.cells #[.string ⟨#[115, 104, 101, 108, 102, 124, 102, 117, 108]⟩] 9)) := (((Below.refl w.heap.size w).alloc (Nat.le_refl _) _).alloc (by simp) _).alloc (by simp; omega) _
  simp only [World.size_alloc] at ht1 ht2
  rw [← e3]
  change w3 = _ at e3
  have hb' : w3.heap[w.heap.size]? = some (.cells #[.slice (some ⟨w.heap.size + 1, 0, none⟩) 3 3, .slice none 0 0, .slice (some ⟨w.heap.size + 1 + 1, 0, none⟩) 1 1, .int .i64 2, .int .i64 2] 24 (0, 0)) := by rw [e3]; exact hb
  have ht1' : TextsAt w3 (some ⟨w.heap.size + 1, 0, none⟩) houseP := by rw [e3]; exact ht1
  have ht2' : TextsAt w3 (some ⟨w.heap.size + 1 + 1, 0, none⟩) houseB := by rw [e3]; exact ht2
  have hB' : Below w.heap.size w w3 := by rw [e3]; exact hB
  clear e3 hb ht1 ht2 hB
  have c0 : w3.cell? ⟨w.heap.size, 0, none⟩ = some (.slice (some ⟨w.heap.size + 1, 0, none⟩) 3 3) := cell_of_row w3 _ 0 _ _ (0, 0) hb'
  have c1 : w3.cell? ⟨w.heap.size, 1, none⟩ = some (.slice none 0 0) := cell_of_row w3 _ 1 _ _ (0, 0) hb'
  have c2 : w3.cell? ⟨w.heap.size, 2, none⟩ = some (.slice (some ⟨w.heap.size + 1 + 1, 0, none⟩) 1 1) := cell_of_row w3 _ 2 _ _ (0, 0) hb'
  have c3 : w3.cell? ⟨w.heap.size, 3, none⟩ = some (.int .i64 2) := cell_of_row w3 _ 3 _ _ (0, 0) hb'
  have c4 : w3.cell? ⟨w.heap.size, 4, none⟩ = some (.int .i64 2) := cell_of_row w3 _ 4 _ _ (0, 0) hb'
  refine bodyPost_ret (v := .agg #[.slice (some ⟨w.heap.size + 1, 0, none⟩) 3 3, .slice none 0 0, .slice (some ⟨w.heap.size + 1 + 1, 0, none⟩) 1 1, .int .i64 2, .int .i64 2]) (by simp [results, Tryz.results80, go_sem, c0, c1, c2, c3, c4]) rfl ?_
  refine ⟨some ⟨w.heap.size + 1, 0, none⟩, some ⟨w.heap.size + 1 + 1, 0, none⟩, rfl, ⟨⟨ht1', (show 3 ≤ maxLen by decide), fun k hk => ?_⟩, ⟨fun k hk => (by cases hk), (show 0 ≤ maxLen by decide), fun k hk => (by cases hk)⟩, ⟨ht2', (show 1 ≤ maxLen by decide), fun k hk => ?_⟩⟩, hB'⟩
  · have : ∀ j, j < 3 → (houseP.getD j noTx).size ≤ maxLen := by decide
    exact this k hk
  · have : ∀ j, j < 1 → (houseB.getD j noTx).size ≤ maxLen := by decide
    exact this k hk
theorem faceOk : OkF faceF := by
  refine ⟨by decide, (show 13 ≤ maxLen by decide), ?_⟩
  have : ∀ x ∈ faceF.sorts, x.name.size ≤ 100 ∧ x.text.size ≤ 100 := by decide +kernel
  intro x hx
  have h := this x hx
  unfold maxLen
  omega
theorem faceAt {w : World} {g : Nat} (hs : SortsAt w (some ⟨g, 0, none⟩) faceF.sorts) (hT : TabOk w) : FAt w (some ⟨g, 0, none⟩) faceF := ⟨faceOk, hs, hT⟩
theorem ex_sorts (g cap : Nat) (a1 a2 : Option Addr) (w : World) (hs : SortsAt w (some ⟨g, 0, none⟩) faceF.sorts) (hT : TabOk w) (hR : (houseR a1 3 a2 1).at_ w) :
    Calls Tryz.prog 39 #[.agg #[.string faceN, .int .i64 12, .slice (some ⟨g, 0, none⟩) 13 cap], .agg (houseR a1 3 a2 1).cells, .string shelfful] w fun e w' => ∃ v, e = .returned (.tuple #[v, .int .i64 0]) ∧ IRow w' w.heap.size v [5, 6, 0, 3, 1, 1, 4, 3] ∧ Below w.heap.size w w' := by
  have h := sortsOf_fn faceF (some ⟨g, 0, none⟩) cap (houseR a1 3 a2 1) shelfful w (faceAt hs hT) hR (by decide)
  rw [show faceF.sorts.length = 13 from rfl, show faceF.name = faceN from rfl, show faceF.body = 12 from rfl] at h
  refine Calls.mono h ?_
  intro e w' h
  have hb := h.1
  have hp : ∃ v l, longWay.S (wordP faceF none 0 (houseR a1 3 a2 1) shelfful 0 shelfful.size) = some l ∧ e = .returned (.tuple #[v, .int .i64 0]) ∧ IRow w' w.heap.size v l := by
    have h2 := h.2
    rwa [if_pos (ex5 a1 3 a2 1)] at h2
  obtain ⟨v, l, h1, h2, h3⟩ := hp
  have h4 := ex6 a1 3 a2 1
  rw [h1] at h4
  injection h4 with h4
  subst h4
  exact ⟨v, h2, h3, hb⟩
theorem ex_few (g cap : Nat) (a1 a2 : Option Addr) (w : World) (hs : SortsAt w (some ⟨g, 0, none⟩) faceF.sorts) (hT : TabOk w) (hR : (houseR a1 3 a2 1).at_ w) :
    Calls Tryz.prog 46 #[.agg #[.string faceN, .int .i64 12, .slice (some ⟨g, 0, none⟩) 13 cap], .agg (houseR a1 3 a2 1).cells, .string ffl] w fun e w' => ∃ v, e = .returned (.tuple #[v, .int .i64 0]) ∧ IRow w' w.heap.size v [1, 11] ∧ Below w.heap.size w w' := by
  have h := fewestSorts_fn faceF (some ⟨g, 0, none⟩) cap (houseR a1 3 a2 1) ffl w (faceAt hs hT) hR (by decide)
  rw [show faceF.sorts.length = 13 from rfl, show faceF.name = faceN from rfl, show faceF.body = 12 from rfl] at h
  refine Calls.mono h ?_
  intro e w' h
  have hb := h.1
  have hp : ∃ v l, fewWay.S (wordP faceF none 0 (houseR a1 3 a2 1) ffl 0 ffl.size) = some l ∧ e = .returned (.tuple #[v, .int .i64 0]) ∧ IRow w' w.heap.size v l := by
    have h2 := h.2
    rwa [if_pos (ex7 a1 3 a2 1)] at h2
  obtain ⟨v, l, h1, h2, h3⟩ := hp
  have h4 := ex8 a1 3 a2 1
  rw [h1] at h4
  injection h4 with h4
  subst h4
  exact ⟨v, h2, h3, hb⟩
theorem ex_hyph (a1 a2 : Option Addr) (w : World) (hR : (houseR a1 3 a2 1).at_ w) :
    Calls Tryz.prog 63 #[.agg (houseR a1 3 a2 1).cells, .string table] w fun e w' => e = .returned (.tuple #[.string ⟨#[116, 97, 98, 45, 108, 101]⟩, .int .i64 0]) ∧ Below w.heap.size w w' := by
  refine Calls.mono (hyphened_ok (houseR a1 3 a2 1) table w hR (by decide)) ?_
  rintro e w' ⟨hb, hp⟩
  rw [if_pos (ex3 a1 3 a2 1), ex4] at hp
  exact ⟨hp, hb⟩
theorem ex_back (g cap : Nat) (A D : Option Addr) (a1 a2 : Option Addr) (w : World) (hs : SortsAt w (some ⟨g, 0, none⟩) faceF.sorts) (hT : TabOk w) (hL : LinesAt w A (awakeL a1 3 a2 4)) (hD : BoolsAt w D [true, false]) :
    Calls Tryz.prog 70 #[.agg #[.string faceN, .int .i64 12, .slice (some ⟨g, 0, none⟩) 13 cap], .slice A 2 2, .slice D 2 2] w fun e w' => ∃ v, e = .returned (.tuple #[v, .int .i64 0]) ∧ w'.ownsRow w.heap.size 9 1 v 2 (txs [⟨#[101, 102, 102, 105, 101]⟩, ⟨#[108]⟩]) ∧ Below w.heap.size w w' := by
  have hO : OkL (awakeL a1 3 a2 4) := by
    refine ⟨(show 2 ≤ maxLen by decide), fun k hk => ?_⟩
    match k, hk with
    | 0, _ => exact ⟨(show 3 ≤ maxLen by decide), Nat.le_refl 3⟩
    | 1, _ => exact ⟨(show 4 ≤ maxLen by decide), Nat.le_refl 4⟩
    | k + 2, h => exact absurd (show k + 2 < 2 from h) (by omega)
  refine Calls.mono (show Calls Tryz.prog 70 #[.agg #[.string faceN, .int .i64 12, .slice (some ⟨g, 0, none⟩) 13 cap], .slice A 2 2, .slice D 2 2] w (BackPost w faceF (awakeL a1 3 a2 4) [true, false]) from readBack_any faceF (some ⟨g, 0, none⟩) cap A (awakeL a1 3 a2 4) 2 D [true, false] 2 w (faceAt hs hT) hL hO (Nat.le_refl 2) hD (show 2 ≤ maxLen by decide)) ?_
  rintro e w' ⟨hb, hp⟩
  rw [if_pos (ex9 a1 3 a2 4), ex10] at hp
  obtain ⟨v, h1, h2⟩ := hp
  exact ⟨v, h1, h2, hb⟩
theorem ints_cells {w : World} {g : Nat} {l : List Int} (h : w.heap[g]? = some (.cells (vals l).toArray 3 (0, 0))) : IntsAt w (some ⟨g, 0, none⟩) l := fun k hk => by
  refine ⟨_, rfl, heap_lt h, ?_⟩
  rw [add0, cell_of_row w g k _ _ (0, 0) h]
  simpa using vals_at hk
def awakeW (w : World) : World := ((((w.alloc (.cells #[.int .i64 0, .int .i64 1, .int .i64 7] 3)).alloc (.cells #[.int .i64 9, .int .i64 0, .int .i64 12, .int .i64 3] 3)).alloc (.cells #[.int .i64 1, .slice (some ⟨w.heap.size, 0, none⟩) 3 3, .int .i64 1, .slice (some ⟨w.heap.size + 1, 0, none⟩) 4 4] 113)).alloc (.cells #[.bool true, .bool false] 4))
theorem awake_mem (w : World) : LinesAt (awakeW w) (some ⟨w.heap.size + 1 + 1, 0, none⟩) (awakeL (some ⟨w.heap.size, 0, none⟩) 3 (some ⟨w.heap.size + 1, 0, none⟩) 4) ∧ BoolsAt (awakeW w) (some ⟨w.heap.size + 1 + 1 + 1, 0, none⟩) [true, false] := by
  have h1 : (awakeW w).heap[w.heap.size]? = some (.cells #[.int .i64 0, .int .i64 1, .int .i64 7] 3 (0, 0)) := heap_keep (heap_keep (heap_keep (heap_new w (.cells #[.int .i64 0, .int .i64 1, .int .i64 7] 3))))
  have h2 : (awakeW w).heap[w.heap.size + 1]? = some (.cells #[.int .i64 9, .int .i64 0, .int .i64 12, .int .i64 3] 3 (0, 0)) := by
    have h := heap_new (w.alloc (.cells #[.int .i64 0, .int .i64 1, .int .i64 7] 3)) (.cells #[.int .i64 9, .int .i64 0, .int .i64 12, .int .i64 3] 3)
    rw [World.size_alloc] at h
    exact heap_keep (heap_keep h)
  have h3 : (awakeW w).heap[w.heap.size + 1 + 1]? = some (.cells #[.int .i64 1, .slice (some ⟨w.heap.size, 0, none⟩) 3 3, .int .i64 1, .slice (some ⟨w.heap.size + 1, 0, none⟩) 4 4] 113 (0, 0)) := by
    have h := heap_new ((w.alloc (.cells #[.int .i64 0, .int .i64 1, .int .i64 7] 3)).alloc (.cells #[.int .i64 9, .int .i64 0, .int .i64 12, .int .i64 3] 3)) (.cells #[.int .i64 1, .slice (some ⟨w.heap.size, 0, none⟩) 3 3, .int .i64 1, .slice (some ⟨w.heap.size + 1, 0, none⟩) 4 4] 113)
    rw [World.size_alloc, World.size_alloc] at h
    exact heap_keep h
  have h4 : (awakeW w).heap[w.heap.size + 1 + 1 + 1]? = some (.cells #[.bool true, .bool false] 4 (0, 0)) := by
    have h := heap_new (((w.alloc (.cells #[.int .i64 0, .int .i64 1, .int .i64 7] 3)).alloc (.cells #[.int .i64 9, .int .i64 0, .int .i64 12, .int .i64 3] 3)).alloc (.cells #[.int .i64 1, .slice (some ⟨w.heap.size, 0, none⟩) 3 3, .int .i64 1, .slice (some ⟨w.heap.size + 1, 0, none⟩) 4 4] 113)) (.cells #[.bool true, .bool false] 4)
    rw [World.size_alloc, World.size_alloc, World.size_alloc] at h
    exact h
  refine ⟨fun k hk => ?_, fun k hk => ?_⟩
  · match k, hk with
    | 0, _ => exact ⟨_, rfl, heap_lt h3, ⟨cell_of_row _ _ 0 _ _ (0, 0) h3, cell_of_row _ _ 1 _ _ (0, 0) h3⟩, ints_cells (l := [0, 1, 7]) h1⟩
    | 1, _ => exact ⟨_, rfl, heap_lt h3, ⟨cell_of_row _ _ 2 _ _ (0, 0) h3, cell_of_row _ _ 3 _ _ (0, 0) h3⟩, ints_cells (l := [9, 0, 12, 3]) h2⟩
    | k + 2, h => exact absurd (show k + 2 < 2 from h) (by omega)
  · match k, hk with
    | 0, _ => exact ⟨_, rfl, heap_lt h4, cell_of_row _ _ 0 _ _ (0, 0) h4⟩
    | 1, _ => exact ⟨_, rfl, heap_lt h4, cell_of_row _ _ 1 _ _ (0, 0) h4⟩
    | k + 2, h => exact absurd (show k + 2 < 2 from h) (by omega)
theorem same_ints (L : List Int) (A : Option Addr) (d : Nat) (g c : Nat) (W : World) (hl : L.length ≤ maxLen) (h1 : IntsAt W A L) (h2 : W.heap[g]? = some (.cells (vals L).toArray 3 (0, 0))) :
    Calls Tryz.prog 45 #[.slice A L.length d, .slice (some ⟨g, 0, none⟩) L.length c] W fun e w' => e = .returned (.bool true) ∧ Drew W w' :=
  (ints_any A L d (some ⟨g, 0, none⟩) L c W h1 (ints_cells h2) hl hl).mono fun e w' h => ⟨h.1.trans (by rw [decide_eq_true rfl]), h.2⟩
theorem same_texts (L : List ByteArray) (A : Option Addr) (d : Nat) (g c : Nat) (W : World) (hl : L.length ≤ maxLen) (h1 : TextsAt W A L) (h2 : TextsAt W (some ⟨g, 0, none⟩) L) :
    Calls Tryz.prog 71 #[.slice A L.length d, .slice (some ⟨g, 0, none⟩) L.length c] W fun e w' => e = .returned (.bool true) ∧ Drew W w' :=
  (texts_any A L d (some ⟨g, 0, none⟩) L c W h1 h2 hl hl).mono fun e w' h => by
    obtain ⟨⟨q, hq, hi⟩, hD⟩ := h
    rw [hi.2 rfl] at hq
    exact ⟨hq, hD⟩
theorem texts_own {w : World} {base n : Nat} {v : Value} {l : List ByteArray} (h : w.ownsRow base 9 1 v n (txs l)) (hn : n = l.length) {A : Option Addr} {d : Nat} (hv : v = .slice A n d) : TextsAt w A l := by
  subst hv
  rcases h.2 with ⟨e1, e2⟩ | ⟨g, cap, cur, e1, _⟩
  · intro k hk; omega
  · cases e1
    exact texts_of_row h
set_option maxRecDepth 100000 in
set_option maxHeartbeats 2000000 in
theorem awake_any (w : World) (hT : TabOk w) : Calls Tryz.prog 17 #[] w fun e w' => e = .returned (.bool true) ∧ Below w.heap.size w w' := by
  go_enter Tryz.func17, Tryz.ntmps17
  go_wp2_with fail
  refine (Face_any _).mono ?_
  rintro e w1 ⟨g1, k1, rfl, hs1, -, hb1⟩
  have hT1 := hT.below hb1 hT.1
  have hz1 := hb1.size
  go_wp2_with fail
  refine (House_any _).mono ?_
  rintro e w2 ⟨p1, p2, rfl, hr2, hb2⟩
  have hs2 := hs1.below hb2
  have hT2 := hT1.below hb2 hT1.1
  have hB2 := hb1.trans (hb2.mono hz1)
  clear hs1 hb1 hb2 hT1
  go_wp2_with fail
  refine (ex_sorts g1 k1 p1 p2 _ hs2 hT2 hr2).mono ?_
  rintro e w3 ⟨v1, rfl, hv1, hb3⟩
  have hT3 := hT2.below hb3 hT2.1
  have hB3 := hB2.trans (hb3.mono hB2.size)
  clear hs2 hb3 hB2 hT2 hr2
  go_wp2_with fail
  refine (House_any _).mono ?_
  rintro e w4 ⟨p3, p4, rfl, hr4, hb4⟩
  have hT4 := hT3.below hb4 hT3.1
  have hv4 := hv1.below hb4
  have hB4 := hB3.trans (hb4.mono hB3.size)
  clear hv1 hb4 hB3 hT3
  go_wp2_with fail
  refine (ex_hyph p3 p4 _ hr4).mono ?_
  rintro e w5 ⟨rfl, hb5⟩
  have hT5 := hT4.below hb5 hT4.1
  have hv5 := hv4.below hb5
  have hB5 := hB4.trans (hb5.mono hB4.size)
  clear hv4 hb5 hB4 hT4 hr4
  go_wp2_with fail
  refine (Face_any _).mono ?_
  rintro e w6 ⟨g2, k2, rfl, hs6, -, hb6⟩
  have hT6 := hT5.below hb6 hT5.1
  have hv6 := hv5.below hb6
  have hB6 := hB5.trans (hb6.mono hB5.size)
  clear hv5 hb6 hB5 hT5
  go_wp2_with fail
  refine (House_any _).mono ?_
  rintro e w7 ⟨p5, p6, rfl, hr7, hb7⟩
  have hs7 := hs6.below hb7
  have hT7 := hT6.below hb7 hT6.1
  have hv7 := hv6.below hb7
  have hB7 := hB6.trans (hb7.mono hB6.size)
  clear hv6 hb7 hB6 hT6 hs6
  go_wp2_with fail
  refine (ex_few g2 k2 p5 p6 _ hs7 hT7 hr7).mono ?_
  rintro e w8 ⟨v2, rfl, hv8, hb8⟩
  have hT8 := hT7.below hb8 hT7.1
  have hu8 := hv7.below hb8
  have hB8 := hB7.trans (hb8.mono hB7.size)
  clear hv7 hb8 hB7 hT7 hs7 hr7
  go_wp2_with fail
  refine (Face_any _).mono ?_
  rintro e w9 ⟨g3, k3, rfl, hs9, -, hb9⟩
  have hT9 := hT8.below hb9 hT8.1
  have hu9 := hu8.below hb9
  have hv9 := hv8.below hb9
  have hB9 := hB8.trans (hb9.mono hB8.size)
  clear hu8 hv8 hb9 hB8 hT8
  have hm := awake_mem w9
  have hbw : Below w9.heap.size w9 (awakeW w9) := ((((Below.refl _ _).alloc (Nat.le_refl _) _).alloc (by simp) _).alloc (by simp; omega) _).alloc (by simp; omega) _
  have HRB := Lib.hid (ex_back g3 k3 (some ⟨w9.heap.size + 1 + 1, 0, none⟩) (some ⟨w9.heap.size + 1 + 1 + 1, 0, none⟩) (some ⟨w9.heap.size, 0, none⟩) (some ⟨w9.heap.size + 1, 0, none⟩) (awakeW w9) (hs9.below hbw) (hT9.below hbw hT9.1) hm.1 hm.2)
  have hB9w := hB9.trans (hbw.mono hB9.size)
  have hua := hu9.below hbw
  have hva := hv9.below hbw
  clear hu9 hv9 hB9 hs9 hm hT9 hbw hT
  unfold awakeW at HRB hB9w hua hva
  go_wp2_with fail
  refine HRB.out.mono ?_
  rintro e w10 ⟨v3, rfl, hv10, hb10⟩
  have hub := hua.below hb10
  have hvb := hva.below hb10
  have hB10 := hB9w.trans (hb10.mono hB9w.size)
  obtain ⟨A1, d1, rfl, hI1, -, -⟩ := hub.shape
  obtain ⟨A2, d2, rfl, hI2, -, -⟩ := hvb.shape
  obtain ⟨A3, d3, rfl, hd3, hA3⟩ := own_form hv10
  have hI3 : TextsAt w10 A3 [⟨#[101, 102, 102, 105, 101]⟩, ⟨#[108]⟩] := texts_own hv10 rfl rfl
  clear HRB hB9w hua hva hub hvb hb10 hv10 hd3 hA3
  go_wp2_with fail
  refine Calls.mono (same_ints [5, 6, 0, 3, 1, 1, 4, 3] A1 d1 w10.heap.size 8 _ (by decide) (hI1.alloc _) (heap_new _ _)) ?_
  rintro e w11 ⟨rfl, hD11⟩
  have hbd : Below w10.heap.size w10 w11 := hD11.below ((Below.refl _ _).alloc (Nat.le_refl _) _)
  have hJ2 := hI2.below hbd
  have hJ3 := hI3.below hbd
  have hB11 := hB10.trans (hbd.mono hB10.size)
  clear hI1 hI2 hI3 hbd hB10 hD11
  go_wp2_with fail
  refine Calls.mono (same_ints [1, 11] A2 d2 w11.heap.size 2 _ (by decide) (hJ2.alloc _) (heap_new _ _)) ?_
  rintro e w12 ⟨rfl, hD12⟩
  have hbd : Below w11.heap.size w11 w12 := hD12.below ((Below.refl _ _).alloc (Nat.le_refl _) _)
  have hK3 := hJ3.below hbd
  have hB12 := hB11.trans (hbd.mono hB11.size)
  clear hJ2 hJ3 hbd hB11 hD12
  go_wp2_with fail
  refine Calls.mono (same_texts [⟨#[101, 102, 102, 105, 101]⟩, ⟨#[108]⟩] A3 d3 w12.heap.size 2 _ (by decide) (hK3.alloc _) (texts_alloc [⟨#[101, 102, 102, 105, 101]⟩, ⟨#[108]⟩] w12)) ?_
  rintro e w13 ⟨rfl, hD13⟩
  have hbd : Below w12.heap.size w12 w13 := hD13.below ((Below.refl _ _).alloc (Nat.le_refl _) _)
  have hB13 := hB12.trans (hbd.mono hB12.size)
  clear hK3 hbd hB12 hD13
  go_wp2
  go_ret
  exact ⟨rfl, hB13⟩
end Go.Proofs.YtlkkociijfdcgaaGreatDoor

namespace Go.Proofs.YtlkkociijfdcgaaGreatDoor
open Go.RowKit Go.Maps

def bs (l : List UInt8) : ByteArray := ⟨l.toArray⟩
end Go.Proofs.YtlkkociijfdcgaaGreatDoor

namespace Go.Proofs.YtlkkociijfdcgaaGreatDoor
open Go.RowKit Go.Maps Go.Shelf

end Go.Proofs.YtlkkociijfdcgaaGreatDoor
/-
  One more exception, one more pattern: the mathematics.
-/
namespace Go.Proofs.YtlkkociijfdcgaaGreatDoor
open Go.RowKit Go.Maps Go.Shelf

theorem checkR_same {r r' : RU} (h : SameR r r') : checkR r' = checkR r := by
  obtain ⟨h1, h2, h3, h4, h5⟩ := h
  unfold checkR
  rw [h1, h2, h3, h4, h5]
theorem ruleHyph_same {r r' : RU} (h : SameR r r') (s : ByteArray) : ruleHyph r' s = ruleHyph r s := by
  obtain ⟨h1, h2, h3, h4, h5⟩ := h
  unfold ruleHyph rulePos
  rw [h1, h2, h4, h5]
end Go.Proofs.YtlkkociijfdcgaaGreatDoor

/-
  law02.rulesErr; what the calls of TextExceptions return.
-/
namespace Go.Proofs.YtlkkociijfdcgaaGreatDoor
open Go.RowKit Go.Maps Go.Shelf

theorem short_small {l : List ByteArray} {few most : Nat} (h : shortB l few most = true) : l.length ≤ most + 2 ∧ TXSmall l := by
  unfold shortB at h
  split at h
  · cases h
  · rename_i hb
    unfold sizeBad at hb
    cases hf : firstAt (longTx l) (l.length - 0) 0 with
    | some i => rw [hf] at h; cases h
    | none =>
      refine ⟨by omega, fun k hk => ?_⟩
      have h2 := firstAt_none hf k (Nat.zero_le _) (by omega)
      unfold longTx at h2
      rw [decide_eq_false_iff_not] at h2
      omega
def RSmall (r : RU) : Prop := TXSmall r.ps.l ∧ TXSmall r.es.l ∧ TXSmall r.bs.l
theorem small_short {r : RU} (h : shortR r = true) : RSmall r ∧ r.ps.l.length ≤ 62 ∧ r.es.l.length ≤ 42 ∧ r.bs.l.length ≤ 42 := by
  unfold shortR at h
  rw [Bool.and_eq_true, Bool.and_eq_true] at h
  obtain ⟨h1, h2, h3⟩ := h
  have a := short_small h1
  have b := short_small h2
  have c := short_small h3
  exact ⟨⟨a.2, b.2, c.2⟩, a.1, b.1, c.1⟩
/-- Rules that lie as a copy's rows. -/
theorem own_at {w : World} {base : Nat} {r r' : RU} (hS : SameR r r') (hO : OwnR w base r') (hz : SizesOk r.ps.l ∧ SizesOk r.es.l ∧ SizesOk r.bs.l) (hl : r.ps.l.length ≤ 1000 ∧ r.es.l.length ≤ 1000 ∧ r.bs.l.length ≤ 1000) : r'.at_ w := by
  obtain ⟨e1, e2, e3, _, _⟩ := hS
  obtain ⟨o1, o2, o3, _⟩ := hO
  refine ⟨⟨texts_own o1 rfl rfl, ?_, ?_⟩, ⟨texts_own o2 rfl rfl, ?_, ?_⟩, ⟨texts_own o3 rfl rfl, ?_, ?_⟩⟩
  · rw [e1]; unfold maxLen; omega
  · rw [e1]; exact hz.1
  · rw [e2]; unfold maxLen; omega
  · rw [e2]; exact hz.2.1
  · rw [e3]; unfold maxLen; omega
  · rw [e3]; exact hz.2.2
end Go.Proofs.YtlkkociijfdcgaaGreatDoor
