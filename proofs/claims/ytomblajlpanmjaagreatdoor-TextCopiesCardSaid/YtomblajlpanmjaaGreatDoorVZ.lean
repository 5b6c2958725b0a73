/-
  The hyphens of a word.
-/
import Derived.Test.YtomblajlpanmjaaGreatDoorVP
namespace Go.Proofs.YtomblajlpanmjaaGreatDoor
open Go.RowKit Go.Maps Go.Shelf

def nearB (l r n : Int) (x : Int) : Bool := decide (l ≤ x) && decide (r ≤ n - x)
def hyTo (l r n : Int) (P : List Int) : Nat → List Int
  | 0 => []
  | k + 1 => if nearB l r n (P.getD k 0) = true then hyTo l r n P k ++ [P.getD k 0] else hyTo l r n P k
theorem hyTo_len (l r n : Int) (P : List Int) : ∀ k, (hyTo l r n P k).length ≤ k
  | 0 => Nat.le_refl _
  | k + 1 => by
    have := hyTo_len l r n P k
    unfold hyTo
    split
    · rw [List.length_append]; simp; omega
    · omega
def ruleHyph (r : RU) (s : ByteArray) : List Int := hyTo r.left r.right s.size (rulePos r s) (rulePos r s).length
set_option maxRecDepth 100000 in
set_option maxHeartbeats 800000 in
theorem hyphens_any (r : RU) (base g b1 b2 : Nat) (s : ByteArray) (w : World) (hB : BookAt w base r g b1 b2) (hok : ∀ j, j < r.ps.l.length → PatOk (patG r.ps.l j)) (hn : r.ps.l.length ≤ 1000) (hs : s.size ≤ 1000) (hascii : ∀ (j : Nat) (b : UInt8), s.data.toList[j]? = some b → b.toNat < 128)
    (hbd : (rulePos r s).length ≤ 1001 ∧ ∀ j, 0 ≤ (rulePos r s).getD j 0 ∧ (rulePos r s).getD j 0 ≤ 2000) :
    Calls Tryz.prog 86 #[bookV r g b1 b2, .string s] w fun e w' => ∃ (a : Option Addr) (c : Nat), e = .returned (.slice a (ruleHyph r s).length c) ∧ IRow w' w.heap.size (.slice a (ruleHyph r s).length c) (ruleHyph r s) ∧ Below w.heap.size w w' := by
  have hbk := hB.below ((Below.refl _ _).alloc (Nat.le_refl _) (.cells #[.slice (some ⟨g, 0, none⟩) r.ps.l.length r.ps.l.length, .map (some b1), .map (some b2), .int .i64 r.left, .int .i64 r.right] 109))
  have HPH := Lib.hid (possibleHyphens_any r base g b1 b2 s _ hbk hok hn hs hascii)
  have HRH := Lib.hid (show ruleHyph r s = hyTo r.left r.right s.size (rulePos r s) (rulePos r s).length from rfl)
  obtain ⟨hbl, hbn⟩ := hbd
  obtain ⟨P, hP⟩ : ∃ P, P = rulePos r s := ⟨_, rfl⟩
  rw [← hP] at hbl hbn HPH HRH
  have HBN := Lib.hid hbn
  clear hP hbn hbk hB hok hascii
  unfold bookV at *
  go_enter Tryz.func86, Tryz.ntmps86
  go_wp2_with fail
  refine HPH.out.mono ?_
  rintro e w1 ⟨a, c, rfl, hI, hb1⟩
  have hbw : Below w.heap.size w w1 := ((Below.refl _ _).alloc (Nat.le_refl _) (.cells #[.slice (some ⟨g, 0, none⟩) r.ps.l.length r.ps.l.length, .map (some b1), .map (some b2), .int .i64 r.left, .int .i64 r.right] 109)).trans (hb1.mono (by simp))
  have hbx : w1.heap[w.heap.size]? = some (.cells #[.slice (some ⟨g, 0, none⟩) r.ps.l.length r.ps.l.length, .map (some b1), .map (some b2), .int .i64 r.left, .int .i64 r.right] 109 (0, 0)) := (hb1.block _ (by simp)).trans (heap_new w _)
  have hzw := heap_lt hbx
  clear hb1
  go_wp2
  go_loopw [5, 12] (fun v5 v12 wr => ∃ k : Nat, k ≤ P.length ∧ v12 = .int .i64 k ∧ IRow wr w1.heap.size v5 (hyTo r.left r.right s.size P k) ∧ Below w1.heap.size w1 wr) (fun _ v12 _ => P.length - (intOf v12).toNat)
  case atStart => exact ⟨0, Nat.zero_le _, rfl, IRow.nil _ _, Below.refl _ _⟩
  case round =>
    obtain ⟨k, hk, rfl, hR, hbr⟩ := hrel
    by_cases hlt : k < P.length
    · have hlt' : (k : Int) < (P.length : Int) := by omega
      obtain ⟨ad, rfl, hal, hy⟩ := (hI.below hbr).at_ hlt
      have hbxr := (hbr.block _ hzw).trans hbx
      have c3 : wr.cell? ⟨w.heap.size, 3, none⟩ = some (.int .i64 r.left) := by rw [cell_of_row wr _ 3 _ _ (0, 0) hbxr]; try rfl
      have c4 : wr.cell? ⟨w.heap.size, 4, none⟩ = some (.int .i64 r.right) := by rw [cell_of_row wr _ 4 _ _ (0, 0) hbxr]; try rfl
      have hd := HBN.out k
      have hol := hyTo_len r.left r.right s.size P k
      have hst : hyTo r.left r.right s.size P (k + 1) = if nearB r.left r.right s.size (P.getD k 0) = true then hyTo r.left r.right s.size P k ++ [P.getD k 0] else hyTo r.left r.right s.size P k := rfl
      generalize P.getD k 0 = x at hy hd hst
      have HST := Lib.hid hst
      clear hst hbxr
      have hw1 : IntKind.i64.wrap ((s.size : Int) - x) = (s.size : Int) - x := by rw [IntKind.wrap_i64]; omega
      by_cases h1 : r.left ≤ x
      · by_cases h2 : r.right ≤ (s.size : Int) - x
        · have HN := Lib.hid (show nearB r.left r.right s.size x = true by unfold nearB; simp [h1, h2])
          obtain ⟨a9, d9, hv9, -, -, -⟩ := hR.shape
          subst hv9
          have hbl2 := hbr.size
          have hql : (hyTo r.left r.right s.size P k).length ≤ 1000000 := by omega
          go_wp2_with (at_builtin; refine wpList_app1 wr _ rfl _ _ rfl w1.heap.size _ (hyTo r.left r.right s.size P k) rfl hR rfl hql hbl2 ?_; intro g9 c9 w9 hrow9 hgrow9 hb9)
          go_roundw
          case rel => exact ⟨k + 1, by omega, by go_num, by rw [HST.out, if_pos HN.out]; simpa using hrow9, hbr.trans hb9⟩
          case measure => simp [intOf]; omega
        · have HN := Lib.hid (show nearB r.left r.right s.size x = false by unfold nearB; simp [h2])
          go_wp2
          go_roundw
          case rel => exact ⟨k + 1, by omega, by go_num, by rw [HST.out, if_neg (by rw [HN.out]; decide)]; exact hR, hbr⟩
          case measure => simp [intOf]; omega
      · have HN := Lib.hid (show nearB r.left r.right s.size x = false by unfold nearB; simp [h1])
        go_wp2
        go_roundw
        case rel => exact ⟨k + 1, by omega, by go_num, by rw [HST.out, if_neg (by rw [HN.out]; decide)]; exact hR, hbr⟩
        case measure => simp [intOf]; omega
    · obtain rfl : k = P.length := by omega
      obtain ⟨a9, d9, hv9, hi9, -, -⟩ := hR.shape
      subst hv9
      go_wp2
      go_ret
      rw [HRH.out]
      exact ⟨_, _, rfl, hR.mono (by have := hbw.size; omega), hbw.trans (hbr.mono (by have := hbw.size; omega))⟩
end Go.Proofs.YtomblajlpanmjaaGreatDoor
/-
  What right rules and words keep; LevelsOf.
-/
namespace Go.Proofs.YtomblajlpanmjaaGreatDoor
open Go.RowKit Go.Maps Go.Shelf

theorem getD_digs {l : List Int} (h : ∀ e ∈ l, -1 ≤ e ∧ e ≤ 9) (k : Nat) : -1 ≤ l.getD k 0 ∧ l.getD k 0 ≤ 9 := by
  rw [List.getD_eq_getElem?_getD]
  cases hk : l[k]? with
  | none => exact ⟨by decide, by decide⟩
  | some e => exact h e (List.mem_of_getElem? hk)
theorem pats_ok {l : List ByteArray} (h : (checkPats l).2 = 0) : l.length ≤ 60 ∧ ∀ j, j < l.length → PatOk (patG l j) := by
  unfold checkPats at h
  by_cases h60 : 60 < l.length
  · rw [if_pos h60] at h; exact absurd h (by decide)
  · rw [if_neg h60] at h
    refine ⟨by omega, fun j hj => ?_⟩
    cases hf : firstAt (badPat l) (l.length - 0) 0 with
    | some i => rw [hf] at h; exact absurd (show (3 : Int) = 0 from h) (by decide)
    | none =>
      have hb := firstAt_none hf j (Nat.zero_le _) (by omega)
      unfold badPat at hb
      unfold patG
      cases hp : patOf (l.getD j noTx).data.toList with
      | none => rw [hp] at hb; cases hb
      | some x =>
        obtain ⟨_, h2, h3, h4, _⟩ := patOf_ok hp
        exact ⟨h3, h2, getD_digs h4⟩
theorem rules_ok {r : RU} {s : ByteArray} (h : ruleErr r s = 0) : (checkR r).2 = 0 ∧ wordErr s = 0 := by
  unfold ruleErr at h
  by_cases h1 : (checkR r).2 = 0
  · rw [if_neg (by simp [h1])] at h; exact ⟨h1, h⟩
  · rw [if_pos h1] at h; exact absurd h h1
theorem checkR_pats {r : RU} (h : (checkR r).2 = 0) : r.ps.l.length ≤ 60 ∧ ∀ j, j < r.ps.l.length → PatOk (patG r.ps.l j) := by
  refine pats_ok ?_
  unfold checkR at h
  by_cases h1 : (checkPats r.ps.l).2 = 0
  · exact h1
  · rw [if_pos h1] at h; exact h
theorem word_ascii {s : ByteArray} (h : wordErr s = 0) : ∀ (j : Nat) (b : UInt8), s.data.toList[j]? = some b → b.toNat < 128 := by
  intro j b hb
  unfold wordErr isWordB at h
  split at h
  · rename_i h1
    rw [Bool.and_eq_true] at h1
    have := List.all_eq_true.1 h1.2 b (List.mem_of_getElem? hb)
    unfold prB at this
    rw [decide_eq_true_eq] at this
    omega
  · exact absurd h (by decide)
end Go.Proofs.YtomblajlpanmjaaGreatDoor

/-
  Hyphened: a word with its hyphens.
-/
namespace Go.Proofs.YtomblajlpanmjaaGreatDoor
open Go.RowKit Go.Maps Go.Shelf

/-- Ahead of place k: where the last one was. -/
def fromAt (P : List Int) : Nat → Int
  | 0 => 0
  | k + 1 => P.getD k 0
def Asc (n : Nat) (P : List Int) : Prop := ∀ k, k < P.length → fromAt P k ≤ P.getD k 0 ∧ P.getD k 0 ≤ n
theorem fromAt_ok {n : Nat} {P : List Int} (h : Asc n P) : ∀ k, k ≤ P.length → 0 ≤ fromAt P k ∧ fromAt P k ≤ n
  | 0, _ => ⟨Int.le_refl _, by show (0 : Int) ≤ n; omega⟩
  | k + 1, hk => by
    have h1 := fromAt_ok h k (by omega)
    have h2 := h k (by omega)
    show 0 ≤ P.getD k 0 ∧ P.getD k 0 ≤ n
    omega
def hyOut (s : ByteArray) (P : List Int) : Nat → List UInt8
  | 0 => []
  | k + 1 => hyOut s P k ++ ((s.extract (fromAt P k).toNat (P.getD k 0).toNat).data.toList ++ [45])
def hyText (s : ByteArray) (P : List Int) : ByteArray := ⟨(hyOut s P P.length ++ (s.extract (fromAt P P.length).toNat s.size).data.toList).toArray⟩
theorem hyOut_len (s : ByteArray) (P : List Int) (hs : s.size ≤ 1000) : ∀ k, (hyOut s P k).length ≤ 1001 * k
  | 0 => Nat.le_refl _
  | k + 1 => by
    have ih := hyOut_len s P hs k
    have : (s.extract (fromAt P k).toNat (P.getD k 0).toNat).data.toList.length ≤ 1000 := by
      show (s.extract _ _).data.size ≤ _
      change (s.extract _ _).size ≤ _
      rw [ByteArray.size_extract]; omega
    unfold hyOut
    simp only [List.length_append, List.length_singleton]
    omega
theorem bld_below {B b : Nat} {l : List UInt8} {w w' : World} (h : Bld B b l w) (hb : Below w.heap.size w w') : Bld B b l w' := by
  have hlt := h.lt
  rcases h with ⟨h1, v, h2, h3, h4⟩ | ⟨h1, v, h2, h3, h4⟩
  · exact .inl ⟨h1, v, (hb.block b hlt).trans h2, own_below h3 hb, h4⟩
  · exact .inr ⟨h1, v, (hb.block b hlt).trans h2, own_below h3 hb, h4⟩
theorem IRow.oth {w w' : World} {base b : Nat} {v : Value} {l : List Int} (h : IRow w base v l) (ho : Oth b w w') (hb : b < base) : IRow w' base v l := by
  refine ⟨h.1, ?_⟩
  rcases h.2 with hn | ⟨g, cap, cur, e1, hg, hh, hr⟩
  · exact .inl hn
  · exact .inr ⟨g, cap, cur, e1, hg, (ho g _ _ _ (by omega) hh (by decide)).trans hh, hr⟩
def HyphenedPost (w : World) (r : RU) (s : ByteArray) (e : Ending) (w' : World) : Prop :=
  Below w.heap.size w w' ∧ if ruleErr r s = 0 then e = .returned (.tuple #[.string (hyText s (ruleHyph r s)), .int .i64 0]) else e = .returned (.tuple #[.string ⟨#[]⟩, .int .i64 (ruleErr r s)])
set_option maxRecDepth 100000 in
set_option maxHeartbeats 800000 in
theorem hyphened_fn (r : RU) (s : ByteArray) (w : World) (hR : r.at_ w) (hs : s.size ≤ maxLen)
    (hbd : ruleErr r s = 0 → ((rulePos r s).length ≤ 1001 ∧ ∀ j, 0 ≤ (rulePos r s).getD j 0 ∧ (rulePos r s).getD j 0 ≤ 2000) ∧ (ruleHyph r s).length ≤ 1001 ∧ Asc s.size (ruleHyph r s)) :
    Calls Tryz.prog 51 #[.agg r.cells, .string s] w (HyphenedPost w r s) := by
  have hb0 := (Below.refl w.heap.size w).alloc (Nat.le_refl _) (boxR r)
  have HC := Lib.hid (bookFor_any r s (w.alloc (boxR r)) (hR.below hb0) hs)
  unfold boxR RU.cells at *
  by_cases he : ruleErr r s = 0
  · obtain ⟨o1, o2⟩ := rules_ok he
    obtain ⟨hn, hok⟩ := checkR_pats o1
    obtain ⟨hb2, hpl, hasc⟩ := hbd he
    have hsz := (word_size o2).2
    have HHY := Lib.hid (fun g b1 b2 W (h : BookAt W (w.heap.size + 1) r g b1 b2) => hyphens_any r (w.heap.size + 1) g b1 b2 s W h hok (by omega) (by omega) (word_ascii o2) hb2)
    have HHE := Lib.hid he
    obtain ⟨P, hP⟩ : ∃ P, P = ruleHyph r s := ⟨_, rfl⟩
    rw [← hP] at hpl hasc HHY
    have HPP := Lib.hid hP
    have HASC := Lib.hid hasc
    clear hok o1 o2 hbd hb2 hP hasc
    go_enter Tryz.func51, Tryz.ntmps51
    go_wp2_with fail
    refine HC.out.mono ?_
    rintro e w1 ⟨hb1, hp1⟩
    rw [if_pos he] at hp1
    obtain ⟨g, b1, b2, rfl, hbk⟩ := hp1
    have hlow := hb0.trans (hb1.mono hb0.size)
    have hbk2 := (hbk.alloc (.cells #[.slice (some ⟨g, 0, none⟩) r.ps.l.length r.ps.l.length, .map (some b1), .map (some b2), .int .i64 r.left, .int .i64 r.right] 109)).alloc (.cells #[.pointer none, .slice none 0 0] 115)
    have hlow2 := (hlow.alloc (by have := hlow.size; omega) (.cells #[.slice (some ⟨g, 0, none⟩) r.ps.l.length r.ps.l.length, .map (some b1), .map (some b2), .int .i64 r.left, .int .i64 r.right] 109)).alloc (by have := hlow.size; simp; omega) (.cells #[.pointer none, .slice none 0 0] 115)
    have HL := Lib.hid (HHY.out g b1 b2 _ (by simpa using hbk2))
    have hBn := Bld.new (w1.alloc (.cells #[.slice (some ⟨g, 0, none⟩) r.ps.l.length r.ps.l.length, .map (some b1), .map (some b2), .int .i64 r.left, .int .i64 r.right] 109))
    clear HC HHY hbk hbk2 hb1 hb0 he
    unfold bookV at *
    go_wp2_with fail
    refine HL.out.mono ?_
    rintro e w2 ⟨a, c, rfl, hI, hb2⟩
    rw [World.size_alloc] at hBn
    have hBl := bld_below hBn hb2
    have hlow3 := hlow2.trans (hb2.mono hlow2.size)
    simp only [World.size_alloc] at hI hb2
    have hz2 := hb2.size
    simp only [World.size_alloc] at hz2
    have hz1 := hlow2.size
    simp only [World.size_alloc] at hz1
    have hz0 := hlow.size
    clear HL hBn hb2 hlow2 hlow
    go_wp2
    go_loopw [9, 25] (fun v9 v25 wr => ∃ k : Nat, k ≤ P.length ∧ v25 = .int .i64 k ∧ v9 = .int .i64 (fromAt P k) ∧ Bld (w1.heap.size + 1) (w1.heap.size + 1) (hyOut s P k) wr ∧ IRow wr (w1.heap.size + 1 + 1) (.slice a P.length c) P ∧ Below (w1.heap.size + 1) w2 wr) (fun _ v25 _ => P.length - (intOf v25).toNat)
    case atStart => exact ⟨0, Nat.zero_le _, rfl, rfl, hBl, hI, Below.refl _ _⟩
    case round =>
      obtain ⟨k, hk, rfl, rfl, hB, hR, hbr⟩ := hrel
      have hBw := hbr.size
      have hol := hyOut_len s P (by omega) k
      have hfk := fromAt_ok HASC.out k hk
      by_cases hlt : k < P.length
      · have hlt' : (k : Int) < (P.length : Int) := by omega
        obtain ⟨a', c', hv, hints, -, -⟩ := hR.shape
        cases hv
        obtain ⟨ad, rfl, hal, hy⟩ := hints.at_ hlt
        have hac := HASC.out k hlt
        have hst : hyOut s P (k + 1) = hyOut s P k ++ ((s.extract (fromAt P k).toNat (P.getD k 0).toNat).data.toList ++ [45]) := rfl
        have hfn : fromAt P (k + 1) = P.getD k 0 := rfl
        obtain ⟨p0, hp0⟩ : ∃ p0 : Nat, fromAt P k = p0 := ⟨(fromAt P k).toNat, by omega⟩
        obtain ⟨q, hq⟩ : ∃ q : Nat, P.getD k 0 = q := ⟨(P.getD k 0).toNat, by omega⟩
        rw [hp0, hq] at hac hst
        rw [hq] at hfn hy
        rw [hp0]
        rw [Int.toNat_natCast, Int.toNat_natCast] at hst
        have HST := Lib.hid hst
        have HFN := Lib.hid hfn
        have g0 : (0 : Int) ≤ (p0 : Int) := by omega
        have g1 : (p0 : Int) ≤ (q : Int) := hac.1
        have g2 : (q : Int) ≤ (s.size : Int) := hac.2
        have hes : (s.extract p0 q).size ≤ 1000 := by rw [ByteArray.size_extract]; omega
        have hol2 : (hyOut s P k).length ≤ 1100000 := by have : 1001 * k ≤ 1001 * 1001 := Nat.mul_le_mul_left _ (by omega); omega
        have h45 : (ByteArray.mk #[45]).size = 1 := rfl
        have hsum : (hyOut s P k).length + (s.extract p0 q ++ ⟨#[45]⟩).size ≤ 140737488355328 := by rw [ByteArray.size_append]; omega
        have hBw2 : w1.heap.size + 1 ≤ wr.heap.size := by omega
        clear hst hfn hp0 hq hac hfk hol hints h45
        go_wp2_with fail
        refine Calls.mono (wStr_kept (w1.heap.size + 1) (w1.heap.size + 1) (hyOut s P k) _ wr hB ?_ hBw2) ?_
        · exact hsum
        rintro e w4 ⟨rfl, hB4, hb4, ho4⟩
        have hR4 := hR.oth ho4 (by omega)
        have HB4 := Lib.hid hB4
        clear hB4 hB hR ho4
        go_wp2
        go_roundw
        case rel => exact ⟨k + 1, by omega, by go_num, by rw [HFN.out], by rw [HST.out]; simpa using HB4.out, hR4, hbr.trans hb4⟩
        case measure => simp [intOf]; omega
      · obtain rfl : k = P.length := by omega
        obtain ⟨p0, hp0⟩ : ∃ p0 : Nat, fromAt P P.length = p0 := ⟨(fromAt P P.length).toNat, by omega⟩
        have htx : hyText s P = ⟨(hyOut s P P.length ++ (s.extract p0 s.size).data.toList).toArray⟩ := by unfold hyText; rw [hp0, Int.toNat_natCast]
        rw [hp0] at hfk ⊢
        have HTX := Lib.hid htx
        have hes : (s.extract p0 s.size).size ≤ 1000 := by rw [ByteArray.size_extract]; omega
        have g0 : (0 : Int) ≤ (p0 : Int) := hfk.1
        have g2 : (p0 : Int) ≤ (s.size : Int) := hfk.2
        have hol2 : (hyOut s P P.length).length ≤ 1100000 := by have : 1001 * P.length ≤ 1001 * 1001 := Nat.mul_le_mul_left _ (by omega); omega
        have hsum2 : (hyOut s P P.length).length + (s.extract p0 s.size).size ≤ 140737488355328 := by omega
        have hBw2 : w1.heap.size + 1 ≤ wr.heap.size := by omega
        clear htx hp0 hfk hol
        go_wp2_with fail
        refine Calls.mono (wStr_kept (w1.heap.size + 1) (w1.heap.size + 1) (hyOut s P P.length) (s.extract p0 s.size) wr hB hsum2 hBw2) ?_
        rintro e w4 ⟨rfl, hB4, hb4, ho4⟩
        have hz4 := hb4.size
        have hb24 := hbr.trans hb4
        have hz5 : w1.heap.size + 1 ≤ w4.heap.size := by have := hb24.size; omega
        clear hB hR ho4 hbr hb4
        go_wp2_with fail
        refine (bStr_any _ _ _ _ hB4 hz5).mono ?_
        rintro e w5 ⟨rfl, hb5⟩
        rw [← HTX.out]
        go_wp2
        go_ret2
        refine ⟨hlow3.trans ((hb24.trans hb5).mono (by omega)), ?_⟩
        rw [if_pos HHE.out, ← HPP.out]
        exact rfl
  · go_enter Tryz.func51, Tryz.ntmps51
    go_wp2_with fail
    refine HC.out.mono ?_
    rintro e w1 ⟨hb1, hp1⟩
    rw [if_neg he] at hp1
    obtain ⟨v, rfl, a0, n0, c0, m1, m2, l0, r0, rfl⟩ := hp1
    have hlow := hb0.trans (hb1.mono hb0.size)
    have hlow2 := hlow.alloc (by have := hlow.size; omega) (.cells #[.slice a0 n0 c0, .map m1, .map m2, .int .i64 l0, .int .i64 r0] 109)
    clear HC hb0 hb1
    go_wp2
    go_ret2
    refine ⟨hlow2, ?_⟩
    rw [if_neg he]
    exact rfl
end Go.Proofs.YtomblajlpanmjaaGreatDoor

/-
  The places of hyphens ascend within the word.
-/
namespace Go.Proofs.YtomblajlpanmjaaGreatDoor
open Go.RowKit Go.Maps Go.Shelf

def Srt (n : Nat) (P : List Int) : Prop := P.Pairwise (· ≤ ·) ∧ ∀ x ∈ P, 0 ≤ x ∧ x ≤ (n : Int)
theorem Srt.asc {n : Nat} {P : List Int} (h : Srt n P) : Asc n P := by
  intro k hk
  have e : P.getD k 0 = P[k] := by rw [List.getD_eq_getElem?_getD, List.getElem?_eq_getElem hk]; try rfl
  have hb := h.2 _ (List.getElem_mem hk)
  rw [e]
  refine ⟨?_, hb.2⟩
  cases k with
  | zero => exact hb.1
  | succ k =>
    have hk2 : k < P.length := by omega
    have e2 : P.getD k 0 = P[k] := by rw [List.getD_eq_getElem?_getD, List.getElem?_eq_getElem hk2]; try rfl
    show P.getD k 0 ≤ _
    rw [e2]
    exact List.pairwise_iff_getElem.1 h.1 k (k + 1) hk2 hk (by omega)
theorem Srt.getD {n : Nat} {P : List Int} (h : Srt n P) (j : Nat) : 0 ≤ P.getD j 0 ∧ P.getD j 0 ≤ (n : Int) := by
  rw [List.getD_eq_getElem?_getD]
  cases e : P[j]? with
  | none => exact ⟨Int.le_refl _, by show (0 : Int) ≤ n; omega⟩
  | some x => exact h.2 x (List.mem_of_getElem? e)
theorem hyTo_eq (l r n : Int) (P : List Int) : ∀ k, k ≤ P.length → hyTo l r n P k = (P.take k).filter (nearB l r n)
  | 0, _ => rfl
  | k + 1, h => by
    have ih := hyTo_eq l r n P k (by omega)
    have hk : k < P.length := by omega
    have e : P.getD k 0 = P[k] := by rw [List.getD_eq_getElem?_getD, List.getElem?_eq_getElem hk]; try rfl
    rw [List.take_succ_eq_append_getElem hk, List.filter_append]
    unfold hyTo
    rw [e, ih]
    by_cases hb : nearB l r n P[k] = true
    · rw [if_pos hb, List.filter_cons_of_pos hb, List.filter_nil]
    · rw [if_neg hb, List.filter_cons_of_neg hb, List.filter_nil, List.append_nil]
theorem ruleHyph_eq (r : RU) (s : ByteArray) : ruleHyph r s = (rulePos r s).filter (nearB r.left r.right s.size) := by
  unfold ruleHyph
  rw [hyTo_eq _ _ _ _ _ (Nat.le_refl _), List.take_length]
theorem odds_srt (L : List Int) : ∀ k, (odds L k).Pairwise (· ≤ ·) ∧ ∀ x ∈ odds L k, 0 ≤ x ∧ x < (k : Int)
  | 0 => ⟨List.Pairwise.nil, fun x hx => (by cases hx)⟩
  | k + 1 => by
    obtain ⟨h1, h2⟩ := odds_srt L k
    unfold odds
    split
    · refine ⟨List.pairwise_append.2 ⟨h1, List.pairwise_singleton _ _, fun a ha b hb => ?_⟩, fun x hx => ?_⟩
      · have := h2 a ha
        obtain rfl := List.mem_singleton.1 hb
        omega
      · rcases List.mem_append.1 hx with hx | hx
        · have := h2 x hx; omega
        · obtain rfl := List.mem_singleton.1 hx
          omega
    · exact ⟨h1, fun x hx => by have := h2 x hx; omega⟩
theorem sumL_mono (ps : List (List UInt8)) {i j : Nat} (h : i ≤ j) : sumL ps i ≤ sumL ps j := by
  unfold sumL
  have e : (ps.take j).take i = ps.take i := by rw [List.take_take, Nat.min_eq_left h]
  have e2 : ((ps.take j).take i).flatten.length + ((ps.take j).drop i).flatten.length = (ps.take j).flatten.length := by
    rw [← List.length_append, ← List.flatten_append, List.take_append_drop]
  rw [e] at e2
  omega
theorem cutAt_srt {m : UInt8} {l : List UInt8} {x : List UInt8 × List Int} (h : cutAt m l = some x) : Srt x.1.length x.2 := by
  unfold cutAt at h
  by_cases c1 : 59 < l.length
  · rw [if_pos c1] at h; cases h
  · rw [if_neg c1] at h
    by_cases c2 : (splitOn m l).any List.isEmpty = true
    · rw [if_pos c2] at h; cases h
    · rw [if_neg c2] at h
      injection h with h
      rw [← h]
      have hat : ∀ k (hk : k < (placesOf 0 (splitOn m l)).length), (placesOf 0 (splitOn m l))[k] = sumL (splitOn m l) (k + 1) := fun k hk => by
        have hk' := hk
        rw [placesOf_len] at hk'
        have h2 := placesOf_at (splitOn m l) 0 k (by omega)
        rw [List.getElem?_eq_getElem hk] at h2
        injection h2 with h2
        rw [h2, Int.zero_add]
      refine ⟨List.pairwise_iff_getElem.2 fun i j hi hj hij => ?_, fun y hy => ?_⟩
      · show (placesOf 0 (splitOn m l))[i] ≤ (placesOf 0 (splitOn m l))[j]
        rw [hat i hi, hat j hj]
        exact sumL_mono _ (by omega)
      · obtain ⟨k, hk, rfl⟩ := List.getElem_of_mem hy
        show 0 ≤ (placesOf 0 (splitOn m l))[k] ∧ (placesOf 0 (splitOn m l))[k] ≤ _
        rw [hat k hk]
        exact sumL_le _ _
theorem lookE_mem {key : List UInt8} : ∀ (E : List (List UInt8 × List Int)) (l : List Int), E.foldl (fun acc p => if p.1 = key then p.2 else acc) l = l ∨ ∃ p ∈ E, p.1 = key ∧ E.foldl (fun acc p => if p.1 = key then p.2 else acc) l = p.2
  | [], l => .inl rfl
  | p :: E, l => by
    rw [List.foldl_cons]
    by_cases hp : p.1 = key
    · rw [if_pos hp]
      rcases lookE_mem E p.2 with h | ⟨q, hq, h1, h2⟩
      · exact .inr ⟨p, by simp, hp, h⟩
      · exact .inr ⟨q, by simp [hq], h1, h2⟩
    · rw [if_neg hp]
      rcases lookE_mem E l with h | ⟨q, hq, h1, h2⟩
      · exact .inl h
      · exact .inr ⟨q, by simp [hq], h1, h2⟩
theorem lookE_srt (y : Sty) (l : List ByteArray) (k : Nat) (key : List UInt8) : Srt key.length (lookE (entsN y l k) key) := by
  unfold lookE
  rcases lookE_mem (key := key) (entsN y l k) [] with h | ⟨p, hp, h1, h2⟩
  · rw [h]; exact ⟨List.Pairwise.nil, fun x hx => (by cases hx)⟩
  · rw [h2]
    unfold entsN at hp
    obtain ⟨j, _, rfl⟩ := List.mem_map.1 hp
    unfold entG at h1 ⊢
    cases h : entO y (l.getD j noTx) with
    | none => exact ⟨List.Pairwise.nil, fun x hx => (by cases hx)⟩
    | some x =>
      rw [h] at h1
      have hx : Srt x.1.length x.2 := by
        unfold entO at h
        cases hc : cutAt y.m (l.getD j noTx).data.toList with
        | none => rw [hc] at h; cases h
        | some z =>
          rw [hc] at h
          dsimp only at h
          split at h
          · injection h with h; rw [← h]; exact cutAt_srt hc
          · cases h
      have e : x.1 = key := h1
      rw [← e]
      exact hx
theorem rulePos_srt (r : RU) (s : ByteArray) : Srt s.size (rulePos r s) := by
  unfold rulePos
  split
  · have h := lookE_srt excS r.es.l r.es.l.length (lowS s).data.toList
    have e : (lowS s).data.toList.length = s.size := lowS_size s
    rw [e] at h
    exact h
  · split
    · obtain ⟨h1, h2⟩ := odds_srt (lvTo (patG r.ps.l) (lowS s) r.ps.l.length) (s.size + 1)
      exact ⟨h1, fun x hx => by have := h2 x hx; omega⟩
    · exact ⟨List.Pairwise.nil, fun x hx => (by cases hx)⟩
theorem rulePos_len (r : RU) (s : ByteArray) (hs : s.size ≤ 1000) : (rulePos r s).length ≤ 1001 := by
  unfold rulePos
  split
  · have := (lookE_places (entsN_places excS r.es.l r.es.l.length) (lowS s).data.toList).1
    omega
  · split
    · have := odds_len (lvTo (patG r.ps.l) (lowS s) r.ps.l.length) (s.size + 1)
      omega
    · simp
theorem ruleHyph_srt (r : RU) (s : ByteArray) : Srt s.size (ruleHyph r s) := by
  rw [ruleHyph_eq]
  have h := rulePos_srt r s
  exact ⟨h.1.filter _, fun x hx => h.2 x ((List.mem_filter.1 hx).1)⟩
theorem hyph_bounds {r : RU} {s : ByteArray} (h : ruleErr r s = 0) : ((rulePos r s).length ≤ 1001 ∧ ∀ j, 0 ≤ (rulePos r s).getD j 0 ∧ (rulePos r s).getD j 0 ≤ 2000) ∧ (ruleHyph r s).length ≤ 1001 ∧ Asc s.size (ruleHyph r s) := by
  have hsz := (word_size (rules_ok h).2).2
  have h1 := rulePos_len r s (by omega)
  refine ⟨⟨h1, fun j => ?_⟩, ?_, (ruleHyph_srt r s).asc⟩
  · have := (rulePos_srt r s).getD j
    omega
  · rw [ruleHyph_eq]
    exact Nat.le_trans (List.length_filter_le _ _) h1
theorem hyphened_ok (r : RU) (s : ByteArray) (w : World) (hR : r.at_ w) (hs : s.size ≤ maxLen) :
    Calls Tryz.prog 51 #[.agg r.cells, .string s] w (HyphenedPost w r s) := hyphened_fn r s w hR hs hyph_bounds
end Go.Proofs.YtomblajlpanmjaaGreatDoor
