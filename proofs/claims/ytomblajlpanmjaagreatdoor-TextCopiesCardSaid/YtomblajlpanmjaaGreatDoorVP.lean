/-
  Where a word may be divided.
-/
import Derived.Test.YtomblajlpanmjaaGreatDoorVO
namespace Go.Proofs.YtomblajlpanmjaaGreatDoor
open Go.RowKit Go.Maps Go.Shelf

def oddB (c : Int) : Bool := c % 2 == 1
def odds (L : List Int) : Nat → List Int
  | 0 => []
  | k + 1 => if oddB (L.getD k 0) = true then odds L k ++ [(k : Int)] else odds L k
theorem odds_len (L : List Int) : ∀ k, (odds L k).length ≤ k
  | 0 => Nat.le_refl _
  | k + 1 => by
    have := odds_len L k
    unfold odds
    split
    · rw [List.length_append]; simp; omega
    · omega
def rulePos (r : RU) (s : ByteArray) : List Int :=
  if hasE (entsN excS r.es.l r.es.l.length) (lowS s).data.toList = true then lookE (entsN excS r.es.l r.es.l.length) (lowS s).data.toList
  else if areSmallB (lowS s) = true then odds (lvTo (patG r.ps.l) (lowS s) r.ps.l.length) (s.size + 1) else []
set_option maxRecDepth 100000 in
set_option maxHeartbeats 800000 in
theorem possibleHyphens_any (r : RU) (base g b1 b2 : Nat) (s : ByteArray) (w : World) (hB : BookAt w base r g b1 b2) (hok : ∀ j, j < r.ps.l.length → PatOk (patG r.ps.l j)) (hn : r.ps.l.length ≤ 1000) (hs : s.size ≤ 1000) (hascii : ∀ (j : Nat) (b : UInt8), s.data.toList[j]? = some b → b.toNat < 128) :
    Calls Tryz.prog 124 #[bookV r g b1 b2, .string s] w fun e w' => ∃ (a : Option Addr) (c : Nat), e = .returned (.slice a (rulePos r s).length c) ∧ IntsAt w' a (rulePos r s) ∧ Below w.heap.size w w' := by
  have hbk := hB.below ((Below.refl _ _).alloc (Nat.le_refl _) (.cells #[.slice (some ⟨g, 0, none⟩) r.ps.l.length r.ps.l.length, .map (some b1), .map (some b2), .int .i64 r.left, .int .i64 r.right] 109))
  have HTL := Lib.hid (fun W => Tryz.strings_ToLower_ascii s W (by omega) hascii)
  have HLV := Lib.hid (fun W (h : BookAt W base r g b1 b2) => levels_any g r.ps.l.length (patG r.ps.l) (some b1) (some b2) r.left r.right s W h.pats hok hn hs hascii)
  obtain ⟨ss, hss⟩ : ∃ ss, ss = lowS s := ⟨_, rfl⟩
  have hssz : ss.size = s.size := by rw [hss]; exact lowS_size s
  have hsl : ss.size ≤ maxLen := by unfold maxLen; omega
  have HRP := Lib.hid (show rulePos r s = if hasE (entsN excS r.es.l r.es.l.length) ss.data.toList = true then lookE (entsN excS r.es.l r.es.l.length) ss.data.toList
    else if areSmallB ss = true then odds (lvTo (patG r.ps.l) ss r.ps.l.length) (s.size + 1) else [] by rw [hss]; rfl)
  have HOKs := Lib.hid (lvTo_ok (fn := patG r.ps.l) (s := ss) (m := r.ps.l.length) (fun j hj k => ((hok j hj).digs k).2) r.ps.l.length (Nat.le_refl _))
  rw [← hss] at HLV
  have HSS := Lib.hid hss
  have hssz' : ss.size + 1 = s.size + 1 := by omega
  have HSZ := Lib.hid hssz'
  clear hss hssz hssz' hascii hok hB
  unfold bookV
  go_enter Tryz.func124, Tryz.ntmps124
  go_wp2_with fail
  refine (HTL.out _).mono ?_
  rintro e w1 ⟨rfl, hb1⟩
  change Hid (ss = ⟨(Lib.toLowerA s.data.toList).toArray⟩) at HSS
  rw [← HSS.out]
  have hbw : Below w.heap.size w w1 := ((Below.refl _ _).alloc (Nat.le_refl _) (.cells #[.slice (some ⟨g, 0, none⟩) r.ps.l.length r.ps.l.length, .map (some b1), .map (some b2), .int .i64 r.left, .int .i64 r.right] 109)).trans (hb1.mono (by simp))
  have hbx : w1.heap[w.heap.size]? = some (.cells #[.slice (some ⟨g, 0, none⟩) r.ps.l.length r.ps.l.length, .map (some b1), .map (some b2), .int .i64 r.left, .int .i64 r.right] 109 (0, 0)) := (hb1.block _ (by simp)).trans (heap_new w _)
  have c0 : w1.cell? ⟨w.heap.size, 0, none⟩ = some (.slice (some ⟨g, 0, none⟩) r.ps.l.length r.ps.l.length) := by rw [cell_of_row w1 _ 0 _ _ (0, 0) hbx]; rfl
  have c1 : w1.cell? ⟨w.heap.size, 1, none⟩ = some (.map (some b1)) := by rw [cell_of_row w1 _ 1 _ _ (0, 0) hbx]; rfl
  have c2 : w1.cell? ⟨w.heap.size, 2, none⟩ = some (.map (some b2)) := by rw [cell_of_row w1 _ 2 _ _ (0, 0) hbx]; rfl
  have c3 : w1.cell? ⟨w.heap.size, 3, none⟩ = some (.int .i64 r.left) := by rw [cell_of_row w1 _ 3 _ _ (0, 0) hbx]; rfl
  have c4 : w1.cell? ⟨w.heap.size, 4, none⟩ = some (.int .i64 r.right) := by rw [cell_of_row w1 _ 4 _ _ (0, 0) hbx]; rfl
  have hbk1 := hbk.below hb1
  obtain ⟨_, M, hM, hE⟩ := hbk1.exc
  obtain ⟨a1, d1, hg1, hI1, _, _⟩ := hE.look ss.data.toList
  have hh1 := Ents.has ss.data.toList hE
  have HG := Lib.hid hg1
  have hzw1 := heap_lt hbx
  clear hg1 hE hbx hbk hb1 HTL
  cases eh : hasE (entsN excS r.es.l r.es.l.length) ss.data.toList
  · rw [eh] at hh1
    have HH := Lib.hid hh1
    have HEH := Lib.hid eh
    clear hh1 eh
    cases es : areSmallB ss
    · have HES := Lib.hid es
      clear es
      go_wp2_with (at_lookup; refine wpList_mapOk _ rfl _ _ _ rfl 9 63 Tryz.underlying9 Tryz.underlying107 (.slice none 0 0) zeroInts b1 M rfl hM ss rfl hsl ?_; rw [HG.out, HH.out])
      refine (areSmall_any ss _ hsl).mono ?_
      rintro e w2 ⟨rfl, rfl⟩
      rw [HES.out]
      go_wp2
      go_ret
      rw [HRP.out, if_neg (by rw [HEH.out]; decide), if_neg (by rw [HES.out]; decide)]
      exact ⟨none, 0, rfl, fun q hq => absurd hq (Nat.not_lt_zero _), hbw⟩
    · have HES := Lib.hid es
      clear es
      have HRQ := Lib.hid (show rulePos r s = odds (lvTo (patG r.ps.l) ss r.ps.l.length) (s.size + 1) by rw [HRP.out, if_neg (by rw [HEH.out]; decide), if_pos HES.out])
      go_wp2_with (at_lookup; refine wpList_mapOk _ rfl _ _ _ rfl 9 63 Tryz.underlying9 Tryz.underlying107 (.slice none 0 0) zeroInts b1 M rfl hM ss rfl hsl ?_; rw [HG.out, HH.out])
      refine (areSmall_any ss _ hsl).mono ?_
      rintro e w2 ⟨rfl, rfl⟩
      rw [HES.out]
      go_wp2_with fail
      refine (HLV.out _ hbk1).mono ?_
      rintro e w3 ⟨h, rfl, hrow, hh, hb3⟩
      have hbw3 := hbw.trans (hb3.mono (by omega))
      have hlen := HOKs.out.1
      have hbd := HOKs.out.2
      obtain ⟨L, hL⟩ : ∃ L, L = lvTo (patG r.ps.l) ss r.ps.l.length := ⟨_, rfl⟩
      rw [← hL] at hrow hlen hbd HRQ
      rw [HSZ.out] at hlen
      have HBD := Lib.hid hbd
      have HLEN := Lib.hid hlen
      have hrl := hrow.lt
      clear hL hlen hbd c0 c1 c2 c3 c4 hbk1 hM hI1
      go_wp2
      go_loopw [8, 29] (fun v8 v29 wr => ∃ k : Nat, k ≤ s.size + 1 ∧ v29 = .int .i64 k ∧ IRow wr w3.heap.size v8 (odds L k) ∧ Below w3.heap.size w3 wr) (fun _ v29 _ => s.size + 1 - (intOf v29).toNat)
      case atStart => exact ⟨0, Nat.zero_le _, rfl, IRow.nil _ _, Below.refl _ _⟩
      case round =>
        obtain ⟨k, hk, rfl, hI, hbr⟩ := hrel
        by_cases hlt : k < s.size + 1
        · have hlt' : (k : Int) < ((s.size + 1 : Nat) : Int) := by omega
          have hlt2 : (k : Int) < (s.size : Int) + 1 := by omega
          have hk0 : (0 : Int) ≤ (k : Int) := by omega
          have hrr := RowX.below hrow (by exact hbr)
          have ca := hrr.cell (j := k) (by rw [HLEN.out]; exact hlt)
          have hd := HBD.out k
          have hol := odds_len L k
          have hst : odds L (k + 1) = if oddB (L.getD k 0) = true then odds L k ++ [(k : Int)] else odds L k := rfl
          generalize hc : L.getD k 0 = c at ca hd hst
          have HC := Lib.hid hc
          clear hc
          have HST := Lib.hid hst
          clear hst
          cases ho : oddB c
          · have HO := Lib.hid ho
            unfold oddB at ho
            go_wp2
            go_roundw
            case rel => exact ⟨k + 1, by omega, by go_num, by rw [HST.out, if_neg (by rw [HO.out]; decide)]; exact hI, hbr⟩
            case measure => simp [intOf]; omega
          · have HO := Lib.hid ho
            unfold oddB at ho
            obtain ⟨a9, d9, hv9, -, -, -⟩ := hI.shape
            subst hv9
            have hbl := hbr.size
            have hql : (odds L k).length ≤ 1000000 := by omega
            go_wp2_with ((at_builtin; refine wpList_app1 wr _ rfl _ _ rfl w3.heap.size _ (odds L k) rfl hI rfl hql hbl ?_; intro g9 c9 w9 hrow9 hgrow9 hb9))
            go_roundw
            case rel => exact ⟨k + 1, by omega, by go_num, by rw [HST.out, if_pos HO.out]; simpa using hrow9, hbr.trans hb9⟩
            case measure => simp [intOf]; omega
        · obtain rfl : k = s.size + 1 := by omega
          obtain ⟨a9, d9, hv9, hi9, -, -⟩ := hI.shape
          subst hv9
          have hge : ¬ ((s.size + 1 : Nat) : Int) < ((s.size + 1 : Nat) : Int) := by omega
          go_wp2
          go_ret
          rw [HRQ.out]
          exact ⟨_, ⟨_, rfl⟩, hi9, hbw3.trans (hbr.mono (by have := hbw3.size; omega))⟩
  · rw [eh] at hh1
    have HH := Lib.hid hh1
    have HEH := Lib.hid eh
    clear hh1 eh
    go_wp2_with (at_lookup; refine wpList_mapOk _ rfl _ _ _ rfl 9 63 Tryz.underlying9 Tryz.underlying107 (.slice none 0 0) zeroInts b1 M rfl hM ss rfl hsl ?_; rw [HG.out, HH.out])
    go_ret
    rw [HRP.out, if_pos HEH.out]
    exact ⟨_, _, rfl, hI1, hbw⟩
end Go.Proofs.YtomblajlpanmjaaGreatDoor
