/-
  Sorts found by name and by text: the program's and the reference's.
-/
import Derived.Test.YtjkcomafgkabeaaDoorU3
import Derived.Test.YtjkcomafgkabeaaDoorD1
namespace Go.Proofs.YtjkcomafgkabeaaDoor
open Go.RowKit Go.Maps

def numR (o : Option Nat) : Int × Int := match o with | some i => ((i : Int), 0) | none => (0, 6)
def findR (f : FT) (p : TS → Bool) : Int × Int := if (checkF f).2 ≠ 0 then (0, (checkF f).2) else numR (f.sorts.findIdx? p)

set_option maxRecDepth 100000 in
set_option maxHeartbeats 1000000 in
theorem numberIn_any (b n : Nat) (D : DataW Unit) (l : List TS) (p : ByteArray → TS → Bool) (s : ByteArray) (w : World) (hs : s.size ≤ maxLen) (hown : w.ownsMap Tryd.prog 9 (plainElem Tryd.prog 3) b n D) (hi : IdxOk D l p) :
    Calls Tryd.prog 79 #[.map (some b), .string s] w fun e w' => e = .returned (.tuple #[.int .i64 (numR (l.findIdx? (p s))).1, .int .i64 (numR (l.findIdx? (p s))).2]) ∧ w' = w := by
  have hkey := WideMaps.keyOf_string_mk (P := Tryd.prog) Tryd.underlying9 hs
  cases ho : l.findIdx? (p s) with
  | none =>
    have hh := (hi.2 s).1 ho
    clear hi
    go_enter Tryd.func79, Tryd.ntmps79
    go_wp2_with (at_lookup; refine wpList_lookup_own_ok_int _ rfl _ _ 95 rfl 9 3 .i64 lawS Tryd.underlying95 Tryd.underlying3 (zeroInt _) b _ _ rfl hown _ _ rfl hkey ?_; intro c hat hwc; rw [hh])
    go_ret2
    exact ⟨rfl, rfl⟩
  | some i =>
    obtain ⟨hh, ha⟩ := (hi.2 s).2 i ho
    clear hi
    go_enter Tryd.func79, Tryd.ntmps79
    go_wp2_with (at_lookup; refine wpList_lookup_own_ok_int _ rfl _ _ 95 rfl 9 3 .i64 lawS Tryd.underlying95 Tryd.underlying3 (zeroInt _) b _ _ rfl hown _ _ rfl hkey ?_; intro c hat hwc; rw [hh]; obtain rfl : (i : Int) = c := by have := (ha _).symm.trans hat; injection this with this; injection this)
    go_ret2
    exact ⟨rfl, rfl⟩

set_option maxRecDepth 100000 in
set_option maxHeartbeats 1000000 in
theorem Find_any (f : FT) (a : Option Addr) (c : Nat) (s : ByteArray) (w : World) (hs : s.size ≤ maxLen) (hF : FAt w a f) :
    Calls Tryd.prog 27 #[.agg #[.string f.name, .int .i64 f.body, .slice a f.sorts.length c], .string s] w fun e w' => e = .returned (.tuple #[.int .i64 (findR f (sameName s)).1, .int .i64 (findR f (sameName s)).2]) ∧ Below w.heap.size w w' := by
  by_cases h0 : (checkF f).2 = 0
  · have HE := Lib.hid (show findR f (sameName s) = numR (f.sorts.findIdx? (sameName s)) by unfold findR; rw [if_neg (by simp [h0])])
    go_enter Tryd.func27, Tryd.ntmps27
    go_wp2_with fail
    refine (learn_any f a c _ hF.ok (by exact hF.at_.alloc _) (by exact hF.tab.alloc _)).mono ?_
    rintro e w1 ⟨b1, b2, rfl, hK, hb⟩
    have hK := hK h0
    rw [h0]
    have hB := ((Below.refl w.heap.size w).alloc (Nat.le_refl _) (.cells #[.string f.name, .int .i64 f.body, .slice a f.sorts.length c] 24)).trans (hb.mono (B' := w.heap.size) (by simp))
    have hz := hB.size
    clear hb h0
    obtain ⟨hne, D1, D2, ho1, ho2, hi1, hz1, hi2, hx0⟩ := hK
    clear hz1 hi2 hx0 ho2
    have hnum := fun o => numberIn_any b1 _ D1 f.sorts sameName s (w1.alloc o) hs (ho1.alloc _) hi1
    have HN := Lib.hid hnum
    clear hnum hi1 ho1
    go_wp2_with fail
    refine (HN.out _).mono ?_
    rintro e w2 ⟨rfl, rfl⟩
    go_wp2
    go_ret2
    exact ⟨by rw [HE.out]; rfl, hB.alloc hz _⟩
  · have HE := Lib.hid (show findR f (sameName s) = (0, (checkF f).2) by unfold findR; rw [if_pos h0])
    have heb : ((checkF f).2 != 0) = true := by simpa using h0
    clear h0
    go_enter Tryd.func27, Tryd.ntmps27
    go_wp2_with fail
    refine (learn_any f a c _ hF.ok (by exact hF.at_.alloc _) (by exact hF.tab.alloc _)).mono ?_
    rintro e w1 ⟨b1, b2, rfl, _, hb⟩
    have hB := ((Below.refl w.heap.size w).alloc (Nat.le_refl _) (.cells #[.string f.name, .int .i64 f.body, .slice a f.sorts.length c] 24)).trans (hb.mono (B' := w.heap.size) (by simp))
    have hz := hB.size
    clear hb
    go_wp2
    go_ret2
    exact ⟨by rw [HE.out]; rfl, hB.alloc hz _⟩
set_option maxRecDepth 100000 in
set_option maxHeartbeats 1000000 in
theorem Printing_any (f : FT) (a : Option Addr) (c : Nat) (s : ByteArray) (w : World) (hs : s.size ≤ maxLen) (hF : FAt w a f) :
    Calls Tryd.prog 28 #[.agg #[.string f.name, .int .i64 f.body, .slice a f.sorts.length c], .string s] w fun e w' => e = .returned (.tuple #[.int .i64 (findR f (sameText s)).1, .int .i64 (findR f (sameText s)).2]) ∧ Below w.heap.size w w' := by
  by_cases h0 : (checkF f).2 = 0
  · have HE := Lib.hid (show findR f (sameText s) = numR (f.sorts.findIdx? (sameText s)) by unfold findR; rw [if_neg (by simp [h0])])
    go_enter Tryd.func28, Tryd.ntmps28
    go_wp2_with fail
    refine (learn_any f a c _ hF.ok (by exact hF.at_.alloc _) (by exact hF.tab.alloc _)).mono ?_
    rintro e w1 ⟨b1, b2, rfl, hK, hb⟩
    have hK := hK h0
    rw [h0]
    have hB := ((Below.refl w.heap.size w).alloc (Nat.le_refl _) (.cells #[.string f.name, .int .i64 f.body, .slice a f.sorts.length c] 24)).trans (hb.mono (B' := w.heap.size) (by simp))
    have hz := hB.size
    clear hb h0
    obtain ⟨hne, D1, D2, ho1, ho2, hi1, hz1, hi2, hx0⟩ := hK
    clear hz1 hi1 hx0 ho1
    have hnum := fun o => numberIn_any b2 _ D2 f.sorts sameText s (w1.alloc o) hs (ho2.alloc _) hi2
    have HN := Lib.hid hnum
    clear hnum hi2 ho2
    go_wp2_with fail
    refine (HN.out _).mono ?_
    rintro e w2 ⟨rfl, rfl⟩
    go_wp2
    go_ret2
    exact ⟨by rw [HE.out]; rfl, hB.alloc hz _⟩
  · have HE := Lib.hid (show findR f (sameText s) = (0, (checkF f).2) by unfold findR; rw [if_pos h0])
    have heb : ((checkF f).2 != 0) = true := by simpa using h0
    clear h0
    go_enter Tryd.func28, Tryd.ntmps28
    go_wp2_with fail
    refine (learn_any f a c _ hF.ok (by exact hF.at_.alloc _) (by exact hF.tab.alloc _)).mono ?_
    rintro e w1 ⟨b1, b2, rfl, _, hb⟩
    have hB := ((Below.refl w.heap.size w).alloc (Nat.le_refl _) (.cells #[.string f.name, .int .i64 f.body, .slice a f.sorts.length c] 24)).trans (hb.mono (B' := w.heap.size) (by simp))
    have hz := hB.size
    clear hb
    go_wp2
    go_ret2
    exact ⟨by rw [HE.out]; rfl, hB.alloc hz _⟩

set_option maxRecDepth 100000 in
set_option maxHeartbeats 1000000 in
theorem refFind_any (f : FT) (a : Option Addr) (c : Nat) (s : ByteArray) (w : World) (hF : SortsAt w a f.sorts) (hl : f.sorts.length ≤ maxLen) :
    Calls Tryd.prog 32 #[.agg #[.string f.name, .int .i64 f.body, .slice a f.sorts.length c], .string s] w fun e w' => e = .returned (.int .i64 (idxI (f.sorts.findIdx? (sameName s)))) ∧ Below w.heap.size w w' := by
  have hB := (Below.refl w.heap.size w).alloc (Nat.le_refl _) (boxF f a c)
  have HN := Lib.hid (named_any a f.sorts f.sorts.length c s (w.alloc (boxF f a c)) rfl (hF.alloc _) hl)
  go_enter Tryd.func32, Tryd.ntmps32
  go_wp2_with fail
  refine HN.out.mono ?_
  rintro e w2 ⟨rfl, rfl⟩
  go_wp2
  go_ret
  exact ⟨rfl, hB⟩

set_option maxRecDepth 100000 in
set_option maxHeartbeats 1000000 in
theorem refPrinting_any (f : FT) (a : Option Addr) (c : Nat) (s : ByteArray) (w : World) (hF : FAt w a f) (hl : f.sorts.length ≤ 120) :
    Calls Tryd.prog 33 #[.agg #[.string f.name, .int .i64 f.body, .slice a f.sorts.length c], .string s] w fun e w' => e = .returned (.int .i64 (idxI (f.sorts.findIdx? (sameText s)))) ∧ Below w.heap.size w w' := by
  have hB0 : Below (w.heap.size + 1) (w.alloc (boxF f a c)) (w.alloc (boxF f a c)) := Below.refl _ _
  have E0 := Env.of hF hB0
  have q2 := E0.c2
  have HI := Lib.hid (firstAt_idx (sameText s) f.sorts)
  go_enter Tryd.func33, Tryd.ntmps33
  go_wp2_with fail
  go_loopw [5] (fun i wr => ∃ k : Nat, k ≤ f.sorts.length ∧ i = .int .i64 k ∧ Hid (firstAt (fun i => sameText s (f.sorts.getD i noTS)) (f.sorts.length - 0) 0 = firstAt (fun i => sameText s (f.sorts.getD i noTS)) (f.sorts.length - k) k) ∧ Drew (w.alloc (boxF f a c)) wr) (fun i _ => f.sorts.length - (intOf i).toNat)
  case atStart => exact ⟨0, Nat.zero_le _, rfl, Lib.hid rfl, Drew.refl _⟩
  case round =>
    obtain ⟨k, hk, rfl, HR, hD⟩ := hrel
    have r2 := hD.cell q2
    by_cases hlt : k < f.sorts.length
    · obtain ⟨ad, rfl, had, s0, s1, s2, s3⟩ := (hD.sorts E0.fa.at_).at_ hlt
      clear s0 s3
      obtain ⟨x, ex⟩ : ∃ x, x = f.sorts.getD k noTS := ⟨_, rfl⟩
      rw [← ex] at s1 s2
      have EX := Lib.hid ex; clear ex
      have hkl : (k : Int) < (f.sorts.length : Int) := by omega
      have hk4 : (k : Int) ≤ 120 := by omega
      by_cases h3 : x.kind = 3
      · have HS := Lib.hid (firstAt_go (q := fun i => sameText s (f.sorts.getD i noTS)) hlt (by show (_ && _) = false; rw [← EX.out, h3]; rfl))
        rw [h3] at s2
        clear h3
        go_wp2
        go_roundw
        case rel => exact ⟨k + 1, by omega, by go_num, Lib.hid (HR.out.trans HS.out), hD⟩
        case measure => simp [intOf]; omega
      · have h3b : (x.kind != 3) = true := by simpa using h3
        cases hq : (x.text.toList == s.toList)
        · have HS := Lib.hid (firstAt_go (q := fun i => sameText s (f.sorts.getD i noTS)) hlt (by show (_ && _) = false; rw [← EX.out, hq]; simp))
          clear h3
          go_wp2
          go_roundw
          case rel => exact ⟨k + 1, by omega, by go_num, Lib.hid (HR.out.trans HS.out), hD⟩
          case measure => simp [intOf]; omega
        · have HS := Lib.hid (firstAt_stop (q := fun i => sameText s (f.sorts.getD i noTS)) hlt (by show (_ && _) = true; rw [← EX.out, hq, h3b]; rfl))
          clear h3
          have hlow := hD.below E0.low
          go_wp2
          go_ret
          exact ⟨ret_int (by rw [← HI.out, HR.out, HS.out]; rfl), hlow⟩
    · have HS := Lib.hid (firstAt_end (q := fun i => sameText s (f.sorts.getD i noTS)) hlt)
      have hlow := hD.below E0.low
      go_wp2
      go_ret
      exact ⟨ret_int (by rw [← HI.out, HR.out, HS.out]; rfl), hlow⟩
end Go.Proofs.YtjkcomafgkabeaaDoor
