/-
  The least case for several needs, on both sides.
-/
import Derived.Test.YtebndgepmjonoaaDoorZX
import Derived.Test.YtebndgepmjonoaaDoorZR
namespace Go.Proofs.YtebndgepmjonoaaDoor
open Go.RowKit Go.Maps

/-- Of each of the first i sorts the greater number. -/
def maxL (A x : List Int) : Nat → List Int
  | 0 => A
  | i + 1 => (maxL A x i).set i (max ((maxL A x i).getD i 0) (x.getD i 0))
def enoughTo (n : Nat) (ls : List (List Int)) : Nat → List Int
  | 0 => tab n fun _ => 0
  | k + 1 => maxL (enoughTo n ls k) (ls.getD k []) n
theorem maxL_len (A x : List Int) : ∀ i, (maxL A x i).length = A.length := by
  intro i
  induction i with
  | zero => rfl
  | succ i ih => show ((maxL A x i).set i _).length = _; rw [List.length_set, ih]
theorem enough_len (n : Nat) (ls : List (List Int)) : ∀ k, (enoughTo n ls k).length = n := by
  intro k
  induction k with
  | zero => exact tab_len _ _
  | succ k ih => show (maxL _ _ n).length = n; rw [maxL_len, ih]
def enE (f : FT) (ls : List (List Int)) : Int := if (checkF f).2 ≠ 0 then (checkF f).2 else if 100 < ls.length then 8 else listsErr f.sorts.length ls
def EnoughPost (w : World) (f : FT) (ls : List (List Int)) (e : Ending) (w' : World) : Prop :=
  Below w.heap.size w w' ∧ ((enE f ls ≠ 0 ∧ e = .returned (.tuple #[.slice none 0 0, .int .i64 (enE f ls)])) ∨
    (enE f ls = 0 ∧ ∃ g, e = .returned (.tuple #[.slice (some ⟨g, 0, none⟩) f.sorts.length f.sorts.length, .int .i64 0]) ∧ RowX w' g (enoughTo f.sorts.length ls ls.length)))
theorem lists_ok {n : Nat} {ls : List IS} (h : listsErr n (ls.map (·.l)) = 0) : ∀ x ∈ ls, OkC n x.l := by
  induction ls with
  | nil => intro x hx; cases hx
  | cons y r ih =>
    rw [List.map_cons] at h
    have h2 : (if countErr n y.l ≠ 0 then countErr n y.l else listsErr n (r.map (·.l))) = 0 := h
    split at h2
    · rename_i h3; exact absurd h2 h3
    · rename_i h3
      intro x hx
      rcases List.mem_cons.1 hx with rfl | hx
      · exact OkC.of (Decidable.not_not.1 h3)
      · exact ih h2 x hx
theorem isget {ls : List IS} {k : Nat} (h : k < ls.length) : ls.getD k noIS = ls[k] := by rw [List.getD_eq_getElem?_getD, List.getElem?_eq_getElem h]; rfl

set_option maxRecDepth 100000 in
set_option maxHeartbeats 4000000 in
theorem Enough_any (f : FT) (a : Option Addr) (c : Nat) (A : Option Addr) (ls : List IS) (C : Nat) (w : World) (hF : FAt w a f) (hL : ListsAt w A ls) (hls : ls.length ≤ 1000) :
    Calls Tryd.prog 16 #[.agg #[.string f.name, .int .i64 f.body, .slice a f.sorts.length c], .slice A ls.length C] w (EnoughPost w f (ls.map (·.l))) := by
  have hB0 : Below (w.heap.size + 1) (w.alloc (boxF f a c)) (w.alloc (boxF f a c)) := Below.refl _ _
  have E0 := Env.of hF hB0
  have hlm : (ls.map (·.l)).length = ls.length := List.length_map _
  by_cases h0 : (checkF f).2 = 0
  · obtain ⟨_, hR, _⟩ := checkF_right h0
    have hn120 := hR.2.2.2.1
    clear hR
    by_cases h100 : 100 < ls.length
    · have HE := Lib.hid (show enE f (ls.map (·.l)) = 8 by unfold enE; rw [if_neg (by simp [h0]), hlm, if_pos h100])
      have h100' : (100 : Int) < (ls.length : Int) := by omega
      clear hlm
      go_enter Tryd.func16, Tryd.ntmps16
      go_wp2_with fail
      refine (checkFount_any f a c _ E0.fa.ok E0.fa.at_ E0.fa.tab).mono ?_
      rintro e w1 ⟨rfl, hb1⟩
      rw [h0]
      have E1 := E0.step hF hb1
      have hlow := E1.low
      clear hb1 E0 h0
      go_wp2
      go_ret2
      exact ⟨hlow, .inl ⟨by rw [HE.out]; decide, by rw [HE.out]; rfl⟩⟩
    have h100' : (ls.length : Int) ≤ 100 := by omega
    have hen : enE f (ls.map (·.l)) = listsErr f.sorts.length (ls.map (·.l)) := by unfold enE; rw [if_neg (by simp [h0]), hlm, if_neg h100]
    have hce : casesErr f (ls.map (·.l)) = listsErr f.sorts.length (ls.map (·.l)) := casesErr_rest h0
    have HLM := Lib.hid hlm
    clear hlm
    by_cases hle : listsErr f.sorts.length (ls.map (·.l)) = 0
    · have HE := Lib.hid (hen.trans hle)
      have HC := Lib.hid (hce.trans hle)
      have HOK := Lib.hid (lists_ok hle)
      have hmk := fun W => run_make_row' (P := Tryd.prog) 31 3 (.int .i64 0) 8 Tryd.underlying31 info3 rfl .i64 .i64 f.sorts.length (by omega) (by omega) W
      clear hen hce hle
      go_enter Tryd.func16, Tryd.ntmps16
      go_wp2_with fail
      refine (checkFount_any f a c _ E0.fa.ok E0.fa.at_ E0.fa.tab).mono ?_
      rintro e w1 ⟨rfl, hb1⟩
      rw [h0]
      have E1 := E0.step hF hb1
      have q0 := E1.c0; have q1 := E1.c1; have q2 := E1.c2
      have hL1 := hL.below E1.low
      have H0 := Lib.hid h0
      clear hb1 E0 h0
      go_wp2_with fail
      refine (errorOfCounts_any f a c A ls C _ E1.fa.ok E1.fa.at_ E1.fa.tab hL1 (by unfold maxLen; omega)).mono ?_
      rintro e w2 ⟨rfl, hb2⟩
      rw [HC.out]
      have E2 := E1.step hF hb2
      clear q0 q1 q2 hb2 E1 hL1
      have q0 := E2.c0; have q1 := E2.c1; have q2 := E2.c2
      have hlow2 := E2.low
      have hL2 := hL.below hlow2
      go_wp2_with fail
      go_loopw [37] (fun i wr => ∃ k : Nat, k ≤ ls.length ∧ i = .int .i64 k ∧ RowX wr w2.heap.size (enoughTo f.sorts.length (ls.map (·.l)) k) ∧ Below w2.heap.size w2 wr) (fun i _ => ls.length - (intOf i).toNat)
      case atStart => exact ⟨0, Nat.zero_le _, rfl, (Own.made w2 f.sorts.length (fun _ => 0) f.sorts.length (Nat.le_refl _) (fun j _ => rfl)).rowX, (Below.refl _ _).alloc (Nat.le_refl _) _⟩
      case round =>
        obtain ⟨k, hk, rfl, hrow, hB⟩ := hrel
        by_cases hlt : k < ls.length
        · obtain ⟨ad, rfl, had, hcell, hi, hil⟩ := (hL2.below hB).at_ hlt
          have hokx : OkC f.sorts.length (ls.getD k noIS).l := by rw [isget hlt]; exact HOK.out _ (List.getElem_mem hlt)
          have hst := Lib.hid (show enoughTo f.sorts.length (ls.map (·.l)) (k + 1) = maxL (enoughTo f.sorts.length (ls.map (·.l)) k) (ls.getD k noIS).l f.sorts.length by rw [← map_getD]; rfl)
          have hlen := enough_len f.sorts.length (ls.map (·.l)) k
          have hi2 : IntsAt w2 (ls.getD k noIS).a (ls.getD k noIS).l := by
            obtain ⟨_, _, _, _, hh, _⟩ := hL2.at_ hlt; exact hh
          generalize enoughTo f.sorts.length (ls.map (·.l)) k = L at hrow hst hlen
          generalize ls.getD k noIS = x at hcell hi hil hokx hst hi2
          have hkl : (k : Int) < (ls.length : Int) := by omega
          have hxn := hokx.1
          have HX := Lib.hid hokx
          have HLEN := Lib.hid hlen
          clear hokx hlen hil
          rw [hxn] at hcell
          have HXN := Lib.hid hxn
          clear hxn
          go_wp2_with fail
          go_loopw [43] (fun i w3 => ∃ j : Nat, j ≤ f.sorts.length ∧ i = .int .i64 j ∧ RowX w3 w2.heap.size (maxL L x.l j) ∧ Below w2.heap.size w2 w3) (fun i _ => f.sorts.length - (intOf i).toNat)
          case atStart => exact ⟨0, Nat.zero_le _, rfl, hrow, hB⟩
          case round =>
            obtain ⟨j, hj, rfl, hrow3, hB3⟩ := hrel
            clear hrow hi hcell had
            by_cases hjl : j < f.sorts.length
            · obtain ⟨px, hpx, hpxl, hcx⟩ := (hi2.below hB3).at_ (k := j) (by rw [HXN.out]; exact hjl)
              have hcj := hrow3.cell (j := j) (by rw [maxL_len, HLEN.out]; exact hjl)
              have hfz := hrow3.frozen j
              have hset := fun v => hrow3.set_ j v
              have hst3 := Lib.hid (show maxL L x.l (j + 1) = (maxL L x.l j).set j (max ((maxL L x.l j).getD j 0) (x.l.getD j 0)) from rfl)
              generalize (maxL L x.l j).getD j 0 = u at hcj hst3
              generalize x.l.getD j 0 = v at hcx hst3
              have hjn : (j : Int) < (f.sorts.length : Int) := by omega
              rw [hpx]
              clear hrow3
              go_wp2
              go_roundw
              case rel => exact ⟨j + 1, by omega, by go_num, by rw [hst3.out]; exact hset _, hB3.setCell (Nat.le_refl _) _⟩
              case measure => simp [intOf]; omega
            · have hj2 : j = f.sorts.length := by omega
              subst hj2
              go_wp2
              go_roundw
              case rel => exact ⟨k + 1, by omega, by go_num, by rw [hst.out]; exact hrow3, hB3⟩
              case measure => simp [intOf]; omega
        · have hk2 : k = ls.length := by omega
          subst hk2
          have hlow : Below w.heap.size w wr := hlow2.trans (hB.mono hlow2.size)
          go_wp2
          go_ret2
          exact ⟨hlow, .inr ⟨HE.out, w2.heap.size, rfl, by rw [HLM.out]; exact hrow⟩⟩
    · have HE := Lib.hid hen
      have HNZ := Lib.hid hle
      have heb : (listsErr f.sorts.length (ls.map (·.l)) != 0) = true := by simpa using hle
      have HC := Lib.hid hce
      clear hen hce hle
      go_enter Tryd.func16, Tryd.ntmps16
      go_wp2_with fail
      refine (checkFount_any f a c _ E0.fa.ok E0.fa.at_ E0.fa.tab).mono ?_
      rintro e w1 ⟨rfl, hb1⟩
      rw [h0]
      have E1 := E0.step hF hb1
      have q0 := E1.c0; have q1 := E1.c1; have q2 := E1.c2
      have hL1 := hL.below E1.low
      clear hb1 E0 h0
      go_wp2_with fail
      refine (errorOfCounts_any f a c A ls C _ E1.fa.ok E1.fa.at_ E1.fa.tab hL1 (by unfold maxLen; omega)).mono ?_
      rintro e w2 ⟨rfl, hb2⟩
      rw [HC.out]
      have E2 := E1.step hF hb2
      have hlow := E2.low
      clear q0 q1 q2 hb2 E1 hL1
      go_wp2
      go_ret2
      exact ⟨hlow, .inl ⟨by rw [HE.out]; exact HNZ.out, by rw [HE.out]; rfl⟩⟩
  · have HE := Lib.hid (show enE f (ls.map (·.l)) = (checkF f).2 by unfold enE; rw [if_pos h0])
    have HNZ := Lib.hid h0
    have heb : ((checkF f).2 != 0) = true := by simpa using h0
    clear h0 hlm
    go_enter Tryd.func16, Tryd.ntmps16
    go_wp2_with fail
    refine (checkFount_any f a c _ E0.fa.ok E0.fa.at_ E0.fa.tab).mono ?_
    rintro e w1 ⟨rfl, hb1⟩
    have E1 := E0.step hF hb1
    have hlow := E1.low
    clear hb1 E0
    go_wp2
    go_ret2
    exact ⟨hlow, .inl ⟨by rw [HE.out]; exact HNZ.out, by rw [HE.out]; rfl⟩⟩
end Go.Proofs.YtebndgepmjonoaaDoor
