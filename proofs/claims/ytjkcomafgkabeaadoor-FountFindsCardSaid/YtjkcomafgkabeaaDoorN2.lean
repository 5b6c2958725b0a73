/-
  Lists of sorts: their error, width, need.
-/
import Derived.Test.YtjkcomafgkabeaaDoorT1
import Derived.Test.YtjkcomafgkabeaaDoorN1
namespace Go.Proofs.YtjkcomafgkabeaaDoor
open Go.RowKit Go.Maps

def idxBad (n : Nat) (x : Int) : Bool := decide (x < 0 ∨ (n : Int) ≤ x)
def listErr (f : FT) (l : List Int) : Int := if (checkF f).2 ≠ 0 then (checkF f).2 else if 10000 < l.length then 8 else if l.any (idxBad f.sorts.length) = true then 6 else 0
theorem listErr_zero {f : FT} {l : List Int} (h : listErr f l = 0) : (checkF f).2 = 0 ∧ l.length ≤ 10000 ∧ OkIdx l f.sorts.length := by
  unfold listErr at h
  split at h
  · rename_i h1; exact absurd h h1
  rename_i h1
  split at h
  · cases h
  rename_i h2
  split at h
  · cases h
  rename_i h3
  refine ⟨Decidable.not_not.1 h1, by omega, fun j hj => ?_⟩
  have : idxBad f.sorts.length (l.getD j 0) = false := by
    cases e : idxBad f.sorts.length (l.getD j 0)
    · rfl
    · rw [getI hj] at e; exact absurd (List.any_eq_true.2 ⟨_, List.getElem_mem hj, e⟩) h3
  unfold idxBad at this
  have := of_decide_eq_false this
  exact ⟨(l.getD j 0).toNat, by omega, by omega⟩
theorem bad_cons {n : Nat} {l : List Int} {k : Nat} (h : k < l.length) : (l.drop k).any (idxBad n) = (idxBad n (l.getD k 0) || (l.drop (k + 1)).any (idxBad n)) := by
  rw [List.drop_eq_getElem_cons h, getI h]; rfl
theorem bad_end {n : Nat} {l : List Int} {k : Nat} (h : ¬ k < l.length) : (l.drop k).any (idxBad n) = false := by
  rw [List.drop_of_length_le (by omega)]; rfl

set_option maxRecDepth 100000 in
set_option maxHeartbeats 1000000 in
theorem hasSort_any (f : FT) (a : Option Addr) (c : Nat) (x : Int) (w : World) :
    Calls Tryd.prog 77 #[.agg #[.string f.name, .int .i64 f.body, .slice a f.sorts.length c], .int .i64 x] w fun e w' => e = .returned (.bool (!idxBad f.sorts.length x)) ∧ Below w.heap.size w w' := by
  have hB := (Below.refl w.heap.size w).alloc (Nat.le_refl _) (.cells #[.string f.name, .int .i64 f.body, .slice a f.sorts.length c] 24)
  by_cases h : x < 0
  · have HE := Lib.hid (show idxBad f.sorts.length x = true from decide_eq_true (Or.inl h))
    go_enter Tryd.func77, Tryd.ntmps77
    go_wp2
    go_ret
    exact ⟨by rw [HE.out]; rfl, hB⟩
  · by_cases h2 : (f.sorts.length : Int) ≤ x
    · have HE := Lib.hid (show idxBad f.sorts.length x = true from decide_eq_true (Or.inr h2))
      go_enter Tryd.func77, Tryd.ntmps77
      go_wp2
      go_ret
      exact ⟨by rw [HE.out]; show Ending.returned (.bool (decide (x < (f.sorts.length : Int)))) = _; rw [decide_eq_false (by omega)]; rfl, hB⟩
    · have HE := Lib.hid (show idxBad f.sorts.length x = false from decide_eq_false (by omega))
      have h3 : 0 ≤ x := by omega
      have h4 : x < f.sorts.length := by omega
      go_enter Tryd.func77, Tryd.ntmps77
      go_wp2
      go_ret
      exact ⟨by rw [HE.out]; rfl, hB⟩

set_option maxRecDepth 100000 in
set_option maxHeartbeats 2000000 in
theorem errorOfList_any (f : FT) (a : Option Addr) (c : Nat) (b : Option Addr) (l : List Int) (d : Nat) (w : World) (hF : FAt w a f) (hX : IntsAt w b l) (hl : l.length ≤ maxLen) :
    Calls Tryd.prog 81 #[.agg #[.string f.name, .int .i64 f.body, .slice a f.sorts.length c], .slice b l.length d] w fun e w' => e = .returned (.int .i64 (listErr f l)) ∧ Below w.heap.size w w' := by
  have hB0 : Below (w.heap.size + 1) (w.alloc (boxF f a c)) (w.alloc (boxF f a c)) := Below.refl _ _
  have E0 := Env.of hF hB0
  unfold maxLen at hl
  by_cases h0 : (checkF f).2 = 0
  · obtain ⟨_, hR, _⟩ := checkF_right h0
    have hn120 := hR.2.2.2.1
    have H0 := Lib.hid h0
    go_enter Tryd.func81, Tryd.ntmps81
    go_wp2_with fail
    refine (checkFount_any f a c _ E0.fa.ok (by exact E0.fa.at_) (by exact E0.fa.tab)).mono ?_
    rintro e w1 ⟨rfl, hb⟩
    have E1 := E0.step hF hb
    rw [h0]
    clear hb h0 hR
    by_cases hlg : 10000 < l.length
    · have HE := Lib.hid (show listErr f l = 8 by unfold listErr; rw [if_neg (by simp [H0.out]), if_pos hlg])
      have hlow := E1.low
      have hlg' : (10000 : Int) < (l.length : Int) := by omega
      go_wp2
      go_ret
      exact ⟨ret_int (by rw [HE.out]), hlow⟩
    · have HE := Lib.hid (show listErr f l = if l.any (idxBad f.sorts.length) = true then 6 else 0 by unfold listErr; rw [if_neg (by simp [H0.out]), if_neg hlg])
      have hlg' : (l.length : Int) ≤ 10000 := by omega
      go_wp2_with fail
      go_loopw [22] (fun i wr => ∃ k : Nat, k ≤ l.length ∧ i = .int .i64 k ∧ Hid (l.any (idxBad f.sorts.length) = (l.drop k).any (idxBad f.sorts.length)) ∧ Env w f a c wr) (fun i _ => l.length - (intOf i).toNat)
      case atStart => exact ⟨0, Nat.zero_le _, rfl, Lib.hid rfl, E1⟩
      case round =>
        obtain ⟨k, hk, rfl, HS, E⟩ := hrel
        clear E1
        have q0 := E.c0; have q1 := E.c1; have q2 := E.c2
        by_cases hlt : k < l.length
        · obtain ⟨p1, rfl, hp1, hc1⟩ := (hX.below E.low).at_ hlt
          have hst := Lib.hid (bad_cons (n := f.sorts.length) hlt)
          obtain ⟨x, ex⟩ : ∃ x, x = l.getD k 0 := ⟨_, rfl⟩
          rw [← ex] at hst hc1
          clear ex
          have hkl : (k : Int) < (l.length : Int) := by omega
          go_wp2_with fail
          refine (hasSort_any f a c x _).mono ?_
          rintro e w2 ⟨rfl, hb2⟩
          have E2 := E.step hF hb2
          clear hb2 E q0 q1 q2
          cases hxb : idxBad f.sorts.length x
          · go_wp2
            go_roundw
            case rel => exact ⟨k + 1, by omega, by go_num, Lib.hid (by rw [HS.out, hst.out, hxb]; rfl), E2⟩
            case measure => simp [intOf]; omega
          · have hlow := E2.low
            go_wp2
            go_ret
            exact ⟨ret_int (by rw [HE.out, HS.out, hst.out, hxb]; rfl), hlow⟩
        · have hst := Lib.hid (bad_end (n := f.sorts.length) hlt)
          have hlow := E.low
          go_wp2
          go_ret
          exact ⟨ret_int (by rw [HE.out, HS.out, hst.out]; rfl), hlow⟩
  · have HE := Lib.hid (show listErr f l = (checkF f).2 by unfold listErr; rw [if_pos h0])
    have heb : ((checkF f).2 != 0) = true := by simpa using h0
    clear h0
    go_enter Tryd.func81, Tryd.ntmps81
    go_wp2_with fail
    refine (checkFount_any f a c _ E0.fa.ok (by exact E0.fa.at_) (by exact E0.fa.tab)).mono ?_
    rintro e w1 ⟨rfl, hb⟩
    have hlow := (E0.step hF hb).low
    clear hb
    go_wp2
    go_ret
    exact ⟨ret_int (by rw [HE.out]), hlow⟩

def widthOf (f : FT) (l : List Int) : Int := sumTo (fun k => (f.sorts.getD (l.getD k 0).toNat noTS).width) l.length
def widthR (f : FT) (l : List Int) : Int × Int := if listErr f l ≠ 0 then (0, listErr f l) else (widthOf f l, 0)

set_option maxRecDepth 100000 in
set_option maxHeartbeats 2000000 in
theorem WidthOf_any (f : FT) (a : Option Addr) (c : Nat) (b : Option Addr) (l : List Int) (d : Nat) (w : World) (hF : FAt w a f) (hX : IntsAt w b l) (hl : l.length ≤ maxLen) :
    Calls Tryd.prog 34 #[.agg #[.string f.name, .int .i64 f.body, .slice a f.sorts.length c], .slice b l.length d] w fun e w' => e = .returned (.tuple #[.int .i64 (widthR f l).1, .int .i64 (widthR f l).2]) ∧ Below w.heap.size w w' := by
  have hB0 : Below (w.heap.size + 1) (w.alloc (boxF f a c)) (w.alloc (boxF f a c)) := Below.refl _ _
  have E0 := Env.of hF hB0
  have hX0 := hX.alloc (boxF f a c)
  by_cases h0 : listErr f l = 0
  · obtain ⟨h1, hln, hok⟩ := listErr_zero h0
    obtain ⟨_, hR, _⟩ := checkF_right h1
    have hn120 := hR.2.2.2.1
    have HE := Lib.hid (show widthR f l = (widthOf f l, 0) by unfold widthR; rw [if_neg (by simp [h0])])
    have HOK := Lib.hid hok
    have HR := Lib.hid hR
    clear hok hR
    go_enter Tryd.func34, Tryd.ntmps34
    go_wp2_with fail
    refine (errorOfList_any f a c b l d _ E0.fa hX0 hl).mono ?_
    rintro e w1 ⟨rfl, hb⟩
    have E1 := E0.step hF hb
    rw [h0]
    clear hb h0 hX0
    have hX1 := hX.below E1.low
    have q2 := E1.c2
    go_wp2_with fail
    go_loopw [7, 18] (fun t i wr => ∃ k : Nat, k ≤ l.length ∧ i = .int .i64 k ∧ t = .int .i64 (sumTo (fun k => (f.sorts.getD (l.getD k 0).toNat noTS).width) k) ∧ Drew w1 wr) (fun _ i _ => l.length - (intOf i).toNat)
    case atStart => exact ⟨0, Nat.zero_le _, rfl, rfl, Drew.refl _⟩
    case round =>
      obtain ⟨k, hk, rfl, rfl, hD⟩ := hrel
      have r2 := hD.cell q2
      by_cases hlt : k < l.length
      · obtain ⟨p1, rfl, hp1, hc1⟩ := (hD.ints hX1).at_ hlt
        obtain ⟨x, hx, hxe⟩ := HOK.out k hlt
        have hst : sumTo (fun k => (f.sorts.getD (l.getD k 0).toNat noTS).width) (k + 1) = sumTo (fun k => (f.sorts.getD (l.getD k 0).toNat noTS).width) k + (f.sorts.getD x noTS).width := by
          show _ + (f.sorts.getD (l.getD k 0).toNat noTS).width = _
          rw [hxe]; rfl
        have HST := Lib.hid hst
        rw [hxe] at hc1
        obtain ⟨ad, rfl, hadl, s0, s1, s2, s3⟩ := (hD.sorts E1.fa.at_).at_ hx
        have hw1 := HR.out.2.2.2.2 x hx
        have hsb := sumTo_bd (f := fun k => (f.sorts.getD (l.getD k 0).toNat noTS).width) (lo := 0) (hi := 100000) (k := k) (fun i hi => by
          obtain ⟨y, hy, hye⟩ := HOK.out i (by omega)
          have := HR.out.2.2.2.2 y hy
          show 0 ≤ (f.sorts.getD (l.getD i 0).toNat noTS).width ∧ _
          rw [hye, Int.toNat_natCast]; omega)
        generalize sumTo (fun k => (f.sorts.getD (l.getD k 0).toNat noTS).width) k = sq at hsb HST
        generalize (f.sorts.getD x noTS).width = wd at s3 hw1 HST
        clear hst hxe s0 s1 s2
        have hk4 : (k : Int) ≤ 10000 := by omega
        have hkl : (k : Int) < (l.length : Int) := by omega
        have hxl : (x : Int) < (f.sorts.length : Int) := by omega
        go_wp2_with fail
        go_roundw
        case rel => exact ⟨k + 1, by omega, by go_num, by rw [HST.out], hD⟩
        case measure => simp [intOf]; omega
      · have hk2 : k = l.length := by omega
        subst hk2
        have hlow := hD.below E1.low
        go_wp2
        go_ret2
        exact ⟨ret2_int (by rw [HE.out]; rfl) (by rw [HE.out]), hlow⟩
  · have HE := Lib.hid (show widthR f l = (0, listErr f l) by unfold widthR; rw [if_pos h0])
    have heb : (listErr f l != 0) = true := by simpa using h0
    clear h0
    go_enter Tryd.func34, Tryd.ntmps34
    go_wp2_with fail
    refine (errorOfList_any f a c b l d _ E0.fa hX0 hl).mono ?_
    rintro e w1 ⟨rfl, hb⟩
    have hlow := (E0.step hF hb).low
    clear hb
    go_wp2
    go_ret2
    exact ⟨ret2_int (by rw [HE.out]) (by rw [HE.out]), hlow⟩
end Go.Proofs.YtjkcomafgkabeaaDoor
