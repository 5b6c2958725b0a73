/-
  Package impose: what is bound of a right book, as the reference tells it.
-/
import Derived.Test.YtjkjfmahcjcniaaT5
import Derived.Test.YtjkjfmahcjcniaaYD
namespace Go.Proofs.Ytjkjfmahcjcniaa
open Go.RowKit

/-- What stands at a page itself, and the plates behind it. -/
def bdHd (cl : List Int) (p : Nat) : List Int := if p = 0 then [] else [if hasB cl p = true then 0 else (p : Int)]
def bdPl (pl : List Int) (p i : Nat) : List Int := List.replicate ((pl.take i).count (p : Int)) (-1)
def bdTo (pl cl : List Int) (n : Nat) : List Int := (List.range n).flatMap fun p => bdHd cl p ++ bdPl pl p pl.length
theorem bdTo_succ (pl cl : List Int) (n : Nat) : bdTo pl cl n ++ (bdHd cl n ++ bdPl pl n pl.length) = bdTo pl cl (n + 1) := by
  unfold bdTo; rw [List.range_succ, List.flatMap_append]; simp
theorem bdHd_len (cl : List Int) (p : Nat) : (bdHd cl p).length ≤ 1 := by unfold bdHd; split <;> simp
theorem bdPl_len (pl : List Int) (p i : Nat) : (bdPl pl p i).length ≤ pl.length := by
  unfold bdPl; rw [List.length_replicate]
  exact Nat.le_trans List.count_le_length (by rw [List.length_take]; exact Nat.min_le_right _ _)
theorem bdTo_len (pl cl : List Int) (n : Nat) : (bdTo pl cl n).length ≤ n * (1 + pl.length) := by
  induction n with
  | zero => simp [bdTo]
  | succ n ih =>
    rw [← bdTo_succ, List.length_append, List.length_append, Nat.succ_mul]
    have h1 := bdHd_len cl n; have h2 := bdPl_len pl n pl.length
    omega
theorem bdPl_zero (pl : List Int) (p : Nat) : bdPl pl p 0 = [] := by simp [bdPl]
theorem bdPl_hit {pl : List Int} {p i : Nat} (hi : i < pl.length) (h : pl[i] = (p : Int)) : bdPl pl p i ++ [-1] = bdPl pl p (i + 1) := by
  unfold bdPl
  rw [List.take_succ_eq_append_getElem hi, List.count_append, h, List.count_singleton_self, List.replicate_succ']
theorem bdPl_miss {pl : List Int} {p i : Nat} (hi : i < pl.length) (h : ¬ pl[i] = (p : Int)) : bdPl pl p i = bdPl pl p (i + 1) := by
  unfold bdPl
  rw [List.take_succ_eq_append_getElem hi, List.count_append, List.count_singleton, if_neg (by simpa using h), Nat.add_zero]
structure BdEnv (w : World) (P S : Int) (pa : Option Addr) (pl : List Int) (pc : Nat) (ca : Option Addr) (cl : List Int) (cc : Nat) (v : Value) (M : List Int) (wr : World) : Prop where
  bx : BoxAt wr w.heap.size #[.int .i64 P, .int .i64 S, .slice pa pl.length pc, .slice ca cl.length cc] 93
  own : OwnR 1 3 intL wr (w.heap.size + 1) v M
  low : Below w.heap.size w wr
theorem BdEnv.app {w wr wg : World} {P S : Int} {pa : Option Addr} {pl : List Int} {pc : Nat} {ca : Option Addr} {cl : List Int} {cc : Nat} {v v' : Value} {M M' : List Int} (E : BdEnv w P S pa pl pc ca cl cc v M wr)
    (hO : OwnR 1 3 intL wg (w.heap.size + 1) v' M') (hg : wr.grownBy wg v.ownBlock) : BdEnv w P S pa pl pc ca cl cc v' M' wg :=
  ⟨E.bx.grown hg (fun e => by have := (E.own.lt w.heap.size e.symm).1; omega), hO, E.low.grown hg E.low.size (fun q e => by have := (E.own.lt q e).1; omega)⟩
def BoundPost (w : World) (V : List Int) (e : Ending) (w' : World) : Prop :=
  ∃ (a : Option Addr) (n c : Nat), e = .returned (.slice a n c) ∧ n = V.length ∧ RowsAt 1 intL w' a V ∧ Below w.heap.size w w'
set_option maxRecDepth 100000 in
set_option maxHeartbeats 8000000 in
theorem refBound_any (P : Nat) (S : Int) (pa : Option Addr) (pl : List Int) (pc : Nat) (ca : Option Addr) (cl : List Int) (cc : Nat) (w : World) (hp : RowsAt 1 intL w pa pl) (hpl : pl.length ≤ 45) (hc : RowsAt 1 intL w ca cl) (hcl : cl.length ≤ 45) (hP : P ≤ 4000) :
    Calls Try.prog 63 #[.agg #[.int .i64 P, .int .i64 S, .slice pa pl.length pc, .slice ca cl.length cc]] w (BoundPost w (bdTo pl cl (P + 1))) := by
  have E0 : BdEnv w P S pa pl pc ca cl cc (.slice none 0 0) (bdTo pl cl 0) (w.alloc (.cells #[.int .i64 P, .int .i64 S, .slice pa pl.length pc, .slice ca cl.length cc] 93)) :=
    ⟨BoxAt.new w _ _, OwnR.nil _ _, (Below.refl _ _).alloc (Nat.le_refl _) _⟩
  have HCL : Hid (cl.length ≤ maxLen) := Lib.hid (by unfold maxLen; omega)
  go_enter Try.func63, Try.ntmps63
  go_wp2_with fail
  go_loopw [3, 4] (fun v i wr => ∃ p : Nat, p ≤ P + 1 ∧ i = .int .i64 p ∧ BdEnv w P S pa pl pc ca cl cc v (bdTo pl cl p) wr) (fun _ i _ => P + 1 - (intOf i).toNat)
  case atStart => exact ⟨0, Nat.zero_le _, rfl, E0⟩
  case round =>
    obtain ⟨p, hpP, rfl, E⟩ := hrel
    clear E0
    have c0 := E.bx.cell 0; have c3 := E.bx.cell 3
    have hbl := E.bx.lt
    simp at c0 c3
    obtain ⟨va, vc, ev, hrow, -, -, -, -⟩ := E.own.rows int_l
    have HEV := Lib.hid ev; clear ev
    by_cases hlt : p ≤ P
    · have hltI : (p : Int) ≤ (P : Int) := by omega
      have HBL : Hid ((bdTo pl cl p).length ≤ 200000) := Lib.hid (by
        have h1 := bdTo_len pl cl p
        have h2 : p * (1 + pl.length) ≤ 4000 * 46 := Nat.mul_le_mul (by omega) (by omega)
        omega)
      have hcr := hc.below E.low
      by_cases h0 : p = 0
      · have HX : Hid (bdTo pl cl p ++ bdHd cl p = bdTo pl cl p) := Lib.hid (by unfold bdHd; rw [if_pos h0, List.append_nil])
        have E1 := E
        rw [← HX.out] at E1
        have h0I : ¬ (0 : Int) < (p : Int) := by omega
        go_wp2_with fail
        clear c0 c3 hbl hcr hrow HEV E
        go_loopw [3, 5] (fun v i wr => ∃ k : Nat, k ≤ pl.length ∧ i = .int .i64 k ∧ BdEnv w P S pa pl pc ca cl cc v (bdTo pl cl p ++ (bdHd cl p ++ bdPl pl p k)) wr) (fun _ i _ => pl.length - (intOf i).toNat)
        case atStart => exact ⟨0, Nat.zero_le _, rfl, by rw [bdPl_zero, List.append_nil]; exact E1⟩
        case round =>
          obtain ⟨k, hk, rfl, E⟩ := hrel
          clear E1
          have c2 := E.bx.cell 2
          have hbl := E.bx.lt
          simp at c2
          obtain ⟨va, vc, ev, -, -, -, -, -⟩ := E.own.rows int_l
          have HEV := Lib.hid ev; clear ev
          by_cases hkl : k < pl.length
          · have hkI : (k : Int) < (pl.length : Int) := by omega
            obtain ⟨ad, rfl, had, s0⟩ := (hp.below E.low).int hkl
            obtain ⟨x, ex⟩ : ∃ x, x = pl[k] := ⟨_, rfl⟩
            rw [← ex] at s0
            by_cases hx : x = (p : Int)
            · have HX : Hid ((bdTo pl cl p ++ (bdHd cl p ++ bdPl pl p k)) ++ [(-1 : Int)] = bdTo pl cl p ++ (bdHd cl p ++ bdPl pl p (k + 1))) := Lib.hid (by
                rw [← bdPl_hit hkl (by rw [← ex]; exact hx), List.append_assoc, List.append_assoc])
              have HB2 : Hid ((bdTo pl cl p ++ (bdHd cl p ++ bdPl pl p k)).length ≤ 300000) := Lib.hid (by
                rw [List.length_append, List.length_append]
                have h1 := HBL.out; have h2 := bdHd_len cl p; have h3 := bdPl_len pl p k; omega)
              obtain ⟨M, hM⟩ : ∃ M, bdTo pl cl p ++ (bdHd cl p ++ bdPl pl p k) = M := ⟨_, rfl⟩
              rw [hM] at E HX HB2 HEV
              clear hM
              clear ex
              subst hx
              go_wp2_with (first | (at_builtin; refine wpList_appX tInt int_l _ ((-1 : Int)) _ rfl rfl _ _ rfl (w.heap.size + 1) _ M rfl E.own rfl (by have := HB2.out; omega) (by omega) ?_; intro gg cg wg hOg hgg hBg))
              rw [HX.out] at hOg
              have hEg := E.app hOg hgg
              go_wp2_with fail
              go_roundw
              case rel => exact ⟨k + 1, by omega, by go_num, hEg⟩
              case measure => simp [intOf]; omega
            · have HX : Hid (bdPl pl p k = bdPl pl p (k + 1)) := Lib.hid (bdPl_miss hkl (by rw [← ex]; exact hx))
              clear ex
              rw [HX.out] at E
              go_wp2_with fail
              go_roundw
              case rel => exact ⟨k + 1, by omega, by go_num, E⟩
              case measure => simp [intOf]; omega
          · have hkL : k = pl.length := by omega
            have hkI : ¬ (k : Int) < (pl.length : Int) := by omega
            rw [hkL, bdTo_succ] at E
            clear hkL
            go_wp2_with fail
            go_roundw
            case rel => exact ⟨p + 1, by omega, by go_num, E⟩
            case measure => simp [intOf]; omega
      · have h0I : (0 : Int) < (p : Int) := by omega
        cases hh : hasB cl p
        · have HX : Hid (bdTo pl cl p ++ [(p : Int)] = bdTo pl cl p ++ bdHd cl p) := Lib.hid (by unfold bdHd; rw [if_neg h0, hh]; rfl)
          go_wp2_with (first | ((go_at_call 23; refine (has_any ca cl cl.length cc (p : Int) _ hcr rfl HCL.out).mono ?_; rintro e w' ⟨rfl, rfl⟩); rw [hh]) | (at_builtin; refine wpList_appX tInt int_l _ ((p : Int)) _ rfl rfl _ _ rfl (w.heap.size + 1) _ (bdTo pl cl p) rfl E.own rfl (by have := HBL.out; omega) (by omega) ?_; intro gg cg wg hOg hgg hBg))
          rw [HX.out] at hOg
          have E1 := E.app hOg hgg
          clear c0 c3 hbl hcr hrow HEV E
          go_loopw [3, 5] (fun v i wr => ∃ k : Nat, k ≤ pl.length ∧ i = .int .i64 k ∧ BdEnv w P S pa pl pc ca cl cc v (bdTo pl cl p ++ (bdHd cl p ++ bdPl pl p k)) wr) (fun _ i _ => pl.length - (intOf i).toNat)
          case atStart => exact ⟨0, Nat.zero_le _, rfl, by rw [bdPl_zero, List.append_nil]; exact E1⟩
          case round =>
            obtain ⟨k, hk, rfl, E⟩ := hrel
            clear E1
            have c2 := E.bx.cell 2
            have hbl := E.bx.lt
            simp at c2
            obtain ⟨va, vc, ev, -, -, -, -, -⟩ := E.own.rows int_l
            have HEV := Lib.hid ev; clear ev
            by_cases hkl : k < pl.length
            · have hkI : (k : Int) < (pl.length : Int) := by omega
              obtain ⟨ad, rfl, had, s0⟩ := (hp.below E.low).int hkl
              obtain ⟨x, ex⟩ : ∃ x, x = pl[k] := ⟨_, rfl⟩
              rw [← ex] at s0
              by_cases hx : x = (p : Int)
              · have HX : Hid ((bdTo pl cl p ++ (bdHd cl p ++ bdPl pl p k)) ++ [(-1 : Int)] = bdTo pl cl p ++ (bdHd cl p ++ bdPl pl p (k + 1))) := Lib.hid (by
                  rw [← bdPl_hit hkl (by rw [← ex]; exact hx), List.append_assoc, List.append_assoc])
                have HB2 : Hid ((bdTo pl cl p ++ (bdHd cl p ++ bdPl pl p k)).length ≤ 300000) := Lib.hid (by
                  rw [List.length_append, List.length_append]
                  have h1 := HBL.out; have h2 := bdHd_len cl p; have h3 := bdPl_len pl p k; omega)
                obtain ⟨M, hM⟩ : ∃ M, bdTo pl cl p ++ (bdHd cl p ++ bdPl pl p k) = M := ⟨_, rfl⟩
                rw [hM] at E HX HB2 HEV
                clear hM
                clear ex
                subst hx
                go_wp2_with (first | (at_builtin; refine wpList_appX tInt int_l _ ((-1 : Int)) _ rfl rfl _ _ rfl (w.heap.size + 1) _ M rfl E.own rfl (by have := HB2.out; omega) (by omega) ?_; intro gg cg wg hOg hgg hBg))
                rw [HX.out] at hOg
                have hEg := E.app hOg hgg
                go_wp2_with fail
                go_roundw
                case rel => exact ⟨k + 1, by omega, by go_num, hEg⟩
                case measure => simp [intOf]; omega
              · have HX : Hid (bdPl pl p k = bdPl pl p (k + 1)) := Lib.hid (bdPl_miss hkl (by rw [← ex]; exact hx))
                clear ex
                rw [HX.out] at E
                go_wp2_with fail
                go_roundw
                case rel => exact ⟨k + 1, by omega, by go_num, E⟩
                case measure => simp [intOf]; omega
            · have hkL : k = pl.length := by omega
              have hkI : ¬ (k : Int) < (pl.length : Int) := by omega
              rw [hkL, bdTo_succ] at E
              clear hkL
              go_wp2_with fail
              go_roundw
              case rel => exact ⟨p + 1, by omega, by go_num, E⟩
              case measure => simp [intOf]; omega
        · have HX : Hid (bdTo pl cl p ++ [(0 : Int)] = bdTo pl cl p ++ bdHd cl p) := Lib.hid (by unfold bdHd; rw [if_neg h0, hh]; rfl)
          go_wp2_with (first | ((go_at_call 23; refine (has_any ca cl cl.length cc (p : Int) _ hcr rfl HCL.out).mono ?_; rintro e w' ⟨rfl, rfl⟩); rw [hh]) | (at_builtin; refine wpList_appX tInt int_l _ ((0 : Int)) _ rfl rfl _ _ rfl (w.heap.size + 1) _ (bdTo pl cl p) rfl E.own rfl (by have := HBL.out; omega) (by omega) ?_; intro gg cg wg hOg hgg hBg))
          rw [HX.out] at hOg
          have E1 := E.app hOg hgg
          clear c0 c3 hbl hcr hrow HEV E
          go_loopw [3, 5] (fun v i wr => ∃ k : Nat, k ≤ pl.length ∧ i = .int .i64 k ∧ BdEnv w P S pa pl pc ca cl cc v (bdTo pl cl p ++ (bdHd cl p ++ bdPl pl p k)) wr) (fun _ i _ => pl.length - (intOf i).toNat)
          case atStart => exact ⟨0, Nat.zero_le _, rfl, by rw [bdPl_zero, List.append_nil]; exact E1⟩
          case round =>
            obtain ⟨k, hk, rfl, E⟩ := hrel
            clear E1
            have c2 := E.bx.cell 2
            have hbl := E.bx.lt
            simp at c2
            obtain ⟨va, vc, ev, -, -, -, -, -⟩ := E.own.rows int_l
            have HEV := Lib.hid ev; clear ev
            by_cases hkl : k < pl.length
            · have hkI : (k : Int) < (pl.length : Int) := by omega
              obtain ⟨ad, rfl, had, s0⟩ := (hp.below E.low).int hkl
              obtain ⟨x, ex⟩ : ∃ x, x = pl[k] := ⟨_, rfl⟩
              rw [← ex] at s0
              by_cases hx : x = (p : Int)
              · have HX : Hid ((bdTo pl cl p ++ (bdHd cl p ++ bdPl pl p k)) ++ [(-1 : Int)] = bdTo pl cl p ++ (bdHd cl p ++ bdPl pl p (k + 1))) := Lib.hid (by
                  rw [← bdPl_hit hkl (by rw [← ex]; exact hx), List.append_assoc, List.append_assoc])
                have HB2 : Hid ((bdTo pl cl p ++ (bdHd cl p ++ bdPl pl p k)).length ≤ 300000) := Lib.hid (by
                  rw [List.length_append, List.length_append]
                  have h1 := HBL.out; have h2 := bdHd_len cl p; have h3 := bdPl_len pl p k; omega)
                obtain ⟨M, hM⟩ : ∃ M, bdTo pl cl p ++ (bdHd cl p ++ bdPl pl p k) = M := ⟨_, rfl⟩
                rw [hM] at E HX HB2 HEV
                clear hM
                clear ex
                subst hx
                go_wp2_with (first | (at_builtin; refine wpList_appX tInt int_l _ ((-1 : Int)) _ rfl rfl _ _ rfl (w.heap.size + 1) _ M rfl E.own rfl (by have := HB2.out; omega) (by omega) ?_; intro gg cg wg hOg hgg hBg))
                rw [HX.out] at hOg
                have hEg := E.app hOg hgg
                go_wp2_with fail
                go_roundw
                case rel => exact ⟨k + 1, by omega, by go_num, hEg⟩
                case measure => simp [intOf]; omega
              · have HX : Hid (bdPl pl p k = bdPl pl p (k + 1)) := Lib.hid (bdPl_miss hkl (by rw [← ex]; exact hx))
                clear ex
                rw [HX.out] at E
                go_wp2_with fail
                go_roundw
                case rel => exact ⟨k + 1, by omega, by go_num, E⟩
                case measure => simp [intOf]; omega
            · have hkL : k = pl.length := by omega
              have hkI : ¬ (k : Int) < (pl.length : Int) := by omega
              rw [hkL, bdTo_succ] at E
              clear hkL
              go_wp2_with fail
              go_roundw
              case rel => exact ⟨p + 1, by omega, by go_num, E⟩
              case measure => simp [intOf]; omega
    · have hpE : p = P + 1 := by omega
      have hltI : ¬ (p : Int) ≤ (P : Int) := by omega
      have HPE := Lib.hid hpE
      obtain ⟨m, hm⟩ : ∃ n, n = (bdTo pl cl p).length := ⟨_, rfl⟩
      have HEV2 := HEV.out
      rw [← hm] at HEV2
      subst HEV2
      have HM := Lib.hid hm
      clear hm hpE HEV
      go_wp2_with fail
      go_ret
      exact ⟨va, m, vc, rfl, by rw [← HPE.out]; exact HM.out, by rw [← HPE.out]; exact hrow, E.low⟩
end Go.Proofs.Ytjkjfmahcjcniaa
