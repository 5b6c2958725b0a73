/-
  The reference's Number.
-/
import Derived.Test.YtnpehnfcccdcbaaGreatDoorCX
import Derived.Test.YtnpehnfcccdcbaaGreatDoorIA
import Derived.IntWalk
import Derived.Test.YtnpehnfcccdcbaaGreatDoorCY
import Derived.Deep.CutRange
import Derived.Laws.IdiomStrings
namespace Go.Proofs.YtnpehnfcccdcbaaGreatDoor
open Go.RowKit

theorem dec_bd : ∀ (k : Nat) {l : List UInt8} {m : Nat}, l.length = k → Lib.decFrom 0 l = some m → m < 10 ^ k := by
  intro k
  induction k with
  | zero =>
    intro l m h hd
    obtain rfl := List.length_eq_zero_iff.1 h
    have : (0 : Nat) = m := Option.some.inj hd
    subst this; decide
  | succ k ih =>
    intro l m h hd
    have hne : l ≠ [] := fun e => by rw [e] at h; cases h
    obtain ⟨a, c, rfl⟩ : ∃ a c, l = a ++ [c] := ⟨l.dropLast, l.getLast hne, (List.dropLast_concat_getLast hne).symm⟩
    rw [dec_app] at hd
    obtain ⟨p, hp, hq⟩ := Option.bind_eq_some_iff.1 hd
    rw [dec_cons] at hq
    have h1 := ih (by simpa using h) hp
    cases hv : Lib.digitVal c with
    | none => rw [hv] at hq; cases hq
    | some d =>
      rw [hv] at hq
      have hn : p * 10 + d = m := Option.some.inj hq
      have := (dig_inv hv).1
      rw [Nat.pow_succ]; omega
theorem dec_step {r : List UInt8} {k m : Nat} (hk : k < r.length) (h : Lib.decFrom 0 (r.take k) = some m) (h1 : 48 ≤ r[k].toNat) (h2 : r[k].toNat ≤ 57) : Lib.decFrom 0 (r.take (k + 1)) = some (m * 10 + (r[k].toNat - 48)) := by
  rw [List.take_succ_eq_append_getElem hk, dec_app, h]
  show Lib.decFrom m [r[k]] = _
  rw [dec_cons]
  have : Lib.digitVal r[k] = some (r[k].toNat - 48) := by unfold Lib.digitVal; rw [if_pos ⟨h1, h2⟩]
  rw [this]; try rfl
theorem dec_stop {r : List UInt8} {k : Nat} (hk : k < r.length) (h : ¬ (48 ≤ r[k].toNat ∧ r[k].toNat ≤ 57)) : Lib.decFrom 0 r = none := by
  cases hd : Lib.decFrom 0 r with
  | none => rfl
  | some n =>
    obtain ⟨d, hv⟩ := Lib.digit_of_decFrom r 0 n hd k _ (List.getElem?_eq_getElem hk)
    have := dig_inv hv
    exact absurd ⟨by omega, by omega⟩ h
theorem u8i_in (x : Int) (h : 0 ≤ x ∧ x ≤ 255) : IntKind.u8.wrap x = x := by
  unfold IntKind.wrap; simp [IntKind.signed, IntKind.bits]; omega
theorem pow17 : ∀ m, m < 18 → (10 : Nat) ^ m ≤ 100000000000000000 := by decide
def NumPost (w : World) (o : Option Int) (e : Ending) (w' : World) : Prop := e = .returned (.tuple #[.int .i64 (o.getD 0), .bool o.isSome]) ∧ w' = w
set_option maxRecDepth 100000 in
set_option maxHeartbeats 4000000 in
theorem number_any (s : ByteArray) (d : Nat) (w : World) (hd : d ≤ 17) (hs : s.size ≤ 1000000) :
    Calls Tryz.prog 49 #[.string s, .int .i64 (d : Int)] w (NumPost w (numI s.data.toList d)) := by
  obtain ⟨t, ht⟩ : ∃ t, t = s.data.toList := ⟨_, rfl⟩
  have hlen : t.length = s.size := by rw [ht]; exact Array.length_toList
  obtain ⟨o, ho⟩ : ∃ o, o = numI t d := ⟨_, rfl⟩
  have HO := Lib.hid ho
  rw [← ht, ← ho]
  clear ho
  by_cases h0 : s.size = 0
  · have HF : Hid (o = none) := Lib.hid (by
      rw [HO.out]; refine num_empty ?_
      have : t = [] := List.length_eq_zero_iff.1 (by omega)
      rw [this]; try rfl)
    have i0 : ¬ (0 : Int) < (s.size : Int) := by omega
    have i1 : ((s.size : Int) == 0) = true := beq_iff_eq.2 (by omega)
    have i2 : (s.size : Int) = 0 := by omega
    clear h0 ht hlen
    go_enter Tryz.func49, Tryz.ntmps49
    go_wp2_with fail
    go_ret2
    exact ⟨by rw [HF.out]; try rfl, rfl⟩
  have hp : 0 < s.size := by omega
  have hpI : (0 : Int) < (s.size : Int) := by omega
  obtain ⟨c, q, htc⟩ : ∃ c q, t = c :: q := by
    cases t with
    | nil => simp at hlen; omega
    | cons c q => exact ⟨c, q, rfl⟩
  have hat : ∀ k, (hk : k < s.size) → s[k] = t[k]'(by omega) := fun k hk => by subst ht; rfl
  have hs0 : s[0] = c := by rw [hat 0 hp]; simp [htc]
  by_cases h45 : c = 45
  · have HH : Hid (t.headD 0 = 45) := Lib.hid (by rw [htc]; exact h45)
    obtain ⟨r, hr⟩ : ∃ r, r = q := ⟨_, rfl⟩
    have HTR : Hid (trimM t = r) := Lib.hid (by rw [htc, h45, trim_minus, hr])
    have HAR : Hid (1 + r.length = s.size) := Lib.hid (by rw [← hlen, htc, hr]; simp; omega)
    have HAT : Hid (∀ k, (hk : k < r.length) → (hs : 1 + k < s.size) → s[1 + k] = r[k]) := Lib.hid (fun k hk h2 => by
      rw [hat _ h2]
      have : t[1 + k]? = r[k]? := by rw [htc, ← hr, Nat.add_comm]; try rfl
      rw [List.getElem?_eq_getElem (by omega), List.getElem?_eq_getElem hk] at this
      exact Option.some.inj this)
    have e45 : ((s[0].toNat : Int) == 45) = true := by rw [hs0, h45]; try rfl
    have HTL : Hid (t.length = s.size) := Lib.hid hlen
    have hab : 1 + r.length = s.size := HAR.out
    clear hs0 htc hat ht hlen h45 hr
    by_cases h1 : s.size = 1
    · have HF : Hid (o = none) := Lib.hid (by rw [HO.out]; exact num_empty (by rw [HTR.out]; exact List.length_eq_zero_iff.1 (by omega)))
      have i1 : ((s.size : Int) == 1) = true := by simp; omega
      go_enter Tryz.func49, Tryz.ntmps49
      go_wp2_with fail
      go_ret2
      exact ⟨by rw [HF.out]; try rfl, rfl⟩
    have i1 : ((s.size : Int) == 1) = false := by simp; omega
    by_cases h2 : d < s.size - 1
    · have HF : Hid (o = none) := Lib.hid (by rw [HO.out]; exact num_long (by rw [HTR.out]; omega))
      have i2 : (d : Int) < (s.size : Int) - 1 := by omega
      go_enter Tryz.func49, Tryz.ntmps49
      go_wp2_with fail
      go_ret2
      exact ⟨by rw [HF.out]; try rfl, rfl⟩
    have i2 : ¬ (d : Int) < (s.size : Int) - 1 := by omega
    have hsz1 : 1 < s.size := by omega
    have hsI1 : (1 : Int) < (s.size : Int) := by omega
    have hrp : 0 < r.length := by omega
    have hs1 : s[1] = r[0] := HAT.out 0 hrp (by omega)
    have hhd : r.headD 0 = r[0] := by cases r with
      | nil => simp at hrp
      | cons x y => rfl
    by_cases h3 : r[0] = 48
    · have HF : Hid (o = none) := Lib.hid (by rw [HO.out]; exact num_zero (by rw [HTR.out, hhd]; exact ⟨h3, by rw [HTL.out]; exact hsz1⟩))
      have i3 : ((s[1].toNat : Int) == 48) = true := by rw [hs1, h3]; try rfl
      clear hs1
      go_enter Tryz.func49, Tryz.ntmps49
      go_wp2_with fail
      go_ret2
      exact ⟨by rw [HF.out]; try rfl, rfl⟩
    · have i3 : ((s[1].toNat : Int) == 48) = false := by
        rw [beq_eq_false_iff_ne]; intro e; rw [hs1] at e
        exact h3 (by rw [← UInt8.toNat_inj]; show _ = 48; omega)
      have HNE : Hid (r ≠ []) := Lib.hid (fun e => by rw [e] at hrp; simp at hrp)
      have HLE : Hid (r.length ≤ d) := Lib.hid (by omega)
      have HZ : Hid (¬ (r.headD 0 = 48 ∧ 1 < t.length)) := Lib.hid (fun h => h3 (by rw [← hhd]; exact h.1))
      clear hs1 hhd h3
      go_enter Tryz.func49, Tryz.ntmps49
      go_wp2_with fail
      have hab : 1 + r.length = s.size := HAR.out
      have HAT : Hid (∀ k, (hk : k < r.length) → (hs : 1 + k < s.size) → s[1 + k] = r[k]) := HAT
      go_loop [7, 8] (fun v i => ∃ (kk m : Nat), 1 ≤ kk ∧ kk ≤ s.size ∧ i = .int .i64 (kk : Int) ∧ v = .int .i64 (m : Int) ∧ Hid (Lib.decFrom 0 (r.take (kk - 1)) = some m)) (fun _ i => s.size - (intOf i).toNat)
      case atStart => exact ⟨1, 0, Nat.le_refl _, by omega, rfl, rfl, Lib.hid rfl⟩
      case round =>
        obtain ⟨kk, m, hka, hk, rfl, rfl, HDD⟩ := hrel
        have hm : m ≤ 100000000000000000 := by
          have h1 := dec_bd _ rfl HDD.out
          rw [List.length_take] at h1
          have h2 := pow17 (min (kk - 1) r.length) (by have := HLE.out; omega)
          omega
        by_cases hsz : kk < s.size
        · have hlt : kk - 1 < r.length := by omega
          have hkI : (kk : Int) < (s.size : Int) := by omega
          have HSE : Hid (s[kk] = r[kk - 1]) := Lib.hid (by have := HAT.out (kk - 1) hlt (by omega); rw [← this]; congr 1; omega)
          obtain ⟨cc, hcc⟩ : ∃ cc : Nat, cc = s[kk].toNat := ⟨_, rfl⟩
          have HCC : Hid (cc = r[kk - 1].toNat) := Lib.hid (by rw [hcc, HSE.out])
          have hcb : cc < 256 := by rw [hcc]; exact s[kk].toNat_lt
          have hccI : (s[kk].toNat : Int) = (cc : Int) := by rw [hcc]
          by_cases h48 : 48 ≤ cc
          · by_cases h57 : cc ≤ 57
            · have HN := Lib.hid (dec_step hlt HDD.out (by rw [← HCC.out]; exact h48) (by rw [← HCC.out]; exact h57))
              have i1 : ¬ ((cc : Int) < 48) := by omega
              have i2 : ¬ ((57 : Int) < (cc : Int)) := by omega
              have hwu : IntKind.u8.wrap ((cc : Int) - 48) = (cc : Int) - 48 := u8i_in _ (by omega)
              clear hcc
              go_wp2_with fail
              go_round
              case rel => exact ⟨kk + 1, m * 10 + (cc - 48), by omega, by omega, by go_num, by go_num, Lib.hid (by rw [show kk + 1 - 1 = kk - 1 + 1 by omega, HN.out, HCC.out])⟩
              case measure => simp [intOf]; omega
            · have HF : Hid (o = none) := Lib.hid (by rw [HO.out]; exact num_bad (by rw [HTR.out]; exact dec_stop hlt (fun h => h57 (by rw [HCC.out]; exact h.2))))
              have i1 : ¬ ((cc : Int) < 48) := by omega
              have i2 : ((57 : Int) < (cc : Int)) := by omega
              clear hcc
              go_wp2_with fail
              go_ret2
              exact ⟨by rw [HF.out]; try rfl, rfl⟩
          · have HF : Hid (o = none) := Lib.hid (by rw [HO.out]; exact num_bad (by rw [HTR.out]; exact dec_stop hlt (fun h => h48 (by rw [HCC.out]; exact h.1))))
            have i1 : ((cc : Int) < 48) := by omega
            clear hcc
            go_wp2_with fail
            go_ret2
            exact ⟨by rw [HF.out]; try rfl, rfl⟩
        · have hke : kk - 1 = r.length := by omega
          have hkI : ¬ (kk : Int) < (s.size : Int) := by omega
          have HD : Hid (Lib.decFrom 0 r = some m) := Lib.hid (by have := HDD.out; rw [hke, List.take_length] at this; exact this)
          have HF : Hid (o = some (-(m : Int))) := Lib.hid (by
            rw [HO.out, num_read (n := m) (by rw [HTR.out]; exact HNE.out) (by rw [HTR.out]; exact HLE.out) (by rw [HTR.out]; exact HZ.out) (by rw [HTR.out]; exact HD.out)]
            rw [if_pos HH.out])
          go_wp2_with fail
          go_ret2
          exact ⟨by rw [HF.out]; try rfl, rfl⟩
  · have HH : Hid (¬ t.headD 0 = 45) := Lib.hid (by rw [htc]; exact h45)
    obtain ⟨r, hr⟩ : ∃ r, r = t := ⟨_, rfl⟩
    have HTR : Hid (trimM t = r) := Lib.hid (by unfold trimM; rw [if_neg HH.out, hr])
    have HAR : Hid (0 + r.length = s.size) := Lib.hid (by rw [← hlen, hr]; omega)
    have HAT : Hid (∀ k, (hk : k < r.length) → (hs : 0 + k < s.size) → s[0 + k] = r[k]) := Lib.hid (fun k hk h2 => by
      rw [hat _ h2]; subst hr; congr 1; omega)
    have e45 : ((s[0].toNat : Int) == 45) = false := by
      rw [beq_eq_false_iff_ne]; intro e; rw [hs0] at e
      exact h45 (by rw [← UInt8.toNat_inj]; show _ = 45; omega)
    have hab : 0 + r.length = s.size := HAR.out
    have hrp : 0 < r.length := by omega
    have hs1 : s[0] = r[0] := by have := HAT.out 0 hrp (by omega); exact this
    have hhd : r.headD 0 = r[0] := by cases r with
      | nil => simp at hrp
      | cons x y => rfl
    have HTL : Hid (t.length = s.size) := Lib.hid hlen
    have i1 : ((s.size : Int) == 0) = false := beq_eq_false_iff_ne.2 (by omega)
    clear hs0 htc hat ht hlen h45 hr
    by_cases h2 : d < s.size
    · have HF : Hid (o = none) := Lib.hid (by rw [HO.out]; exact num_long (by rw [HTR.out]; omega))
      have i2 : (d : Int) < (s.size : Int) := by omega
      clear hs1
      go_enter Tryz.func49, Tryz.ntmps49
      go_wp2_with fail
      go_ret2
      exact ⟨by rw [HF.out]; try rfl, rfl⟩
    have i2 : ¬ (d : Int) < (s.size : Int) := by omega
    by_cases h3 : r[0] = 48 ∧ 1 < s.size
    · have HF : Hid (o = none) := Lib.hid (by rw [HO.out]; exact num_zero (by rw [HTR.out, hhd, HTL.out]; exact h3))
      have i3 : ((s[0].toNat : Int) == 48) = true := by rw [hs1, h3.1]; try rfl
      have i4 : (1 : Int) < (s.size : Int) := by omega
      clear hs1
      go_enter Tryz.func49, Tryz.ntmps49
      go_wp2_with fail
      go_ret2
      exact ⟨by rw [HF.out]; try rfl, rfl⟩
    · have HNE : Hid (r ≠ []) := Lib.hid (fun e => by rw [e] at hrp; simp at hrp)
      have HLE : Hid (r.length ≤ d) := Lib.hid (by omega)
      have HZ : Hid (¬ (r.headD 0 = 48 ∧ 1 < t.length)) := Lib.hid (by rw [hhd, HTL.out]; exact h3)
      have hcase : ((s[0].toNat : Int) == 48) = false ∨ (((s[0].toNat : Int) == 48) = true ∧ ¬ (1 : Int) < (s.size : Int)) := by
        by_cases h4 : r[0] = 48
        · refine Or.inr ⟨by rw [hs1, h4]; try rfl, fun e => h3 ⟨h4, by omega⟩⟩
        · refine Or.inl ?_
          rw [beq_eq_false_iff_ne]; intro e; rw [hs1] at e
          exact h4 (by rw [← UInt8.toNat_inj]; show _ = 48; omega)
      clear hs1 hhd h3
      go_enter Tryz.func49, Tryz.ntmps49
      rcases hcase with i3 | ⟨i3, i4⟩
      all_goals
        go_wp2_with fail
        have hab : 0 + r.length = s.size := HAR.out
        have HAT : Hid (∀ k, (hk : k < r.length) → (hs : 0 + k < s.size) → s[0 + k] = r[k]) := HAT
        go_loop [7, 8] (fun v i => ∃ (kk m : Nat), 0 ≤ kk ∧ kk ≤ s.size ∧ i = .int .i64 (kk : Int) ∧ v = .int .i64 (m : Int) ∧ Hid (Lib.decFrom 0 (r.take (kk - 0)) = some m)) (fun _ i => s.size - (intOf i).toNat)
        case atStart => exact ⟨0, 0, Nat.le_refl _, by omega, rfl, rfl, Lib.hid rfl⟩
        case round =>
          obtain ⟨kk, m, hka, hk, rfl, rfl, HDD⟩ := hrel
          have hm : m ≤ 100000000000000000 := by
            have h1 := dec_bd _ rfl HDD.out
            rw [List.length_take] at h1
            have h2 := pow17 (min (kk - 0) r.length) (by have := HLE.out; omega)
            omega
          by_cases hsz : kk < s.size
          · have hlt : kk - 0 < r.length := by omega
            have hkI : (kk : Int) < (s.size : Int) := by omega
            have HSE : Hid (s[kk] = r[kk - 0]) := Lib.hid (by have := HAT.out (kk - 0) hlt (by omega); rw [← this]; congr 1; omega)
            obtain ⟨cc, hcc⟩ : ∃ cc : Nat, cc = s[kk].toNat := ⟨_, rfl⟩
            have HCC : Hid (cc = r[kk - 0].toNat) := Lib.hid (by rw [hcc, HSE.out])
            have hcb : cc < 256 := by rw [hcc]; exact s[kk].toNat_lt
            have hccI : (s[kk].toNat : Int) = (cc : Int) := by rw [hcc]
            by_cases h48 : 48 ≤ cc
            · by_cases h57 : cc ≤ 57
              · have HN := Lib.hid (dec_step hlt HDD.out (by rw [← HCC.out]; exact h48) (by rw [← HCC.out]; exact h57))
                have i1 : ¬ ((cc : Int) < 48) := by omega
                have i2 : ¬ ((57 : Int) < (cc : Int)) := by omega
                have hwu : IntKind.u8.wrap ((cc : Int) - 48) = (cc : Int) - 48 := u8i_in _ (by omega)
                clear hcc
                go_wp2_with fail
                go_round
                case rel => exact ⟨kk + 1, m * 10 + (cc - 48), by omega, by omega, by go_num, by go_num, Lib.hid (by rw [show kk + 1 - 0 = kk - 0 + 1 by omega, HN.out, HCC.out])⟩
                case measure => simp [intOf]; omega
              · have HF : Hid (o = none) := Lib.hid (by rw [HO.out]; exact num_bad (by rw [HTR.out]; exact dec_stop hlt (fun h => h57 (by rw [HCC.out]; exact h.2))))
                have i1 : ¬ ((cc : Int) < 48) := by omega
                have i2 : ((57 : Int) < (cc : Int)) := by omega
                clear hcc
                go_wp2_with fail
                go_ret2
                exact ⟨by rw [HF.out]; try rfl, rfl⟩
            · have HF : Hid (o = none) := Lib.hid (by rw [HO.out]; exact num_bad (by rw [HTR.out]; exact dec_stop hlt (fun h => h48 (by rw [HCC.out]; exact h.1))))
              have i1 : ((cc : Int) < 48) := by omega
              clear hcc
              go_wp2_with fail
              go_ret2
              exact ⟨by rw [HF.out]; try rfl, rfl⟩
          · have hke : kk - 0 = r.length := by omega
            have hkI : ¬ (kk : Int) < (s.size : Int) := by omega
            have HD : Hid (Lib.decFrom 0 r = some m) := Lib.hid (by have := HDD.out; rw [hke, List.take_length] at this; exact this)
            have HF : Hid (o = some ((m : Int))) := Lib.hid (by
              rw [HO.out, num_read (n := m) (by rw [HTR.out]; exact HNE.out) (by rw [HTR.out]; exact HLE.out) (by rw [HTR.out]; exact HZ.out) (by rw [HTR.out]; exact HD.out)]
              rw [if_neg HH.out])
            go_wp2_with fail
            go_ret2
            exact ⟨by rw [HF.out]; try rfl, rfl⟩
end Go.Proofs.YtnpehnfcccdcbaaGreatDoor

namespace Go.Proofs.YtnpehnfcccdcbaaGreatDoor
open Go.RowKit Go.Maps

def preTo (p : List UInt8) (P : List (List UInt8)) : List (List UInt8) := (p ++ P.headD []) :: P.tail
theorem splitOn_form {m : UInt8} (l : List UInt8) : splitOn m l = (splitOn m l).headD [] :: (splitOn m l).tail := by
  cases h : splitOn m l with
  | nil => exact absurd h (splitOn_ne m l)
  | cons a r => rfl
theorem preTo_nil {m : UInt8} (l : List UInt8) : preTo [] (splitOn m l) = splitOn m l := (splitOn_form l).symm
theorem splitOn_cons_ne {m c : UInt8} {r : List UInt8} (h : c ≠ m) : splitOn m (c :: r) = preTo [c] (splitOn m r) := by
  rw [splitOn, if_neg h]
  cases h2 : splitOn m r with
  | nil => exact absurd h2 (splitOn_ne m r)
  | cons a t => rfl
theorem splitOn_cons_eq {m : UInt8} {r : List UInt8} : splitOn m (m :: r) = [] :: splitOn m r := by rw [splitOn, if_pos rfl]
theorem ext_bytes (s : ByteArray) {f k : Nat} : (s.extract f k).data.toList = (s.data.toList.take k).drop f := by
  rw [ByteArray.data_extract, Array.toList_extract, List.extract_eq_take_drop, List.drop_take]
theorem ext_push (s : ByteArray) {f k : Nat} (hf : f ≤ k) (h : k < s.size) : (s.extract f (k + 1)).data.toList = (s.extract f k).data.toList ++ [s[k]] := by
  have hl : k < s.data.toList.length := by rw [Array.length_toList]; exact h
  rw [ext_bytes, ext_bytes, List.take_succ_eq_append_getElem hl, List.drop_append_of_le_length (by rw [List.length_take]; omega)]
  rfl
theorem drop_consB (s : ByteArray) (k : Nat) (h : k < s.size) : s.data.toList.drop k = s[k] :: s.data.toList.drop (k + 1) := by
  have hl : k < s.data.toList.length := by rw [Array.length_toList]; exact h
  rw [List.drop_eq_getElem_cons hl]; try rfl
def CutPost (w : World) (m : UInt8) (s : ByteArray) (e : Ending) (w' : World) : Prop :=
  Below w.heap.size w w' ∧ ∃ v, e = .returned v ∧ OwnG 1 9 tx w' w.heap.size v ((splitOn m s.data.toList).map bs)
set_option maxRecDepth 100000 in
set_option maxHeartbeats 4000000 in
theorem cut_any (s : ByteArray) (m : UInt8) (w : World) (hs : s.size ≤ 1000) :
    Calls Tryz.prog 21 #[.string s, .int .u8 m.toNat] w (CutPost w m s) := by
  go_enter Tryz.func21, Tryz.ntmps21
  go_wp2_with fail
  go_loopw [5, 6, 7] (fun v5 v6 i wr => ∃ (k f : Nat) (D : List (List UInt8)), k ≤ s.size ∧ f ≤ k ∧ i = .int .i64 k ∧ v6 = .int .i64 f ∧ OwnG 1 9 tx wr w.heap.size v5 (D.map bs) ∧ D.length ≤ k ∧ Hid (splitOn m s.data.toList = D ++ preTo (s.extract f k).data.toList (splitOn m (s.data.toList.drop k))) ∧ Below w.heap.size w wr) (fun _ _ i _ => s.size - (intOf i).toNat)
  case atStart => exact ⟨0, 0, [], Nat.zero_le _, Nat.le_refl _, rfl, rfl, OwnG.nil _ _, Nat.le_refl _, Lib.hid (by rw [ext_bytes]; exact (preTo_nil _).symm), Below.refl _ _⟩
  case round =>
    obtain ⟨k, f, D, hk, hf, rfl, rfl, hT, hDl, HR, hB⟩ := hrel
    obtain ⟨A, c, e5, -, -, -⟩ := hT.rows tx_len
    subst e5
    have hbw := hB.size
    have hfk : (f : Int) ≤ (k : Int) := by omega
    have hkI : (k : Int) ≤ (s.size : Int) := by omega
    have hfI : (f : Int) ≤ (s.size : Int) := by omega
    have hml : (D.map bs).length = D.length := List.length_map _
    obtain ⟨n, hn⟩ : ∃ n, n = (D.map bs).length := ⟨_, rfl⟩
    have HDN : Hid ((D.map bs).length ≤ 1000) := Lib.hid (by omega)
    rw [← hn] at hT
    rw [← hn]
    clear hn hml
    by_cases hlt : k < s.size
    · have hkl : (k : Int) < (s.size : Int) := by omega
      have HD := Lib.hid (drop_consB s k hlt)
      by_cases hm : s[k] = m
      · have hb : ((s[k].toNat : Int) == (m.toNat : Int)) = true := by rw [hm]; simp
        have HR2 := Lib.hid (show splitOn m s.data.toList = (D ++ [(s.extract f k).data.toList]) ++ preTo (s.extract (k + 1) (k + 1)).data.toList (splitOn m (s.data.toList.drop (k + 1))) by
          have e0 : (s.extract (k + 1) (k + 1)).data.toList = [] := by rw [ext_bytes]; exact List.drop_of_length_le (by rw [List.length_take]; omega)
          rw [HR.out, HD.out, hm, splitOn_cons_eq, e0, preTo_nil]
          simp [preTo])
        have HE : Hid (D.map bs ++ [s.extract f k] = (D ++ [(s.extract f k).data.toList]).map bs) := Lib.hid (by rw [List.map_append, List.map_cons, List.map_nil, data_bs])
        clear hm
        go_wp2_with (at_builtin; refine wpList_appG1 tTx tx_len tx_one wr (s.extract f k) _ rfl rfl _ _ rfl w.heap.size _ (D.map bs) rfl hT rfl (by have := HDN.out; omega) hbw ?_; intro v5 w5 hO5 hg5 hB5 _)
        go_roundw
        case rel => exact ⟨k + 1, k + 1, D ++ [(s.extract f k).data.toList], by omega, Nat.le_refl _, by go_num, by go_num, by rw [← HE.out]; exact hO5, by rw [List.length_append]; simp; omega, HR2, hB.trans hB5⟩
        case measure => simp [intOf]; omega
      · have hb : ((s[k].toNat : Int) == (m.toNat : Int)) = false := by
          rw [beq_eq_false_iff_ne]
          intro e
          exact hm (UInt8.toNat_inj.1 (by omega))
        have HR2 := Lib.hid (show splitOn m s.data.toList = D ++ preTo (s.extract f (k + 1)).data.toList (splitOn m (s.data.toList.drop (k + 1))) by
          rw [HR.out, HD.out, splitOn_cons_ne hm, ext_push s hf hlt]
          simp [preTo])
        clear hm
        go_wp2
        go_roundw
        case rel => exact ⟨k + 1, f, D, by omega, by omega, by go_num, rfl, hT, by omega, HR2, hB⟩
        case measure => simp [intOf]; omega
    · obtain rfl : k = s.size := by omega
      have HE := Lib.hid (show D.map bs ++ [s.extract f s.size] = (splitOn m s.data.toList).map bs by
        rw [HR.out, List.drop_of_length_le (by rw [Array.length_toList]; exact Nat.le_refl _)]
        show D.map bs ++ [s.extract f s.size] = (D ++ [(s.extract f s.size).data.toList ++ []]).map bs
        rw [List.append_nil, List.map_append, List.map_cons, List.map_nil, data_bs])
      go_wp2_with (at_builtin; refine wpList_appG1 tTx tx_len tx_one wr (s.extract f s.size) _ rfl rfl _ _ rfl w.heap.size _ (D.map bs) rfl hT rfl (by have := HDN.out; omega) hbw ?_; intro v5 w5 hO5 hg5 hB5 _)
      go_ret
      exact ⟨hB.trans hB5, v5, rfl, by rw [← HE.out]; exact hO5⟩
end Go.Proofs.YtnpehnfcccdcbaaGreatDoor

namespace Go.Proofs.YtnpehnfcccdcbaaGreatDoor
open Go.RowKit Go.Maps

set_option maxRecDepth 100000 in
/-- A number without its sign, from a remainder. -/
theorem size_digit (n : Int) (d : Nat) (h : -9 ≤ n ∧ n ≤ 9) (hd : n.natAbs = d) (w : World) :
    Calls Tryz.prog 53 #[.int .i64 n] w fun e w' => e = .returned (.int .i64 (d : Nat)) ∧ w' = w := by
  obtain ⟨h1, h2⟩ := h
  have HM := Lib.hid (show max n (-n) = (d : Nat) by omega)
  clear hd
  go_enter Tryz.func53, Tryz.ntmps53
  go_wp2
  go_ret
  exact ⟨ret_int HM.out, rfl⟩
def decPre (m : Nat) : List UInt8 := if m = 0 then [] else Lib.decDigits m
theorem decPre_zero : decPre 0 = [] := rfl
theorem decPre_next {m : Nat} (h : m ≠ 0) : decPre m = decPre (m / 10) ++ [UInt8.ofNat (48 + m % 10)] := by
  unfold decPre
  rw [if_neg h]
  by_cases h10 : m < 10
  · rw [Lib.decDigits_one h10, if_pos (by omega), show m % 10 = m by omega]; try rfl
  · rw [dg_snoc h10, if_neg (by omega)]
theorem tmod_abs (x : Int) : (x.tmod 10).natAbs = x.natAbs % 10 := by rw [Int.natAbs_tmod]; try rfl
theorem tdiv_abs (x : Int) : (x.tdiv 10).natAbs = x.natAbs / 10 := by rw [Int.natAbs_tdiv]; try rfl
theorem itoa_pos {n : Int} (h : 0 < n) : Lib.itoa n = decPre n.natAbs := by
  unfold Lib.itoa decPre
  rw [if_neg (by omega), if_neg (by omega), show n.toNat = n.natAbs by omega]
theorem itoa_neg {n : Int} (h : n < 0) : Lib.itoa n = 45 :: decPre n.natAbs := by
  unfold Lib.itoa decPre
  rw [if_pos h, if_neg (by omega)]
set_option maxRecDepth 100000 in
set_option maxHeartbeats 4000000 in
theorem decimal_any (n : Int) (hn : OkI n) (w : World) :
    Calls Tryz.prog 31 #[.int .i64 n] w (StrPost w (Lib.itoa n)) := by
  obtain ⟨b1, b2⟩ := hn.le
  by_cases h0 : n = 0
  · subst h0
    have HZ := Lib.hid (show bs (Lib.itoa 0) = ⟨#[48]⟩ by decide +kernel)
    go_enter Tryz.func31, Tryz.ntmps31
    go_wp2
    go_ret
    exact ⟨by rw [HZ.out]; try rfl, Below.refl _ _⟩
  have hn0 : (n == 0) = false := by rw [beq_eq_false_iff_ne]; exact h0
  obtain ⟨na, hna⟩ : ∃ na, na = n.natAbs := ⟨_, rfl⟩
  have hna19 : na < 10 ^ 19 := by have : (10 : Nat) ^ 19 = 10000000000000000000 := by decide
                                  omega
  have HNA := Lib.hid hna; have HN19 := Lib.hid hna19
  by_cases hneg : n < 0
  · have HF := Lib.hid (show Lib.itoa n = [(45 : UInt8)] ++ decPre na by rw [hna, itoa_neg hneg]; try rfl)
    clear hna hna19 h0
    go_enter Tryz.func31, Tryz.ntmps31
    go_wp2_with fail
    go_loopw [0, 3] (fun v0 v3 wr => ∃ (x : Int) (j : Nat) (l : List UInt8), v0 = .int .i64 x ∧ v3 = .string (bs l) ∧ j ≤ 19 ∧ x.natAbs < 10 ^ j ∧ l.length ≤ 19 - j ∧ Hid (decPre na = decPre x.natAbs ++ l) ∧ OkI x ∧ Below w.heap.size w wr) (fun v0 _ _ => (intOf v0).natAbs)
    case atStart => exact ⟨n, 19, [], rfl, rfl, Nat.le_refl _, by rw [← HNA.out]; exact HN19.out, by decide, Lib.hid (by rw [← HNA.out]; simp), hn, Below.refl _ _⟩
    case round =>
      obtain ⟨x, j, l, rfl, rfl, hj, hxj, hl, HD, hx, hB⟩ := hrel
      obtain ⟨x1, x2⟩ := hx.le
      by_cases hx0 : x = 0
      · subst hx0
        have hz := HD.out
        rw [show (0 : Int).natAbs = 0 from rfl, decPre_zero, List.nil_append] at hz
        have HE := Lib.hid (show bs ([(45 : UInt8)] ++ l) = bs (Lib.itoa n) by rw [HF.out, hz])
        have ha : ∀ W, (Op.stringOp .add (⟨#[45]⟩ : ByteArray) (bs l)).run Tryz.prog W = .ok (.string (bs ([(45 : UInt8)] ++ l))) W := fun W => bs_add [(45 : UInt8)] l (by simp; omega) W
        clear hz hxj hl
        go_wp2_with fail
        go_ret
        exact ⟨by rw [← HE.out]; try rfl, hB⟩
      · have hxb : (x != 0) = true := by simp; exact hx0
        obtain ⟨j, rfl⟩ : ∃ i, j = i + 1 := ⟨j - 1, by
          rcases Nat.eq_zero_or_pos j with h | h
          · rw [h] at hxj; omega
          · omega⟩
        obtain ⟨d, hd⟩ : ∃ d, (x.tmod 10).natAbs = d := ⟨_, rfl⟩
        have hd2 := tmod_abs x
        have hdl : d ≤ 9 := by omega
        have HS := Lib.hid (fun W => size_digit (x.tmod 10) d (by omega) hd W)
        obtain ⟨y, hy⟩ : ∃ y, x.tdiv 10 = y := ⟨_, rfl⟩
        have hya := tdiv_abs x
        rw [hy] at hya
        have hwy : wrap64 y = y := IntWalk.wrap64_in y (by omega)
        have hwu : IntKind.u8.wrap (48 + (d : Int)) = 48 + (d : Int) := u8i_in _ (by omega)
        obtain ⟨cc, ec⟩ : ∃ cc : UInt8, cc = UInt8.ofNat (48 + d) := ⟨_, rfl⟩
        have hcn : (cc.toNat : Int) = 48 + (d : Int) := by rw [ec, ofNat_d (by omega)]; omega
        have hcv : ∀ W : World, (convert 70 9 (.slice (some ⟨W.heap.size, 0, none⟩) 1 1)).run Tryz.prog (W.alloc (.cells #[.int .u8 (48 + (d : Int))] 5)) = .ok (.string ⟨#[cc]⟩) (W.alloc (.cells #[.int .u8 (48 + (d : Int))] 5)) := fun W =>
          run_convert_bytes_back _ 70 9 5 ⟨W.heap.size, 0, none⟩ 1 [cc] Tryz.underlying70 Tryz.underlying5 Tryz.underlying9 (fun j hj => by
            have hj0 : j = 0 := by simpa using hj
            subst hj0
            rw [add0, cell_of_row _ _ 0 _ _ (0, 0) (heap_alloc_new W _), List.getElem_cons_zero, hcn]; try rfl)
        have ha : ∀ W, (Op.stringOp .add (⟨#[cc]⟩ : ByteArray) (bs l)).run Tryz.prog W = .ok (.string (bs (cc :: l))) W := fun W => bs_add [cc] l (by simp; omega) W
        have HN := Lib.hid (show decPre na = decPre y.natAbs ++ (cc :: l) by
          rw [HD.out, hya, decPre_next (by omega), ← hd2, hd, ← ec]; simp)
        have HJ : Hid (y.natAbs < 10 ^ j) := Lib.hid (by rw [Nat.pow_succ] at hxj; omega)
        have HY : Hid (OkI y) := Lib.hid (OkI.of (by omega))
        have HYM : Hid (y.natAbs < x.natAbs) := Lib.hid (by omega)
        have HCL : Hid ((cc :: l).length ≤ 19 - j) := Lib.hid (by rw [List.length_cons]; omega)
        clear ec hcn hya hd2 hd hxj hl
        go_wp2_with fail
        refine (HS.out _).mono ?_
        rintro e w2 ⟨rfl, rfl⟩
        go_wp2_with fail
        go_roundw
        case rel => exact ⟨y, j, cc :: l, by rw [hwy], rfl, by omega, HJ.out, HCL.out, HN, HY.out, hB.alloc hB.size _⟩
        case measure => simp only [intOf]; rw [hwy]; exact HYM.out
  · have HF := Lib.hid (show Lib.itoa n = ([] : List UInt8) ++ decPre na by rw [hna, itoa_pos (by omega)]; try rfl)
    clear hna hna19 h0
    go_enter Tryz.func31, Tryz.ntmps31
    go_wp2_with fail
    go_loopw [0, 3] (fun v0 v3 wr => ∃ (x : Int) (j : Nat) (l : List UInt8), v0 = .int .i64 x ∧ v3 = .string (bs l) ∧ j ≤ 19 ∧ x.natAbs < 10 ^ j ∧ l.length ≤ 19 - j ∧ Hid (decPre na = decPre x.natAbs ++ l) ∧ OkI x ∧ Below w.heap.size w wr) (fun v0 _ _ => (intOf v0).natAbs)
    case atStart => exact ⟨n, 19, [], rfl, rfl, Nat.le_refl _, by rw [← HNA.out]; exact HN19.out, by decide, Lib.hid (by rw [← HNA.out]; simp), hn, Below.refl _ _⟩
    case round =>
      obtain ⟨x, j, l, rfl, rfl, hj, hxj, hl, HD, hx, hB⟩ := hrel
      obtain ⟨x1, x2⟩ := hx.le
      by_cases hx0 : x = 0
      · subst hx0
        have hz := HD.out
        rw [show (0 : Int).natAbs = 0 from rfl, decPre_zero, List.nil_append] at hz
        have HE := Lib.hid (show bs (([] : List UInt8) ++ l) = bs (Lib.itoa n) by rw [HF.out, hz])
        have ha : ∀ W, (Op.stringOp .add (⟨#[]⟩ : ByteArray) (bs l)).run Tryz.prog W = .ok (.string (bs (([] : List UInt8) ++ l))) W := fun W => bs_add ([] : List UInt8) l (by simp; omega) W
        clear hz hxj hl
        go_wp2_with fail
        go_ret
        exact ⟨by rw [← HE.out]; try rfl, hB⟩
      · have hxb : (x != 0) = true := by simp; exact hx0
        obtain ⟨j, rfl⟩ : ∃ i, j = i + 1 := ⟨j - 1, by
          rcases Nat.eq_zero_or_pos j with h | h
          · rw [h] at hxj; omega
          · omega⟩
        obtain ⟨d, hd⟩ : ∃ d, (x.tmod 10).natAbs = d := ⟨_, rfl⟩
        have hd2 := tmod_abs x
        have hdl : d ≤ 9 := by omega
        have HS := Lib.hid (fun W => size_digit (x.tmod 10) d (by omega) hd W)
        obtain ⟨y, hy⟩ : ∃ y, x.tdiv 10 = y := ⟨_, rfl⟩
        have hya := tdiv_abs x
        rw [hy] at hya
        have hwy : wrap64 y = y := IntWalk.wrap64_in y (by omega)
        have hwu : IntKind.u8.wrap (48 + (d : Int)) = 48 + (d : Int) := u8i_in _ (by omega)
        obtain ⟨cc, ec⟩ : ∃ cc : UInt8, cc = UInt8.ofNat (48 + d) := ⟨_, rfl⟩
        have hcn : (cc.toNat : Int) = 48 + (d : Int) := by rw [ec, ofNat_d (by omega)]; omega
        have hcv : ∀ W : World, (convert 70 9 (.slice (some ⟨W.heap.size, 0, none⟩) 1 1)).run Tryz.prog (W.alloc (.cells #[.int .u8 (48 + (d : Int))] 5)) = .ok (.string ⟨#[cc]⟩) (W.alloc (.cells #[.int .u8 (48 + (d : Int))] 5)) := fun W =>
          run_convert_bytes_back _ 70 9 5 ⟨W.heap.size, 0, none⟩ 1 [cc] Tryz.underlying70 Tryz.underlying5 Tryz.underlying9 (fun j hj => by
            have hj0 : j = 0 := by simpa using hj
            subst hj0
            rw [add0, cell_of_row _ _ 0 _ _ (0, 0) (heap_alloc_new W _), List.getElem_cons_zero, hcn]; try rfl)
        have ha : ∀ W, (Op.stringOp .add (⟨#[cc]⟩ : ByteArray) (bs l)).run Tryz.prog W = .ok (.string (bs (cc :: l))) W := fun W => bs_add [cc] l (by simp; omega) W
        have HN := Lib.hid (show decPre na = decPre y.natAbs ++ (cc :: l) by
          rw [HD.out, hya, decPre_next (by omega), ← hd2, hd, ← ec]; simp)
        have HJ : Hid (y.natAbs < 10 ^ j) := Lib.hid (by rw [Nat.pow_succ] at hxj; omega)
        have HY : Hid (OkI y) := Lib.hid (OkI.of (by omega))
        have HYM : Hid (y.natAbs < x.natAbs) := Lib.hid (by omega)
        have HCL : Hid ((cc :: l).length ≤ 19 - j) := Lib.hid (by rw [List.length_cons]; omega)
        clear ec hcn hya hd2 hd hxj hl
        go_wp2_with fail
        refine (HS.out _).mono ?_
        rintro e w2 ⟨rfl, rfl⟩
        go_wp2_with fail
        go_roundw
        case rel => exact ⟨y, j, cc :: l, by rw [hwy], rfl, by omega, HJ.out, HCL.out, HN, HY.out, hB.alloc hB.size _⟩
        case measure => simp only [intOf]; rw [hwy]; exact HYM.out
end Go.Proofs.YtnpehnfcccdcbaaGreatDoor
