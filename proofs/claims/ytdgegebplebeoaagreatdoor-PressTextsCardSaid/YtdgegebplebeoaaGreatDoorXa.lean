/-
  The mathematics of splitting at a byte (the first part of V2, without its sums).
-/
import Derived.Lib.SplitLaws
import Derived.Lib.Split
import Derived.Test.YtdgegebplebeoaaGreatDoorProg
import Derived.Lib.ItoaNum
import Derived.Lib.Atoi
import Derived.Lib.AtoiTie
import Derived.Test.YtdgegebplebeoaaGreatDoorEI
import Derived.Lib.Join
import Derived.Test.YtdgegebplebeoaaGreatDoorIA
import Derived.IntWalk

namespace Go.Proofs.YtdgegebplebeoaaGreatDoor
open Go.Lib

def splitOn (m : UInt8) : List UInt8 → List (List UInt8)
  | [] => [[]]
  | c :: r => if c = m then [] :: splitOn m r else match splitOn m r with
    | [] => [[c]]
    | h :: t => (c :: h) :: t
theorem splitOn_ne (m : UInt8) (l : List UInt8) : splitOn m l ≠ [] := by
  cases l with
  | nil => simp [splitOn]
  | cons c r =>
    unfold splitOn
    split
    · simp
    · split <;> simp
theorem splitK_one (m : UInt8) : ∀ (l : List UInt8) (k : Nat), count l [m] = k → splitK [m] 0 k l = splitOn m l
  | [], k, h => by
    have hc : count ([] : List UInt8) [m] = 0 := by rw [count_one]; rfl
    rw [hc] at h; subst h; rfl
  | b :: l, k, h => by
    by_cases e : b = m
    · subst e
      rw [count_cons_eq] at h
      have ih := splitK_one b l (count l [b]) rfl
      obtain rfl : k = count l [b] + 1 := by omega
      have hix : index (b :: l) [b] = ((0 : Nat) : Int) := by rw [index]; simp [List.isPrefixOf]
      rw [splitK, if_neg (by rw [hix]; simp), hix]
      unfold splitOn
      rw [if_pos rfl, ← ih]
      simp
    · rw [count_cons_ne b m l e] at h
      have ih := splitK_one m l k h
      unfold splitOn
      rw [if_neg e, ← ih]
      cases k with
      | zero => rfl
      | succ k =>
        have hp : ([m] : List UInt8).isPrefixOf (b :: l) = false := by simp [List.isPrefixOf, Ne.symm e]
        have hix : index (b :: l) [m] = if index l [m] == -1 then -1 else index l [m] + 1 := by rw [index, hp]; simp
        by_cases hm : index l [m] = -1
        · rw [count_miss hm] at h; omega
        · have hge := index_ge l [m]
          obtain ⟨j, hj⟩ : ∃ j : Nat, index l [m] = j := ⟨(index l [m]).toNat, by omega⟩
          have hix' : index (b :: l) [m] = ((j + 1 : Nat) : Int) := by rw [hix, if_neg (fun e => hm (beq_iff_eq.1 e)), hj]; omega
          rw [splitK, splitK, if_neg (by rw [hix']; simp; omega), if_neg (by rw [hj]; simp), hix', hj]
          simp
theorem splitB_one (m : UInt8) (s : ByteArray) : (splitB ⟨#[m]⟩ 0 (countB s ⟨#[m]⟩) s).map (·.data.toList) = splitOn m s.data.toList := by
  rw [splitB_data]
  exact splitK_one m _ _ rfl

theorem splitOn_len (m : UInt8) : ∀ l : List UInt8, (splitOn m l).flatten.length + (splitOn m l).length = l.length + 1
  | [] => by simp [splitOn]
  | c :: r => by
    have ih := splitOn_len m r
    have hne := splitOn_ne m r
    unfold splitOn
    split
    · simp at ih ⊢; omega
    · split
      · rename_i h; exact absurd h hne
      · rename_i h t e; rw [e] at ih; simp at ih ⊢; omega
end Go.Proofs.YtdgegebplebeoaaGreatDoor

namespace Go.Proofs.YtdgegebplebeoaaGreatDoor

theorem dec_cons (acc : Nat) (c : UInt8) (r : List UInt8) : Lib.decFrom acc (c :: r) = match Lib.digitVal c with | some d => Lib.decFrom (acc * 10 + d) r | none => none := rfl
theorem dec_app : ∀ (a b : List UInt8) (acc : Nat), Lib.decFrom acc (a ++ b) = (Lib.decFrom acc a).bind fun m => Lib.decFrom m b
  | [], _, _ => rfl
  | c :: a, b, acc => by
    rw [List.cons_append, dec_cons, dec_cons]
    cases Lib.digitVal c with
    | none => rfl
    | some d => exact dec_app a b _
theorem ofNat_d {r : Nat} (h : r < 10) : (UInt8.ofNat (48 + r)).toNat = 48 + r := by rw [UInt8.toNat_ofNat']; omega
theorem dig_of {r : Nat} (h : r < 10) : Lib.digitVal (UInt8.ofNat (48 + r)) = some r := by
  unfold Lib.digitVal; rw [ofNat_d h, if_pos (by omega)]; congr 1; omega
theorem dig_inv {c : UInt8} {d : Nat} (h : Lib.digitVal c = some d) : d < 10 ∧ c = UInt8.ofNat (48 + d) ∧ c.toNat = 48 + d := by
  unfold Lib.digitVal at h
  split at h
  · rename_i hc
    have e : c.toNat - 48 = d := Option.some.inj h
    have h10 : d < 10 := by omega
    refine ⟨h10, ?_, by omega⟩
    rw [← UInt8.toNat_inj, ofNat_d h10]; omega
  · cases h
theorem dg_snoc {u : Nat} (h : ¬ u < 10) : Lib.decDigits u = Lib.decDigits (u / 10) ++ [UInt8.ofNat (48 + u % 10)] := by rw [Lib.decDigits, dif_neg h]
theorem dg_read (u : Nat) : Lib.decFrom 0 (Lib.decDigits u) = some u := by
  induction u using Nat.strongRecOn with
  | _ u ih =>
    by_cases h : u < 10
    · rw [Lib.decDigits_one h]
      show (match Lib.digitVal (UInt8.ofNat (48 + u)) with | some d => Lib.decFrom (0 * 10 + d) [] | none => none) = _
      rw [dig_of h]
      show some (0 * 10 + u) = _
      simp
    · rw [dg_snoc h, dec_app, ih (u / 10) (by omega)]
      show (match Lib.digitVal (UInt8.ofNat (48 + u % 10)) with | some d => Lib.decFrom (u / 10 * 10 + d) [] | none => none) = _
      rw [dig_of (Nat.mod_lt _ (by omega))]
      show some (u / 10 * 10 + u % 10) = _
      congr 1; omega
theorem dg_pos (u : Nat) : 1 ≤ (Lib.decDigits u).length := by rw [Lib.decDigits_length]; exact Lib.nDigits_pos u
theorem dg_digit {u : Nat} : ∀ c ∈ Lib.decDigits u, ∃ d, Lib.digitVal c = some d := by
  intro c hc
  obtain ⟨k, hk, rfl⟩ := List.getElem_of_mem hc
  exact Lib.digit_of_decFrom _ _ _ (dg_read u) k _ (List.getElem?_eq_getElem hk)
/-- A numeral without leading zeros is the one that is written for its value. -/
theorem dg_canon : ∀ (m : Nat) (l : List UInt8) (n : Nat), l.length = m → l ≠ [] → Lib.decFrom 0 l = some n → (l.length = 1 ∨ l.headD 0 ≠ 48) → Lib.decDigits n = l := by
  intro m
  induction m with
  | zero => intro l n h hne; exact absurd (List.length_eq_zero_iff.1 h) hne
  | succ m ih =>
    intro l n h hne hd hc
    obtain ⟨a, c, rfl⟩ : ∃ a c, l = a ++ [c] := ⟨l.dropLast, l.getLast hne, (List.dropLast_concat_getLast hne).symm⟩
    rw [dec_app] at hd
    obtain ⟨p, hp, hq⟩ := Option.bind_eq_some_iff.1 hd
    have hq : (match Lib.digitVal c with | some d => Lib.decFrom (p * 10 + d) [] | none => none) = some n := hq
    cases hv : Lib.digitVal c with
    | none => rw [hv] at hq; cases hq
    | some d =>
      rw [hv] at hq
      have hn : p * 10 + d = n := Option.some.inj hq
      obtain ⟨h10, hce, -⟩ := dig_inv hv
      by_cases ha : a = []
      · subst ha
        have hp0 : (0 : Nat) = p := Option.some.inj hp
        subst hp0
        rw [show n = d by omega, Lib.decDigits_one h10, hce]; rfl
      · have hal : a.length = m := by simpa using h
        have hh : a.headD 0 ≠ 48 := by
          rcases hc with hc | hc
          · exfalso
            have : a.length = 0 := by simpa using hc
            exact ha (List.length_eq_zero_iff.1 this)
          · cases a with
            | nil => exact absurd rfl ha
            | cons x r => exact hc
        have hi := ih a p hal ha hp (Or.inr hh)
        have hp1 : 1 ≤ p := by
          rcases Nat.eq_zero_or_pos p with h0 | h0
          · exfalso
            rw [h0, Lib.decDigits_one (by omega)] at hi
            rw [← hi] at hh
            exact hh rfl
          · exact h0
        rw [dg_snoc (by omega), show n / 10 = p by omega, show n % 10 = d by omega, hi, hce]
theorem dg_head {u : Nat} (h1 : 1 ≤ u) : (Lib.decDigits u).headD 0 ≠ 48 := by
  induction u using Nat.strongRecOn with
  | _ u ih =>
    by_cases h : u < 10
    · rw [Lib.decDigits_one h]
      intro e
      have := congrArg UInt8.toNat e
      rw [List.headD_cons, ofNat_d h] at this
      have h48 : (48 : UInt8).toNat = 48 := rfl
      omega
    · rw [dg_snoc h]
      have := ih (u / 10) (by omega) (by omega)
      have hp := dg_pos (u / 10)
      cases hd : Lib.decDigits (u / 10) with
      | nil => rw [hd] at hp; simp at hp
      | cons x r => rw [hd] at this; exact this
theorem dg_first (u : Nat) : ∃ c r, Lib.decDigits u = c :: r ∧ 48 ≤ c.toNat ∧ c.toNat ≤ 57 := by
  have hp := dg_pos u
  cases hd : Lib.decDigits u with
  | nil => rw [hd] at hp; simp at hp
  | cons c r =>
    obtain ⟨d, hc⟩ := dg_digit (u := u) c (by rw [hd]; exact List.mem_cons_self)
    obtain ⟨h1, -, h3⟩ := dig_inv hc
    exact ⟨c, r, rfl, by omega, by omega⟩
/-- The bytes of a text behind a minus sign. -/
def trimM (t : List UInt8) : List UInt8 := if t.headD 0 = 45 then t.tail else t
theorem decNat_dg (u : Nat) : Lib.decNat (Lib.decDigits u) = some u := by
  have hp := dg_pos u
  unfold Lib.decNat
  rw [if_neg (by intro e; have := List.isEmpty_iff.1 e; rw [this] at hp; simp at hp)]
  exact dg_read u
theorem atoi_cons (b : UInt8) (r : List UInt8) : Lib.atoi (b :: r) = if (b == 45) = true then (Lib.decNat r).map fun (m : Nat) => -(m : Int) else if (b == 43) = true then (Lib.decNat r).map fun (m : Nat) => (m : Int) else (Lib.decNat (b :: r)).map fun (m : Nat) => (m : Int) := rfl
theorem trim_minus (r : List UInt8) : trimM (45 :: r) = r := by unfold trimM; exact if_pos (show (45 :: r : List UInt8).headD 0 = 45 from rfl)
/-- What is written is read again. -/
theorem atoi_itoa (v : Int) : Lib.atoi (Lib.itoa v) = some v := by
  unfold Lib.itoa
  split
  · rename_i h
    rw [atoi_cons, if_pos (by decide), decNat_dg]
    show some (-((v.natAbs : Nat) : Int)) = _
    congr 1; omega
  · rename_i h
    obtain ⟨c, r, e, h1, h2⟩ := dg_first v.toNat
    have hd := decNat_dg v.toNat
    rw [e] at hd ⊢
    rw [atoi_cons]
    have n1 : (c == 45) = false := by
      rw [beq_eq_false_iff_ne]; intro e2; rw [e2] at h1; exact absurd h1 (by decide)
    have n2 : (c == 43) = false := by
      rw [beq_eq_false_iff_ne]; intro e2; rw [e2] at h1; exact absurd h1 (by decide)
    rw [n1, n2, if_neg (by decide), if_neg (by decide), hd]
    show some ((v.toNat : Nat) : Int) = _
    congr 1; omega
/-- A number with at most so many digits, as the document writes it. -/
def numI (t : List UInt8) (d : Nat) : Option Int := match Lib.atoi t with
  | some v => if Lib.itoa v = t ∧ (trimM t).length ≤ d then some v else none
  | none => none
theorem numI_some {t : List UInt8} {d : Nat} {v : Int} (h : numI t d = some v) : Lib.itoa v = t ∧ (trimM t).length ≤ d ∧ Lib.atoi t = some v := by
  unfold numI at h
  cases ha : Lib.atoi t with
  | none => rw [ha] at h; cases h
  | some u =>
    rw [ha] at h
    simp only at h
    split at h
    · rename_i hc
      have : u = v := Option.some.inj h
      subst this
      exact ⟨hc.1, hc.2, rfl⟩
    · cases h
theorem numI_itoa {v : Int} {d : Nat} (h : (trimM (Lib.itoa v)).length ≤ d) : numI (Lib.itoa v) d = some v := by
  unfold numI
  rw [atoi_itoa]
  show (if Lib.itoa v = Lib.itoa v ∧ (trimM (Lib.itoa v)).length ≤ d then some v else none) = some v
  exact if_pos ⟨rfl, h⟩
theorem numI_of {t : List UInt8} {d : Nat} {v : Int} (h1 : Lib.itoa v = t) (h2 : (trimM t).length ≤ d) : numI t d = some v := by
  subst h1; exact numI_itoa h2
theorem numI_none {t : List UInt8} {d : Nat} (h : ∀ v, Lib.itoa v = t → (trimM t).length ≤ d → False) : numI t d = none := by
  cases hn : numI t d with
  | none => rfl
  | some v => exact (h v (numI_some hn).1 (numI_some hn).2.1).elim
/-- How a numeral that is written looks behind its sign. -/
theorem trim_itoa (v : Int) : trimM (Lib.itoa v) = Lib.decDigits v.natAbs ∧ ((Lib.itoa v).headD 0 = 45 ↔ v < 0) := by
  unfold Lib.itoa
  split
  · rename_i h
    exact ⟨trim_minus _, ⟨fun _ => h, fun _ => rfl⟩⟩
  · rename_i h
    obtain ⟨c, r, e, h1, h2⟩ := dg_first v.toNat
    have hc : c ≠ 45 := fun e2 => by rw [e2] at h1; exact absurd h1 (by decide)
    rw [show v.natAbs = v.toNat by omega, e]
    refine ⟨by unfold trimM; rw [if_neg (by exact hc)], ⟨fun h3 => absurd h3 hc, fun h3 => absurd h3 h⟩⟩
theorem num_read {t : List UInt8} {d n : Nat} (h1 : trimM t ≠ []) (h2 : (trimM t).length ≤ d) (h3 : ¬ ((trimM t).headD 0 = 48 ∧ 1 < t.length)) (h4 : Lib.decFrom 0 (trimM t) = some n) : numI t d = some (if t.headD 0 = 45 then -(n : Int) else n) := by
  by_cases hm : t.headD 0 = 45
  · rw [if_pos hm]
    obtain ⟨r, rfl⟩ : ∃ r, t = 45 :: r := by
      cases t with
      | nil => exact absurd hm (by decide)
      | cons c r => exact ⟨r, by rw [show c = 45 from hm]⟩
    have e : trimM (45 :: r) = r := trim_minus r
    rw [e] at h1 h2 h3 h4
    have hl : 1 ≤ r.length := by rcases r with _ | ⟨c, r⟩; · exact absurd rfl h1
                                 · simp
    have hh : r.headD 0 ≠ 48 := fun e2 => h3 ⟨e2, by simp; omega⟩
    have hc := dg_canon r.length r n rfl h1 h4 (Or.inr hh)
    have hn : 1 ≤ n := by
      rcases Nat.eq_zero_or_pos n with h0 | h0
      · exfalso
        rw [h0, Lib.decDigits_one (by omega)] at hc
        rw [← hc] at hh; exact hh rfl
      · exact h0
    refine numI_of ?_ (by rw [e]; exact h2)
    unfold Lib.itoa
    rw [if_pos (by omega), show (-(n : Int)).natAbs = n by omega, hc]
  · rw [if_neg hm]
    have e : trimM t = t := by unfold trimM; rw [if_neg hm]
    rw [e] at h1 h2 h3 h4
    have hc := dg_canon t.length t n rfl h1 h4 (by
      by_cases hl : t.length = 1
      · exact Or.inl hl
      · refine Or.inr fun e2 => h3 ⟨e2, ?_⟩
        have : t.length ≠ 0 := fun e3 => h1 (List.length_eq_zero_iff.1 e3)
        omega)
    refine numI_of ?_ (by rw [e]; exact h2)
    unfold Lib.itoa
    rw [if_neg (by omega), show ((n : Nat) : Int).toNat = n by omega, hc]
theorem num_empty {t : List UInt8} {d : Nat} (h : trimM t = []) : numI t d = none := numI_none fun v e _ => by
  rw [← e, (trim_itoa v).1] at h
  have := dg_pos v.natAbs
  rw [h] at this; simp at this
theorem num_long {t : List UInt8} {d : Nat} (h : d < (trimM t).length) : numI t d = none := numI_none fun _ _ h2 => by omega
theorem num_zero {t : List UInt8} {d : Nat} (h : (trimM t).headD 0 = 48 ∧ 1 < t.length) : numI t d = none := numI_none fun v e _ => by
  obtain ⟨h1, h2⟩ := trim_itoa v
  rw [e] at h1 h2
  rw [h1] at h
  rcases Nat.eq_zero_or_pos v.natAbs with h0 | h0
  · have hv : v = 0 := by omega
    subst hv
    have h0 : Lib.itoa 0 = [48] := by unfold Lib.itoa; rw [if_neg (by decide)]; exact Lib.decDigits_one (by decide)
    rw [← e, h0] at h
    exact absurd h.2 (by decide)
  · exact dg_head h0 h.1
theorem num_bad {t : List UInt8} {d : Nat} (h : Lib.decFrom 0 (trimM t) = none) : numI t d = none := numI_none fun v e _ => by
  rw [← e, (trim_itoa v).1, dg_read] at h; cases h
theorem itoa_len {v : Int} {k : Nat} (h : v.natAbs < 10 ^ (k + 1)) : (trimM (Lib.itoa v)).length ≤ k + 1 := by
  rw [(trim_itoa v).1]
  revert h
  generalize v.natAbs = u
  induction k generalizing u with
  | zero => intro h; rw [Lib.decDigits_one (by simpa using h)]; exact Nat.le_refl _
  | succ k ih =>
    intro h
    by_cases h10 : u < 10
    · rw [Lib.decDigits_one h10]; simp
    · rw [dg_snoc h10, List.length_append, List.length_singleton]
      have := ih (u / 10) (by rw [Nat.pow_succ] at h; omega)
      omega
end Go.Proofs.YtdgegebplebeoaaGreatDoor

namespace Go.Proofs.YtdgegebplebeoaaGreatDoor
open Go.RowKit Go.Lib

theorem splitK_over (m : UInt8) : ∀ (l : List UInt8) (k : Nat), count l [m] ≤ k → splitK [m] 0 k l = splitOn m l
  | [], k, _ => by
    have hm : index ([] : List UInt8) [m] = -1 := by rfl
    cases k with
    | zero => rfl
    | succ k => rw [splitK, if_pos (by rw [hm]; rfl)]; rfl
  | b :: l, k, h => by
    by_cases e : b = m
    · subst e
      rw [count_cons_eq] at h
      obtain ⟨k', rfl⟩ : ∃ k', k = k' + 1 := ⟨k - 1, by omega⟩
      have ih := splitK_over b l k' (by omega)
      have hix : index (b :: l) [b] = ((0 : Nat) : Int) := by rw [index]; simp [List.isPrefixOf]
      rw [splitK, if_neg (by rw [hix]; simp), hix]
      unfold splitOn
      rw [if_pos rfl, ← ih]
      simp
    · rw [count_cons_ne b m l e] at h
      have ih := splitK_over m l k h
      unfold splitOn
      rw [if_neg e, ← ih]
      cases k with
      | zero => rfl
      | succ k =>
        have hp : ([m] : List UInt8).isPrefixOf (b :: l) = false := by simp [List.isPrefixOf, Ne.symm e]
        have hix : index (b :: l) [m] = if index l [m] == -1 then -1 else index l [m] + 1 := by rw [index, hp]; simp
        by_cases hm : index l [m] = -1
        · have hix' : index (b :: l) [m] = -1 := by rw [hix, if_pos (by rw [hm]; rfl)]
          rw [splitK, splitK, if_pos (by rw [hix']; rfl), if_pos (by rw [hm]; rfl)]
        · have hge := index_ge l [m]
          obtain ⟨j, hj⟩ : ∃ j : Nat, index l [m] = j := ⟨(index l [m]).toNat, by omega⟩
          have hix' : index (b :: l) [m] = ((j + 1 : Nat) : Int) := by rw [hix, if_neg (fun e => hm (beq_iff_eq.1 e)), hj]; omega
          rw [splitK, splitK, if_neg (by rw [hix']; simp; omega), if_neg (by rw [hj]; simp), hix', hj]
          simp
theorem splitK_len (m : UInt8) : ∀ (l : List UInt8) (k : Nat), k ≤ count l [m] → (splitK [m] 0 k l).length = k + 1
  | [], k, h => by
    have hc : count ([] : List UInt8) [m] = 0 := by rw [count_one]; rfl
    obtain rfl : k = 0 := by omega
    rfl
  | b :: l, k, h => by
    by_cases e : b = m
    · subst e
      rw [count_cons_eq] at h
      cases k with
      | zero => rfl
      | succ k =>
        have ih := splitK_len b l k (by omega)
        have hix : index (b :: l) [b] = ((0 : Nat) : Int) := by rw [index]; simp [List.isPrefixOf]
        rw [splitK, if_neg (by rw [hix]; simp), hix]
        simp [ih]
    · rw [count_cons_ne b m l e] at h
      cases k with
      | zero => rfl
      | succ k =>
        have ih := splitK_len m l (k + 1) h
        have hp : ([m] : List UInt8).isPrefixOf (b :: l) = false := by simp [List.isPrefixOf, Ne.symm e]
        have hix : index (b :: l) [m] = if index l [m] == -1 then -1 else index l [m] + 1 := by rw [index, hp]; simp
        by_cases hm : index l [m] = -1
        · rw [count_miss hm] at h; omega
        · have hge := index_ge l [m]
          obtain ⟨j, hj⟩ : ∃ j : Nat, index l [m] = j := ⟨(index l [m]).toNat, by omega⟩
          have hix' : index (b :: l) [m] = ((j + 1 : Nat) : Int) := by rw [hix, if_neg (fun e => hm (beq_iff_eq.1 e)), hj]; omega
          rw [splitK, if_neg (by rw [hj]; simp), hj] at ih
          rw [splitK, if_neg (by rw [hix']; simp; omega), hix']
          simp at ih ⊢
          exact ih
theorem splitOn_count (m : UInt8) (l : List UInt8) : (splitOn m l).length = count l [m] + 1 := by
  rw [← splitK_over m l _ (Nat.le_refl _), splitK_len m l _ (Nat.le_refl _)]
/-- So many words at most: all of them, or one too many. -/
theorem splitB_some (m : UInt8) (s : ByteArray) {N : Nat} (hN : 1 ≤ N) : (N ≤ (splitB ⟨#[m]⟩ 0 (min N (s.size + 1) - 1) s).length ↔ N ≤ (splitOn m s.data.toList).length) ∧ ((splitOn m s.data.toList).length < N → (splitB ⟨#[m]⟩ 0 (min N (s.size + 1) - 1) s).map (·.data.toList) = splitOn m s.data.toList) := by
  have hd := splitB_data ⟨#[m]⟩ 0 (min N (s.size + 1) - 1) s
  have hl : (splitB ⟨#[m]⟩ 0 (min N (s.size + 1) - 1) s).length = (splitK [m] 0 (min N (s.size + 1) - 1) s.data.toList).length := by rw [← List.length_map (f := fun x : ByteArray => x.data.toList), hd]
  have hc := splitOn_count m s.data.toList
  have hle : count s.data.toList [m] ≤ s.size := by rw [count_one]; exact Nat.le_trans List.count_le_length (by simp)
  rw [hl]
  rcases Nat.lt_or_ge (min N (s.size + 1) - 1) (count s.data.toList [m]) with h | h
  · rw [splitK_len m _ _ (Nat.le_of_lt h)]
    have hmin : min N (s.size + 1) = N := by omega
    rw [hmin] at h ⊢
    exact ⟨⟨fun _ => by omega, fun _ => by omega⟩, fun h2 => by omega⟩
  · rw [splitK_over m _ _ h]
    exact ⟨Iff.rfl, fun _ => by rw [hd]; exact splitK_over m _ _ h⟩
theorem bs_data (l : List UInt8) : (bs l).data.toList = l := rfl
theorem bs_size (l : List UInt8) : (bs l).size = l.length := by unfold bs; simp [ByteArray.size]
theorem data_bs (s : ByteArray) : bs s.data.toList = s := by unfold bs; simp
theorem itoa_clean (v : Int) : ∀ b ∈ Lib.itoa v, b ≠ 32 := by
  intro b hb
  have hd : ∀ b ∈ Lib.decDigits v.natAbs, b ≠ 32 := fun b hb e => by
    obtain ⟨d, h⟩ := dg_digit b hb
    have := (dig_inv h).2.2
    rw [e] at this
    have : (32 : Nat) = 48 + d := this
    omega
  have ht := (trim_itoa v).1
  unfold trimM at ht
  split at ht
  · rename_i h45
    cases hi : Lib.itoa v with
    | nil => rw [hi] at hb; exact absurd hb List.not_mem_nil
    | cons a r =>
      rw [hi] at hb ht h45
      rcases List.mem_cons.1 hb with rfl | hb
      · intro e; rw [e] at h45; exact absurd (show (32 : UInt8) = 45 from h45) (by decide)
      · exact hd b (by rw [← ht]; exact hb)
  · exact hd b (by rw [← ht]; exact hb)
theorem split_clean {m : UInt8} : ∀ {x : List UInt8}, (∀ b ∈ x, b ≠ m) → splitOn m x = [x]
  | [], _ => rfl
  | c :: r, h => by
    unfold splitOn
    rw [if_neg (h c List.mem_cons_self), split_clean fun b hb => h b (List.mem_cons_of_mem _ hb)]
theorem split_app {m : UInt8} {y : List UInt8} : ∀ {x : List UInt8}, (∀ b ∈ x, b ≠ m) → splitOn m (x ++ m :: y) = x :: splitOn m y
  | [], _ => by
    show splitOn m (m :: y) = _
    rw [splitOn, if_pos rfl]
  | c :: r, h => by
    show splitOn m (c :: (r ++ m :: y)) = _
    rw [splitOn, if_neg (h c List.mem_cons_self), split_app fun b hb => h b (List.mem_cons_of_mem _ hb)]
theorem join_one (x : List UInt8) (s : List UInt8) : Lib.join [x] s = x := by simp [Lib.join, List.intercalate, List.intersperse]
theorem join_cons (x y : List UInt8) (r : List (List UInt8)) (s : List UInt8) : Lib.join (x :: y :: r) s = x ++ s ++ Lib.join (y :: r) s := by simp [Lib.join, List.intercalate, List.intersperse]
theorem split_join {m : UInt8} : ∀ {L : List (List UInt8)}, L ≠ [] → (∀ x ∈ L, ∀ b ∈ x, b ≠ m) → splitOn m (Lib.join L [m]) = L
  | [], h, _ => absurd rfl h
  | [x], _, h => by rw [join_one]; exact split_clean (h x List.mem_cons_self)
  | x :: y :: r, _, h => by
    rw [join_cons, List.append_assoc, List.singleton_append, split_app (h x List.mem_cons_self), split_join (by simp) fun z hz => h z (List.mem_cons_of_mem _ hz)]
theorem splitK_take (m : UInt8) : ∀ (l : List UInt8) (k : Nat), (splitK [m] 0 k l).take k = (splitOn m l).take k
  | l, 0 => by simp
  | [], k + 1 => by rw [splitK_over m [] (k + 1) (by rw [count_one]; simp)]
  | b :: l, k + 1 => by
    by_cases hc : count (b :: l) [m] ≤ k + 1
    · rw [splitK_over m _ _ hc]
    · by_cases e : b = m
      · subst e
        have ih := splitK_take b l k
        have hix : index (b :: l) [b] = ((0 : Nat) : Int) := by rw [index]; simp [List.isPrefixOf]
        rw [splitK, if_neg (by rw [hix]; simp), hix]
        unfold splitOn
        rw [if_pos rfl]
        simp [ih]
      · have ih := splitK_take m l (k + 1)
        have hm : index l [m] ≠ -1 := fun hm => by rw [count_cons_ne b m l e, count_miss hm] at hc; omega
        have hp : ([m] : List UInt8).isPrefixOf (b :: l) = false := by simp [List.isPrefixOf, Ne.symm e]
        have hix : index (b :: l) [m] = if index l [m] == -1 then -1 else index l [m] + 1 := by rw [index, hp]; simp
        have hge := index_ge l [m]
        obtain ⟨j, hj⟩ : ∃ j : Nat, index l [m] = j := ⟨(index l [m]).toNat, by omega⟩
        have hix' : index (b :: l) [m] = ((j + 1 : Nat) : Int) := by rw [hix, if_neg (fun e => hm (beq_iff_eq.1 e)), hj]; omega
        rw [splitK, if_neg (by rw [hj]; simp), hj] at ih
        rw [splitK, if_neg (by rw [hix']; simp; omega), hix']
        unfold splitOn
        rw [if_neg e]
        obtain ⟨h, t, ht⟩ : ∃ h t, splitOn m l = h :: t := by
          cases hs : splitOn m l with
          | nil => exact absurd hs (splitOn_ne m l)
          | cons h t => exact ⟨h, t, rfl⟩
        rw [ht] at ih ⊢
        simp at ih ⊢
        exact ih
/-- At most N words: those that stand ahead of the last are the text's words. -/
theorem splitB_take (m : UInt8) (s : ByteArray) {N k : Nat} (hk : k + 1 < N) (hN : N ≤ (splitOn m s.data.toList).length) : ((splitB ⟨#[m]⟩ 0 (min N (s.size + 1) - 1) s).map (·.data.toList))[k]? = (splitOn m s.data.toList)[k]? := by
  have hc := splitOn_count m s.data.toList
  have hle : count s.data.toList [m] ≤ s.size := by rw [count_one]; exact Nat.le_trans List.count_le_length (by simp)
  have hmin : min N (s.size + 1) = N := by omega
  rw [splitB_data, hmin]
  have h2 := congrArg (fun L => L[k]?) (splitK_take m s.data.toList (N - 1))
  simp only [List.getElem?_take] at h2
  rw [if_pos (by omega), if_pos (by omega)] at h2
  exact h2
def noRun : Run := ⟨⟨#[]⟩, 0, 0, 0, [], 0, 0⟩
/-- The run that words and numbers tell. -/
def runOf (W : List (List UInt8)) (N : List Int) : Run := ⟨bs (W.getD 0 []), N.getD 0 0, N.getD 1 0, N.getD 2 0, (W.drop 6).map bs, N.getD 3 0, N.getD 4 0⟩
/-- The numbers of five words behind the first, where all are numbers. -/
def numsR (W : List (List UInt8)) : Option (List Int) := ((List.range 5).map fun i => numI (W.getD (i + 1) []) 7).foldr (fun o r => match o, r with | some v, some l => some (v :: l) | _, _ => none) (some [])
def rdRun (t : List UInt8) : Run × Int :=
  if (splitOn 32 t).length < 6 then (noRun, 7) else match numsR (splitOn 32 t) with
  | none => (noRun, 7)
  | some N => if runErr (runOf (splitOn 32 t) N) ≠ 0 then (noRun, runErr (runOf (splitOn 32 t) N)) else (runOf (splitOn 32 t) N, 0)
/-- A run as words. -/
def wordsR (x : Run) : List (List UInt8) := x.job.data.toList :: Lib.itoa x.day :: Lib.itoa x.wanted :: Lib.itoa x.given :: Lib.itoa x.ready :: Lib.itoa x.hour :: x.cols.map (·.data.toList)
def fmtR (x : Run) : List UInt8 := Lib.join (wordsR x) [32]
theorem name_clean {s : ByteArray} (h : isNameB s = true) : ∀ b ∈ s.data.toList, b ≠ 32 := fun b hb e => by
  unfold isNameB at h
  simp only [Bool.and_eq_true] at h
  have h1 := h.2
  unfold nmsB at h1
  have h2 := List.all_eq_true.1 h1 b hb
  rw [e] at h2
  revert h2
  decide
theorem names_ok : ∀ {L B : List ByteArray}, namesErr B L = 0 → ∀ s ∈ L, isNameB s = true
  | [], _, _, s, hs => by cases hs
  | y :: L, B, h, s, hs => by
    unfold namesErr at h
    split at h
    · rename_i h1; exact absurd h h1
    · rename_i h1
      have h1 : nmErr B y = 0 := by simpa using h1
      rcases List.mem_cons.1 hs with rfl | hs
      · unfold nmErr at h1
        by_cases h2 : isNameB s = true
        · exact h2
        · rw [if_pos (by simpa using h2)] at h1; cases h1
      · exact names_ok h s hs
theorem num_back {v : Int} (h0 : 0 ≤ v) (h1 : v ≤ 100000) : numI (Lib.itoa v) 7 = some v := by
  have h2 : v.natAbs < 10 ^ (6 + 1) := Nat.lt_of_le_of_lt (show v.natAbs ≤ 100000 by omega) (by decide)
  exact numI_itoa (itoa_len h2)
/-- A run that is right is read back. -/
theorem rd_fmt {x : Run} (h : runErr x = 0) : rdRun (fmtR x) = (x, 0) := by
  obtain ⟨h1, h2, h3, h4, h5, h6, h7, h8⟩ := run_ok h
  have hsp : splitOn 32 (fmtR x) = wordsR x := split_join (by simp [wordsR]) fun y hy => by
    simp only [wordsR, List.mem_cons, List.mem_map] at hy
    rcases hy with rfl | rfl | rfl | rfl | rfl | rfl | ⟨s, hs, rfl⟩
    · exact name_clean h1
    · exact itoa_clean _
    · exact itoa_clean _
    · exact itoa_clean _
    · exact itoa_clean _
    · exact itoa_clean _
    · exact name_clean (names_ok h6 s hs)
  have hn : numsR (wordsR x) = some [x.day, x.wanted, x.given, x.ready, x.hour] := by
    show (match numI (Lib.itoa x.day) 7, (match numI (Lib.itoa x.wanted) 7, (match numI (Lib.itoa x.given) 7, (match numI (Lib.itoa x.ready) 7, (match numI (Lib.itoa x.hour) 7, some [] with | some v, some l => some (v :: l) | _, _ => none) with | some v, some l => some (v :: l) | _, _ => none) with | some v, some l => some (v :: l) | _, _ => none) with | some v, some l => some (v :: l) | _, _ => none) with | some v, some l => some (v :: l) | _, _ => none) = _
    rw [num_back h2.1 h2.2, num_back (by omega) (by omega), num_back (by omega) (by omega), num_back h7.1 (by omega), num_back (by omega) (by omega)]
  have hr : runOf (wordsR x) [x.day, x.wanted, x.given, x.ready, x.hour] = x := by
    unfold runOf
    obtain ⟨job, day, wanted, given, cols, ready, hour⟩ := x
    simp only [wordsR, List.getD_cons_zero, List.getD_cons_succ, List.drop_succ_cons, List.drop_zero, List.map_map]
    rw [data_bs]
    congr 1
    rw [show ((bs ∘ fun x : ByteArray => x.data.toList)) = id from funext fun s => data_bs s, List.map_id]
  unfold rdRun
  rw [hsp, hn, if_neg (by simp [wordsR])]
  dsimp only
  rw [hr, if_neg (fun e => e h)]
theorem runErr_many {x y : Run} (h1 : x.job = y.job) (h2 : x.day = y.day) (h3 : x.wanted = y.wanted) (h4 : x.given = y.given) (h5 : 6 < x.cols.length) (h6 : 6 < y.cols.length) : runErr x = runErr y ∧ runErr x ≠ 0 := by
  unfold runErr
  rw [h1, h2, h3, h4, if_neg (show ¬ x.cols.length = 0 by omega), if_neg (show ¬ y.cols.length = 0 by omega), if_pos h5, if_pos h6]
  refine ⟨rfl, ?_⟩
  repeat (split; decide)
  decide
end Go.Proofs.YtdgegebplebeoaaGreatDoor

namespace Go.Proofs.YtdgegebplebeoaaGreatDoor
open Go.RowKit Go.Lib

theorem numsR_form (W : List (List UInt8)) : numsR W = (match numI (W.getD 1 []) 7, (match numI (W.getD 2 []) 7, (match numI (W.getD 3 []) 7, (match numI (W.getD 4 []) 7, (match numI (W.getD 5 []) 7, (some [] : Option (List Int)) with | some v, some l => some (v :: l) | _, _ => none) with | some v, some l => some (v :: l) | _, _ => none) with | some v, some l => some (v :: l) | _, _ => none) with | some v, some l => some (v :: l) | _, _ => none) with | some v, some l => some (v :: l) | _, _ => none) := rfl
theorem numsR_all {W : List (List UInt8)} {N : List Int} (hN : N.length = 5) (h : ∀ i, i < 5 → numI (W.getD (i + 1) []) 7 = some (N.getD i 0)) : numsR W = some N := by
  rw [numsR_form, h 0 (by decide), h 1 (by decide), h 2 (by decide), h 3 (by decide), h 4 (by decide)]
  match N, hN with
  | [a, b, c, d, e], _ => rfl
theorem numsR_no {W : List (List UInt8)} {i : Nat} (hi : i < 5) (h : numI (W.getD (i + 1) []) 7 = none) : numsR W = none := by
  rw [numsR_form]
  have h9 : i = 0 ∨ i = 1 ∨ i = 2 ∨ i = 3 ∨ i = 4 := by omega
  rcases h9 with rfl | rfl | rfl | rfl | rfl
  · rw [show numI (W.getD 1 []) 7 = none from h]
  · rw [show numI (W.getD 2 []) 7 = none from h]
    cases numI (W.getD 1 []) 7 <;> rfl
  · rw [show numI (W.getD 3 []) 7 = none from h]
    cases numI (W.getD 1 []) 7 <;> cases numI (W.getD 2 []) 7 <;> rfl
  · rw [show numI (W.getD 4 []) 7 = none from h]
    cases numI (W.getD 1 []) 7 <;> cases numI (W.getD 2 []) 7 <;> cases numI (W.getD 3 []) 7 <;> rfl
  · rw [show numI (W.getD 5 []) 7 = none from h]
    cases numI (W.getD 1 []) 7 <;> cases numI (W.getD 2 []) 7 <;> cases numI (W.getD 3 []) 7 <;> cases numI (W.getD 4 []) 7 <;> rfl
theorem rd_few {t : List UInt8} (h : (splitOn 32 t).length < 6) : rdRun t = (noRun, 7) := by unfold rdRun; rw [if_pos h]
theorem rd_no {t : List UInt8} (h : ¬ (splitOn 32 t).length < 6) {i : Nat} (hi : i < 5) (hn : numI ((splitOn 32 t).getD (i + 1) []) 7 = none) : rdRun t = (noRun, 7) := by
  unfold rdRun; rw [if_neg h, numsR_no hi hn]
theorem rd_err {t : List UInt8} (h : ¬ (splitOn 32 t).length < 6) {N : List Int} (hN : N.length = 5) (hn : ∀ i, i < 5 → numI ((splitOn 32 t).getD (i + 1) []) 7 = some (N.getD i 0)) (he : runErr (runOf (splitOn 32 t) N) ≠ 0) : rdRun t = (noRun, runErr (runOf (splitOn 32 t) N)) := by
  unfold rdRun; rw [if_neg h, numsR_all hN hn]; dsimp only; rw [if_pos he]
theorem rd_ok {t : List UInt8} (h : ¬ (splitOn 32 t).length < 6) {N : List Int} (hN : N.length = 5) (hn : ∀ i, i < 5 → numI ((splitOn 32 t).getD (i + 1) []) 7 = some (N.getD i 0)) (he : runErr (runOf (splitOn 32 t) N) = 0) : rdRun t = (runOf (splitOn 32 t) N, 0) := by
  unfold rdRun; rw [if_neg h, numsR_all hN hn]; dsimp only; rw [if_neg (fun e => e he)]
end Go.Proofs.YtdgegebplebeoaaGreatDoor

namespace Go.Proofs.YtdgegebplebeoaaGreatDoor
open Go.RowKit

theorem dec_bd : ∀ (k : Nat) {l : List UInt8} {m : Nat}, l.length = k → Lib.decFrom 0 l = some m → m < 10 ^ k := by
  intro k
  induction k with
  | zero =>
    intro l m h hd
    obtain rfl := List.length_eq_zero_iff.1 h
    have : (0 : Nat) = m := Option.some.inj hd
    subst this; decide
  | succ k ih =>
    intro l m h hd
    have hne : l ≠ [] := fun e => by rw [e] at h; cases h
    obtain ⟨a, c, rfl⟩ : ∃ a c, l = a ++ [c] := ⟨l.dropLast, l.getLast hne, (List.dropLast_concat_getLast hne).symm⟩
    rw [dec_app] at hd
    obtain ⟨p, hp, hq⟩ := Option.bind_eq_some_iff.1 hd
    rw [dec_cons] at hq
    have h1 := ih (by simpa using h) hp
    cases hv : Lib.digitVal c with
    | none => rw [hv] at hq; cases hq
    | some d =>
      rw [hv] at hq
      have hn : p * 10 + d = m := Option.some.inj hq
      have := (dig_inv hv).1
      rw [Nat.pow_succ]; omega
theorem dec_step {r : List UInt8} {k m : Nat} (hk : k < r.length) (h : Lib.decFrom 0 (r.take k) = some m) (h1 : 48 ≤ r[k].toNat) (h2 : r[k].toNat ≤ 57) : Lib.decFrom 0 (r.take (k + 1)) = some (m * 10 + (r[k].toNat - 48)) := by
  rw [List.take_succ_eq_append_getElem hk, dec_app, h]
  show Lib.decFrom m [r[k]] = _
  rw [dec_cons]
  have : Lib.digitVal r[k] = some (r[k].toNat - 48) := by unfold Lib.digitVal; rw [if_pos ⟨h1, h2⟩]
  rw [this]; rfl
theorem dec_stop {r : List UInt8} {k : Nat} (hk : k < r.length) (h : ¬ (48 ≤ r[k].toNat ∧ r[k].toNat ≤ 57)) : Lib.decFrom 0 r = none := by
  cases hd : Lib.decFrom 0 r with
  | none => rfl
  | some n =>
    obtain ⟨d, hv⟩ := Lib.digit_of_decFrom r 0 n hd k _ (List.getElem?_eq_getElem hk)
    have := dig_inv hv
    exact absurd ⟨by omega, by omega⟩ h
theorem u8i_in (x : Int) (h : 0 ≤ x ∧ x ≤ 255) : IntKind.u8.wrap x = x := by
  unfold IntKind.wrap; simp [IntKind.signed, IntKind.bits]; omega
theorem pow17 : ∀ m, m < 18 → (10 : Nat) ^ m ≤ 100000000000000000 := by decide
def NumPost (w : World) (o : Option Int) (e : Ending) (w' : World) : Prop := e = .returned (.tuple #[.int .i64 (o.getD 0), .bool o.isSome]) ∧ w' = w
set_option maxRecDepth 100000 in
set_option maxHeartbeats 4000000 in
theorem number_any (s : ByteArray) (d : Nat) (w : World) (hd : d ≤ 17) (hs : s.size ≤ 1000000) :
    Calls Tryz.prog 29 #[.string s, .int .i64 (d : Int)] w (NumPost w (numI s.data.toList d)) := by
  obtain ⟨t, ht⟩ : ∃ t, t = s.data.toList := ⟨_, rfl⟩
  have hlen : t.length = s.size := by rw [ht]; exact Array.length_toList
  obtain ⟨o, ho⟩ : ∃ o, o = numI t d := ⟨_, rfl⟩
  have HO := Lib.hid ho
  rw [← ht, ← ho]
  clear ho
  by_cases h0 : s.size = 0
  · have HF : Hid (o = none) := Lib.hid (by
      rw [HO.out]; refine num_empty ?_
      have : t = [] := List.length_eq_zero_iff.1 (by omega)
      rw [this]; rfl)
    have i0 : ¬ (0 : Int) < (s.size : Int) := by omega
    have i1 : ((s.size : Int) == 0) = true := beq_iff_eq.2 (by omega)
    have i2 : (s.size : Int) = 0 := by omega
    clear h0 ht hlen
    go_enter Tryz.func29, Tryz.ntmps29
    go_wp2_with fail
    go_ret2
    exact ⟨by rw [HF.out]; rfl, rfl⟩
  have hp : 0 < s.size := by omega
  have hpI : (0 : Int) < (s.size : Int) := by omega
  obtain ⟨c, q, htc⟩ : ∃ c q, t = c :: q := by
    cases t with
    | nil => simp at hlen; omega
    | cons c q => exact ⟨c, q, rfl⟩
  have hat : ∀ k, (hk : k < s.size) → s[k] = t[k]'(by omega) := fun k hk => by subst ht; rfl
  have hs0 : s[0] = c := by rw [hat 0 hp]; simp [htc]
  by_cases h45 : c = 45
  · have HH : Hid (t.headD 0 = 45) := Lib.hid (by rw [htc]; exact h45)
    obtain ⟨r, hr⟩ : ∃ r, r = q := ⟨_, rfl⟩
    have HTR : Hid (trimM t = r) := Lib.hid (by rw [htc, h45, trim_minus, hr])
    have HAR : Hid (1 + r.length = s.size) := Lib.hid (by rw [← hlen, htc, hr]; simp; omega)
    have HAT : Hid (∀ k, (hk : k < r.length) → (hs : 1 + k < s.size) → s[1 + k] = r[k]) := Lib.hid (fun k hk h2 => by
      rw [hat _ h2]
      have : t[1 + k]? = r[k]? := by rw [htc, ← hr, Nat.add_comm]; rfl
      rw [List.getElem?_eq_getElem (by omega), List.getElem?_eq_getElem hk] at this
      exact Option.some.inj this)
    have e45 : ((s[0].toNat : Int) == 45) = true := by rw [hs0, h45]; rfl
    have HTL : Hid (t.length = s.size) := Lib.hid hlen
    have hab : 1 + r.length = s.size := HAR.out
    clear hs0 htc hat ht hlen h45 hr
    by_cases h1 : s.size = 1
    · have HF : Hid (o = none) := Lib.hid (by rw [HO.out]; exact num_empty (by rw [HTR.out]; exact List.length_eq_zero_iff.1 (by omega)))
      have i1 : ((s.size : Int) == 1) = true := by simp; omega
      go_enter Tryz.func29, Tryz.ntmps29
      go_wp2_with fail
      go_ret2
      exact ⟨by rw [HF.out]; rfl, rfl⟩
    have i1 : ((s.size : Int) == 1) = false := by simp; omega
    by_cases h2 : d < s.size - 1
    · have HF : Hid (o = none) := Lib.hid (by rw [HO.out]; exact num_long (by rw [HTR.out]; omega))
      have i2 : (d : Int) < (s.size : Int) - 1 := by omega
      go_enter Tryz.func29, Tryz.ntmps29
      go_wp2_with fail
      go_ret2
      exact ⟨by rw [HF.out]; rfl, rfl⟩
    have i2 : ¬ (d : Int) < (s.size : Int) - 1 := by omega
    have hsz1 : 1 < s.size := by omega
    have hsI1 : (1 : Int) < (s.size : Int) := by omega
    have hrp : 0 < r.length := by omega
    have hs1 : s[1] = r[0] := HAT.out 0 hrp (by omega)
    have hhd : r.headD 0 = r[0] := by cases r with
      | nil => simp at hrp
      | cons x y => rfl
    by_cases h3 : r[0] = 48
    · have HF : Hid (o = none) := Lib.hid (by rw [HO.out]; exact num_zero (by rw [HTR.out, hhd]; exact ⟨h3, by rw [HTL.out]; exact hsz1⟩))
      have i3 : ((s[1].toNat : Int) == 48) = true := by rw [hs1, h3]; rfl
      clear hs1
      go_enter Tryz.func29, Tryz.ntmps29
      go_wp2_with fail
      go_ret2
      exact ⟨by rw [HF.out]; rfl, rfl⟩
    · have i3 : ((s[1].toNat : Int) == 48) = false := by
        rw [beq_eq_false_iff_ne]; intro e; rw [hs1] at e
        exact h3 (by rw [← UInt8.toNat_inj]; show _ = 48; omega)
      have HNE : Hid (r ≠ []) := Lib.hid (fun e => by rw [e] at hrp; simp at hrp)
      have HLE : Hid (r.length ≤ d) := Lib.hid (by omega)
      have HZ : Hid (¬ (r.headD 0 = 48 ∧ 1 < t.length)) := Lib.hid (fun h => h3 (by rw [← hhd]; exact h.1))
      clear hs1 hhd h3
      go_enter Tryz.func29, Tryz.ntmps29
      go_wp2_with fail
      have hab : 1 + r.length = s.size := HAR.out
      have HAT : Hid (∀ k, (hk : k < r.length) → (hs : 1 + k < s.size) → s[1 + k] = r[k]) := HAT
      go_loop [7, 8] (fun v i => ∃ (kk m : Nat), 1 ≤ kk ∧ kk ≤ s.size ∧ i = .int .i64 (kk : Int) ∧ v = .int .i64 (m : Int) ∧ Hid (Lib.decFrom 0 (r.take (kk - 1)) = some m)) (fun _ i => s.size - (intOf i).toNat)
      case atStart => exact ⟨1, 0, Nat.le_refl _, by omega, rfl, rfl, Lib.hid rfl⟩
      case round =>
        obtain ⟨kk, m, hka, hk, rfl, rfl, HDD⟩ := hrel
        have hm : m ≤ 100000000000000000 := by
          have h1 := dec_bd _ rfl HDD.out
          rw [List.length_take] at h1
          have h2 := pow17 (min (kk - 1) r.length) (by have := HLE.out; omega)
          omega
        by_cases hsz : kk < s.size
        · have hlt : kk - 1 < r.length := by omega
          have hkI : (kk : Int) < (s.size : Int) := by omega
          have HSE : Hid (s[kk] = r[kk - 1]) := Lib.hid (by have := HAT.out (kk - 1) hlt (by omega); rw [← this]; congr 1; omega)
          obtain ⟨cc, hcc⟩ : ∃ cc : Nat, cc = s[kk].toNat := ⟨_, rfl⟩
          have HCC : Hid (cc = r[kk - 1].toNat) := Lib.hid (by rw [hcc, HSE.out])
          have hcb : cc < 256 := by rw [hcc]; exact s[kk].toNat_lt
          have hccI : (s[kk].toNat : Int) = (cc : Int) := by rw [hcc]
          by_cases h48 : 48 ≤ cc
          · by_cases h57 : cc ≤ 57
            · have HN := Lib.hid (dec_step hlt HDD.out (by rw [← HCC.out]; exact h48) (by rw [← HCC.out]; exact h57))
              have i1 : ¬ ((cc : Int) < 48) := by omega
              have i2 : ¬ ((57 : Int) < (cc : Int)) := by omega
              have hwu : IntKind.u8.wrap ((cc : Int) - 48) = (cc : Int) - 48 := u8i_in _ (by omega)
              clear hcc
              go_wp2_with fail
              go_round
              case rel => exact ⟨kk + 1, m * 10 + (cc - 48), by omega, by omega, by go_num, by go_num, Lib.hid (by rw [show kk + 1 - 1 = kk - 1 + 1 by omega, HN.out, HCC.out])⟩
              case measure => simp [intOf]; omega
            · have HF : Hid (o = none) := Lib.hid (by rw [HO.out]; exact num_bad (by rw [HTR.out]; exact dec_stop hlt (fun h => h57 (by rw [HCC.out]; exact h.2))))
              have i1 : ¬ ((cc : Int) < 48) := by omega
              have i2 : ((57 : Int) < (cc : Int)) := by omega
              clear hcc
              go_wp2_with fail
              go_ret2
              exact ⟨by rw [HF.out]; rfl, rfl⟩
          · have HF : Hid (o = none) := Lib.hid (by rw [HO.out]; exact num_bad (by rw [HTR.out]; exact dec_stop hlt (fun h => h48 (by rw [HCC.out]; exact h.1))))
            have i1 : ((cc : Int) < 48) := by omega
            clear hcc
            go_wp2_with fail
            go_ret2
            exact ⟨by rw [HF.out]; rfl, rfl⟩
        · have hke : kk - 1 = r.length := by omega
          have hkI : ¬ (kk : Int) < (s.size : Int) := by omega
          have HD : Hid (Lib.decFrom 0 r = some m) := Lib.hid (by have := HDD.out; rw [hke, List.take_length] at this; exact this)
          have HF : Hid (o = some (-(m : Int))) := Lib.hid (by
            rw [HO.out, num_read (n := m) (by rw [HTR.out]; exact HNE.out) (by rw [HTR.out]; exact HLE.out) (by rw [HTR.out]; exact HZ.out) (by rw [HTR.out]; exact HD.out)]
            rw [if_pos HH.out])
          go_wp2_with fail
          go_ret2
          exact ⟨by rw [HF.out]; rfl, rfl⟩
  · have HH : Hid (¬ t.headD 0 = 45) := Lib.hid (by rw [htc]; exact h45)
    obtain ⟨r, hr⟩ : ∃ r, r = t := ⟨_, rfl⟩
    have HTR : Hid (trimM t = r) := Lib.hid (by unfold trimM; rw [if_neg HH.out, hr])
    have HAR : Hid (0 + r.length = s.size) := Lib.hid (by rw [← hlen, hr]; omega)
    have HAT : Hid (∀ k, (hk : k < r.length) → (hs : 0 + k < s.size) → s[0 + k] = r[k]) := Lib.hid (fun k hk h2 => by
      rw [hat _ h2]; subst hr; congr 1; omega)
    have e45 : ((s[0].toNat : Int) == 45) = false := by
      rw [beq_eq_false_iff_ne]; intro e; rw [hs0] at e
      exact h45 (by rw [← UInt8.toNat_inj]; show _ = 45; omega)
    have hab : 0 + r.length = s.size := HAR.out
    have hrp : 0 < r.length := by omega
    have hs1 : s[0] = r[0] := by have := HAT.out 0 hrp (by omega); exact this
    have hhd : r.headD 0 = r[0] := by cases r with
      | nil => simp at hrp
      | cons x y => rfl
    have HTL : Hid (t.length = s.size) := Lib.hid hlen
    have i1 : ((s.size : Int) == 0) = false := beq_eq_false_iff_ne.2 (by omega)
    clear hs0 htc hat ht hlen h45 hr
    by_cases h2 : d < s.size
    · have HF : Hid (o = none) := Lib.hid (by rw [HO.out]; exact num_long (by rw [HTR.out]; omega))
      have i2 : (d : Int) < (s.size : Int) := by omega
      clear hs1
      go_enter Tryz.func29, Tryz.ntmps29
      go_wp2_with fail
      go_ret2
      exact ⟨by rw [HF.out]; rfl, rfl⟩
    have i2 : ¬ (d : Int) < (s.size : Int) := by omega
    by_cases h3 : r[0] = 48 ∧ 1 < s.size
    · have HF : Hid (o = none) := Lib.hid (by rw [HO.out]; exact num_zero (by rw [HTR.out, hhd, HTL.out]; exact h3))
      have i3 : ((s[0].toNat : Int) == 48) = true := by rw [hs1, h3.1]; rfl
      have i4 : (1 : Int) < (s.size : Int) := by omega
      clear hs1
      go_enter Tryz.func29, Tryz.ntmps29
      go_wp2_with fail
      go_ret2
      exact ⟨by rw [HF.out]; rfl, rfl⟩
    · have HNE : Hid (r ≠ []) := Lib.hid (fun e => by rw [e] at hrp; simp at hrp)
      have HLE : Hid (r.length ≤ d) := Lib.hid (by omega)
      have HZ : Hid (¬ (r.headD 0 = 48 ∧ 1 < t.length)) := Lib.hid (by rw [hhd, HTL.out]; exact h3)
      have hcase : ((s[0].toNat : Int) == 48) = false ∨ (((s[0].toNat : Int) == 48) = true ∧ ¬ (1 : Int) < (s.size : Int)) := by
        by_cases h4 : r[0] = 48
        · refine Or.inr ⟨by rw [hs1, h4]; rfl, fun e => h3 ⟨h4, by omega⟩⟩
        · refine Or.inl ?_
          rw [beq_eq_false_iff_ne]; intro e; rw [hs1] at e
          exact h4 (by rw [← UInt8.toNat_inj]; show _ = 48; omega)
      clear hs1 hhd h3
      go_enter Tryz.func29, Tryz.ntmps29
      rcases hcase with i3 | ⟨i3, i4⟩
      all_goals
        go_wp2_with fail
        have hab : 0 + r.length = s.size := HAR.out
        have HAT : Hid (∀ k, (hk : k < r.length) → (hs : 0 + k < s.size) → s[0 + k] = r[k]) := HAT
        go_loop [7, 8] (fun v i => ∃ (kk m : Nat), 0 ≤ kk ∧ kk ≤ s.size ∧ i = .int .i64 (kk : Int) ∧ v = .int .i64 (m : Int) ∧ Hid (Lib.decFrom 0 (r.take (kk - 0)) = some m)) (fun _ i => s.size - (intOf i).toNat)
        case atStart => exact ⟨0, 0, Nat.le_refl _, by omega, rfl, rfl, Lib.hid rfl⟩
        case round =>
          obtain ⟨kk, m, hka, hk, rfl, rfl, HDD⟩ := hrel
          have hm : m ≤ 100000000000000000 := by
            have h1 := dec_bd _ rfl HDD.out
            rw [List.length_take] at h1
            have h2 := pow17 (min (kk - 0) r.length) (by have := HLE.out; omega)
            omega
          by_cases hsz : kk < s.size
          · have hlt : kk - 0 < r.length := by omega
            have hkI : (kk : Int) < (s.size : Int) := by omega
            have HSE : Hid (s[kk] = r[kk - 0]) := Lib.hid (by have := HAT.out (kk - 0) hlt (by omega); rw [← this]; congr 1; omega)
            obtain ⟨cc, hcc⟩ : ∃ cc : Nat, cc = s[kk].toNat := ⟨_, rfl⟩
            have HCC : Hid (cc = r[kk - 0].toNat) := Lib.hid (by rw [hcc, HSE.out])
            have hcb : cc < 256 := by rw [hcc]; exact s[kk].toNat_lt
            have hccI : (s[kk].toNat : Int) = (cc : Int) := by rw [hcc]
            by_cases h48 : 48 ≤ cc
            · by_cases h57 : cc ≤ 57
              · have HN := Lib.hid (dec_step hlt HDD.out (by rw [← HCC.out]; exact h48) (by rw [← HCC.out]; exact h57))
                have i1 : ¬ ((cc : Int) < 48) := by omega
                have i2 : ¬ ((57 : Int) < (cc : Int)) := by omega
                have hwu : IntKind.u8.wrap ((cc : Int) - 48) = (cc : Int) - 48 := u8i_in _ (by omega)
                clear hcc
                go_wp2_with fail
                go_round
                case rel => exact ⟨kk + 1, m * 10 + (cc - 48), by omega, by omega, by go_num, by go_num, Lib.hid (by rw [show kk + 1 - 0 = kk - 0 + 1 by omega, HN.out, HCC.out])⟩
                case measure => simp [intOf]; omega
              · have HF : Hid (o = none) := Lib.hid (by rw [HO.out]; exact num_bad (by rw [HTR.out]; exact dec_stop hlt (fun h => h57 (by rw [HCC.out]; exact h.2))))
                have i1 : ¬ ((cc : Int) < 48) := by omega
                have i2 : ((57 : Int) < (cc : Int)) := by omega
                clear hcc
                go_wp2_with fail
                go_ret2
                exact ⟨by rw [HF.out]; rfl, rfl⟩
            · have HF : Hid (o = none) := Lib.hid (by rw [HO.out]; exact num_bad (by rw [HTR.out]; exact dec_stop hlt (fun h => h48 (by rw [HCC.out]; exact h.1))))
              have i1 : ((cc : Int) < 48) := by omega
              clear hcc
              go_wp2_with fail
              go_ret2
              exact ⟨by rw [HF.out]; rfl, rfl⟩
          · have hke : kk - 0 = r.length := by omega
            have hkI : ¬ (kk : Int) < (s.size : Int) := by omega
            have HD : Hid (Lib.decFrom 0 r = some m) := Lib.hid (by have := HDD.out; rw [hke, List.take_length] at this; exact this)
            have HF : Hid (o = some ((m : Int))) := Lib.hid (by
              rw [HO.out, num_read (n := m) (by rw [HTR.out]; exact HNE.out) (by rw [HTR.out]; exact HLE.out) (by rw [HTR.out]; exact HZ.out) (by rw [HTR.out]; exact HD.out)]
              rw [if_neg HH.out])
            go_wp2_with fail
            go_ret2
            exact ⟨by rw [HF.out]; rfl, rfl⟩
end Go.Proofs.YtdgegebplebeoaaGreatDoor
