/-
  The mathematics of splitting at a byte (the first part of V2, without its sums).
-/
import Derived.Lib.SplitLaws
import Derived.Lib.Split
import Derived.Test.YtnpehnfcccdcbaaGreatDoorProg
import Derived.Lib.ItoaNum
import Derived.Lib.Atoi
import Derived.Lib.AtoiTie
import Derived.Test.YtnpehnfcccdcbaaGreatDoorFB
namespace Go.Proofs.YtnpehnfcccdcbaaGreatDoor
open Go.Lib

def splitOn (m : UInt8) : List UInt8 → List (List UInt8)
  | [] => [[]]
  | c :: r => if c = m then [] :: splitOn m r else match splitOn m r with
    | [] => [[c]]
    | h :: t => (c :: h) :: t
theorem splitOn_ne (m : UInt8) (l : List UInt8) : splitOn m l ≠ [] := by
  cases l with
  | nil => simp [splitOn]
  | cons c r =>
    unfold splitOn
    split
    · simp
    · split <;> simp
theorem splitK_one (m : UInt8) : ∀ (l : List UInt8) (k : Nat), count l [m] = k → splitK [m] 0 k l = splitOn m l
  | [], k, h => by
    have hc : count ([] : List UInt8) [m] = 0 := by rw [count_one]; try rfl
    rw [hc] at h; subst h; rfl
  | b :: l, k, h => by
    by_cases e : b = m
    · subst e
      rw [count_cons_eq] at h
      have ih := splitK_one b l (count l [b]) rfl
      obtain rfl : k = count l [b] + 1 := by omega
      have hix : index (b :: l) [b] = ((0 : Nat) : Int) := by rw [index]; simp [List.isPrefixOf]
      rw [splitK, if_neg (by rw [hix]; simp), hix]
      unfold splitOn
      rw [if_pos rfl, ← ih]
      simp
    · rw [count_cons_ne b m l e] at h
      have ih := splitK_one m l k h
      unfold splitOn
      rw [if_neg e, ← ih]
      cases k with
      | zero => rfl
      | succ k =>
        have hp : ([m] : List UInt8).isPrefixOf (b :: l) = false := by simp [List.isPrefixOf, Ne.symm e]
        have hix : index (b :: l) [m] = if index l [m] == -1 then -1 else index l [m] + 1 := by rw [index, hp]; simp
        by_cases hm : index l [m] = -1
        · rw [count_miss hm] at h; omega
        · have hge := index_ge l [m]
          obtain ⟨j, hj⟩ : ∃ j : Nat, index l [m] = j := ⟨(index l [m]).toNat, by omega⟩
          have hix' : index (b :: l) [m] = ((j + 1 : Nat) : Int) := by rw [hix, if_neg (fun e => hm (beq_iff_eq.1 e)), hj]; omega
          rw [splitK, splitK, if_neg (by rw [hix']; simp; omega), if_neg (by rw [hj]; simp), hix', hj]
          simp
theorem splitB_one (m : UInt8) (s : ByteArray) : (splitB ⟨#[m]⟩ 0 (countB s ⟨#[m]⟩) s).map (·.data.toList) = splitOn m s.data.toList := by
  rw [splitB_data]
  exact splitK_one m _ _ rfl

theorem splitOn_len (m : UInt8) : ∀ l : List UInt8, (splitOn m l).flatten.length + (splitOn m l).length = l.length + 1
  | [] => by simp [splitOn]
  | c :: r => by
    have ih := splitOn_len m r
    have hne := splitOn_ne m r
    unfold splitOn
    split
    · simp at ih ⊢; omega
    · split
      · rename_i h; exact absurd h hne
      · rename_i h t e; rw [e] at ih; simp at ih ⊢; omega
end Go.Proofs.YtnpehnfcccdcbaaGreatDoor

namespace Go.Proofs.YtnpehnfcccdcbaaGreatDoor

theorem dec_cons (acc : Nat) (c : UInt8) (r : List UInt8) : Lib.decFrom acc (c :: r) = match Lib.digitVal c with | some d => Lib.decFrom (acc * 10 + d) r | none => none := rfl
theorem dec_app : ∀ (a b : List UInt8) (acc : Nat), Lib.decFrom acc (a ++ b) = (Lib.decFrom acc a).bind fun m => Lib.decFrom m b
  | [], _, _ => rfl
  | c :: a, b, acc => by
    rw [List.cons_append, dec_cons, dec_cons]
    cases Lib.digitVal c with
    | none => rfl
    | some d => exact dec_app a b _
theorem ofNat_d {r : Nat} (h : r < 10) : (UInt8.ofNat (48 + r)).toNat = 48 + r := by rw [UInt8.toNat_ofNat']; omega
theorem dig_of {r : Nat} (h : r < 10) : Lib.digitVal (UInt8.ofNat (48 + r)) = some r := by
  unfold Lib.digitVal; rw [ofNat_d h, if_pos (by omega)]; congr 1; omega
theorem dig_inv {c : UInt8} {d : Nat} (h : Lib.digitVal c = some d) : d < 10 ∧ c = UInt8.ofNat (48 + d) ∧ c.toNat = 48 + d := by
  unfold Lib.digitVal at h
  split at h
  · rename_i hc
    have e : c.toNat - 48 = d := Option.some.inj h
    have h10 : d < 10 := by omega
    refine ⟨h10, ?_, by omega⟩
    rw [← UInt8.toNat_inj, ofNat_d h10]; omega
  · cases h
theorem dg_snoc {u : Nat} (h : ¬ u < 10) : Lib.decDigits u = Lib.decDigits (u / 10) ++ [UInt8.ofNat (48 + u % 10)] := by rw [Lib.decDigits, dif_neg h]
theorem dg_read (u : Nat) : Lib.decFrom 0 (Lib.decDigits u) = some u := by
  induction u using Nat.strongRecOn with
  | _ u ih =>
    by_cases h : u < 10
    · rw [Lib.decDigits_one h]
      show (match Lib.digitVal (UInt8.ofNat (48 + u)) with | some d => Lib.decFrom (0 * 10 + d) [] | none => none) = _
      rw [dig_of h]
      show some (0 * 10 + u) = _
      simp
    · rw [dg_snoc h, dec_app, ih (u / 10) (by omega)]
      show (match Lib.digitVal (UInt8.ofNat (48 + u % 10)) with | some d => Lib.decFrom (u / 10 * 10 + d) [] | none => none) = _
      rw [dig_of (Nat.mod_lt _ (by omega))]
      show some (u / 10 * 10 + u % 10) = _
      congr 1; omega
theorem dg_pos (u : Nat) : 1 ≤ (Lib.decDigits u).length := by rw [Lib.decDigits_length]; exact Lib.nDigits_pos u
theorem dg_digit {u : Nat} : ∀ c ∈ Lib.decDigits u, ∃ d, Lib.digitVal c = some d := by
  intro c hc
  obtain ⟨k, hk, rfl⟩ := List.getElem_of_mem hc
  exact Lib.digit_of_decFrom _ _ _ (dg_read u) k _ (List.getElem?_eq_getElem hk)
/-- A numeral without leading zeros is the one that is written for its value. -/
theorem dg_canon : ∀ (m : Nat) (l : List UInt8) (n : Nat), l.length = m → l ≠ [] → Lib.decFrom 0 l = some n → (l.length = 1 ∨ l.headD 0 ≠ 48) → Lib.decDigits n = l := by
  intro m
  induction m with
  | zero => intro l n h hne; exact absurd (List.length_eq_zero_iff.1 h) hne
  | succ m ih =>
    intro l n h hne hd hc
    obtain ⟨a, c, rfl⟩ : ∃ a c, l = a ++ [c] := ⟨l.dropLast, l.getLast hne, (List.dropLast_concat_getLast hne).symm⟩
    rw [dec_app] at hd
    obtain ⟨p, hp, hq⟩ := Option.bind_eq_some_iff.1 hd
    have hq : (match Lib.digitVal c with | some d => Lib.decFrom (p * 10 + d) [] | none => none) = some n := hq
    cases hv : Lib.digitVal c with
    | none => rw [hv] at hq; cases hq
    | some d =>
      rw [hv] at hq
      have hn : p * 10 + d = n := Option.some.inj hq
      obtain ⟨h10, hce, -⟩ := dig_inv hv
      by_cases ha : a = []
      · subst ha
        have hp0 : (0 : Nat) = p := Option.some.inj hp
        subst hp0
        rw [show n = d by omega, Lib.decDigits_one h10, hce]; try rfl
      · have hal : a.length = m := by simpa using h
        have hh : a.headD 0 ≠ 48 := by
          rcases hc with hc | hc
          · exfalso
            have : a.length = 0 := by simpa using hc
            exact ha (List.length_eq_zero_iff.1 this)
          · cases a with
            | nil => exact absurd rfl ha
            | cons x r => exact hc
        have hi := ih a p hal ha hp (Or.inr hh)
        have hp1 : 1 ≤ p := by
          rcases Nat.eq_zero_or_pos p with h0 | h0
          · exfalso
            rw [h0, Lib.decDigits_one (by omega)] at hi
            rw [← hi] at hh
            exact hh rfl
          · exact h0
        rw [dg_snoc (by omega), show n / 10 = p by omega, show n % 10 = d by omega, hi, hce]
theorem dg_head {u : Nat} (h1 : 1 ≤ u) : (Lib.decDigits u).headD 0 ≠ 48 := by
  induction u using Nat.strongRecOn with
  | _ u ih =>
    by_cases h : u < 10
    · rw [Lib.decDigits_one h]
      intro e
      have := congrArg UInt8.toNat e
      rw [List.headD_cons, ofNat_d h] at this
      have h48 : (48 : UInt8).toNat = 48 := rfl
      omega
    · rw [dg_snoc h]
      have := ih (u / 10) (by omega) (by omega)
      have hp := dg_pos (u / 10)
      cases hd : Lib.decDigits (u / 10) with
      | nil => rw [hd] at hp; simp at hp
      | cons x r => rw [hd] at this; exact this
theorem dg_first (u : Nat) : ∃ c r, Lib.decDigits u = c :: r ∧ 48 ≤ c.toNat ∧ c.toNat ≤ 57 := by
  have hp := dg_pos u
  cases hd : Lib.decDigits u with
  | nil => rw [hd] at hp; simp at hp
  | cons c r =>
    obtain ⟨d, hc⟩ := dg_digit (u := u) c (by rw [hd]; exact List.mem_cons_self)
    obtain ⟨h1, -, h3⟩ := dig_inv hc
    exact ⟨c, r, rfl, by omega, by omega⟩
/-- The bytes of a text behind a minus sign. -/
def trimM (t : List UInt8) : List UInt8 := if t.headD 0 = 45 then t.tail else t
theorem decNat_dg (u : Nat) : Lib.decNat (Lib.decDigits u) = some u := by
  have hp := dg_pos u
  unfold Lib.decNat
  rw [if_neg (by intro e; have := List.isEmpty_iff.1 e; rw [this] at hp; simp at hp)]
  exact dg_read u
theorem atoi_cons (b : UInt8) (r : List UInt8) : Lib.atoi (b :: r) = if (b == 45) = true then (Lib.decNat r).map fun (m : Nat) => -(m : Int) else if (b == 43) = true then (Lib.decNat r).map fun (m : Nat) => (m : Int) else (Lib.decNat (b :: r)).map fun (m : Nat) => (m : Int) := rfl
theorem trim_minus (r : List UInt8) : trimM (45 :: r) = r := by unfold trimM; exact if_pos (show (45 :: r : List UInt8).headD 0 = 45 from rfl)
/-- What is written is read again. -/
theorem atoi_itoa (v : Int) : Lib.atoi (Lib.itoa v) = some v := by
  unfold Lib.itoa
  split
  · rename_i h
    rw [atoi_cons, if_pos (by decide), decNat_dg]
    show some (-((v.natAbs : Nat) : Int)) = _
    congr 1; omega
  · rename_i h
    obtain ⟨c, r, e, h1, h2⟩ := dg_first v.toNat
    have hd := decNat_dg v.toNat
    rw [e] at hd ⊢
    rw [atoi_cons]
    have n1 : (c == 45) = false := by
      rw [beq_eq_false_iff_ne]; intro e2; rw [e2] at h1; exact absurd h1 (by decide)
    have n2 : (c == 43) = false := by
      rw [beq_eq_false_iff_ne]; intro e2; rw [e2] at h1; exact absurd h1 (by decide)
    rw [n1, n2, if_neg (by decide), if_neg (by decide), hd]
    show some ((v.toNat : Nat) : Int) = _
    congr 1; omega
/-- A number with at most so many digits, as the document writes it. -/
def numI (t : List UInt8) (d : Nat) : Option Int := match Lib.atoi t with
  | some v => if Lib.itoa v = t ∧ (trimM t).length ≤ d then some v else none
  | none => none
theorem numI_some {t : List UInt8} {d : Nat} {v : Int} (h : numI t d = some v) : Lib.itoa v = t ∧ (trimM t).length ≤ d ∧ Lib.atoi t = some v := by
  unfold numI at h
  cases ha : Lib.atoi t with
  | none => rw [ha] at h; cases h
  | some u =>
    rw [ha] at h
    simp only at h
    split at h
    · rename_i hc
      have : u = v := Option.some.inj h
      subst this
      exact ⟨hc.1, hc.2, rfl⟩
    · cases h
theorem numI_itoa {v : Int} {d : Nat} (h : (trimM (Lib.itoa v)).length ≤ d) : numI (Lib.itoa v) d = some v := by
  unfold numI
  rw [atoi_itoa]
  show (if Lib.itoa v = Lib.itoa v ∧ (trimM (Lib.itoa v)).length ≤ d then some v else none) = some v
  exact if_pos ⟨rfl, h⟩
theorem numI_of {t : List UInt8} {d : Nat} {v : Int} (h1 : Lib.itoa v = t) (h2 : (trimM t).length ≤ d) : numI t d = some v := by
  subst h1; exact numI_itoa h2
theorem numI_none {t : List UInt8} {d : Nat} (h : ∀ v, Lib.itoa v = t → (trimM t).length ≤ d → False) : numI t d = none := by
  cases hn : numI t d with
  | none => rfl
  | some v => exact (h v (numI_some hn).1 (numI_some hn).2.1).elim
/-- How a numeral that is written looks behind its sign. -/
theorem trim_itoa (v : Int) : trimM (Lib.itoa v) = Lib.decDigits v.natAbs ∧ ((Lib.itoa v).headD 0 = 45 ↔ v < 0) := by
  unfold Lib.itoa
  split
  · rename_i h
    exact ⟨trim_minus _, ⟨fun _ => h, fun _ => rfl⟩⟩
  · rename_i h
    obtain ⟨c, r, e, h1, h2⟩ := dg_first v.toNat
    have hc : c ≠ 45 := fun e2 => by rw [e2] at h1; exact absurd h1 (by decide)
    rw [show v.natAbs = v.toNat by omega, e]
    refine ⟨by unfold trimM; rw [if_neg (by exact hc)], ⟨fun h3 => absurd h3 hc, fun h3 => absurd h3 h⟩⟩
theorem num_read {t : List UInt8} {d n : Nat} (h1 : trimM t ≠ []) (h2 : (trimM t).length ≤ d) (h3 : ¬ ((trimM t).headD 0 = 48 ∧ 1 < t.length)) (h4 : Lib.decFrom 0 (trimM t) = some n) : numI t d = some (if t.headD 0 = 45 then -(n : Int) else n) := by
  by_cases hm : t.headD 0 = 45
  · rw [if_pos hm]
    obtain ⟨r, rfl⟩ : ∃ r, t = 45 :: r := by
      cases t with
      | nil => exact absurd hm (by decide)
      | cons c r => exact ⟨r, by rw [show c = 45 from hm]⟩
    have e : trimM (45 :: r) = r := trim_minus r
    rw [e] at h1 h2 h3 h4
    have hl : 1 ≤ r.length := by rcases r with _ | ⟨c, r⟩; · exact absurd rfl h1
                                 · simp
    have hh : r.headD 0 ≠ 48 := fun e2 => h3 ⟨e2, by simp; omega⟩
    have hc := dg_canon r.length r n rfl h1 h4 (Or.inr hh)
    have hn : 1 ≤ n := by
      rcases Nat.eq_zero_or_pos n with h0 | h0
      · exfalso
        rw [h0, Lib.decDigits_one (by omega)] at hc
        rw [← hc] at hh; exact hh rfl
      · exact h0
    refine numI_of ?_ (by rw [e]; exact h2)
    unfold Lib.itoa
    rw [if_pos (by omega), show (-(n : Int)).natAbs = n by omega, hc]
  · rw [if_neg hm]
    have e : trimM t = t := by unfold trimM; rw [if_neg hm]
    rw [e] at h1 h2 h3 h4
    have hc := dg_canon t.length t n rfl h1 h4 (by
      by_cases hl : t.length = 1
      · exact Or.inl hl
      · refine Or.inr fun e2 => h3 ⟨e2, ?_⟩
        have : t.length ≠ 0 := fun e3 => h1 (List.length_eq_zero_iff.1 e3)
        omega)
    refine numI_of ?_ (by rw [e]; exact h2)
    unfold Lib.itoa
    rw [if_neg (by omega), show ((n : Nat) : Int).toNat = n by omega, hc]
theorem num_empty {t : List UInt8} {d : Nat} (h : trimM t = []) : numI t d = none := numI_none fun v e _ => by
  rw [← e, (trim_itoa v).1] at h
  have := dg_pos v.natAbs
  rw [h] at this; simp at this
theorem num_long {t : List UInt8} {d : Nat} (h : d < (trimM t).length) : numI t d = none := numI_none fun _ _ h2 => by omega
theorem num_zero {t : List UInt8} {d : Nat} (h : (trimM t).headD 0 = 48 ∧ 1 < t.length) : numI t d = none := numI_none fun v e _ => by
  obtain ⟨h1, h2⟩ := trim_itoa v
  rw [e] at h1 h2
  rw [h1] at h
  rcases Nat.eq_zero_or_pos v.natAbs with h0 | h0
  · have hv : v = 0 := by omega
    subst hv
    have h0 : Lib.itoa 0 = [48] := by unfold Lib.itoa; rw [if_neg (by decide)]; exact Lib.decDigits_one (by decide)
    rw [← e, h0] at h
    exact absurd h.2 (by decide)
  · exact dg_head h0 h.1
theorem num_bad {t : List UInt8} {d : Nat} (h : Lib.decFrom 0 (trimM t) = none) : numI t d = none := numI_none fun v e _ => by
  rw [← e, (trim_itoa v).1, dg_read] at h; cases h
theorem itoa_len {v : Int} {k : Nat} (h : v.natAbs < 10 ^ (k + 1)) : (trimM (Lib.itoa v)).length ≤ k + 1 := by
  rw [(trim_itoa v).1]
  revert h
  generalize v.natAbs = u
  induction k generalizing u with
  | zero => intro h; rw [Lib.decDigits_one (by simpa using h)]; exact Nat.le_refl _
  | succ k ih =>
    intro h
    by_cases h10 : u < 10
    · rw [Lib.decDigits_one h10]; simp
    · rw [dg_snoc h10, List.length_append, List.length_singleton]
      have := ih (u / 10) (by rw [Nat.pow_succ] at h; omega)
      omega
end Go.Proofs.YtnpehnfcccdcbaaGreatDoor

namespace Go.Proofs.YtnpehnfcccdcbaaGreatDoor
open Go.RowKit Go.Lib

theorem splitK_over (m : UInt8) : ∀ (l : List UInt8) (k : Nat), count l [m] ≤ k → splitK [m] 0 k l = splitOn m l
  | [], k, _ => by
    have hm : index ([] : List UInt8) [m] = -1 := by rfl
    cases k with
    | zero => rfl
    | succ k => rw [splitK, if_pos (by rw [hm]; try rfl)]; rfl
  | b :: l, k, h => by
    by_cases e : b = m
    · subst e
      rw [count_cons_eq] at h
      obtain ⟨k', rfl⟩ : ∃ k', k = k' + 1 := ⟨k - 1, by omega⟩
      have ih := splitK_over b l k' (by omega)
      have hix : index (b :: l) [b] = ((0 : Nat) : Int) := by rw [index]; simp [List.isPrefixOf]
      rw [splitK, if_neg (by rw [hix]; simp), hix]
      unfold splitOn
      rw [if_pos rfl, ← ih]
      simp
    · rw [count_cons_ne b m l e] at h
      have ih := splitK_over m l k h
      unfold splitOn
      rw [if_neg e, ← ih]
      cases k with
      | zero => rfl
      | succ k =>
        have hp : ([m] : List UInt8).isPrefixOf (b :: l) = false := by simp [List.isPrefixOf, Ne.symm e]
        have hix : index (b :: l) [m] = if index l [m] == -1 then -1 else index l [m] + 1 := by rw [index, hp]; simp
        by_cases hm : index l [m] = -1
        · have hix' : index (b :: l) [m] = -1 := by rw [hix, if_pos (by rw [hm]; try rfl)]
          rw [splitK, splitK, if_pos (by rw [hix']; try rfl), if_pos (by rw [hm]; try rfl)]
        · have hge := index_ge l [m]
          obtain ⟨j, hj⟩ : ∃ j : Nat, index l [m] = j := ⟨(index l [m]).toNat, by omega⟩
          have hix' : index (b :: l) [m] = ((j + 1 : Nat) : Int) := by rw [hix, if_neg (fun e => hm (beq_iff_eq.1 e)), hj]; omega
          rw [splitK, splitK, if_neg (by rw [hix']; simp; omega), if_neg (by rw [hj]; simp), hix', hj]
          simp
theorem splitK_len (m : UInt8) : ∀ (l : List UInt8) (k : Nat), k ≤ count l [m] → (splitK [m] 0 k l).length = k + 1
  | [], k, h => by
    have hc : count ([] : List UInt8) [m] = 0 := by rw [count_one]; try rfl
    obtain rfl : k = 0 := by omega
    rfl
  | b :: l, k, h => by
    by_cases e : b = m
    · subst e
      rw [count_cons_eq] at h
      cases k with
      | zero => rfl
      | succ k =>
        have ih := splitK_len b l k (by omega)
        have hix : index (b :: l) [b] = ((0 : Nat) : Int) := by rw [index]; simp [List.isPrefixOf]
        rw [splitK, if_neg (by rw [hix]; simp), hix]
        simp [ih]
    · rw [count_cons_ne b m l e] at h
      cases k with
      | zero => rfl
      | succ k =>
        have ih := splitK_len m l (k + 1) h
        have hp : ([m] : List UInt8).isPrefixOf (b :: l) = false := by simp [List.isPrefixOf, Ne.symm e]
        have hix : index (b :: l) [m] = if index l [m] == -1 then -1 else index l [m] + 1 := by rw [index, hp]; simp
        by_cases hm : index l [m] = -1
        · rw [count_miss hm] at h; omega
        · have hge := index_ge l [m]
          obtain ⟨j, hj⟩ : ∃ j : Nat, index l [m] = j := ⟨(index l [m]).toNat, by omega⟩
          have hix' : index (b :: l) [m] = ((j + 1 : Nat) : Int) := by rw [hix, if_neg (fun e => hm (beq_iff_eq.1 e)), hj]; omega
          rw [splitK, if_neg (by rw [hj]; simp), hj] at ih
          rw [splitK, if_neg (by rw [hix']; simp; omega), hix']
          simp at ih ⊢
          exact ih
theorem splitOn_count (m : UInt8) (l : List UInt8) : (splitOn m l).length = count l [m] + 1 := by
  rw [← splitK_over m l _ (Nat.le_refl _), splitK_len m l _ (Nat.le_refl _)]
/-- So many words at most: all of them, or one too many. -/
theorem splitB_some (m : UInt8) (s : ByteArray) {N : Nat} (hN : 1 ≤ N) : (N ≤ (splitB ⟨#[m]⟩ 0 (min N (s.size + 1) - 1) s).length ↔ N ≤ (splitOn m s.data.toList).length) ∧ ((splitOn m s.data.toList).length < N → (splitB ⟨#[m]⟩ 0 (min N (s.size + 1) - 1) s).map (·.data.toList) = splitOn m s.data.toList) := by
  have hd := splitB_data ⟨#[m]⟩ 0 (min N (s.size + 1) - 1) s
  have hl : (splitB ⟨#[m]⟩ 0 (min N (s.size + 1) - 1) s).length = (splitK [m] 0 (min N (s.size + 1) - 1) s.data.toList).length := by rw [← List.length_map (f := fun x : ByteArray => x.data.toList), hd]
  have hc := splitOn_count m s.data.toList
  have hle : count s.data.toList [m] ≤ s.size := by rw [count_one]; exact Nat.le_trans List.count_le_length (by simp)
  rw [hl]
  rcases Nat.lt_or_ge (min N (s.size + 1) - 1) (count s.data.toList [m]) with h | h
  · rw [splitK_len m _ _ (Nat.le_of_lt h)]
    have hmin : min N (s.size + 1) = N := by omega
    rw [hmin] at h ⊢
    exact ⟨⟨fun _ => by omega, fun _ => by omega⟩, fun h2 => by omega⟩
  · rw [splitK_over m _ _ h]
    exact ⟨Iff.rfl, fun _ => by rw [hd]; exact splitK_over m _ _ h⟩
/-- A row of texts. -/
def tx (s : ByteArray) : List Value := [.string s]
theorem tx_len (s : ByteArray) : (tx s).length = 1 := rfl
theorem tx_one (s : ByteArray) : ∀ u ∈ tx s, u.oneCell' = true := by
  intro u hu
  rw [List.mem_singleton.1 hu]; try rfl
theorem tTx : ElG 1 16 65 9 (.string ⟨#[]⟩) := ⟨Tryz.underlying65, by kernel_rfl, rfl, by decide, by decide⟩
theorem RowsG.tx {w : World} {a : Option Addr} {L : List ByteArray} (h : RowsG 1 tx w a L) {k : Nat} (hk : k < L.length) : ∃ ad, a = some ad ∧ ad.block < w.heap.size ∧ w.cell? (ad.add k) = some (.string L[k]) := by
  obtain ⟨ad, e, hlt, hs⟩ := h k hk
  exact ⟨ad, e, hlt, by have := hs 0 (by decide); rw [Nat.mul_one] at this; exact this⟩
def bs (l : List UInt8) : ByteArray := ⟨l.toArray⟩
theorem bs_data (l : List UInt8) : (bs l).data.toList = l := rfl
theorem bs_size (l : List UInt8) : (bs l).size = l.length := by unfold bs; simp [ByteArray.size]
theorem data_bs (s : ByteArray) : bs s.data.toList = s := by unfold bs; simp
end Go.Proofs.YtnpehnfcccdcbaaGreatDoor
