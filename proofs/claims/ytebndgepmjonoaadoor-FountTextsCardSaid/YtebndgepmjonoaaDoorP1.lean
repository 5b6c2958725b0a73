/-
  Numbers in texts: what is written is read again.
-/
import Derived.Test.YtebndgepmjonoaaDoorZN
import Derived.Lib.ItoaNum
namespace Go.Proofs.YtebndgepmjonoaaDoor
open Go.RowKit Go.Maps

def valL (l : List UInt8) : Int := l.foldl (fun a c => 10 * a + ((c.toNat : Int) - 48)) 0
theorem valL_snoc (l : List UInt8) (c : UInt8) : valL (l ++ [c]) = 10 * valL l + ((c.toNat : Int) - 48) := by unfold valL; rw [List.foldl_append]; rfl
def digsB (l : List UInt8) : Prop := ∀ c ∈ l, 48 ≤ (c.toNat : Int) ∧ (c.toNat : Int) ≤ 57
theorem ofNat_dig {r : Nat} (h : r < 10) : (UInt8.ofNat (48 + r)).toNat = 48 + r := by rw [UInt8.toNat_ofNat']; omega
theorem u8_in (x : Int) (h : 0 ≤ x ∧ x ≤ 255) : IntKind.u8.wrap x = x := by
  unfold IntKind.wrap; simp [IntKind.signed, IntKind.bits]; omega
theorem dec_snoc {u : Nat} (h : ¬ u < 10) : Lib.decDigits u = Lib.decDigits (u / 10) ++ [UInt8.ofNat (48 + u % 10)] := by rw [Lib.decDigits, dif_neg h]
theorem dec_val (u : Nat) : valL (Lib.decDigits u) = u := by
  induction u using Nat.strongRecOn with
  | _ u ih =>
    by_cases h : u < 10
    · rw [Lib.decDigits_one h]
      have := ofNat_dig h
      show 10 * 0 + (((UInt8.ofNat (48 + u)).toNat : Int) - 48) = _
      omega
    · rw [dec_snoc h, valL_snoc, ih (u / 10) (by omega)]
      have := ofNat_dig (Nat.mod_lt u (by omega : 0 < 10))
      omega
theorem dec_digs (u : Nat) : digsB (Lib.decDigits u) := by
  induction u using Nat.strongRecOn with
  | _ u ih =>
    by_cases h : u < 10
    · rw [Lib.decDigits_one h]
      intro c hc
      rw [List.mem_singleton.1 hc, ofNat_dig h]
      omega
    · rw [dec_snoc h]
      intro c hc
      rcases List.mem_append.1 hc with hc | hc
      · exact ih (u / 10) (by omega) c hc
      · rw [List.mem_singleton.1 hc, ofNat_dig (Nat.mod_lt u (by omega))]
        have := Nat.mod_lt u (by omega : 0 < 10)
        omega
theorem dec_pos (u : Nat) : 1 ≤ (Lib.decDigits u).length := by rw [Lib.decDigits_length]; exact Lib.nDigits_pos u
theorem dec_head {u : Nat} (h1 : 1 ≤ u) : (Lib.decDigits u).headD 0 ≠ 48 := by
  induction u using Nat.strongRecOn with
  | _ u ih =>
    by_cases h : u < 10
    · rw [Lib.decDigits_one h]
      intro e
      have := congrArg UInt8.toNat e
      rw [List.headD_cons, ofNat_dig h] at this
      have h48 : (48 : UInt8).toNat = 48 := rfl
      omega
    · rw [dec_snoc h]
      have := ih (u / 10) (by omega) (by omega)
      have hp := dec_pos (u / 10)
      cases hd : Lib.decDigits (u / 10) with
      | nil => rw [hd] at hp; simp at hp
      | cons x r => rw [hd] at this; exact this
theorem dec_len : ∀ (k u : Nat), u < 10 ^ (k + 1) → (Lib.decDigits u).length ≤ k + 1 := by
  intro k
  induction k with
  | zero => intro u h; rw [Lib.decDigits_one (by simpa using h)]; exact Nat.le_refl _
  | succ k ih =>
    intro u h
    by_cases h10 : u < 10
    · rw [Lib.decDigits_one h10]; simp
    · rw [dec_snoc h10, List.length_append, List.length_singleton]
      have := ih (u / 10) (by rw [Nat.pow_succ] at h; omega)
      omega
theorem val_bd : ∀ (n : Nat) {l : List UInt8}, l.length = n → digsB l → 0 ≤ valL l ∧ valL l < (10 : Int) ^ n := by
  intro n
  induction n with
  | zero => intro l h _; obtain rfl := List.length_eq_zero_iff.1 h; exact ⟨by decide, by decide⟩
  | succ n ih =>
    intro l h hd
    obtain ⟨A, y, rfl⟩ : ∃ A y, l = A ++ [y] := ⟨l.dropLast, l.getLast (by intro e; subst e; cases h), (List.dropLast_concat_getLast _).symm⟩
    obtain ⟨a, b⟩ := ih (l := A) (by simpa using h) (fun x hx => hd x (by simp [hx]))
    have hc := hd y (by simp)
    rw [valL_snoc, Int.pow_succ]
    omega
theorem pow_le7 : ∀ m, m < 8 → (10 : Int) ^ m ≤ 10000000 := by decide
def valTo (s : ByteArray) (k : Nat) : Int := valL (s.data.toList.take k)
theorem valTo_succ (s : ByteArray) {k : Nat} (h : k < s.size) : valTo s (k + 1) = 10 * valTo s k + ((s[k].toNat : Int) - 48) := by
  unfold valTo
  rw [List.take_succ_eq_append_getElem (by simpa using h), valL_snoc]; rfl
theorem valTo_bd {s : ByteArray} (h : digsB s.data.toList) (h7 : s.size ≤ 7) (k : Nat) : 0 ≤ valTo s k ∧ valTo s k < 10000000 := by
  have := val_bd _ (l := s.data.toList.take k) rfl (fun c hc => h c (List.mem_of_mem_take hc))
  have hl : (s.data.toList.take k).length ≤ 7 := by rw [List.length_take, len_data]; omega
  have hp := pow_le7 (s.data.toList.take k).length (by omega)
  unfold valTo
  omega
theorem valTo_all (s : ByteArray) : valTo s s.size = valL s.data.toList := by unfold valTo; rw [← len_data, List.take_length]

set_option maxRecDepth 100000 in
set_option maxHeartbeats 1000000 in
theorem numberOf_any (s : ByteArray) (w : World) (h1 : 1 ≤ s.size) (h7 : s.size ≤ 7) (hd : digsB s.data.toList) (h0 : s.data.toList.headD 0 ≠ 48) :
    Calls Tryd.prog 97 #[.string s] w fun e w' => e = .returned (.tuple #[.int .i64 (valL s.data.toList), .bool true]) ∧ w' = w := by
  have hp : 0 < s.size := by omega
  rw [head_at s hp] at h0
  have e0 : ((s[0].toNat : Int) == 48) = false := by
    have : s[0].toNat ≠ 48 := fun e => h0 (UInt8.toNat_inj.1 e)
    simp; omega
  have HA := Lib.hid (valTo_all s)
  have HB := Lib.hid (fun k => valTo_bd hd h7 k)
  have HD := Lib.hid hd
  clear hd h0
  go_enter Tryd.func97, Tryd.ntmps97
  go_wp2_with fail
  go_loop [4, 26] (fun v i => ∃ k : Nat, k ≤ s.size ∧ i = .int .i64 k ∧ v = .int .i64 (valTo s k)) (fun _ i => s.size - (intOf i).toNat)
  case atStart => exact ⟨0, Nat.zero_le _, rfl, rfl⟩
  case round =>
    obtain ⟨k, hk, rfl, rfl⟩ := hrel
    have hb := HB.out k
    by_cases hlt : k < s.size
    · have hs := Lib.hid (valTo_succ s hlt)
      have hdk : 48 ≤ (s[k].toNat : Int) ∧ (s[k].toNat : Int) ≤ 57 := HD.out s[k] (by rw [show s[k] = s.data.toList[k]'(by simpa using hlt) from rfl]; exact List.getElem_mem _)
      have hdb : digB (s[k].toNat : Int) = true := decide_eq_true hdk
      generalize valTo s k = v at hb hs
      obtain ⟨d1, d2⟩ := hdk
      have hwu : IntKind.u8.wrap ((s[k].toNat : Int) - 48) = (s[k].toNat : Int) - 48 := u8_in _ (by omega)
      go_wp2_with (go_at_call 86; refine (isDigit_any _ _).mono ?_; rintro e w' ⟨rfl, rfl⟩)
      go_round
      case rel => exact ⟨k + 1, by omega, by go_num, by rw [hs.out]⟩
      case measure => simp [intOf]; omega
    · have hk2 : k = s.size := by omega
      subst hk2
      rw [HA.out]
      go_wp2
      go_ret2
      exact ⟨rfl, rfl⟩
end Go.Proofs.YtebndgepmjonoaaDoor
