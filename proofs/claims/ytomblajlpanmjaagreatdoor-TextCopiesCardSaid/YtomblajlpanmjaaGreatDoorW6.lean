/-
  The reference's numerals of small numbers.
-/
import Derived.Test.YtomblajlpanmjaaGreatDoorW5
namespace Go.Proofs.YtomblajlpanmjaaGreatDoor
open Go.RowKit Go.Maps Go.Shelf

theorem addS (a b : ByteArray) (h : a.size + b.size ≤ 1000000) (W : World) : (Op.stringOp .add a b).run Tryz.prog W = .ok (.string (a ++ b)) W := by
  have : ¬ ((9223372036854775807 : Int) < (a.size : Int) + (b.size : Int)) := by omega
  simp [Op.stringOp, this]
theorem ofNat_dig2 {r : Nat} (h : r < 10) : (UInt8.ofNat (48 + r)).toNat = 48 + r := by rw [UInt8.toNat_ofNat']; omega
set_option maxRecDepth 100000 in
theorem size_small (n : Int) (h : 0 ≤ n ∧ n ≤ 9) (w : World) :
    Calls Tryz.prog 109 #[.int .i64 n] w fun e w' => e = .returned (.int .i64 n) ∧ w' = w := by
  obtain ⟨h1, h2⟩ := h
  have HM := Lib.hid (show max n (-n) = n by omega)
  go_enter Tryz.func109, Tryz.ntmps109
  go_wp2
  go_ret
  exact ⟨ret_int HM.out, rfl⟩
/-- The digits of m, by at most so many steps. -/
def decF : Nat → Nat → List UInt8
  | 0, _ => []
  | k + 1, m => if m = 0 then [] else decF k (m / 10) ++ [UInt8.ofNat (48 + m % 10)]
def decS (n : Nat) : ByteArray := ⟨(if n = 0 then [48] else decF 7 n).toArray⟩
theorem decF_len : ∀ k m, (decF k m).length ≤ k
  | 0, _ => Nat.le_refl _
  | k + 1, m => by
    have := decF_len k (m / 10)
    unfold decF
    split
    · simp
    · rw [List.length_append]; simp; omega
theorem decF_zero : ∀ k, decF k 0 = []
  | 0 => rfl
  | _ + 1 => rfl
theorem bytes_eq {s : ByteArray} {l : List UInt8} (h : s.data.toList = l) : s = ⟨l.toArray⟩ := by
  cases s with
  | mk d => simp at h; rw [← h]
set_option maxRecDepth 100000 in
set_option maxHeartbeats 1000000 in
theorem decimal_any (n : Nat) (h2 : n < 10000000) (w : World) :
    Calls Tryz.prog 63 #[.int .i64 n] w fun e w' => e = .returned (.string (decS n)) ∧ Below w.heap.size w w' := by
  by_cases h0 : n = 0
  · subst h0
    have HE := Lib.hid (show (⟨#[48]⟩ : ByteArray) = decS 0 from rfl)
    rw [show ((0 : Nat) : Int) = 0 from rfl]
    go_enter Tryz.func63, Tryz.ntmps63
    go_wp2
    go_ret
    exact ⟨by rw [← HE.out]; rfl, Below.refl _ _⟩
  have hn0 : ((n : Int) == 0) = false := by rw [beq_eq_false_iff_ne]; omega
  have hnn : ¬ (n : Int) < 0 := by omega
  have HF := Lib.hid (show decS n = ⟨(decF 7 n).toArray⟩ by unfold decS; rw [if_neg h0])
  clear h0
  go_enter Tryz.func63, Tryz.ntmps63
  go_wp2_with fail
  go_loopw [0, 3] (fun v0 v3 wr => ∃ (m j : Nat) (s : ByteArray), v0 = .int .i64 m ∧ v3 = .string s ∧ m ≤ n ∧ j ≤ 7 ∧ m < 10 ^ j ∧ s.size ≤ 7 - j ∧ Hid (decF 7 n = decF j m ++ s.data.toList) ∧ Below w.heap.size w wr) (fun v0 _ _ => (intOf v0).toNat)
  case atStart => exact ⟨n, 7, ⟨#[]⟩, rfl, rfl, Nat.le_refl _, Nat.le_refl _, by omega, by decide, Lib.hid (by simp), Below.refl _ _⟩
  case round =>
    obtain ⟨m, j, s, rfl, rfl, hm, hj, hmj, hs, HD, hB⟩ := hrel
    by_cases hm0 : m = 0
    · subst hm0
      have hz := HD.out
      rw [decF_zero, List.nil_append] at hz
      have HA := Lib.hid (addS ⟨#[]⟩ s (by show 0 + s.size ≤ _; omega))
      have HE := Lib.hid (show (⟨#[]⟩ : ByteArray) ++ s = decS n by rw [HF.out, hz]; exact bytes_eq (by simp [ByteArray.data_append]))
      have ha := HA.out
      clear hz
      rw [show ((0 : Nat) : Int) = 0 from rfl]
      go_wp2
      go_ret
      exact ⟨by rw [← HE.out]; rfl, hB⟩
    · have hmb : ((m : Int) != 0) = true := by simp; omega
      obtain ⟨j, rfl⟩ : ∃ i, j = i + 1 := ⟨j - 1, by
        rcases Nat.eq_zero_or_pos j with h | h
        · rw [h] at hmj; omega
        · omega⟩
      have hr : 0 ≤ (m : Int) % 10 ∧ (m : Int) % 10 ≤ 9 := by omega
      have HS := Lib.hid (fun w => size_small ((m : Int) % 10) hr w)
      have hwu : IntKind.u8.wrap (48 + (m : Int) % 10) = 48 + (m : Int) % 10 := IntWalk.u8_in _ (by omega)
      obtain ⟨cc, ec⟩ : ∃ cc : UInt8, cc = UInt8.ofNat (48 + m % 10) := ⟨_, rfl⟩
      have hcn : (cc.toNat : Int) = 48 + (m : Int) % 10 := by rw [ec, ofNat_dig2 (Nat.mod_lt m (by omega))]; omega
      have hcv : ∀ W : World, (convert 113 9 (.slice (some ⟨W.heap.size, 0, none⟩) 1 1)).run Tryz.prog (W.alloc (.cells #[.int .u8 (48 + (m : Int) % 10)] 5)) = .ok (.string ⟨#[cc]⟩) (W.alloc (.cells #[.int .u8 (48 + (m : Int) % 10)] 5)) := fun W =>
        run_convert_bytes_back _ 113 9 5 ⟨W.heap.size, 0, none⟩ 1 [cc] Tryz.underlying113 Tryz.underlying5 Tryz.underlying9 (fun j hj => by
          have hj0 : j = 0 := by simpa using hj
          subst hj0
          rw [add0, cell_of_row _ _ 0 _ _ (0, 0) (heap_alloc_new W _), List.getElem_cons_zero, hcn]; rfl)
      have ha := addS ⟨#[cc]⟩ s (by show 1 + s.size ≤ _; omega)
      obtain ⟨t1, e1⟩ : ∃ t1, t1 = (⟨#[cc]⟩ : ByteArray) ++ s := ⟨_, rfl⟩
      rw [← e1] at ha
      have hm10 : m / 10 ≤ n := by omega
      have HN := Lib.hid (show decF 7 n = decF j (m / 10) ++ t1.data.toList by
        rw [HD.out, e1]
        show (if m = 0 then [] else decF j (m / 10) ++ [UInt8.ofNat (48 + m % 10)]) ++ _ = _
        rw [if_neg hm0, ← ec]; simp [ByteArray.data_append])
      have hts : t1.size = 1 + s.size := by rw [e1, ByteArray.size_append]; rfl
      have hm10j : m / 10 < 10 ^ j := by rw [Nat.pow_succ] at hmj; omega
      have hmi : ((m / 10 : Nat) : Int) = (m : Int) / 10 := by omega
      have HM10 := Lib.hid hm10j
      clear e1 hcn ec hmj hm10j
      go_wp2_with fail
      refine (HS.out _).mono ?_
      rintro e w2 ⟨rfl, rfl⟩
      go_wp2
      go_roundw
      case rel => exact ⟨m / 10, j, t1, by rw [hmi], rfl, hm10, by omega, HM10.out, by omega, HN, hB.alloc hB.size _⟩
      case measure => simp [intOf]; omega
end Go.Proofs.YtomblajlpanmjaaGreatDoor
