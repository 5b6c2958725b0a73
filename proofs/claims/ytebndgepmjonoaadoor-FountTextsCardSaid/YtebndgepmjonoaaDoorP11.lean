/-
  The reference's numerals.
-/
import Derived.Test.YtebndgepmjonoaaDoorP10
import Derived.Laws.IdiomStrings
namespace Go.Proofs.YtebndgepmjonoaaDoor
open Go.RowKit Go.Maps

set_option maxRecDepth 100000 in
theorem size_small (n : Int) (h : 0 ≤ n ∧ n ≤ 9) (w : World) :
    Calls Tryd.prog 67 #[.int .i64 n] w fun e w' => e = .returned (.int .i64 n) ∧ w' = w := by
  obtain ⟨h1, h2⟩ := h
  have HM := Lib.hid (show max n (-n) = n by omega)
  go_enter Tryd.func67, Tryd.ntmps67
  go_wp2
  go_ret
  exact ⟨ret_int HM.out, rfl⟩
def decPre (m : Nat) : List UInt8 := if m = 0 then [] else Lib.decDigits m
theorem decPre_next {m : Nat} (h : m ≠ 0) : decPre m = decPre (m / 10) ++ [UInt8.ofNat (48 + m % 10)] := by
  unfold decPre
  rw [if_neg h]
  by_cases h10 : m < 10
  · rw [Lib.decDigits_one h10, if_pos (by omega), show m % 10 = m by omega]; rfl
  · rw [dec_snoc h10, if_neg (by omega)]
set_option maxRecDepth 100000 in
set_option maxHeartbeats 1000000 in
theorem decimal_any (n : Nat) (h1 : 1 ≤ n) (h2 : n ≤ 1000000) (w : World) :
    Calls Tryd.prog 53 #[.int .i64 n] w fun e w' => (∃ s : ByteArray, e = .returned (.string s) ∧ s.data.toList = Lib.itoa n) ∧ Below w.heap.size w w' := by
  have hn0 : ((n : Int) == 0) = false := by rw [beq_eq_false_iff_ne]; omega
  have hnn : ¬ (n : Int) < 0 := by omega
  have HF := Lib.hid (show Lib.itoa n = decPre n by rw [itoa_nat (by omega), Int.toNat_natCast]; unfold decPre; rw [if_neg (by omega)])
  go_enter Tryd.func53, Tryd.ntmps53
  go_wp2_with fail
  go_loopw [0, 3] (fun v0 v3 wr => ∃ (m : Nat) (s : ByteArray), v0 = .int .i64 m ∧ v3 = .string s ∧ m ≤ n ∧ s.size ≤ 7 ∧ Hid (decPre n = decPre m ++ s.data.toList) ∧ Below w.heap.size w wr) (fun v0 _ _ => (intOf v0).toNat)
  case atStart => exact ⟨n, ⟨#[]⟩, rfl, rfl, Nat.le_refl _, by decide, Lib.hid (by simp), Below.refl _ _⟩
  case round =>
    obtain ⟨m, s, rfl, rfl, hm, hs, HD, hB⟩ := hrel
    by_cases hm0 : m = 0
    · subst hm0
      have hz := HD.out
      rw [show decPre 0 = [] from rfl, List.nil_append] at hz
      obtain ⟨t1, g1, z1, d1⟩ := add_ex ⟨#[]⟩ s (by show 0 + s.size ≤ _; omega)
      have HE := Lib.hid (show t1.data.toList = Lib.itoa n by rw [d1, HF.out, hz]; rfl)
      clear z1 d1 hz
      rw [show ((0 : Nat) : Int) = 0 from rfl]
      go_wp2
      go_ret
      exact ⟨⟨t1, rfl, HE.out⟩, hB⟩
    · have hmb : ((m : Int) != 0) = true := by simp; omega
      have hr : 0 ≤ (m : Int) % 10 ∧ (m : Int) % 10 ≤ 9 := by omega
      have HS := Lib.hid (fun w => size_small ((m : Int) % 10) hr w)
      have hwu : IntKind.u8.wrap (48 + (m : Int) % 10) = 48 + (m : Int) % 10 := IntWalk.u8_in _ (by omega)
      obtain ⟨cc, ec⟩ : ∃ cc : UInt8, cc = UInt8.ofNat (48 + m % 10) := ⟨_, rfl⟩
      have hcn : (cc.toNat : Int) = 48 + (m : Int) % 10 := by rw [ec, ofNat_dig (Nat.mod_lt m (by omega))]; omega
      have hcv : ∀ W : World, (convert 82 9 (.slice (some ⟨W.heap.size, 0, none⟩) 1 1)).run Tryd.prog (W.alloc (.cells #[.int .u8 (48 + (m : Int) % 10)] 5)) = .ok (.string ⟨#[cc]⟩) (W.alloc (.cells #[.int .u8 (48 + (m : Int) % 10)] 5)) := fun W =>
        run_convert_bytes_back _ 82 9 5 ⟨W.heap.size, 0, none⟩ 1 [cc] Tryd.underlying82 Tryd.underlying5 Tryd.underlying9 (fun j hj => by
          have hj0 : j = 0 := by simpa using hj
          subst hj0
          rw [add0, cell_of_row _ _ 0 _ _ (0, 0) (heap_alloc_new W _), List.getElem_cons_zero, hcn]; rfl)
      obtain ⟨t1, g1, z1, d1⟩ := add_ex ⟨#[cc]⟩ s (by show 1 + s.size ≤ _; omega)
      have hm10 : m / 10 ≤ n := by omega
      have HN := Lib.hid (show decPre n = decPre (m / 10) ++ t1.data.toList by rw [HD.out, decPre_next hm0, d1, ← ec]; simp)
      have hts : t1.size = 1 + s.size := z1
      have hdec := Lib.hid (show decPre m = decPre (m / 10) ++ [cc] by rw [ec]; exact decPre_next hm0)
      have hs7 : t1.size ≤ 7 := by
        have h1 := congrArg List.length HD.out
        have h2 := congrArg List.length hdec.out
        have h3 : (decPre n).length ≤ 7 := by unfold decPre; rw [if_neg (by omega)]; exact dec_len 6 n (by omega)
        have h4 := len_data s
        rw [List.length_append] at h1 h2
        simp only [List.length_cons, List.length_nil] at h2
        omega
      have hmi : ((m / 10 : Nat) : Int) = (m : Int) / 10 := by omega
      clear z1 d1 hcn ec
      go_wp2_with fail
      refine (HS.out _).mono ?_
      rintro e w2 ⟨rfl, rfl⟩
      go_wp2
      go_roundw
      case rel => exact ⟨m / 10, t1, by rw [hmi], rfl, hm10, hs7, HN, hB.alloc hB.size _⟩
      case measure => simp [intOf]; omega
end Go.Proofs.YtebndgepmjonoaaDoor
