/-
  law02's Few and WordErr; the reference's FountErr.
-/
import Derived.Test.YtpoadjnhmdbdeaaGreatDoorND
import Derived.Test.YtpoadjnhmdbdeaaGreatDoorZY
import Derived.Test.YtpoadjnhmdbdeaaGreatDoorYN
namespace Go.Proofs.YtpoadjnhmdbdeaaGreatDoor
open Go.RowKit Go.Maps Go.Shelf

/-- At most 20 sorts, or too many, with short names and texts. -/
def few2X (x : TS) : Bool := decide (30 < x.name.size ∨ 10 < x.text.size)
def few2B (f : FT) : Bool := !(decide (30 < f.name.size ∨ (20 < f.sorts.length ∧ f.sorts.length ≤ 120) ∨ 122 < f.sorts.length)) && !(f.sorts.any few2X)
set_option maxRecDepth 100000 in
set_option maxHeartbeats 1000000 in
theorem few2_any (f : FT) (a : Option Addr) (c : Nat) (w : World) (hO : OkF f) (hF : SortsAt w a f.sorts) :
    Calls Tryz.prog 36 #[.agg #[.string f.name, .int .i64 f.body, .slice a f.sorts.length c]] w fun e w' => e = .returned (.bool (few2B f)) ∧ Below w.heap.size w w' := by
  have hO1 := hO.1
  have hO2 := hO.2.1
  unfold maxLen at hO1 hO2
  have hB0 := (Below.refl w.heap.size w).alloc (Nat.le_refl _) (.cells #[.string f.name, .int .i64 f.body, .slice a f.sorts.length c] 59)
  by_cases h1 : 30 < f.name.size ∨ (20 < f.sorts.length ∧ f.sorts.length ≤ 120) ∨ 122 < f.sorts.length
  · have HE := Lib.hid (show few2B f = false by unfold few2B; rw [decide_eq_true h1]; try rfl)
    go_enter Tryz.func36, Tryz.ntmps36
    go_wp2
    all_goals first | (exfalso; omega) | (exfalso; (simp at *) <;> omega) | skip
    all_goals go_ret
    all_goals exact ⟨ret_bool HE.out.symm, hB0⟩
  · have HE := Lib.hid (show few2B f = !(f.sorts.any few2X) by unfold few2B; rw [decide_eq_false h1]; try rfl)
    have hF1 := hF.alloc (.cells #[.string f.name, .int .i64 f.body, .slice a f.sorts.length c] 59)
    have g1 : f.name.size ≤ 30 := by omega
    have g2 : f.sorts.length ≤ 20 ∨ 120 < f.sorts.length := by omega
    have g3 : f.sorts.length ≤ 122 := by omega
    clear h1
    rcases g2 with g2 | g2
    all_goals
      go_enter Tryz.func36, Tryz.ntmps36
      go_wp2
      go_loop [3] (fun i => ∃ k : Nat, k ≤ f.sorts.length ∧ i = .int .i64 k ∧ Hid (firstAt (fun i => few2X (f.sorts.getD i noTS)) (f.sorts.length - 0) 0 = firstAt (fun i => few2X (f.sorts.getD i noTS)) (f.sorts.length - k) k)) (fun i => f.sorts.length - (intOf i).toNat)
      case atStart => exact ⟨0, Nat.zero_le _, rfl, Lib.hid rfl⟩
      case round =>
        obtain ⟨k, hk, rfl, HR⟩ := hrel
        by_cases hlt : k < f.sorts.length
        · obtain ⟨ad, rfl, had, s0, s1, s2, s3⟩ := hF1.at_ hlt
          have hx := hO.at_ hlt
          obtain ⟨x, ex⟩ : ∃ x, x = f.sorts.getD k noTS := ⟨_, rfl⟩
          rw [← ex] at s0 s1 s2 s3 hx
          have EX := Lib.hid ex; clear ex s2 s3
          obtain ⟨hx1, hx2⟩ := hx
          unfold maxLen at hx1 hx2
          by_cases hq : 30 < x.name.size ∨ 10 < x.text.size
          · have HS := Lib.hid (firstAt_stop (q := fun i => few2X (f.sorts.getD i noTS)) hlt (by show few2X _ = true; rw [← EX.out]; exact decide_eq_true hq))
            go_wp2
            all_goals first | (exfalso; omega) | (exfalso; (simp at *) <;> omega) | skip
            all_goals go_ret
            all_goals exact ⟨ret_bool (by rw [HE.out, any_firstAt (p := few2X) (HR.out.trans HS.out)]; rfl), hB0⟩
          · have HS := Lib.hid (firstAt_go (q := fun i => few2X (f.sorts.getD i noTS)) hlt (by show few2X _ = false; rw [← EX.out]; exact decide_eq_false hq))
            have q1 : x.name.size ≤ 30 := by omega
            have q2 : x.text.size ≤ 10 := by omega
            clear hq
            go_wp2
            go_round
            case rel => exact ⟨k + 1, by omega, by go_num, Lib.hid (HR.out.trans HS.out)⟩
            case measure => simp [intOf]; omega
        · have HS := Lib.hid (firstAt_end (q := fun i => few2X (f.sorts.getD i noTS)) hlt)
          go_wp2
          go_ret
          exact ⟨ret_bool (by rw [HE.out, any_firstAt (p := few2X) (HR.out.trans HS.out)]; rfl), hB0⟩

theorem few2_len {f : FT} (h : few2B f = true) : f.sorts.length ≤ 122 := by
  unfold few2B at h
  rw [Bool.and_eq_true] at h
  have h1 := h.1
  rw [Bool.not_eq_true'] at h1
  have := of_decide_eq_false h1
  omega
/-- A fount as it comes in. -/
structure FIn (w : World) (f : FT) (a : Option Addr) (c : Nat) : Prop where
  at_ : FAt w a f
  cap : f.sorts.length ≤ c
  nil : a = none → c = 0
theorem FIn.below {w w' : World} {f : FT} {a : Option Addr} {c : Nat} (h : FIn w f a c) (hb : Below w.heap.size w w') : FIn w' f a c := ⟨h.at_.below hb, h.cap, h.nil⟩
theorem refFountErr_any (f : FT) (a : Option Addr) (c : Nat) (w : World) (hF : FIn w f a c) :
    Calls Tryz.prog 40 #[.agg #[.string f.name, .int .i64 f.body, .slice a f.sorts.length c]] w fun e w' => e = .returned (.int .i64 (checkF f).2) ∧ Below w.heap.size w w' := by
  have hb0 := (Below.refl w.heap.size w).alloc (Nat.le_refl _) (.cells #[.string f.name, .int .i64 f.body, .slice a f.sorts.length c] 59)
  have HC := Lib.hid (refCheckFount_any f a c _ hF.cap hF.at_.ok (hF.at_.at_.below hb0))
  go_enter Tryz.func40, Tryz.ntmps40
  go_wp2_with fail
  refine HC.out.mono ?_
  rintro e w2 ⟨rfl, hb2⟩
  have hlow := hb0.trans (hb2.mono hb0.size)
  clear HC hb2 hb0
  go_wp2
  go_ret
  exact ⟨rfl, hlow⟩
end Go.Proofs.YtpoadjnhmdbdeaaGreatDoor
/-
  FirstMissing: the program's and the reference's.
-/
namespace Go.Proofs.YtpoadjnhmdbdeaaGreatDoor
open Go.RowKit Go.Maps Go.Shelf

end Go.Proofs.YtpoadjnhmdbdeaaGreatDoor

/-
  FirstMissing: the reference's walk.
-/
namespace Go.Proofs.YtpoadjnhmdbdeaaGreatDoor
open Go.RowKit Go.Maps Go.Shelf

end Go.Proofs.YtpoadjnhmdbdeaaGreatDoor
