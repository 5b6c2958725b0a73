/-
  Package press: the next ready job, the most urgent one, the end of a slice.
-/
import Derived.Test.YtdgegebplebeoaaGreatDoorEN
import Derived.Test.YtdgegebplebeoaaGreatDoorEE
namespace Go.Proofs.YtdgegebplebeoaaGreatDoor
open Go.RowKit

def nextP (m : Int) (acc : Int) (x : Job) : Int := if m < x.ready then min acc x.ready else acc
def nextI (m : Int) (L : List Job) : Int := L.foldl (nextP m) 9223372036854775807
theorem fold_step {α β : Type} {f : β → α → β} {b : β} {L : List α} {k : Nat} (hk : k < L.length) : (L.take (k + 1)).foldl f b = f ((L.take k).foldl f b) L[k] := by
  rw [List.take_succ_eq_append_getElem hk, List.foldl_append]; rfl
theorem fold_all {α β : Type} {f : β → α → β} {b : β} {L : List α} {k : Nat} (hk : ¬ k < L.length) : (L.take k).foldl f b = L.foldl f b := by
  rw [List.take_of_length_le (by omega)]
set_option maxRecDepth 100000 in
set_option maxHeartbeats 2000000 in
theorem nextReady_any (L : List Job) (a : Option Addr) (n c : Nat) (m : Int) (w : World) (hn : n = L.length) (hr : RowsG 4 jobV w a L) (hl : L.length ≤ 1000000) :
    Calls Tryz.prog 72 #[.slice a n c, .int .i64 m] w (CheckPost (nextI m L) w) := by
  subst hn
  obtain ⟨MX, hMX⟩ : ∃ MX : Int, MX = 9223372036854775807 := ⟨_, rfl⟩
  have HE := Lib.hid (show nextI m L = L.foldl (nextP m) MX by unfold nextI; rw [hMX])
  have HMX := Lib.hid hMX
  clear hMX
  go_enter Tryz.func72, Tryz.ntmps72
  go_wp2_with fail
  go_loopw [5, 10] (fun v i wr => ∃ (k : Nat) (q : Int), k ≤ L.length ∧ i = .int .i64 k ∧ v = .int .i64 q ∧ Hid (q = (L.take k).foldl (nextP m) MX) ∧ Below w.heap.size w wr) (fun _ i _ => L.length - (intOf i).toNat)
  case atStart => exact ⟨0, _, Nat.zero_le _, rfl, rfl, Lib.hid HMX.out.symm, Below.refl _ _⟩
  case round =>
    obtain ⟨k, q, hk, rfl, rfl, HQ, hB⟩ := hrel
    by_cases hlt : k < L.length
    · obtain ⟨ad, rfl, had, s0, s1, s2, s3⟩ := (hr.below hB).job hlt
      have HST := Lib.hid (fold_step (f := nextP m) (b := MX) hlt)
      obtain ⟨x, ex⟩ : ∃ x, x = L[k] := ⟨_, rfl⟩
      rw [← ex] at s0 s1 s2 s3 HST
      rw [← HQ.out] at HST
      clear ex
      have hB1 := hB.alloc hB.size (.cells #[.string x.name, .int .i64 x.ready, .int .i64 x.mins, .int .i64 x.due] 99)
      by_cases h1 : m < x.ready
      · have HX := Lib.hid (show (if x.ready < q then x.ready else q) = (L.take (k + 1)).foldl (nextP m) MX by rw [HST.out]; unfold nextP; rw [if_pos h1]; split <;> omega)
        go_wp2_with fail
        go_roundw
        case rel => exact ⟨k + 1, _, by omega, by go_num, rfl, HX, hB1⟩
        case measure => simp [intOf]; omega
      · have HX := Lib.hid (show q = (L.take (k + 1)).foldl (nextP m) MX by rw [HST.out]; unfold nextP; rw [if_neg h1])
        go_wp2_with fail
        go_roundw
        case rel => exact ⟨k + 1, _, by omega, by go_num, rfl, HX, hB1⟩
        case measure => simp [intOf]; omega
    · have HX := Lib.hid (show q = nextI m L by rw [HQ.out, fold_all hlt, HE.out])
      go_wp2_with fail
      go_ret
      exact ⟨ret_int HX.out, hB⟩
def noJob : Job := ⟨⟨#[]⟩, 0, 0, 0⟩
def urgP (L : List Job) (F : List Int) (m : Int) (st : Nat × Bool) (k : Nat) : Nat × Bool :=
  if 0 < F.getD k 0 ∧ (L.getD k noJob).ready ≤ m ∧ (st.2 = false ∨ (L.getD k noJob).due < (L.getD st.1 noJob).due) then (k, true) else st
def urgTo (L : List Job) (F : List Int) (m : Int) : Nat → Nat × Bool
  | 0 => (0, false)
  | k + 1 => urgP L F m (urgTo L F m k) k
def urgI (L : List Job) (F : List Int) (m : Int) : Nat × Bool := urgTo L F m L.length
theorem urg_lt (L : List Job) (F : List Int) (m : Int) : ∀ k, k ≤ L.length → 0 < L.length → (urgTo L F m k).1 < L.length
  | 0, _, h => h
  | k + 1, hk, h => by
    have ih := urg_lt L F m k (by omega) h
    rw [urgTo]
    unfold urgP
    split
    · exact hk
    · exact ih
theorem job_getD {L : List Job} {k : Nat} (h : k < L.length) : L.getD k noJob = L[k] := by rw [List.getD_eq_getElem?_getD, List.getElem?_eq_getElem h]; rfl
def UrgPost (u : Nat × Bool) (w : World) (e : Ending) (w' : World) : Prop := e = .returned (.tuple #[.int .i64 u.1, .bool u.2]) ∧ Below w.heap.size w w'
set_option maxRecDepth 100000 in
set_option maxHeartbeats 4000000 in
theorem mostUrgent_any (L : List Job) (F : List Int) (a : Option Addr) (n c : Nat) (b : Nat) (n2 c2 : Nat) (m : Int) (w : World) (hn : n = L.length) (hn2 : n2 = L.length) (hF : F.length = L.length) (hr : RowsG 4 jobV w a L) (hl : L.length ≤ 1000000) (hl0 : 0 < L.length) (hb : IBox w b F) :
    Calls Tryz.prog 73 #[.slice a n c, .slice (some ⟨b, 0, none⟩) n2 c2, .int .i64 m] w (UrgPost (urgI L F m) w) := by
  subst hn hn2
  have HF := Lib.hid hF; clear hF
  go_enter Tryz.func73, Tryz.ntmps73
  go_wp2_with fail
  go_loopw [8, 9, 14] (fun x y i wr => ∃ (k u : Nat) (t : Bool), k ≤ L.length ∧ i = .int .i64 k ∧ x = .int .i64 u ∧ y = .bool t ∧ u < L.length ∧ Hid ((u, t) = urgTo L F m k) ∧ Below w.heap.size w wr) (fun _ _ i _ => L.length - (intOf i).toNat)
  case atStart => exact ⟨0, 0, false, Nat.zero_le _, rfl, rfl, rfl, hl0, Lib.hid rfl, Below.refl _ _⟩
  case round =>
    obtain ⟨k, u, t, hk, rfl, rfl, rfl, hu, HU, hB⟩ := hrel
    by_cases hlt : k < L.length
    · have hru := (hr.below hB).job hu
      obtain ⟨ad, rfl, had, s0, s1, s2, s3⟩ := (hr.below hB).job hlt
      obtain ⟨ad', ead, hau, -, -, -, t3⟩ := hru
      obtain rfl : ad = ad' := Option.some.inj ead
      clear ead
      have hk2 : k < F.length := by rw [HF.out]; exact hlt
      have f0 := (show IBox wr b F from IBoxBelow hb hB hb.lt).cell hk2
      rw [← getD_eqI (d := 0) hk2] at f0
      have HST := Lib.hid (show urgTo L F m (k + 1) = urgP L F m (u, t) k by rw [urgTo, ← HU.out])
      have HP := Lib.hid (show urgP L F m (u, t) k = if 0 < F.getD k 0 ∧ L[k].ready ≤ m ∧ (t = false ∨ L[k].due < L[u].due) then (k, true) else (u, t) by unfold urgP; rw [job_getD hlt, job_getD hu])
      obtain ⟨x, ex⟩ : ∃ x, x = L[k] := ⟨_, rfl⟩
      obtain ⟨z, ez⟩ : ∃ z, z = L[u] := ⟨_, rfl⟩
      obtain ⟨f, ef⟩ : ∃ f, f = F.getD k 0 := ⟨_, rfl⟩
      rw [← ex] at s0 s1 s2 s3 HP
      rw [← ez] at t3 HP
      rw [← ef] at f0 HP
      rw [HP.out] at HST
      have hbl : b < wr.heap.size := Nat.lt_of_lt_of_le hb.lt hB.size
      have hB1 := hB.alloc hB.size (.cells #[.string x.name, .int .i64 x.ready, .int .i64 x.mins, .int .i64 x.due] 99)
      clear ex ez ef HP
      by_cases h1 : 0 < f
      · by_cases h2 : x.ready ≤ m
        · cases t
          · have HX := Lib.hid (show (k, true) = urgTo L F m (k + 1) by rw [HST.out, if_pos (by exact ⟨h1, h2, Or.inl rfl⟩)])
            go_wp2_with fail
            go_quiet (fail)
            go_wp2
            go_roundw
            case rel => exact ⟨k + 1, k, true, by omega, by go_num, rfl, rfl, hlt, HX, below_drewN hB1 _⟩
            case measure => simp [intOf]; omega
          · by_cases h3 : x.due < z.due
            · have HX := Lib.hid (show (k, true) = urgTo L F m (k + 1) by rw [HST.out, if_pos (by exact ⟨h1, h2, Or.inr h3⟩)])
              go_wp2_with fail
              go_quiet (fail)
              go_wp2
              go_roundw
              case rel => exact ⟨k + 1, k, true, by omega, by go_num, rfl, rfl, hlt, HX, below_drewN hB1 _⟩
              case measure => simp [intOf]; omega
            · have HX := Lib.hid (show (u, true) = urgTo L F m (k + 1) by rw [HST.out, if_neg (by rintro ⟨_, _, h⟩; rcases h with h | h; exact absurd h (by decide); exact h3 h)])
              have h3' : decide (x.due < z.due) = false := decide_eq_false h3
              go_wp2_with fail
              go_quiet (fail)
              go_wp2
              go_roundw
              case rel => exact ⟨k + 1, u, true, by omega, by go_num, rfl, rfl, hu, HX, below_drewN hB1 _⟩
              case measure => simp [intOf]; omega
        · have HX := Lib.hid (show (u, t) = urgTo L F m (k + 1) by rw [HST.out, if_neg (by rintro ⟨_, h, _⟩; exact h2 h)])
          have h2' : decide (x.ready ≤ m) = false := decide_eq_false h2
          go_wp2_with fail
          go_quiet (fail)
          go_wp2
          go_roundw
          case rel => exact ⟨k + 1, u, t, by omega, by go_num, rfl, rfl, hu, HX, below_drewN hB1 _⟩
          case measure => simp [intOf]; omega
      · have HX := Lib.hid (show (u, t) = urgTo L F m (k + 1) by rw [HST.out, if_neg (by rintro ⟨h, _⟩; exact h1 h)])
        have h1' : decide (0 < f) = false := decide_eq_false h1
        go_wp2_with fail
        go_quiet (fail)
        go_wp2
        go_roundw
        case rel => exact ⟨k + 1, u, t, by omega, by go_num, rfl, rfl, hu, HX, below_drewN hB1 _⟩
        case measure => simp [intOf]; omega
    · have HX := Lib.hid (show urgI L F m = (u, t) by rw [HU.out]; unfold urgI; congr 1; omega)
      go_wp2_with fail
      go_ret2
      exact ⟨by rw [HX.out]; rfl, hB⟩
def endI (f n : Int) : Int := f + n
set_option maxHeartbeats 1000000 in
theorem endOf_any (j f n : Int) (w : World) (h1 : 0 ≤ f) (h2 : f ≤ 1000000000) (h3 : 0 ≤ n) (h4 : n ≤ 1000000000) :
    Calls Tryz.prog 75 #[.agg #[.int .i64 j, .int .i64 f, .int .i64 n]] w (CheckPost (f + n) w) := by
  have hb := (Below.refl w.heap.size w).alloc (Nat.le_refl _) (.cells #[.int .i64 j, .int .i64 f, .int .i64 n] 134)
  go_enter Tryz.func75, Tryz.ntmps75
  go_wp2_with fail
  go_ret
  exact ⟨rfl, hb⟩
end Go.Proofs.YtdgegebplebeoaaGreatDoor
