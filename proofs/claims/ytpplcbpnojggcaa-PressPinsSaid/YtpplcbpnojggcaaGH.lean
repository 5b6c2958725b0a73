/-
  Package press: pins, the program's side: their errors, the offset of two, whether they agree.
-/
import Derived.Test.YtpplcbpnojggcaaEK
namespace Go.Proofs.Ytpplcbpnojggcaa
open Go.RowKit

structure Pin where
  c0 : Int
  c1 : Int
  r0 : Int
  r1 : Int
  t0 : Int
  t1 : Int
def Pin.l (p : Pin) : List Int := [p.c0, p.c1, p.r0, p.r1, p.t0, p.t1]
theorem pin_l : ∀ x : Pin, x.l.length = 6 := fun _ => rfl
theorem tPin : ElT 6 48 60 70 (.agg #[.int .i64 0, .int .i64 0, .int .i64 0, .int .i64 0, .int .i64 0, .int .i64 0]) := ⟨Try.underlying60, by kernel_rfl, rfl, by decide, by decide⟩
def noPin : Pin := ⟨0, 0, 0, 0, 0, 0⟩
def pl (n : Int) : Bool := inB n (-1000000) 1000000
def rgOk (a b : Int) : Bool := pl a && pl b
/-- The error of a pin. -/
def pinErr (p : Pin) : Int :=
  if rgOk p.c0 p.c1 = false ∨ rgOk p.r0 p.r1 = false ∨ rgOk p.t0 p.t1 = false then 2 else if p.c1 < p.c0 ∨ p.r1 < p.r0 ∨ p.t1 < p.t0 then 9 else 0
def pinsE : List Pin → Int
  | [] => 0
  | p :: L => if pinErr p ≠ 0 then pinErr p else pinsE L
def pinsErr (L : List Pin) : Int := if L.length < 2 then 10 else if 8 < L.length then 8 else pinsE L
theorem pinsE_stop {L : List Pin} {k : Nat} (hk : k < L.length) (h : pinErr L[k] ≠ 0) : pinsE (L.drop k) = pinErr L[k] := by
  rw [List.drop_eq_getElem_cons hk]; unfold pinsE; rw [if_pos h]
theorem pinsE_go {L : List Pin} {k : Nat} (hk : k < L.length) (h : pinErr L[k] = 0) : pinsE (L.drop k) = pinsE (L.drop (k + 1)) := by
  rw [List.drop_eq_getElem_cons hk]
  show (if _ then _ else _) = _
  rw [if_neg (by simp [h])]
theorem pinsE_end {L : List Pin} {k : Nat} (hk : ¬ k < L.length) : pinsE (L.drop k) = 0 := by
  rw [List.drop_of_length_le (by omega)]; rfl
def PinOk (p : Pin) : Prop := (-1000000 ≤ p.c0 ∧ p.c0 ≤ p.c1 ∧ p.c1 ≤ 1000000) ∧ (-1000000 ≤ p.r0 ∧ p.r0 ≤ p.r1 ∧ p.r1 ≤ 1000000) ∧ (-1000000 ≤ p.t0 ∧ p.t0 ≤ p.t1 ∧ p.t1 ≤ 1000000)
theorem pin_ok {p : Pin} (h : pinErr p = 0) : PinOk p := by
  unfold pinErr at h
  split at h
  · cases h
  rename_i h1
  split at h
  · cases h
  rename_i h2
  simp only [not_or, Bool.not_eq_false] at h1
  obtain ⟨h3, h4, h5⟩ := h1
  unfold rgOk pl at h3 h4 h5
  rw [Bool.and_eq_true, inB_iff, inB_iff] at h3 h4 h5
  unfold PinOk
  omega
theorem pins_all {L : List Pin} (h : pinsE L = 0) : ∀ p ∈ L, PinOk p := by
  induction L with
  | nil => intro p hp; cases hp
  | cons q L ih =>
    unfold pinsE at h
    split at h
    · exact absurd h ‹_›
    · rename_i h1
      intro p hp
      rcases List.mem_cons.1 hp with rfl | hp
      · exact pin_ok (by simpa using h1)
      · exact ih h p hp
theorem pins_ok {L : List Pin} (h : pinsErr L = 0) : (2 ≤ L.length ∧ L.length ≤ 8) ∧ ∀ p ∈ L, PinOk p := by
  unfold pinsErr at h
  split at h
  · cases h
  · split at h
    · cases h
    · exact ⟨by omega, pins_all h⟩
set_option maxHeartbeats 400000 in
theorem isPinPlace_any (n : Int) (w : World) :
    Calls Try.prog 137 #[.int .i64 n] w fun e w' => e = .returned (.bool (pl n)) ∧ w = w' := by
  go_enter Try.func137, Try.ntmps137
  go_wp2_with (go_at_call 85; refine (isFrom_any _ _ _ _).mono ?_; rintro e w' ⟨rfl, rfl⟩)
  go_ret
  exact ⟨rfl, rfl⟩
set_option maxHeartbeats 1000000 in
theorem enclosures_any (p : Pin) (w : World) :
    Calls Try.prog 136 #[.agg #[.int .i64 p.c0, .int .i64 p.c1, .int .i64 p.r0, .int .i64 p.r1, .int .i64 p.t0, .int .i64 p.t1]] w (AggPost (.agg #[.int .i64 p.c0, .int .i64 p.c1, .int .i64 p.r0, .int .i64 p.r1, .int .i64 p.t0, .int .i64 p.t1]) w) := by
  go_enter Try.func136, Try.ntmps136
  go_wp2
  refine bodyPost_ret (v := .agg #[.int .i64 p.c0, .int .i64 p.c1, .int .i64 p.r0, .int .i64 p.r1, .int .i64 p.t0, .int .i64 p.t1]) (by simp [results, Try.results136, go_sem]) rfl ⟨rfl, ?_⟩
  (repeat (first | exact Below.refl _ _ | refine Below.setCell ?_ (by simp) _ | refine Below.alloc ?_ (by simp) _))
set_option maxHeartbeats 1000000 in
theorem numbers_any (p : Pin) (w : World) :
    Calls Try.prog 104 #[.agg #[.int .i64 p.c0, .int .i64 p.c1, .int .i64 p.r0, .int .i64 p.r1, .int .i64 p.t0, .int .i64 p.t1]] w (AggPost (.agg #[.int .i64 p.c0, .int .i64 p.c1, .int .i64 p.r0, .int .i64 p.r1, .int .i64 p.t0, .int .i64 p.t1]) w) := by
  go_enter Try.func104, Try.ntmps104
  go_wp2
  refine bodyPost_ret (v := .agg #[.int .i64 p.c0, .int .i64 p.c1, .int .i64 p.r0, .int .i64 p.r1, .int .i64 p.t0, .int .i64 p.t1]) (by simp [results, Try.results104, go_sem]) rfl ⟨rfl, ?_⟩
  (repeat (first | exact Below.refl _ _ | refine Below.setCell ?_ (by simp) _ | refine Below.alloc ?_ (by simp) _))
theorem info_range : (Try.prog.info? 62).map (fun i => (i.zero, i.size, i.bytes)) = some (some (.agg #[.int .i64 0, .int .i64 0]), 2, 16) := by kernel_rfl
theorem sizeRange (W : World) : (sizeOf 62).run Try.prog W = .ok 2 W := by
  obtain ⟨i0, hi0, hz0, hz1, hz2⟩ := info_parts info_range
  simp [sizeOf, typeInfo, hi0, hz1]
theorem rg_at (a b c d e f : Int) (W : World) : 
    (Instr.index 63 (.agg #[.int .i64 a, .int .i64 b, .int .i64 c, .int .i64 d, .int .i64 e, .int .i64 f]) (.int .i64 0)).run Try.prog W = .ok (.agg #[.int .i64 a, .int .i64 b]) W ∧
    (Instr.index 63 (.agg #[.int .i64 a, .int .i64 b, .int .i64 c, .int .i64 d, .int .i64 e, .int .i64 f]) (.int .i64 1)).run Try.prog W = .ok (.agg #[.int .i64 c, .int .i64 d]) W ∧
    (Instr.index 63 (.agg #[.int .i64 a, .int .i64 b, .int .i64 c, .int .i64 d, .int .i64 e, .int .i64 f]) (.int .i64 2)).run Try.prog W = .ok (.agg #[.int .i64 e, .int .i64 f]) W := by
  have hu := fun W : World => run_underlying (w := W) Try.underlying63
  have hr := fun W : World => run_underlying (w := W) Try.underlying62
  refine ⟨?_, ?_, ?_⟩ <;> simp [Instr.index, hu, hr, asIntOf, part, isAgg, go_sem]
end Go.Proofs.Ytpplcbpnojggcaa
