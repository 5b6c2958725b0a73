/-
  TopPressBound returns true for every input: the bound of the schedule's causes is its lateness, no order of the runs is earlier, no order makes ready in less than the least.
  Conditions: none but those of the statement's row.
-/
import Derived.Test.YtpplcbpnojggcaaCW
import Derived.Test.YtpplcbpnojggcaaEL
import Derived.Test.YtpplcbpnojggcaaRows
import Derived.Deep.DeepHandedRow
namespace Go.Proofs.Ytpplcbpnojggcaa.topPressBound
open Go.ChangeShapes Go.WideShapes Go.ChangeAt Go.RowKit

theorem own : ownKnob Try.prog.godebug = none := by kernel_rfl
theorem laidOut : laidOutB Try.prog = true := by kernel_rfl
theorem readable : ∀ t ∈ [133, 75, 75], Try.prog.readableRec t = true ∧ t < Try.prog.types.size := by
  intro t ht
  simp only [List.mem_cons, List.not_mem_nil, or_false] at ht
  rcases ht with rfl | rfl | rfl
  · exact ⟨by kernel_rfl, of_decide_eq_true (by kernel_rfl)⟩
  · exact ⟨by kernel_rfl, of_decide_eq_true (by kernel_rfl)⟩
  · exact ⟨by kernel_rfl, of_decide_eq_true (by kernel_rfl)⟩

set_option maxRecDepth 100000 in
theorem contract (H : Type) (enc : TypeId × Value → H) (W : World) (base : Nat) (args : Array Value) (ds gs : List (DataW H)) (before : List MemPlace)
    (hval : ∀ (j : Nat) t v, Try.f16.params[j]? = some t → args[j]? = some v → Value.okWide Try.prog W .any base t v)
    (hW : DataW.Whole enc Try.prog Try.f16.params.toList Rows.topPressBoundSpec.vars false W args.toList ds gs before) :
    Calls Try.prog 16 args W fun e W' => ∃ v, e = .returned v ∧ Rows.topPressBoundSpec.post enc Try.prog Try.f16 false true false false W args v W' := by
  have hW' := hW
  obtain ⟨p, q, hA0, hV, rfl, hfz, hnd⟩ := hW
  have hA : DataW.TrodAll enc Try.prog W 0 (fun _ => true) true Try.f16.params.toList args.toList ds p := hA0
  have hAk := hA
  rw [Try.params16] at hA hval
  obtain ⟨v0, vs0, d0, ds0, p0, q0, hargs, rfl, rfl, h0, r0⟩ := trodAll_cons hA
  obtain ⟨v1, vs1, d1, ds1, p1, q1, rfl, rfl, rfl, h1, r1⟩ := trodAll_cons r0
  obtain ⟨v2, vs2, d2, ds2, p2, q2, rfl, rfl, rfl, h2, r2⟩ := trodAll_cons r1
  obtain ⟨rfl, rfl, rfl⟩ := trodAll_nil r2
  obtain rfl : args = #[v0, v1, v2] := by cases args; simp_all
  obtain ⟨rfl, rfl⟩ := trodVars_none hV
  have hlt : ∀ x ∈ p0 ++ (p1 ++ (p2 ++ [])), x.block < W.heap.size := fun x hx => hW'.lt x (by simpa using hx)
  obtain ⟨aa0, ll0, cc0, rfl⟩ := okWide_slice Try.underlying133 (hval 0 133 v0 rfl rfl)
  obtain ⟨n0, hf0⟩ := h0
  obtain ⟨a0, c0, l0, hv0, hlc0, hcm0, hr0, hn0, hi0⟩ := open_runs (v := .slice aa0 ll0 cc0) (by simpa [Value.cells] using hf0)
  obtain ⟨aa1, ll1, cc1, rfl⟩ := okWide_slice Try.underlying75 (hval 1 75 v1 rfl rfl)
  obtain ⟨n1, hf1⟩ := h1
  obtain ⟨a1, c1, l1, hv1, hlc1, hcm1, hr1, hn1, hi1⟩ := open_nums (v := .slice aa1 ll1 cc1) (by simpa [Value.cells] using hf1)
  obtain ⟨aa2, ll2, cc2, rfl⟩ := okWide_slice Try.underlying75 (hval 2 75 v2 rfl rfl)
  obtain ⟨n2, hf2⟩ := h2
  obtain ⟨a2, c2, l2, hv2, hlc2, hcm2, hr2, hn2, hi2⟩ := open_nums (v := .slice aa2 ll2 cc2) (by simpa [Value.cells] using hf2)
  rw [hv0, hv1, hv2] at hAk hW' ⊢
  refine (top_walk a0 l0 c0 a1 l1 c1 a2 l2 c2 W hr0 hlc0 hcm0 hi0 hr1 hlc1 hcm1 hr2 hlc2 hcm2 hn2).mono fun e W' ⟨he, hb⟩ => ?_
  subst he
  exact ⟨_, rfl, ⟨_, _, _, [], _, [], hW', trodAll_mk1 (shut_bool Try.underlying4 _), args_again laidOut hb (by rw [Try.params16]; exact readable) hAk hlt, rfl, hb.frame _, fun h => by cases h⟩⟩

def args0 : Array Value := #[.slice none 0 0, .slice none 0 0, .slice none 0 0]
theorem reads (os : Os) {H : Type} (enc : TypeId × Value → H) : ∃ places, DataW.whole enc Try.prog ((World.holding Try.prog os ⟨#[], #[], []⟩).forCall (fun _ _ => 0) ⟨#[], args0, []⟩).memory Try.f16.params.toList Rows.topPressBoundSpec.vars false args0.toList 8 = some ([.nil, .nil, .nil], [], places) :=
  ⟨[], by kernel_rfl⟩
set_option maxRecDepth 100000 in
theorem lifted (os : Os) (started : os.Started) (H : Type) (enc : TypeId × Value → H) (F : Stop.Interp) :
    ReturnsInHanded {} Try.checked os 16 .any ((OpenSpec.ofChange Rows.topPressBoundSpec).preRow enc Try.prog Try.f16 Rows.topPressBoundRow.domain false Rows.topPressBoundRow.laid) (((OpenSpec.ofChange Rows.topPressBoundSpec).at F).post enc Try.prog Try.f16 false true false false) := by
  obtain ⟨places, hx⟩ := reads os enc
  refine returnsInHanded_of_row (C := Try.checked) (s := OpenSpec.ofChange Rows.topPressBoundSpec) own started (by kernel_rfl) Try.func16
    (witness_row_at (enc := enc) (C := Try.checked) false (World.holding Try.prog os ⟨#[], #[], []⟩) args0 rfl (by kernel_rfl) (by kernel_rfl) (by kernel_rfl)
      (OpenSpec.preRow_of_cond 8 hx (by kernel_rfl) (fun k hk => by cases hk) (by kernel_rfl) (laidMet_nil _ _))) ?_
  intro W base args ds gs before hval hW _ _ _ _ _ _
  exact contract H enc W base args ds gs before hval hW
/-- The statement. -/
theorem said : Rows.TopPressBoundSaid :=
  OpenClaim.holds_of_cond 16 Try.f16 rfl rfl rfl rfl rfl rfl rfl ⟨rfl, rfl, rfl, rfl, rfl⟩ rfl rfl rfl rfl rfl (by kernel_rfl) Try.func16 (by kernel_rfl)
    (of_decide_eq_true (by kernel_rfl)) (by unfold Func.isWrapper; first | (rw [if_pos (by decide +kernel)]; kernel_rfl) | (rw [if_neg (by decide +kernel)]; exact ⟨rfl, rfl⟩))
    (fun os started H enc _ F => by rw [OpenClaim.pre_eq_preRow]; exact lifted os started H enc F)
end Go.Proofs.Ytpplcbpnojggcaa.topPressBound
