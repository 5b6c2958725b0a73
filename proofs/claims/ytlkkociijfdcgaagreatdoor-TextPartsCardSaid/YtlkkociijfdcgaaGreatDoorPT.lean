/-
  The law on the parts of a divided word, TextParts, answers true for all founts, rules, words and places (its card, tied).
  Conditions: those of the card alone.
-/
import Derived.Test.YtlkkociijfdcgaaGreatDoorPM
import Derived.Test.YtlkkociijfdcgaaGreatDoorPV
import Derived.Test.YtlkkociijfdcgaaGreatDoorPR
import Derived.Test.YtlkkociijfdcgaaGreatDoorCards
import Derived.Test.YtlkkociijfdcgaaGreatDoorTie
import Derived.Deep.DeepHandedRow
import Derived.Test.YtlkkociijfdcgaaGreatDoorPS
namespace Go.Proofs.YtlkkociijfdcgaaGreatDoor.partsLaw
open Go.ChangeShapes Go.WideShapes Go.ChangeAt Go.RowKit

theorem own : ownKnob Tryz.prog.godebug = none := by kernel_rfl
theorem laidOut : laidOutB Tryz.prog = true := by kernel_rfl
theorem readable : ∀ t ∈ [59, 24, 104], Tryz.prog.readableRec t = true ∧ t < Tryz.prog.types.size := by
  intro t ht
  simp only [List.mem_cons, List.not_mem_nil, or_false] at ht
  rcases ht with rfl | rfl | rfl
  · exact ⟨by kernel_rfl, of_decide_eq_true (by kernel_rfl)⟩
  · exact ⟨by kernel_rfl, of_decide_eq_true (by kernel_rfl)⟩
  · exact ⟨by kernel_rfl, of_decide_eq_true (by kernel_rfl)⟩

set_option maxRecDepth 100000 in
theorem contract (H : Type) (enc : TypeId × Value → H) (W : World) (base : Nat) (args : Array Value) (ds gs : List (DataW H)) (before : List MemPlace)
    (hval : ∀ (j : Nat) t v, Tryz.f13.params[j]? = some t → args[j]? = some v → Value.okWide Tryz.prog W .any base t v)
    (hW : DataW.Whole enc Tryz.prog Tryz.f13.params.toList Rows.textPartsSpec.vars false W args.toList ds gs before) (hL : laidMetH Tryz.prog Rows.textPartsRow.laid W) :
    Calls Tryz.prog 13 args W fun e W' => ∃ v, e = .returned v ∧ Rows.textPartsSpec.post enc Tryz.prog Tryz.f13 false true false false W args v W' := by
  have hW' := hW
  obtain ⟨p, q, hA0, hV, rfl, hfz, hnd⟩ := hW
  have hA : DataW.TrodAll enc Tryz.prog W 0 (fun _ => true) true Tryz.f13.params.toList args.toList ds p := hA0
  have hAk := hA
  rw [Tryz.params13] at hA hval
  obtain ⟨v0, vs0, d0, ds0, p0, q0, hargs, rfl, rfl, h0, r0⟩ := trodAll_cons hA
  obtain ⟨v1, vs1, d1, ds1, p1, q1, rfl, rfl, rfl, h1, r1⟩ := trodAll_cons r0
  obtain ⟨v2, vs2, d2, ds2, p2, q2, rfl, rfl, rfl, h2, r2⟩ := trodAll_cons r1
  obtain ⟨rfl, rfl, rfl⟩ := trodAll_nil r2
  obtain rfl : args = #[v0, v1, v2] := by cases args; simp_all
  obtain ⟨rfl, rfl⟩ := trodVars_none hV
  have hlt : ∀ x ∈ p0 ++ (p1 ++ (p2 ++ [])), x.block < W.heap.size := fun x hx => hW'.lt x (by simpa using hx)
  have hT : TabOk W := by
    obtain ⟨ps, hl, _⟩ : laidMet Tryz.prog Rows.textPartsRow.laid W := hL
    exact tab_of_vars hl (by simp [Rows.textPartsRow])
  obtain ⟨f0, a0, c0, rfl, hfc0, hok0, hso0⟩ := open_fount (hval 0 59 v0 rfl rfl) h0
  have hca0 := fount_nil (hval 0 59 _ rfl rfl) h0 rfl
  obtain ⟨r11, rfl, hr1, hc1⟩ := open_rules (hval 1 24 v1 rfl rfl) h1
  obtain ⟨s2, x2, rfl, hs2⟩ := open_place (hval 2 104 v2 rfl rfl) h2
  refine (parts_walk f0 a0 c0 r11 s2 x2 W ⟨⟨hok0, hso0, hT⟩, hfc0, hca0⟩ hr1 hT hc1 hs2).mono fun e W' ⟨he, hb⟩ => ?_
  subst he
  exact ⟨_, rfl, ⟨_, _, _, [], _, [], hW', trodAll_mk1 (shut_bool Tryz.underlying4 _), args_again laidOut hb (by rw [Tryz.params13]; exact readable) hAk hlt, rfl, hb.frame _, fun h => by cases h⟩⟩

def args0 : Array Value := #[.agg #[.string ⟨#[]⟩, .int .i64 0, .slice none 0 0], .agg #[.slice none 0 0, .slice none 0 0, .slice none 0 0, .int .i64 0, .int .i64 0], .agg #[.string ⟨#[]⟩, .int .i64 0]]
theorem laid_met (os : Os) : laidMet Tryz.prog Rows.textPartsRow.laid ((textWorld os).forCall (fun _ _ => 0) ⟨#[], args0, []⟩).memory :=
  tw_met os _
theorem reads (os : Os) {H : Type} (enc : TypeId × Value → H) : ∃ places, DataW.whole enc Tryz.prog ((textWorld os).forCall (fun _ _ => 0) ⟨#[], args0, []⟩).memory Tryz.f13.params.toList Rows.textPartsSpec.vars false args0.toList 8 = some ([.agg [.lit (.string []), .lit (.int .i64 0), .nil], .agg [.nil, .nil, .nil, .lit (.int .i64 0), .lit (.int .i64 0)], .agg [.lit (.string []), .lit (.int .i64 0)]], [], places) :=
  ⟨[], by kernel_rfl⟩

set_option maxRecDepth 100000 in
theorem lifted (os : Os) (started : os.Started) (H : Type) (enc : TypeId × Value → H) (F : Stop.Interp) :
    ReturnsInHanded {} Tryz.checked os 13 .any ((OpenSpec.ofChange Rows.textPartsSpec).preRow enc Tryz.prog Tryz.f13 Rows.textPartsRow.domain false Rows.textPartsRow.laid) (((OpenSpec.ofChange Rows.textPartsSpec).at F).post enc Tryz.prog Tryz.f13 false true false false) := by
  obtain ⟨places, hx⟩ := reads os enc
  refine returnsInHanded_of_row (C := Tryz.checked) (s := OpenSpec.ofChange Rows.textPartsSpec) own started (by kernel_rfl) Tryz.func13
    (witness_zip (enc := enc) (C := Tryz.checked) false (textWorld os) args0 (World.laidAll_os _ _ _) (tw_vars os _) (tw_rest os _) (by kernel_rfl)
      (OpenSpec.preRow_of_cond 8 hx (by kernel_rfl) (fun k hk => by cases hk) (by kernel_rfl) (laid_met os))) ?_
  intro W base args ds gs before hval hW _ _ _ hL _ _
  exact contract H enc W base args ds gs before hval hW hL

theorem said : Rows.TextPartsSaid :=
  OpenClaim.holds_of_cond 13 Tryz.f13 rfl rfl rfl rfl rfl rfl rfl ⟨rfl, rfl, rfl, rfl, rfl⟩ rfl rfl rfl rfl rfl (by kernel_rfl) Tryz.func13 parts_facts
    (of_decide_eq_true (by kernel_rfl)) (by unfold Func.isWrapper; first | (rw [if_pos (by decide +kernel)]; kernel_rfl) | (rw [if_neg (by decide +kernel)]; exact ⟨rfl, rfl⟩))
    (fun os started H enc _ F => by rw [OpenClaim.pre_eq_preRow]; exact lifted os started H enc F)

theorem plain (f : FuncId) (fn : Func) (hf : Tryz.pinned.checked.prog.funcNamed "tympan/tympanlaw02.TextParts" = some f) (hfn : Tryz.pinned.checked.prog.funcs[f]? = some fn) :
    true = Tryz.pinned.checked.prog.looks [] ∧ ∀ (j : Nat) t, fn.params[j]? = some t → Tryz.pinned.checked.prog.wantsStandIn t = false := by
  obtain rfl : f = 13 := Option.some.inj ((show Tryz.prog.funcNamed "tympan/tympanlaw02.TextParts" = some 13 by kernel_rfl).symm.trans hf) |>.symm
  obtain rfl : fn = Tryz.f13 := (Option.some.inj (Tryz.func13.symm.trans hfn)).symm
  refine ⟨by kernel_rfl, fun j t ht => ?_⟩
  rw [Tryz.params13] at ht
  have hm : t = 59 ∨ t = 24 ∨ t = 104 := by simpa using Array.mem_of_getElem? ht
  rcases hm with rfl | rfl | rfl
  · exact (show Tryz.prog.wantsStandIn 59 = false by kernel_rfl)
  · exact (show Tryz.prog.wantsStandIn 24 = false by kernel_rfl)
  · exact (show Tryz.prog.wantsStandIn 104 = false by kernel_rfl)

/-- The card. -/
theorem card : Rows.TextPartsCardSaid :=
  Claim7.holds_tied_plain_at .later [] _ _ _ _ said (fun _ h => by cases h) (by kernel_rfl) (fun _ h => by cases h) textParts_row_tie rfl ⟨rfl, rfl⟩ (by kernel_rfl) rfl plain (by kernel_rfl)
end Go.Proofs.YtlkkociijfdcgaaGreatDoor.partsLaw
