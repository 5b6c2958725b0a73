/-
  Equal founts; the law on texts: its walk.
-/
import Derived.Test.YtebndgepmjonoaaDoorP12
import Derived.Test.YtebndgepmjonoaaDoorZR
namespace Go.Proofs.YtebndgepmjonoaaDoor
open Go.RowKit Go.Maps

set_option maxRecDepth 100000 in
set_option maxHeartbeats 2000000 in
theorem founts_same (f : FT) (a : Option Addr) (c : Nat) (a' : Option Addr) (c' : Nat) (w : World) (hF : SortsAt w a f.sorts) (hF' : SortsAt w a' f.sorts) (hn : f.sorts.length ≤ 1000) :
    Calls Tryd.prog 27 #[.agg #[.string f.name, .int .i64 f.body, .slice a f.sorts.length c], .agg #[.string f.name, .int .i64 f.body, .slice a' f.sorts.length c']] w fun e w' => e = .returned (.bool true) ∧ Below w.heap.size w w' := by
  have hB := ((Below.refl w.heap.size w).alloc (Nat.le_refl _) (boxF f a c)).alloc (by simp) (boxF f a' c')
  have hS := hF.below hB
  have hS' := hF'.below hB
  unfold boxF at hB hS hS'
  go_enter Tryd.func27, Tryd.ntmps27
  go_wp2_with fail
  go_loopw [5] (fun v wr => ∃ k : Nat, k ≤ f.sorts.length ∧ v = .int .i64 k ∧ Drew ((w.alloc (.cells #[.string f.name, .int .i64 f.body, .slice a f.sorts.length c] 24)).alloc (.cells #[.string f.name, .int .i64 f.body, .slice a' f.sorts.length c'] 24)) wr) (fun v _ => f.sorts.length - (intOf v).toNat)
  case atStart => exact ⟨0, Nat.zero_le _, rfl, Drew.refl _⟩
  case round =>
    obtain ⟨k, hk, rfl, hD⟩ := hrel
    have q2 := hD.cell (p := ⟨w.heap.size, 2, none⟩) (v := .slice a f.sorts.length c) (by simp)
    have p2 := hD.cell (p := ⟨w.heap.size + 1, 2, none⟩) (v := .slice a' f.sorts.length c') (by simp [World.cell?_alloc_at])
    by_cases hlt : k < f.sorts.length
    · obtain ⟨ad, ea, had, s0, s1, s2, s3⟩ := (hD.sorts hS).at_ hlt
      obtain ⟨ad', ea', had', s0', s1', s2', s3'⟩ := (hD.sorts hS').at_ hlt
      have hkl : (k : Int) < (f.sorts.length : Int) := by omega
      rw [ea] at q2
      rw [ea'] at p2
      generalize f.sorts.getD k noTS = y at s0 s1 s2 s3 s0' s1' s2' s3'
      go_wp2_with fail
      go_quiet (fail)
      go_wp2
      go_roundw
      case rel => exact ⟨k + 1, by omega, by go_num, hD.drewN _⟩
      case measure => simp [intOf]; omega
    · have hlow := hD.below hB
      go_wp2
      go_ret
      exact ⟨rfl, hlow⟩

theorem printR_bad {f : FT} (h : (checkF f).2 ≠ 0) : printR f = (⟨#[]⟩, (checkF f).2) := by unfold printR; rw [if_pos h]
theorem printR_ok {f : FT} (h : (checkF f).2 = 0) : printR f = (printF f, 0) := by unfold printR; rw [if_neg (by simp [h])]
set_option maxRecDepth 100000 in
set_option maxHeartbeats 8000000 in
theorem texts_walk (f : FT) (a : Option Addr) (c : Nat) (w : World) (hF : FAt w a f) (hL : LawOk w) (hc : f.sorts.length ≤ c) (ha : a = none → c = 0) :
    Calls Tryd.prog 5 #[.agg #[.string f.name, .int .i64 f.body, .slice a f.sorts.length c]] w fun e w' => e = .returned (.bool true) ∧ Below w.heap.size w w' := by
  have hB0 : Below (w.heap.size + 1) (w.alloc (boxF f a c)) (w.alloc (boxF f a c)) := Below.refl _ _
  have E0 := Env.of hF hB0
  go_enter Tryd.func5, Tryd.ntmps5
  go_wp2_with fail
  refine (awake_any _ (hL.below E0.low)).mono ?_
  rintro e w2 ⟨rfl, hb2⟩
  have E2 := E0.step hF hb2
  have q0 := E2.c0; have q1 := E2.c1; have q2 := E2.c2
  clear hb2 E0
  go_wp2_with fail
  refine (few_any f a c _ E2.fa.ok E2.fa.at_).mono ?_
  rintro e w3 ⟨rfl, hb3⟩
  have E3 := E2.step hF hb3
  clear q0 q1 q2 hb3 E2
  have q0 := E3.c0; have q1 := E3.c1; have q2 := E3.c2
  cases hfew : fewB f
  · have hlow := E3.low
    go_wp2
    go_ret
    exact ⟨rfl, hlow⟩
  have hf123 := few_le hfew
  clear hfew
  go_wp2_with fail
  refine (copyFount_any f a c _ E3.fa (by omega) ha).mono ?_
  rintro e w4 ⟨gf4, cf4, rfl, hcf4, fc4, hb4⟩
  have E4 := E3.step hF hb4
  have L4 := hL.below E4.low
  clear hb4 E3 q0 q1 q2
  have q0 := E4.c0; have q1 := E4.c1; have q2 := E4.c2
  go_wp2_with fail
  refine (Print_any f _ cf4 _ fc4 L4.pow L4.words).mono ?_
  rintro e w5 ⟨rfl, hb5⟩
  have E5 := E4.step hF hb5
  clear hb5 E4 q0 q1 q2 fc4 L4
  have q0 := E5.c0; have q1 := E5.c1; have q2 := E5.c2
  go_wp2_with fail
  refine (refErr_any f a c _ hc E5.fa.ok E5.fa.at_).mono ?_
  rintro e w6 ⟨rfl, hb6⟩
  have E6 := E5.step hF hb6
  clear hb6 E5 q0 q1 q2
  have q0 := E6.c0; have q1 := E6.c1; have q2 := E6.c2
  by_cases hck : (checkF f).2 = 0
  · rw [printR_ok hck, hck]
    have L6 := hL.below E6.low
    have HP := Lib.hid (Parse_any f _ hck L6.tab L6.words)
    have HR := Lib.hid (fun w (hF : FAt w a f) => refPrint_any f a c w hF hck)
    clear hck L6
    go_wp2_with fail
    refine HP.out.mono ?_
    rintro e w7 ⟨g7, cap7, rfl, hs7, hb7⟩
    have E7 := E6.step hF hb7
    clear hb7 E6 q0 q1 q2
    have E8 := (E7.alloc hF (.cells #[.string f.name, .int .i64 f.body, .slice (some ⟨g7, 0, none⟩) f.sorts.length cap7] 24)).alloc hF (.cells #[.int .i64 0, .int .i64 0] 52)
    have hba : Below w7.heap.size w7 ((w7.alloc (.cells #[.string f.name, .int .i64 f.body, .slice (some ⟨g7, 0, none⟩) f.sorts.length cap7] 24)).alloc (.cells #[.int .i64 0, .int .i64 0] 52)) := ((Below.refl _ _).alloc (Nat.le_refl _) _).alloc (by simp) _
    have hs8 := hs7.below hba
    have q0 := E7.c0; have q1 := E7.c1; have q2 := E7.c2; have hlt7 := E7.lt
    go_wp2_with fail
    refine (HR.out _ E8.fa).mono ?_
    rintro e w9 ⟨rfl, hb9⟩
    have E9 := E8.step hF hb9
    have hs9 := hs8.below hb9
    have m0 : w9.cell? ⟨w7.heap.size, 0, none⟩ = some (.string f.name) := (hb9.cell (p := ⟨w7.heap.size, 0, none⟩) (by simp; omega)).trans (by simp)
    have m1 : w9.cell? ⟨w7.heap.size, 1, none⟩ = some (.int .i64 f.body) := (hb9.cell (p := ⟨w7.heap.size, 1, none⟩) (by simp; omega)).trans (by simp)
    have m2 : w9.cell? ⟨w7.heap.size, 2, none⟩ = some (.slice (some ⟨g7, 0, none⟩) f.sorts.length cap7) := (hb9.cell (p := ⟨w7.heap.size, 2, none⟩) (by simp; omega)).trans (by simp)
    have m3 : w9.cell? ⟨w7.heap.size + 1, 0, none⟩ = some (.int .i64 0) := (hb9.cell (p := ⟨w7.heap.size + 1, 0, none⟩) (by simp)).trans (by simp)
    have m4 : w9.cell? ⟨w7.heap.size + 1, 1, none⟩ = some (.int .i64 0) := (hb9.cell (p := ⟨w7.heap.size + 1, 1, none⟩) (by simp)).trans (by simp)
    have hst : ((printF f).toList == (printF f).toList) = true := by simp
    clear hb9 E8 q0 q1 q2 hs8 hba hs7 E7
    have q0 := E9.c0; have q1 := E9.c1; have q2 := E9.c2
    go_wp2_with fail
    refine (founts_same f _ cap7 a c _ hs9 E9.fa.at_ (by omega)).mono ?_
    rintro e w10 ⟨rfl, hb10⟩
    have hlow := (E9.step hF hb10).low
    clear hb10 E9
    go_wp2
    go_ret
    exact ⟨rfl, hlow⟩
  · have hpb := printR_bad hck
    have hcb : ((checkF f).2 != 0) = true := by simpa using hck
    rw [hpb]
    have hlow := E6.low
    clear hck hpb
    go_wp2
    go_ret
    exact ⟨rfl, hlow⟩
end Go.Proofs.YtebndgepmjonoaaDoor
