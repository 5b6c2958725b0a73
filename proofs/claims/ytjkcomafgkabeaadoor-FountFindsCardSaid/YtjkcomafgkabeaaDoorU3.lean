/-
  Parts of the em of a fount; sorts found by name and by text.
-/
import Derived.Test.YtjkcomafgkabeaaDoorU2
namespace Go.Proofs.YtjkcomafgkabeaaDoor
open Go.RowKit Go.Maps

theorem emOf_same {b : Int} {E : Nat} (h : 1 ≤ b ∧ b ≤ 144) (hE : b * 60 = (E : Int)) (w : World) :
    Calls Tryd.prog 69 #[.int .i64 b] w fun e w' => e = .returned (.int .i64 E) ∧ w' = w := by
  rw [← hE]; exact emOf_any b h w
theorem hasSort_as {f : FT} {a : Option Addr} {c : Nat} {x : Int} {w : World} {bl : Bool} (h : (!idxBad f.sorts.length x) = bl) :
    Calls Tryd.prog 77 #[.agg #[.string f.name, .int .i64 f.body, .slice a f.sorts.length c], .int .i64 x] w fun e w' => e = .returned (.bool bl) ∧ Below w.heap.size w w' := by
  subst h; exact hasSort_any f a c x w

def PartPost (w : World) (f : FT) (x : Int) (e : Ending) (w' : World) : Prop :=
  e = .returned (.tuple #[.agg #[.int .i64 (partR f x).1, .int .i64 (partR f x).2.1], .int .i64 (partR f x).2.2]) ∧ Below w.heap.size w w'
theorem part_of {w w' : World} {f : FT} {x : Int} {v1 v2 v3 : Int} (h : partR f x = (v1, v2, v3)) (hb : Below w.heap.size w w') :
    PartPost w f x (.returned (.tuple #[.agg #[.int .i64 v1, .int .i64 v2], .int .i64 v3])) w' := by
  refine ⟨?_, hb⟩; rw [h]

set_option maxRecDepth 100000 in
set_option maxHeartbeats 2000000 in
theorem PartOf_any (f : FT) (a : Option Addr) (c : Nat) (x : Int) (w : World) (hF : FAt w a f) :
    Calls Tryd.prog 26 #[.agg #[.string f.name, .int .i64 f.body, .slice a f.sorts.length c], .int .i64 x] w (PartPost w f x) := by
  have hB0 : Below (w.heap.size + 1) (w.alloc (boxF f a c)) (w.alloc (boxF f a c)) := Below.refl _ _
  have E0 := (Env.of hF hB0).alloc hF zFrac
  by_cases h0 : (checkF f).2 = 0
  case neg =>
    have HE := Lib.hid (show partR f x = (0, 0, (checkF f).2) by unfold partR; rw [if_pos h0])
    have heb : ((checkF f).2 != 0) = true := by simpa using h0
    clear h0
    go_enter Tryd.func26, Tryd.ntmps26
    go_wp2_with fail
    refine (checkFount_any f a c _ E0.fa.ok (by exact E0.fa.at_) (by exact E0.fa.tab)).mono ?_
    rintro e w1 ⟨rfl, hb⟩
    have E1 := E0.step hF hb
    have z0 : w1.cell? ⟨w.heap.size + 1, 0, none⟩ = some (.int .i64 0) := (hb.cell (p := ⟨w.heap.size + 1, 0, none⟩) (by simp)).trans (by simp)
    have z1 : w1.cell? ⟨w.heap.size + 1, 1, none⟩ = some (.int .i64 0) := (hb.cell (p := ⟨w.heap.size + 1, 1, none⟩) (by simp)).trans (by simp)
    have y0 : w1.frozen? ⟨w.heap.size + 1, 0, none⟩ = false := ((bcell hb).2 _ _ (by simp)).trans (by simp)
    have y1 : w1.frozen? ⟨w.heap.size + 1, 1, none⟩ = false := ((bcell hb).2 _ _ (by simp)).trans (by simp)
    have hlow := E1.low
    clear hb E0
    go_wp2
    refine bodyPost_ret (v := .tuple #[.agg #[.int .i64 0, .int .i64 0], .int .i64 (checkF f).2]) (by simp [results, Tryd.results26, go_sem, z0, z1]) rfl (part_of HE.out ?_)
    exact (hlow.setCell (p := ⟨w.heap.size + 1, 0, none⟩) (by simp) _).setCell (p := ⟨w.heap.size + 1, 1, none⟩) (by simp) _
  obtain ⟨_, hR, _⟩ := checkF_right h0
  obtain ⟨hb1, hb2, _, hn120, hall⟩ := hR
  cases hx : idxBad f.sorts.length x
  case true =>
    have HE := Lib.hid (show partR f x = (0, 0, 6) by unfold partR; rw [if_neg (by simp [h0]), if_pos hx])
    have hxn : (!idxBad f.sorts.length x) = false := by rw [hx]; rfl
    clear hx
    go_enter Tryd.func26, Tryd.ntmps26
    go_wp2_with fail
    refine (checkFount_any f a c _ E0.fa.ok (by exact E0.fa.at_) (by exact E0.fa.tab)).mono ?_
    rintro e w1 ⟨rfl, hb⟩
    have E1 := E0.step hF hb
    have z0 : w1.cell? ⟨w.heap.size + 1, 0, none⟩ = some (.int .i64 0) := (hb.cell (p := ⟨w.heap.size + 1, 0, none⟩) (by simp)).trans (by simp)
    have z1 : w1.cell? ⟨w.heap.size + 1, 1, none⟩ = some (.int .i64 0) := (hb.cell (p := ⟨w.heap.size + 1, 1, none⟩) (by simp)).trans (by simp)
    have y0 : w1.frozen? ⟨w.heap.size + 1, 0, none⟩ = false := ((bcell hb).2 _ _ (by simp)).trans (by simp)
    have y1 : w1.frozen? ⟨w.heap.size + 1, 1, none⟩ = false := ((bcell hb).2 _ _ (by simp)).trans (by simp)
    have hsz1 : w.heap.size + 1 < w1.heap.size := by have := hb.size; simp at this; omega
    rw [h0]
    clear hb E0 h0
    have q0 := E1.c0; have q1 := E1.c1; have q2 := E1.c2
    go_wp2_with fail
    refine (hasSort_as (bl := false) hxn).mono ?_
    rintro e w2 ⟨rfl, hb2⟩
    have E2 := E1.step hF hb2
    have z0 := (hb2.cell (p := ⟨w.heap.size + 1, 0, none⟩) hsz1).trans z0
    have z1 := (hb2.cell (p := ⟨w.heap.size + 1, 1, none⟩) hsz1).trans z1
    have y0 := ((bcell hb2).2 (w.heap.size + 1) 0 hsz1).trans y0
    have y1 := ((bcell hb2).2 (w.heap.size + 1) 1 hsz1).trans y1
    have hlow := E2.low
    clear hb2 E1 q0 q1 q2
    go_wp2
    refine bodyPost_ret (v := .tuple #[.agg #[.int .i64 0, .int .i64 0], .int .i64 6]) (by simp [results, Tryd.results26, go_sem, z0, z1]) rfl (part_of HE.out ?_)
    exact (hlow.setCell (p := ⟨w.heap.size + 1, 0, none⟩) (by simp) _).setCell (p := ⟨w.heap.size + 1, 1, none⟩) (by simp) _
  have hxn : (!idxBad f.sorts.length x) = true := by rw [hx]; rfl
  have hxr := of_decide_eq_false (show decide _ = false from hx)
  obtain ⟨k, rfl⟩ : ∃ k : Nat, x = (k : Int) := ⟨x.toNat, by omega⟩
  have hk : k < f.sorts.length := by omega
  obtain ⟨hw1, hw2, _⟩ := hall k hk
  obtain ⟨W, eW⟩ : ∃ W : Nat, (f.sorts.getD k noTS).width = (W : Int) := ⟨(f.sorts.getD k noTS).width.toNat, by omega⟩
  obtain ⟨E, eE⟩ : ∃ E : Nat, f.body * 60 = (E : Int) := ⟨(f.body * 60).toNat, by omega⟩
  have hE1 : 1 ≤ E := by omega
  have hE2 : E ≤ 1000000000 := by omega
  have hW2 : W ≤ 1000000000 := by omega
  have hg : 0 < Nat.gcd W E := Nat.gcd_pos_of_pos_right _ hE1
  obtain ⟨g, eg⟩ : ∃ g, g = Nat.gcd W E := ⟨_, rfl⟩
  have hgl : g ≤ E := by rw [eg]; exact Nat.gcd_le_right _ hE1
  rw [← eg] at hg
  obtain ⟨mg, emg⟩ : ∃ mg, mg = W / g := ⟨_, rfl⟩
  obtain ⟨ng, eng⟩ : ∃ ng, ng = E / g := ⟨_, rfl⟩
  have HE := Lib.hid (show partR f (k : Int) = ((mg : Int), (ng : Int), 0) by
    unfold partR partW emN
    rw [if_neg (by simp [h0]), if_neg (by simp [hx]), Int.toNat_natCast, eW, eE, Int.toNat_natCast, Int.toNat_natCast, ← eg, emg, eng])
  have hm0 : (0 : Int) ≤ W := by omega
  have hn0 : (0 : Int) ≤ E := by omega
  have hg1 : (1 : Int) ≤ g := by omega
  have hgz : ((g : Int) == 0) = false := by simp; omega
  have hdm : mg ≤ 1000000000 := by rw [emg]; exact Nat.le_trans (Nat.div_le_self _ _) hW2
  have hdn : ng ≤ 1000000000 := by rw [eng]; exact Nat.le_trans (Nat.div_le_self _ _) hE2
  have hwa : IntKind.i64.wrap ((W : Int) / (g : Int)) = (mg : Int) := by
    rw [show (W : Int) / (g : Int) = (mg : Int) by rw [emg]; omega]; exact IntWalk.i64_in _ (by omega)
  have hwb : IntKind.i64.wrap ((E : Int) / (g : Int)) = (ng : Int) := by
    rw [show (E : Int) / (g : Int) = (ng : Int) by rw [eng]; omega]; exact IntWalk.i64_in _ (by omega)
  have HG := Lib.hid eg.symm
  have HEE := Lib.hid eE
  have HEW := Lib.hid eW
  have hkl : (k : Int) < (f.sorts.length : Int) := by omega
  clear emg eng eg eE eW hx hxr hw1 hw2 hall
  go_enter Tryd.func26, Tryd.ntmps26
  go_wp2_with fail
  refine (checkFount_any f a c _ E0.fa.ok (by exact E0.fa.at_) (by exact E0.fa.tab)).mono ?_
  rintro e w1 ⟨rfl, hb⟩
  have E1 := E0.step hF hb
  have z0 : w1.cell? ⟨w.heap.size + 1, 0, none⟩ = some (.int .i64 0) := (hb.cell (p := ⟨w.heap.size + 1, 0, none⟩) (by simp)).trans (by simp)
  have z1 : w1.cell? ⟨w.heap.size + 1, 1, none⟩ = some (.int .i64 0) := (hb.cell (p := ⟨w.heap.size + 1, 1, none⟩) (by simp)).trans (by simp)
  have y0 : w1.frozen? ⟨w.heap.size + 1, 0, none⟩ = false := ((bcell hb).2 _ _ (by simp)).trans (by simp)
  have y1 : w1.frozen? ⟨w.heap.size + 1, 1, none⟩ = false := ((bcell hb).2 _ _ (by simp)).trans (by simp)
  have hsz1 : w.heap.size + 1 < w1.heap.size := by have := hb.size; simp at this; omega
  rw [h0]
  clear hb E0 h0
  have q0 := E1.c0; have q1 := E1.c1; have q2 := E1.c2
  go_wp2_with fail
  refine (hasSort_as (bl := true) hxn).mono ?_
  rintro e w2 ⟨rfl, hbb⟩
  have E2 := E1.step hF hbb
  have z0 := (hbb.cell (p := ⟨w.heap.size + 1, 0, none⟩) hsz1).trans z0
  have z1 := (hbb.cell (p := ⟨w.heap.size + 1, 1, none⟩) hsz1).trans z1
  have y0 := ((bcell hbb).2 (w.heap.size + 1) 0 hsz1).trans y0
  have y1 := ((bcell hbb).2 (w.heap.size + 1) 1 hsz1).trans y1
  have hlow := E2.low
  clear hbb E1 q0 q1 q2
  have q1 := E2.c1; have q2 := E2.c2
  obtain ⟨ad, rfl, hadl, s0, s1, s2, s3⟩ := E2.fa.at_.at_ hk
  rw [HEW.out] at s3
  clear s0 s1 s2
  go_wp2_with fail
  go_quiet ((go_at_call 69; exact Calls.quiet_of_same (emOf_same ⟨hb1, hb2⟩ HEE.out _)))
  go_wp2_with fail
  refine (divisorOf_any W E hW2 hE2 _).mono ?_
  rintro e w3 ⟨rfl, hD⟩
  rw [HG.out]
  have hlow3 := hD.below (below_drewN hlow _)
  have z0 := hD.cell (show (w2.drewN _).cell? _ = _ from z0)
  have z1 := hD.cell (show (w2.drewN _).cell? _ = _ from z1)
  have y0 := hD.frozen (show (w2.drewN _).frozen? _ = _ from y0)
  have y1 := hD.frozen (show (w2.drewN _).frozen? _ = _ from y1)
  clear hD q1 q2 s3 hlow
  go_wp2_with fail
  go_region
  go_wp2
  refine bodyPost_ret (v := .tuple #[.agg #[.int .i64 mg, .int .i64 ng], .int .i64 0]) (by simp [results, Tryd.results26, go_sem, z0, z1]) rfl (part_of HE.out ?_)
  exact ((hlow3.setCell (p := ⟨w.heap.size + 1, 0, none⟩) (by simp) _).setCell (p := ⟨w.heap.size + 1, 1, none⟩) (by simp) _).drew
end Go.Proofs.YtjkcomafgkabeaaDoor
