/-
  The setter for a word.
-/
import Derived.Test.YtomblajlpanmjaaGreatDoorVW
namespace Go.Proofs.YtomblajlpanmjaaGreatDoor
open Go.RowKit Go.Maps

def setErrW (f : FT) (r : RU) (s : ByteArray) : Int := if setErr f r ≠ 0 then setErr f r else wordErr s
def ForPost (w : World) (f : FT) (a : Option Addr) (c : Nat) (r : RU) (s : ByteArray) (e : Ending) (w' : World) : Prop :=
  Below w.heap.size w w' ∧ if setErrW f r s = 0 then ∃ g b1 b2, e = .returned (.tuple #[setV f a c r g b1 b2, .int .i64 0]) ∧ BookAt w' w.heap.size r g b1 b2
    else ∃ v, e = .returned (.tuple #[v, .int .i64 (setErrW f r s)]) ∧ SomeSet v

set_option maxRecDepth 100000 in
set_option maxHeartbeats 800000 in
theorem setterFor_any (f : FT) (a : Option Addr) (c : Nat) (r : RU) (s : ByteArray) (w : World) (hF : FAt w a f) (hR : r.at_ w) (hs : s.size ≤ maxLen) :
    Calls Tryz.prog 89 #[.agg #[.string f.name, .int .i64 f.body, .slice a f.sorts.length c], .agg r.cells, .string s] w (ForPost w f a c r s) := by
  have L0 : SRel w f a c r (((w.alloc (boxF f a c)).alloc (boxR r)).alloc zeroSt) := SRel.start
  have HC := Lib.hid (setterOf_any f a c r (((w.alloc (boxF f a c)).alloc (boxR r)).alloc zeroSt) ⟨hF.ok, hF.at_.below L0.low, hF.tab.below L0.low hF.tab.1⟩ (hR.below L0.low))
  unfold boxF boxR RU.cells zeroSt at HC
  unfold RU.cells
  clear hR hF
  cases e1 : setErr f r == 0
  · have n1 : setErr f r ≠ 0 := by simpa using e1
    have HE := Lib.hid (show setErrW f r s = setErr f r by unfold setErrW; rw [if_pos n1])
    have N1 := Lib.hid n1
    clear n1
    go_enter Tryz.func89, Tryz.ntmps89
    go_wp2_with fail
    refine HC.out.mono ?_
    rintro e w1 ⟨hb1, hp1⟩
    rw [if_neg N1.out] at hp1
    unfold noSet at hp1
    subst hp1
    have L1 := (L0.step hb1).step ((Below.refl _ _).alloc (Nat.le_refl _) (.cells #[.string ⟨#[]⟩, .int .i64 0, .slice none 0 0, .slice none 0 0, .map none, .map none, .int .i64 0, .int .i64 0] 150))
    have hlo := (L0.step hb1).lo
    clear hb1
    have z0 := L1.z0; have z1 := L1.z1; have z2 := L1.z2; have z3 := L1.z3; have z4 := L1.z4; have z5 := L1.z5; have z6 := L1.z6; have z7 := L1.z7
    have hfz := L1.fz
    go_wp2
    refine bodyPost_ret (v := .tuple #[noSet, .int .i64 (setErr f r)]) ?_ rfl ?_
    · simp [results, Tryz.results89, go_sem, noSet, z0, z1, z2, z3, z4, z5, z6, z7]
    · exact ⟨((((((((L1.low).setCell (Nat.le_add_right _ 2) _).setCell (Nat.le_add_right _ 2) _).setCell (Nat.le_add_right _ 2) _).setCell (Nat.le_add_right _ 2) _).setCell (Nat.le_add_right _ 2) _).setCell (Nat.le_add_right _ 2) _).setCell (Nat.le_add_right _ 2) _).setCell (Nat.le_add_right _ 2) _, by rw [HE.out, if_neg N1.out]; exact ⟨_, rfl, _, _, _, _, _, _, _, _, _, _, _, _, rfl⟩⟩
  · have n1 : setErr f r = 0 := by simpa using e1
    have HE := Lib.hid (show setErrW f r s = wordErr s by unfold setErrW; rw [if_neg (by rw [n1]; simp)])
    have N1 := Lib.hid n1
    clear n1
    go_enter Tryz.func89, Tryz.ntmps89
    go_wp2_with fail
    refine HC.out.mono ?_
    rintro e w1 ⟨hb1, hp1⟩
    rw [if_pos N1.out] at hp1
    obtain ⟨g, b1, b2, rfl, hbk⟩ := hp1
    unfold setV
    have L2 := (L0.step hb1).step ((Below.refl _ _).alloc (Nat.le_refl _) (.cells #[.string f.name, .int .i64 f.body, .slice a f.sorts.length c, .slice (some ⟨g, 0, none⟩) r.ps.l.length r.ps.l.length, .map (some b1), .map (some b2), .int .i64 r.left, .int .i64 r.right] 150))
    have hlo := (L0.step hb1).lo
    have hlo0 := L0.lo
    unfold boxF boxR RU.cells zeroSt at hlo0
    have hbk2 := hbk.alloc (.cells #[.string f.name, .int .i64 f.body, .slice a f.sorts.length c, .slice (some ⟨g, 0, none⟩) r.ps.l.length r.ps.l.length, .map (some b1), .map (some b2), .int .i64 r.left, .int .i64 r.right] 150)
    have b0 : (w1.alloc (.cells #[.string f.name, .int .i64 f.body, .slice a f.sorts.length c, .slice (some ⟨g, 0, none⟩) r.ps.l.length r.ps.l.length, .map (some b1), .map (some b2), .int .i64 r.left, .int .i64 r.right] 150)).heap[w1.heap.size]? = some (.cells #[.string f.name, .int .i64 f.body, .slice a f.sorts.length c, .slice (some ⟨g, 0, none⟩) r.ps.l.length r.ps.l.length, .map (some b1), .map (some b2), .int .i64 r.left, .int .i64 r.right] 150 (0, 0)) := heap_alloc_new _ _
    have k0 := cell_of_row _ w1.heap.size 0 _ _ (0, 0) b0
    have k1 := cell_of_row _ w1.heap.size 1 _ _ (0, 0) b0
    have k2 := cell_of_row _ w1.heap.size 2 _ _ (0, 0) b0
    have k3 := cell_of_row _ w1.heap.size 3 _ _ (0, 0) b0
    have k4 := cell_of_row _ w1.heap.size 4 _ _ (0, 0) b0
    have k5 := cell_of_row _ w1.heap.size 5 _ _ (0, 0) b0
    have k6 := cell_of_row _ w1.heap.size 6 _ _ (0, 0) b0
    have k7 := cell_of_row _ w1.heap.size 7 _ _ (0, 0) b0
    clear hb1 b0 hbk
    have z0 := L2.z0; have z1 := L2.z1; have z2 := L2.z2; have z3 := L2.z3; have z4 := L2.z4; have z5 := L2.z5; have z6 := L2.z6; have z7 := L2.z7
    have hfz := L2.fz
    have HBK := Lib.hid (((((((((((hbk2.set (p := ⟨w.heap.size + 2, 0, none⟩) (by show w.heap.size + 2 < _; omega) (.string f.name)).set (p := ⟨w.heap.size + 2, 1, none⟩) (by show w.heap.size + 2 < _; omega) (.int .i64 f.body)).set (p := ⟨w.heap.size + 2, 2, none⟩) (by show w.heap.size + 2 < _; omega) (.slice a f.sorts.length c)).set (p := ⟨w.heap.size + 2, 3, none⟩) (by show w.heap.size + 2 < _; omega) (.slice (some ⟨g, 0, none⟩) r.ps.l.length r.ps.l.length)).set (p := ⟨w.heap.size + 2, 4, none⟩) (by show w.heap.size + 2 < _; omega) (.map (some b1))).set (p := ⟨w.heap.size + 2, 5, none⟩) (by show w.heap.size + 2 < _; omega) (.map (some b2))).set (p := ⟨w.heap.size + 2, 6, none⟩) (by show w.heap.size + 2 < _; omega) (.int .i64 r.left)).set (p := ⟨w.heap.size + 2, 7, none⟩) (by show w.heap.size + 2 < _; omega) (.int .i64 r.right))).mono (B := w.heap.size) (by omega)).drew)
    have HB := Lib.hid (((((((((L2.low.setCell (p := ⟨w.heap.size + 2, 0, none⟩) (Nat.le_add_right _ 2) (.string f.name)).setCell (p := ⟨w.heap.size + 2, 1, none⟩) (Nat.le_add_right _ 2) (.int .i64 f.body)).setCell (p := ⟨w.heap.size + 2, 2, none⟩) (Nat.le_add_right _ 2) (.slice a f.sorts.length c)).setCell (p := ⟨w.heap.size + 2, 3, none⟩) (Nat.le_add_right _ 2) (.slice (some ⟨g, 0, none⟩) r.ps.l.length r.ps.l.length)).setCell (p := ⟨w.heap.size + 2, 4, none⟩) (Nat.le_add_right _ 2) (.map (some b1))).setCell (p := ⟨w.heap.size + 2, 5, none⟩) (Nat.le_add_right _ 2) (.map (some b2))).setCell (p := ⟨w.heap.size + 2, 6, none⟩) (Nat.le_add_right _ 2) (.int .i64 r.left)).setCell (p := ⟨w.heap.size + 2, 7, none⟩) (Nat.le_add_right _ 2) (.int .i64 r.right)).drew)
    clear hbk2
    have hne1 : ¬ w1.heap.size = w.heap.size + 2 := by omega
    have hne2 : ¬ w.heap.size + 2 = w1.heap.size := by omega
    go_wp2_with fail
    go_region_held3 (fun w' => w'.cell? ⟨w1.heap.size, 0, none⟩ = some (.string f.name) ∧ w'.cell? ⟨w1.heap.size, 1, none⟩ = some (.int .i64 f.body) ∧ w'.cell? ⟨w1.heap.size, 2, none⟩ = some (.slice a f.sorts.length c) ∧ w'.cell? ⟨w1.heap.size, 3, none⟩ = some (.slice (some ⟨g, 0, none⟩) r.ps.l.length r.ps.l.length) ∧ w'.cell? ⟨w1.heap.size, 4, none⟩ = some (.map (some b1)) ∧ w'.cell? ⟨w1.heap.size, 5, none⟩ = some (.map (some b2)) ∧ w'.cell? ⟨w1.heap.size, 6, none⟩ = some (.int .i64 r.left) ∧ w'.cell? ⟨w1.heap.size, 7, none⟩ = some (.int .i64 r.right)) (go_keep)
      (first | (go_at_call 111; refine (errorOfWord_any s _ hs).mono ?_; rintro e w' ⟨rfl, rfl⟩))
    go_wp2
    refine bodyPost_ret (v := .tuple #[setV f a c r g b1 b2, .int .i64 (wordErr s)]) ?_ rfl ?_
    · simp [results, Tryz.results89, go_sem, setV, z0, z1, z2, z3, z4, z5, z6, z7]
    · refine ⟨HB.out, ?_⟩
      rw [HE.out]
      by_cases hw : wordErr s = 0
      · rw [if_pos hw, hw]; exact ⟨g, b1, b2, rfl, HBK.out⟩
      · rw [if_neg hw]; exact ⟨_, rfl, _, _, _, _, _, _, _, _, _, _, _, _, rfl⟩
end Go.Proofs.YtomblajlpanmjaaGreatDoor
