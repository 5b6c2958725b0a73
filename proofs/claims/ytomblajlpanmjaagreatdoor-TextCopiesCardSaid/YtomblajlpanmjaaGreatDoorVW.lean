/-
  The book for rules and a word; the setter for a fount, rules and a word.
-/
import Derived.Test.YtomblajlpanmjaaGreatDoorV7
import Derived.StillTailTactics
namespace Go.Proofs.YtomblajlpanmjaaGreatDoor
open Go.RowKit Go.Maps

def ruleErr (r : RU) (s : ByteArray) : Int := if (checkR r).2 ≠ 0 then (checkR r).2 else wordErr s
def SomeBook (v : Value) : Prop := ∃ a n c m1 m2 l rr, v = .agg #[.slice a n c, .map m1, .map m2, .int .i64 l, .int .i64 rr]
def BookPost (w : World) (r : RU) (s : ByteArray) (e : Ending) (w' : World) : Prop :=
  Below w.heap.size w w' ∧ if ruleErr r s = 0 then ∃ g b1 b2, e = .returned (.tuple #[bookV r g b1 b2, .int .i64 0]) ∧ BookAt w' w.heap.size r g b1 b2
    else ∃ v, e = .returned (.tuple #[v, .int .i64 (ruleErr r s)]) ∧ SomeBook v

set_option maxRecDepth 100000 in
set_option maxHeartbeats 400000 in
theorem bookFor_any (r : RU) (s : ByteArray) (w : World) (hR : r.at_ w) (hs : s.size ≤ maxLen) :
    Calls Tryz.prog 85 #[.agg r.cells, .string s] w (BookPost w r s) := by
  have L0 : LRel w r ((w.alloc (boxR r)).alloc zeroBk) := LRel.start
  have HL := Lib.hid (learnR_any r ((w.alloc (boxR r)).alloc zeroBk) (hR.below L0.low))
  unfold RU.cells boxR zeroBk at HL
  unfold RU.cells
  clear hR
  cases e1 : (checkR r).2 == 0
  · have n1 : (checkR r).2 ≠ 0 := by simpa using e1
    have HE := Lib.hid (show ruleErr r s = (checkR r).2 by unfold ruleErr; rw [if_pos n1])
    have N1 := Lib.hid n1
    clear n1
    go_enter Tryz.func85, Tryz.ntmps85
    go_wp2_with fail
    refine HL.out.mono ?_
    rintro e w1 ⟨hb1, hp1⟩
    rw [if_neg N1.out] at hp1
    unfold noBook at hp1
    subst hp1
    have L1 := L0.step hb1
    have L2 := L1.step ((Below.refl _ _).alloc (Nat.le_refl _) (.cells #[.slice none 0 0, .map none, .map none, .int .i64 0, .int .i64 0] 109))
    have z0 := L2.z0; have z1 := L2.z1; have z2 := L2.z2; have z3 := L2.z3; have z4 := L2.z4
    have hfz := L2.fz
    have hlo := L1.lo
    clear hb1
    go_wp2
    refine bodyPost_ret (v := .tuple #[noBook, .int .i64 (checkR r).2]) ?_ rfl ?_
    · simp [results, Tryz.results85, go_sem, noBook, z0, z1, z2, z3, z4]
    · exact ⟨((((L2.low.setCell (by simp) _).setCell (by simp) _).setCell (by simp) _).setCell (by simp) _).setCell (by simp) _, by rw [HE.out, if_neg N1.out]; exact ⟨_, rfl, _, _, _, _, _, _, _, rfl⟩⟩
  · have n1 : (checkR r).2 = 0 := by simpa using e1
    have HE := Lib.hid (show ruleErr r s = wordErr s by unfold ruleErr; rw [if_neg (by rw [n1]; simp)])
    have N1 := Lib.hid n1
    clear n1
    go_enter Tryz.func85, Tryz.ntmps85
    go_wp2_with fail
    refine HL.out.mono ?_
    rintro e w1 ⟨hb1, hp1⟩
    rw [if_pos N1.out] at hp1
    obtain ⟨g, b1, b2, rfl, hbk⟩ := hp1
    unfold bookV
    have L1 := L0.step hb1
    have L2 := L1.step ((Below.refl _ _).alloc (Nat.le_refl _) (.cells #[.slice (some ⟨g, 0, none⟩) r.ps.l.length r.ps.l.length, .map (some b1), .map (some b2), .int .i64 r.left, .int .i64 r.right] 109))
    have z0 := L2.z0; have z1 := L2.z1; have z2 := L2.z2; have z3 := L2.z3; have z4 := L2.z4
    have hfz := L2.fz
    have hlo := L1.lo
    clear hb1
    have b0 : (w1.alloc (.cells #[.slice (some ⟨g, 0, none⟩) r.ps.l.length r.ps.l.length, .map (some b1), .map (some b2), .int .i64 r.left, .int .i64 r.right] 109)).heap[w1.heap.size]? = some (.cells #[.slice (some ⟨g, 0, none⟩) r.ps.l.length r.ps.l.length, .map (some b1), .map (some b2), .int .i64 r.left, .int .i64 r.right] 109 (0, 0)) := heap_alloc_new _ _
    have k0 := cell_of_row _ w1.heap.size 0 _ _ (0, 0) b0
    have k1 := cell_of_row _ w1.heap.size 1 _ _ (0, 0) b0
    have k2 := cell_of_row _ w1.heap.size 2 _ _ (0, 0) b0
    have k3 := cell_of_row _ w1.heap.size 3 _ _ (0, 0) b0
    have k4 := cell_of_row _ w1.heap.size 4 _ _ (0, 0) b0
    clear b0
    go_wp2_with fail
    have hbk2 := hbk.alloc (.cells #[.slice (some ⟨g, 0, none⟩) r.ps.l.length r.ps.l.length, .map (some b1), .map (some b2), .int .i64 r.left, .int .i64 r.right] 109)
    have hne1 : ¬ w1.heap.size = w.heap.size + 1 := by omega
    have hne2 : ¬ w.heap.size + 1 = w1.heap.size := by omega
    go_region_held3 (fun w' => w'.cell? ⟨w1.heap.size, 0, none⟩ = some (.slice (some ⟨g, 0, none⟩) r.ps.l.length r.ps.l.length) ∧ w'.cell? ⟨w1.heap.size, 1, none⟩ = some (.map (some b1)) ∧ w'.cell? ⟨w1.heap.size, 2, none⟩ = some (.map (some b2)) ∧ w'.cell? ⟨w1.heap.size, 3, none⟩ = some (.int .i64 r.left) ∧ w'.cell? ⟨w1.heap.size, 4, none⟩ = some (.int .i64 r.right)) (go_keep)
      (first | (go_at_call 111; refine (errorOfWord_any s _ hs).mono ?_; rintro e w' ⟨rfl, rfl⟩))
    have HBK := Lib.hid (((((((hbk2.set (p := ⟨w.heap.size + 1, 0, none⟩) (by simp) (.slice (some ⟨g, 0, none⟩) r.ps.l.length r.ps.l.length)).set (p := ⟨w.heap.size + 1, 1, none⟩) (by simp) (.map (some b1))).set (p := ⟨w.heap.size + 1, 2, none⟩) (by simp) (.map (some b2))).set (p := ⟨w.heap.size + 1, 3, none⟩) (by simp) (.int .i64 r.left)).set (p := ⟨w.heap.size + 1, 4, none⟩) (by simp) (.int .i64 r.right)).mono (B := w.heap.size) (by simp; omega)).drew)
    have HB := Lib.hid ((((((L2.low.setCell (p := ⟨w.heap.size + 1, 0, none⟩) (by simp) (.slice (some ⟨g, 0, none⟩) r.ps.l.length r.ps.l.length)).setCell (p := ⟨w.heap.size + 1, 1, none⟩) (by simp) (.map (some b1))).setCell (p := ⟨w.heap.size + 1, 2, none⟩) (by simp) (.map (some b2))).setCell (p := ⟨w.heap.size + 1, 3, none⟩) (by simp) (.int .i64 r.left)).setCell (p := ⟨w.heap.size + 1, 4, none⟩) (by simp) (.int .i64 r.right)).drew)
    clear hbk hbk2
    go_wp2
    refine bodyPost_ret (v := .tuple #[bookV r g b1 b2, .int .i64 (wordErr s)]) ?_ rfl ?_
    · simp [results, Tryz.results85, go_sem, bookV, z0, z1, z2, z3, z4]
    · refine ⟨HB.out, ?_⟩
      rw [HE.out]
      by_cases hw : wordErr s = 0
      · rw [if_pos hw, hw]; exact ⟨g, b1, b2, rfl, HBK.out⟩
      · rw [if_neg hw]; exact ⟨_, rfl, _, _, _, _, _, _, _, rfl⟩
end Go.Proofs.YtomblajlpanmjaaGreatDoor
/-
  The setter for a fount and rules, and for a word.
-/
namespace Go.Proofs.YtomblajlpanmjaaGreatDoor
open Go.RowKit Go.Maps

def setErr (f : FT) (r : RU) : Int := if (checkF f).2 ≠ 0 then (checkF f).2 else (checkR r).2
def setV (f : FT) (a : Option Addr) (c : Nat) (r : RU) (g b1 b2 : Nat) : Value := .agg #[.string f.name, .int .i64 f.body, .slice a f.sorts.length c, .slice (some ⟨g, 0, none⟩) r.ps.l.length r.ps.l.length, .map (some b1), .map (some b2), .int .i64 r.left, .int .i64 r.right]
def noSet : Value := .agg #[.string ⟨#[]⟩, .int .i64 0, .slice none 0 0, .slice none 0 0, .map none, .map none, .int .i64 0, .int .i64 0]
def SomeSet (v : Value) : Prop := ∃ nm bd a n c a' n' c' m1 m2 l rr, v = .agg #[.string nm, .int .i64 bd, .slice a n c, .slice a' n' c', .map m1, .map m2, .int .i64 l, .int .i64 rr]
def SetterPost (w : World) (f : FT) (a : Option Addr) (c : Nat) (r : RU) (e : Ending) (w' : World) : Prop :=
  Below w.heap.size w w' ∧ if setErr f r = 0 then ∃ g b1 b2, e = .returned (.tuple #[setV f a c r g b1 b2, .int .i64 0]) ∧ BookAt w' w.heap.size r g b1 b2
    else e = .returned (.tuple #[noSet, .int .i64 (setErr f r)])
def zeroSt : Obj := .cells #[.string ⟨#[]⟩, .int .i64 0, .slice none 0 0, .slice none 0 0, .map none, .map none, .int .i64 0, .int .i64 0] 150
/-- The three boxes of the call, as they lie while it goes on. -/
structure SRel (w : World) (f : FT) (a : Option Addr) (c : Nat) (r : RU) (wr : World) : Prop where
  bel : Below (w.heap.size + 3) (((w.alloc (boxF f a c)).alloc (boxR r)).alloc zeroSt) wr
section
variable {w wr wr' : World} {f : FT} {a : Option Addr} {c : Nat} {r : RU}
theorem SRel.b0 (h : SRel w f a c r wr) : wr.heap[w.heap.size]? = some (.cells #[.string f.name, .int .i64 f.body, .slice a f.sorts.length c] 59 (0, 0)) := by
  rw [h.bel.block w.heap.size (by omega), heap_alloc_old _ _ (by simp; omega), heap_alloc_old _ _ (by simp)]; exact heap_alloc_new w _
theorem SRel.b1 (h : SRel w f a c r wr) : wr.heap[w.heap.size + 1]? = some (.cells #[.slice r.ps.a r.ps.l.length r.ps.c, .slice r.es.a r.es.l.length r.es.c, .slice r.bs.a r.bs.l.length r.bs.c, .int .i64 r.left, .int .i64 r.right] 24 (0, 0)) := by
  rw [h.bel.block (w.heap.size + 1) (by omega), heap_alloc_old _ _ (by simp)]
  have := heap_alloc_new (w.alloc (boxF f a c)) (boxR r)
  rwa [show (w.alloc (boxF f a c)).heap.size = w.heap.size + 1 by simp] at this
theorem SRel.b2 (h : SRel w f a c r wr) : wr.heap[w.heap.size + 2]? = some (.cells #[.string ⟨#[]⟩, .int .i64 0, .slice none 0 0, .slice none 0 0, .map none, .map none, .int .i64 0, .int .i64 0] 150 (0, 0)) := by
  rw [h.bel.block (w.heap.size + 2) (by omega)]
  have := heap_alloc_new ((w.alloc (boxF f a c)).alloc (boxR r)) zeroSt
  rwa [show ((w.alloc (boxF f a c)).alloc (boxR r)).heap.size = w.heap.size + 2 by simp] at this
theorem SRel.fz (h : SRel w f a c r wr) (j : Nat) : wr.frozen? ⟨w.heap.size + 2, j, none⟩ = false := by simp [World.frozen?, h.b2]
theorem SRel.lo (h : SRel w f a c r wr) : w.heap.size + 3 ≤ wr.heap.size := by have := h.bel.size; simpa using this
theorem SRel.step (h : SRel w f a c r wr) (hb : Below wr.heap.size wr wr') : SRel w f a c r wr' := ⟨h.bel.trans (hb.mono h.lo)⟩
theorem SRel.low (h : SRel w f a c r wr) : Below w.heap.size w wr := ((((Below.refl _ _).alloc (Nat.le_refl _) _).alloc (by simp) _).alloc (by simp; omega) _).trans (h.bel.mono (by omega))
theorem SRel.start : SRel w f a c r (((w.alloc (boxF f a c)).alloc (boxR r)).alloc zeroSt) := ⟨Below.refl _ _⟩
theorem SRel.f0 (h : SRel w f a c r wr) : wr.cell? ⟨w.heap.size, 0, none⟩ = some (.string f.name) := by rw [cell_of_row wr _ 0 _ _ (0, 0) h.b0]; try rfl
theorem SRel.f1 (h : SRel w f a c r wr) : wr.cell? ⟨w.heap.size, 1, none⟩ = some (.int .i64 f.body) := by rw [cell_of_row wr _ 1 _ _ (0, 0) h.b0]; try rfl
theorem SRel.f2 (h : SRel w f a c r wr) : wr.cell? ⟨w.heap.size, 2, none⟩ = some (.slice a f.sorts.length c) := by rw [cell_of_row wr _ 2 _ _ (0, 0) h.b0]; try rfl
theorem SRel.r0 (h : SRel w f a c r wr) : wr.cell? ⟨w.heap.size + 1, 0, none⟩ = some (.slice r.ps.a r.ps.l.length r.ps.c) := by rw [cell_of_row wr _ 0 _ _ (0, 0) h.b1]; try rfl
theorem SRel.r1 (h : SRel w f a c r wr) : wr.cell? ⟨w.heap.size + 1, 1, none⟩ = some (.slice r.es.a r.es.l.length r.es.c) := by rw [cell_of_row wr _ 1 _ _ (0, 0) h.b1]; try rfl
theorem SRel.r2 (h : SRel w f a c r wr) : wr.cell? ⟨w.heap.size + 1, 2, none⟩ = some (.slice r.bs.a r.bs.l.length r.bs.c) := by rw [cell_of_row wr _ 2 _ _ (0, 0) h.b1]; try rfl
theorem SRel.r3 (h : SRel w f a c r wr) : wr.cell? ⟨w.heap.size + 1, 3, none⟩ = some (.int .i64 r.left) := by rw [cell_of_row wr _ 3 _ _ (0, 0) h.b1]; try rfl
theorem SRel.r4 (h : SRel w f a c r wr) : wr.cell? ⟨w.heap.size + 1, 4, none⟩ = some (.int .i64 r.right) := by rw [cell_of_row wr _ 4 _ _ (0, 0) h.b1]; try rfl
theorem SRel.z0 (h : SRel w f a c r wr) : wr.cell? ⟨w.heap.size + 2, 0, none⟩ = some (.string ⟨#[]⟩) := by rw [cell_of_row wr _ 0 _ _ (0, 0) h.b2]; try rfl
theorem SRel.z1 (h : SRel w f a c r wr) : wr.cell? ⟨w.heap.size + 2, 1, none⟩ = some (.int .i64 0) := by rw [cell_of_row wr _ 1 _ _ (0, 0) h.b2]; try rfl
theorem SRel.z2 (h : SRel w f a c r wr) : wr.cell? ⟨w.heap.size + 2, 2, none⟩ = some (.slice none 0 0) := by rw [cell_of_row wr _ 2 _ _ (0, 0) h.b2]; try rfl
theorem SRel.z3 (h : SRel w f a c r wr) : wr.cell? ⟨w.heap.size + 2, 3, none⟩ = some (.slice none 0 0) := by rw [cell_of_row wr _ 3 _ _ (0, 0) h.b2]; try rfl
theorem SRel.z4 (h : SRel w f a c r wr) : wr.cell? ⟨w.heap.size + 2, 4, none⟩ = some (.map none) := by rw [cell_of_row wr _ 4 _ _ (0, 0) h.b2]; try rfl
theorem SRel.z5 (h : SRel w f a c r wr) : wr.cell? ⟨w.heap.size + 2, 5, none⟩ = some (.map none) := by rw [cell_of_row wr _ 5 _ _ (0, 0) h.b2]; try rfl
theorem SRel.z6 (h : SRel w f a c r wr) : wr.cell? ⟨w.heap.size + 2, 6, none⟩ = some (.int .i64 0) := by rw [cell_of_row wr _ 6 _ _ (0, 0) h.b2]; try rfl
theorem SRel.z7 (h : SRel w f a c r wr) : wr.cell? ⟨w.heap.size + 2, 7, none⟩ = some (.int .i64 0) := by rw [cell_of_row wr _ 7 _ _ (0, 0) h.b2]; try rfl
end

set_option maxRecDepth 100000 in
set_option maxHeartbeats 800000 in
theorem setterOf_any (f : FT) (a : Option Addr) (c : Nat) (r : RU) (w : World) (hF : FAt w a f) (hR : r.at_ w) :
    Calls Tryz.prog 78 #[.agg #[.string f.name, .int .i64 f.body, .slice a f.sorts.length c], .agg r.cells] w (SetterPost w f a c r) := by
  have L0 : SRel w f a c r (((w.alloc (boxF f a c)).alloc (boxR r)).alloc zeroSt) := SRel.start
  have HC := Lib.hid (checkFount_any f a c (((w.alloc (boxF f a c)).alloc (boxR r)).alloc zeroSt) hF.ok (hF.at_.below L0.low) (hF.tab.below L0.low hF.tab.1))
  unfold boxF boxR RU.cells zeroSt at HC
  have HR := Lib.hid hR
  unfold RU.cells
  clear hR
  cases e1 : (checkF f).2 == 0
  · have n1 : (checkF f).2 ≠ 0 := by simpa using e1
    have HE := Lib.hid (show setErr f r = (checkF f).2 by unfold setErr; rw [if_pos n1])
    have N1 := Lib.hid n1
    clear n1
    go_enter Tryz.func78, Tryz.ntmps78
    go_wp2_with fail
    refine HC.out.mono ?_
    rintro e w1 ⟨rfl, hb1⟩
    have L1 := L0.step hb1
    clear hb1
    have z0 := L1.z0; have z1 := L1.z1; have z2 := L1.z2; have z3 := L1.z3; have z4 := L1.z4; have z5 := L1.z5; have z6 := L1.z6; have z7 := L1.z7
    have hfz := L1.fz
    go_wp2
    refine bodyPost_ret (v := .tuple #[noSet, .int .i64 (checkF f).2]) ?_ rfl ?_
    · simp [results, Tryz.results78, go_sem, noSet, z0, z1, z2, z3, z4, z5, z6, z7]
    · exact ⟨((((((((L1.low).setCell (Nat.le_add_right _ 2) _).setCell (Nat.le_add_right _ 2) _).setCell (Nat.le_add_right _ 2) _).setCell (Nat.le_add_right _ 2) _).setCell (Nat.le_add_right _ 2) _).setCell (Nat.le_add_right _ 2) _).setCell (Nat.le_add_right _ 2) _).setCell (Nat.le_add_right _ 2) _, by rw [HE.out, if_neg N1.out]⟩
  · have n1 : (checkF f).2 = 0 := by simpa using e1
    have HE := Lib.hid (show setErr f r = (checkR r).2 by unfold setErr; rw [if_neg (by rw [n1]; simp)])
    have N1 := Lib.hid n1
    clear n1
    cases e2 : (checkR r).2 == 0
    · have n2 : (checkR r).2 ≠ 0 := by simpa using e2
      have N2 := Lib.hid n2
      clear n2
      go_enter Tryz.func78, Tryz.ntmps78
      go_wp2_with fail
      refine HC.out.mono ?_
      rintro e w1 ⟨rfl, hb1⟩
      rw [N1.out]
      have L1 := L0.step hb1
      clear hb1
      have r0 := L1.r0; have r1 := L1.r1; have r2 := L1.r2; have r3 := L1.r3; have r4 := L1.r4
      have HL := Lib.hid (learnR_any r w1 (HR.out.below L1.low))
      unfold RU.cells at HL
      go_wp2_with fail
      refine HL.out.mono ?_
      rintro e w2 ⟨hb2, hp2⟩
      rw [if_neg N2.out] at hp2
      unfold noBook at hp2
      subst hp2
      have L2 := (L1.step hb2).step ((Below.refl _ _).alloc (Nat.le_refl _) (.cells #[.slice none 0 0, .map none, .map none, .int .i64 0, .int .i64 0] 109))
      have hlo := (L1.step hb2).lo
      clear hb2 r0 r1 r2 r3 r4
      have z0 := L2.z0; have z1 := L2.z1; have z2 := L2.z2; have z3 := L2.z3; have z4 := L2.z4; have z5 := L2.z5; have z6 := L2.z6; have z7 := L2.z7
      have hfz := L2.fz
      go_wp2
      refine bodyPost_ret (v := .tuple #[noSet, .int .i64 (checkR r).2]) ?_ rfl ?_
      · simp [results, Tryz.results78, go_sem, noSet, z0, z1, z2, z3, z4, z5, z6, z7]
      · exact ⟨((((((((L2.low).setCell (Nat.le_add_right _ 2) _).setCell (Nat.le_add_right _ 2) _).setCell (Nat.le_add_right _ 2) _).setCell (Nat.le_add_right _ 2) _).setCell (Nat.le_add_right _ 2) _).setCell (Nat.le_add_right _ 2) _).setCell (Nat.le_add_right _ 2) _).setCell (Nat.le_add_right _ 2) _, by rw [HE.out, if_neg N2.out]⟩
    · have n2 : (checkR r).2 = 0 := by simpa using e2
      have N2 := Lib.hid n2
      clear n2
      go_enter Tryz.func78, Tryz.ntmps78
      go_wp2_with fail
      refine HC.out.mono ?_
      rintro e w1 ⟨rfl, hb1⟩
      rw [N1.out]
      have L1 := L0.step hb1
      clear hb1
      have r0 := L1.r0; have r1 := L1.r1; have r2 := L1.r2; have r3 := L1.r3; have r4 := L1.r4
      have HL := Lib.hid (learnR_any r w1 (HR.out.below L1.low))
      unfold RU.cells at HL
      go_wp2_with fail
      refine HL.out.mono ?_
      rintro e w2 ⟨hb2, hp2⟩
      rw [if_pos N2.out] at hp2
      obtain ⟨g, b1, b2, rfl, hbk⟩ := hp2
      unfold bookV
      have L2 := (L1.step hb2).step ((Below.refl _ _).alloc (Nat.le_refl _) (.cells #[.slice (some ⟨g, 0, none⟩) r.ps.l.length r.ps.l.length, .map (some b1), .map (some b2), .int .i64 r.left, .int .i64 r.right] 109))
      have hlo := (L1.step hb2).lo
      have hlo1 := L1.lo
      have hbk2 := hbk.alloc (.cells #[.slice (some ⟨g, 0, none⟩) r.ps.l.length r.ps.l.length, .map (some b1), .map (some b2), .int .i64 r.left, .int .i64 r.right] 109)
      have b0 : (w2.alloc (.cells #[.slice (some ⟨g, 0, none⟩) r.ps.l.length r.ps.l.length, .map (some b1), .map (some b2), .int .i64 r.left, .int .i64 r.right] 109)).heap[w2.heap.size]? = some (.cells #[.slice (some ⟨g, 0, none⟩) r.ps.l.length r.ps.l.length, .map (some b1), .map (some b2), .int .i64 r.left, .int .i64 r.right] 109 (0, 0)) := heap_alloc_new _ _
      have k0 := cell_of_row _ w2.heap.size 0 _ _ (0, 0) b0
      have k1 := cell_of_row _ w2.heap.size 1 _ _ (0, 0) b0
      have k2 := cell_of_row _ w2.heap.size 2 _ _ (0, 0) b0
      have k3 := cell_of_row _ w2.heap.size 3 _ _ (0, 0) b0
      have k4 := cell_of_row _ w2.heap.size 4 _ _ (0, 0) b0
      clear hb2 r0 r1 r2 r3 r4 b0 hbk
      have f0 := L2.f0; have f1 := L2.f1; have f2 := L2.f2
      have z0 := L2.z0; have z1 := L2.z1; have z2 := L2.z2; have z3 := L2.z3; have z4 := L2.z4; have z5 := L2.z5; have z6 := L2.z6; have z7 := L2.z7
      have hfz := L2.fz
      have HBK := Lib.hid ((((((((((hbk2.set (p := ⟨w.heap.size + 2, 0, none⟩) (by show w.heap.size + 2 < _; omega) (.string f.name)).set (p := ⟨w.heap.size + 2, 1, none⟩) (by show w.heap.size + 2 < _; omega) (.int .i64 f.body)).set (p := ⟨w.heap.size + 2, 2, none⟩) (by show w.heap.size + 2 < _; omega) (.slice a f.sorts.length c)).set (p := ⟨w.heap.size + 2, 3, none⟩) (by show w.heap.size + 2 < _; omega) (.slice (some ⟨g, 0, none⟩) r.ps.l.length r.ps.l.length)).set (p := ⟨w.heap.size + 2, 4, none⟩) (by show w.heap.size + 2 < _; omega) (.map (some b1))).set (p := ⟨w.heap.size + 2, 5, none⟩) (by show w.heap.size + 2 < _; omega) (.map (some b2))).set (p := ⟨w.heap.size + 2, 6, none⟩) (by show w.heap.size + 2 < _; omega) (.int .i64 r.left)).set (p := ⟨w.heap.size + 2, 7, none⟩) (by show w.heap.size + 2 < _; omega) (.int .i64 r.right))).mono (B := w.heap.size) (by omega))
      have HB := Lib.hid ((((((((L2.low.setCell (p := ⟨w.heap.size + 2, 0, none⟩) (Nat.le_add_right _ 2) (.string f.name)).setCell (p := ⟨w.heap.size + 2, 1, none⟩) (Nat.le_add_right _ 2) (.int .i64 f.body)).setCell (p := ⟨w.heap.size + 2, 2, none⟩) (Nat.le_add_right _ 2) (.slice a f.sorts.length c)).setCell (p := ⟨w.heap.size + 2, 3, none⟩) (Nat.le_add_right _ 2) (.slice (some ⟨g, 0, none⟩) r.ps.l.length r.ps.l.length)).setCell (p := ⟨w.heap.size + 2, 4, none⟩) (Nat.le_add_right _ 2) (.map (some b1))).setCell (p := ⟨w.heap.size + 2, 5, none⟩) (Nat.le_add_right _ 2) (.map (some b2))).setCell (p := ⟨w.heap.size + 2, 6, none⟩) (Nat.le_add_right _ 2) (.int .i64 r.left)).setCell (p := ⟨w.heap.size + 2, 7, none⟩) (Nat.le_add_right _ 2) (.int .i64 r.right))
      clear hbk2
      go_wp2
      refine bodyPost_ret (v := .tuple #[setV f a c r g b1 b2, .int .i64 0]) ?_ rfl ?_
      · simp [results, Tryz.results78, go_sem, setV, z0, z1, z2, z3, z4, z5, z6, z7]
      · exact ⟨HB.out, by rw [HE.out, if_pos N2.out]; exact ⟨g, b1, b2, rfl, HBK.out⟩⟩
end Go.Proofs.YtomblajlpanmjaaGreatDoor
