/-
  The line of a sort is read.
-/
import Derived.Test.YtebndgepmjonoaaDoorP7
namespace Go.Proofs.YtebndgepmjonoaaDoor
open Go.RowKit Go.Maps

theorem sort_parts {l : List TS} {x : TS} (h : sortErr l x = 0) : nameErr l x.name = 0 ∧ (1 ≤ x.kind ∧ x.kind ≤ 3) ∧ widthErr x.width = 0 ∧ textErr l x.kind x.text = 0 := by
  obtain ⟨a, b, c, d, e⟩ := sortErr_zero h
  exact ⟨nameErr_zero b a, inB_iff.1 c, by unfold widthErr; rw [if_neg (by simp [d])], e⟩
theorem kept_size {s : ByteArray} {n : Nat} (h : s.size ≤ n) (hn : n ≤ 1000000) : s.size ≤ maxLen := by unfold maxLen; omega

set_option maxRecDepth 100000 in
set_option maxHeartbeats 4000000 in
theorem readLine_space {B b b1 b2 : Nat} {r : Rd} {w : World} (h : RdAt w B b b1 b2 r) (hbd : 1 ≤ r.body ∧ r.body ≤ 144) (hl : r.l.length < 120) (hW : WordsOk w) (g cap : Nat) (nm s : ByteArray) (i0 i1 i2 : Int) (hcap : 3 ≤ cap) (hg : g ≠ b) (hw : WRow w g [(kwA 3, i0), (nm, i1), (s, i2)]) (hn : nm.size ≤ 1000000) (h1 : 1 ≤ s.size) (h7 : s.size ≤ 7) (hd : digsB s.data.toList) (hz : s.data.toList.headD 0 ≠ 48) (he : sortErr r.l ⟨nm, ⟨#[]⟩, 3, valL s.data.toList⟩ = 0) :
    Calls Tryd.prog 51 #[.pointer (some ⟨b, 0, none⟩), .slice (some ⟨g, 0, none⟩) 3 cap] w fun e w' => ∃ v', Lined w B b b1 b2 { r with sn := nm, st := ⟨#[]⟩, sk := 3, sw := valL s.data.toList, v := v', l := r.l ++ [⟨nm, ⟨#[]⟩, 3, valL s.data.toList⟩] } e w' := by
  obtain ⟨e1, _, e3, _⟩ := sort_parts he
  have HN := Lib.hid (fun (w : World) (h : RdAt w B b b1 b2 (r.line 3)) => readName_any nm h hn e1)
  have HB := Lib.hid (fun (w : World) (h : RdAt w B b b1 b2 { r.line 3 with sn := nm }) => readWidth_any s h hbd (kept_size hn (Nat.le_refl _)) (by unfold maxLen; show 0 ≤ _; omega) hl h1 h7 hd hz e3 he)
  have HS := Lib.hid (stepsOf_sort h hbd.1 hl 3 (by omega) (by omega) hW)
  have x0 : w.cell? ⟨g, 0, none⟩ = some (.string (kwA 3)) := hw.cell (k := 0) (by simp)
  clear h1 h7 hd hz he e1 e3 h hbd
  go_enter Tryd.func51, Tryd.ntmps51
  go_wp2_with fail
  refine HS.out.mono ?_
  rw [show stepsL 3 b = [stepF 82 b, stepF 83 b] from rfl]
  rintro e w2 ⟨⟨gs, rfl, hgs, hst⟩, h2, hB2, k2⟩
  have s0 : w2.cell? ⟨gs, 0, none⟩ = some (stepF 82 b) := by rw [cell_of_row w2 gs 0 _ _ (0, 0) hst]; rfl
  have hw2 := hw.keep k2 hg
  have x1 : w2.cell? ⟨g, 2, none⟩ = some (.string nm) := hw2.cell (k := 1) (by simp)
  have hcap1 : ¬ cap = 1 := by omega
  unfold stepF at s0
  clear x0 hw
  go_wp2_with fail
  refine wp_loop_rounds 3 ?_
  rw [rounds_succ]
  go_wp2_with fail
  refine (HN.out _ h2).mono ?_
  rintro e w3 ⟨rfl, h3, hB3, k3⟩
  have hst3 := k3.row hgs hst (by decide)
  have s1 : w3.cell? ⟨gs, 1, none⟩ = some (stepF 83 b) := by rw [cell_of_row w3 gs 1 _ _ (0, 0) hst3]; rfl
  have hw3 := hw2.keep k3 hg
  have y2 : w3.cell? ⟨g, 4, none⟩ = some (.string s) := hw3.cell (k := 2) (by simp)
  unfold stepF at s1
  clear x1 s0 hw2 hst
  go_wp2_with fail
  rw [rounds_succ]
  go_wp2_with fail
  refine (HB.out _ h3).mono ?_
  rintro e w4 ⟨v', rfl, h4, hB4, k4⟩
  clear y2 s1 hw3 hst3
  go_wp2_with fail
  rw [rounds_succ]
  go_wp2
  go_ret2
  exact ⟨v', rfl, h4, (hB2.trans hB3).trans hB4, (k2.trans k3).trans k4⟩

set_option maxRecDepth 100000 in
set_option maxHeartbeats 4000000 in
theorem readLine_letter {B b b1 b2 : Nat} {r : Rd} {w : World} (h : RdAt w B b b1 b2 r) (hbd : 1 ≤ r.body ∧ r.body ≤ 144) (hl : r.l.length < 120) (hW : WordsOk w) (hT : TabOk w) (hG : 1 < B) (k : Nat) (hk1 : 1 ≤ k) (hk2 : k ≤ 2) (g cap : Nat) (nm tx s : ByteArray) (i0 i1 i2 i3 : Int) (hcap : 4 ≤ cap) (hg : g ≠ b) (hw : WRow w g [(kwA k, i0), (nm, i1), (tx, i2), (s, i3)]) (hn : nm.size ≤ 1000000) (htx : tx.size ≤ 1000000) (h1 : 1 ≤ s.size) (h7 : s.size ≤ 7) (hd : digsB s.data.toList) (hz : s.data.toList.headD 0 ≠ 48) (he : sortErr r.l ⟨nm, tx, k, valL s.data.toList⟩ = 0) :
    Calls Tryd.prog 51 #[.pointer (some ⟨b, 0, none⟩), .slice (some ⟨g, 0, none⟩) 4 cap] w fun e w' => ∃ v', Lined w B b b1 b2 { r with sn := nm, st := tx, sk := k, sw := valL s.data.toList, v := v', l := r.l ++ [⟨nm, tx, k, valL s.data.toList⟩] } e w' := by
  obtain ⟨e1, e2, e3, e4⟩ := sort_parts he
  have HN := Lib.hid (fun (w : World) (h : RdAt w B b b1 b2 (r.line k)) => readName_any nm h hn e1)
  have HX := Lib.hid (fun (w : World) (h : RdAt w B b b1 b2 { r.line k with sn := nm }) (hT : TabOk w) => readText_any tx h hT hG htx e2 e4)
  have HB := Lib.hid (fun (w : World) (h : RdAt w B b b1 b2 { r.line k with sn := nm, st := tx }) => readWidth_any s h hbd (kept_size hn (Nat.le_refl _)) (kept_size htx (Nat.le_refl _)) hl h1 h7 hd hz e3 he)
  have HS := Lib.hid (stepsOf_sort h hbd.1 hl k hk1 (by omega) hW)
  have HSL := Lib.hid (show stepsL k b = [stepF 82 b, stepF 84 b, stepF 83 b] by unfold stepsL; rw [if_neg (by omega)])
  have x0 : w.cell? ⟨g, 0, none⟩ = some (.string (kwA k)) := hw.cell (k := 0) (by simp)
  clear h1 h7 hd hz he e1 e2 e3 e4 h hbd
  go_enter Tryd.func51, Tryd.ntmps51
  go_wp2_with fail
  refine HS.out.mono ?_
  rw [HSL.out]
  rintro e w2 ⟨⟨gs, rfl, hgs, hst⟩, h2, hB2, k2⟩
  have s0 : w2.cell? ⟨gs, 0, none⟩ = some (stepF 82 b) := by rw [cell_of_row w2 gs 0 _ _ (0, 0) hst]; rfl
  have hw2 := hw.keep k2 hg
  have x1 : w2.cell? ⟨g, 2, none⟩ = some (.string nm) := hw2.cell (k := 1) (by simp)
  have hcap1 : ¬ cap = 1 := by omega
  unfold stepF at s0
  clear x0 hw
  go_wp2_with fail
  refine wp_loop_rounds 4 ?_
  rw [rounds_succ]
  go_wp2_with fail
  refine (HN.out _ h2).mono ?_
  rintro e w3 ⟨rfl, h3, hB3, k3⟩
  have hst3 := k3.row hgs hst (by decide)
  have s1 : w3.cell? ⟨gs, 1, none⟩ = some (stepF 84 b) := by rw [cell_of_row w3 gs 1 _ _ (0, 0) hst3]; rfl
  have hw3 := hw2.keep k3 hg
  have y2 : w3.cell? ⟨g, 4, none⟩ = some (.string tx) := hw3.cell (k := 2) (by simp)
  have hT3 : TabOk w3 := hT.below (hB2.trans hB3) hG
  unfold stepF at s1
  clear x1 s0 hw2 hst
  go_wp2_with fail
  rw [rounds_succ]
  go_wp2_with fail
  refine (HX.out _ h3 hT3).mono ?_
  rintro e w4 ⟨rfl, h4, hB4, k4⟩
  have hst4 := k4.row hgs hst3 (by decide)
  have s2 : w4.cell? ⟨gs, 2, none⟩ = some (stepF 83 b) := by rw [cell_of_row w4 gs 2 _ _ (0, 0) hst4]; rfl
  have hw4 := hw3.keep k4 hg
  have y3 : w4.cell? ⟨g, 6, none⟩ = some (.string s) := hw4.cell (k := 3) (by simp)
  unfold stepF at s2
  clear y2 s1 hw3 hst3
  go_wp2_with fail
  rw [rounds_succ]
  go_wp2_with fail
  refine (HB.out _ h4).mono ?_
  rintro e w5 ⟨v', rfl, h5, hB5, k5⟩
  clear y3 s2 hw4 hst4
  go_wp2_with fail
  rw [rounds_succ]
  go_wp2
  go_ret2
  exact ⟨v', rfl, h5, ((hB2.trans hB3).trans hB4).trans hB5, ((k2.trans k3).trans k4).trans k5⟩
end Go.Proofs.YtebndgepmjonoaaDoor
