/-
  A line is read.
-/
import Derived.Test.YtebndgepmjonoaaDoorP6
namespace Go.Proofs.YtebndgepmjonoaaDoor
open Go.RowKit Go.Maps

/-- Block g is a row that begins with these words. -/
def WRow (w : World) (g : Nat) (T : List (ByteArray × Int)) : Prop := ∃ cs : Array Value, w.heap[g]? = some (.cells cs 101 (0, 0)) ∧ ∀ k, k < T.length → cs[k * 2]? = some (.string (T.getD k (⟨#[]⟩, 0)).1)
theorem wVals_at {T : List (ByteArray × Int)} {k : Nat} (h : k < T.length) : (wVals T)[k * 2]? = some (.string (T.getD k (⟨#[]⟩, 0)).1) := by
  unfold wVals
  induction T generalizing k with
  | nil => simp at h
  | cons x t ih =>
    rw [List.flatMap_cons]
    cases k with
    | zero => rfl
    | succ k =>
      rw [List.getElem?_append_right (by show 2 ≤ _; omega)]
      show (List.flatMap wCells t)[(k + 1) * 2 - 2]? = _
      rw [show (k + 1) * 2 - 2 = k * 2 by omega, ih (by simpa using h)]
      rfl
theorem WRow.of_own {w : World} {base g n cap : Nat} {T : List (ByteArray × Int)} (hn : n = T.length) (h : w.ownsRow base 101 2 (.slice (some ⟨g, 0, none⟩) n cap) n (wVals T)) : WRow w g T := by
  subst hn
  rcases h.2 with ⟨e, _⟩ | ⟨g', cap', cur, e, _, hb, _, _, _, h4⟩
  · cases e
  · obtain rfl : g = g' := by injection e with e1 _ _; injection e1 with e2; injection e2
    refine ⟨cur, hb, fun k hk => ?_⟩
    have hv := wVals_at hk
    rw [← h4, List.getElem?_take] at hv
    split at hv
    · rw [← hv, Array.getElem?_toList]
    · cases hv
theorem WRow.keep {w w' : World} {g b : Nat} {T : List (ByteArray × Int)} (h : WRow w g T) (hk : Keep b w w') (hg : g ≠ b) : WRow w' g T := by
  obtain ⟨cs, h1, h2⟩ := h
  exact ⟨cs, hk.row hg h1 (by decide), h2⟩
theorem WRow.cell {w : World} {g : Nat} {T : List (ByteArray × Int)} (h : WRow w g T) {k : Nat} (hk : k < T.length) : w.cell? ⟨g, k * 2, none⟩ = some (.string (T.getD k (⟨#[]⟩, 0)).1) := by
  obtain ⟨cs, h1, h2⟩ := h
  rw [cell_of_row w g (k * 2) cs _ (0, 0) h1]; exact h2 k hk
def Lined (w : World) (B b b1 b2 : Nat) (r' : Rd) (e : Ending) (w' : World) : Prop := e = .returned (.tuple #[.int .i64 0, .int .i64 0]) ∧ RdAt w' B b b1 b2 r' ∧ Below B w w' ∧ Keep b w w'

set_option maxRecDepth 100000 in
set_option maxHeartbeats 4000000 in
theorem readLine_fount {B b b1 b2 : Nat} {r : Rd} {w : World} (h : RdAt w B b b1 b2 r) (h0 : r.body = 0) (g cap : Nat) (nm s : ByteArray) (i0 i1 i2 : Int) (hcap : 3 ≤ cap) (hg : g ≠ b) (hw : WRow w g [(fountW, i0), (nm, i1), (s, i2)]) (hn : isNameB nm = true) (h1 : 1 ≤ s.size) (h7 : s.size ≤ 7) (hd : digsB s.data.toList) (hz : s.data.toList.headD 0 ≠ 48) (hv : 1 ≤ valL s.data.toList ∧ valL s.data.toList ≤ 144) :
    Calls Tryd.prog 51 #[.pointer (some ⟨b, 0, none⟩), .slice (some ⟨g, 0, none⟩) 3 cap] w (Lined w B b b1 b2 { r with nm := nm, body := valL s.data.toList }) := by
  have HB := Lib.hid (fun (r : Rd) (w : World) (h : RdAt w B b b1 b2 r) => readBody_any s h h1 h7 hd hz hv)
  have HN := Lib.hid (fun (r : Rd) (w : World) (h : RdAt w B b b1 b2 r) => readFountName_any nm h hn)
  have HS := Lib.hid (stepsOf_fount h h0)
  have x0 : w.cell? ⟨g, 0, none⟩ = some (.string fountW) := hw.cell (k := 0) (by simp)
  clear h1 h7 hd hz hv hn h0 h
  go_enter Tryd.func51, Tryd.ntmps51
  go_wp2_with fail
  refine HS.out.mono ?_
  rintro e w2 ⟨⟨gs, rfl, hgs, hst⟩, h2, hB2, k2⟩
  have s0 : w2.cell? ⟨gs, 0, none⟩ = some (stepF 79 b) := by rw [cell_of_row w2 gs 0 _ _ (0, 0) hst]; rfl
  have hw2 := hw.keep k2 hg
  have x1 : w2.cell? ⟨g, 2, none⟩ = some (.string nm) := hw2.cell (k := 1) (by simp)
  have hcap1 : ¬ cap = 1 := by omega
  unfold stepF at s0
  clear x0 hw
  go_wp2_with fail
  refine wp_loop_rounds 3 ?_
  rw [rounds_succ]
  go_wp2_with fail
  refine (HN.out _ _ h2).mono ?_
  rintro e w3 ⟨rfl, h3, hB3, k3⟩
  have hst3 := k3.row hgs hst (by decide)
  have s1 : w3.cell? ⟨gs, 1, none⟩ = some (stepF 80 b) := by rw [cell_of_row w3 gs 1 _ _ (0, 0) hst3]; rfl
  have hw3 := hw2.keep k3 hg
  have y2 : w3.cell? ⟨g, 4, none⟩ = some (.string s) := hw3.cell (k := 2) (by simp)
  unfold stepF at s1
  clear x1 s0 hw2 hst
  go_wp2_with fail
  rw [rounds_succ]
  go_wp2_with fail
  refine (HB.out _ _ h3).mono ?_
  rintro e w4 ⟨rfl, h4, hB4, k4⟩
  clear y2 s1 hw3 hst3
  go_wp2_with fail
  rw [rounds_succ]
  go_wp2
  go_ret2
  exact ⟨rfl, h4, (hB2.trans hB3).trans hB4, (k2.trans k3).trans k4⟩
end Go.Proofs.YtebndgepmjonoaaDoor
