/-
  Learning all sorts of a fount, or the first error; the check of a fount.
-/
import Derived.Test.YtjkcomafgkabeaaDoorA7
namespace Go.Proofs.YtjkcomafgkabeaaDoor
open Go.RowKit Go.Maps

def Learned (w : World) (f : FT) (e : Ending) (w' : World) : Prop :=
  ∃ b1 b2, e = .returned (.tuple #[.agg #[.map (some b1), .map (some b2)], .int .i64 (checkF f).1, .int .i64 (checkF f).2]) ∧ ((checkF f).2 = 0 → KnownAt w' b1 b2 f.sorts) ∧ Below w.heap.size w w'

theorem KnownAt.setCell {w : World} {b1 b2 : Nat} {l : List TS} (h : KnownAt w b1 b2 l) {p : Addr} (h1 : b1 ≠ p.block) (h2 : b2 ≠ p.block) (u : Value) : KnownAt (w.setCell p u) b1 b2 l := by
  obtain ⟨hn, D1, D2, a, b, r⟩ := h
  exact ⟨hn, D1, D2, a.setCell h1 u, b.setCell h2 u, r⟩
theorem SortsAt.alloc {w : World} {a : Option Addr} {l : List TS} (h : SortsAt w a l) (o : Obj) : SortsAt (w.alloc o) a l := h.below ((Below.refl _ _).alloc (Nat.le_refl _) o)
structure LearnRel (w w1 : World) (b1 b2 : Nat) (f : FT) (k : Nat) (wr : World) : Prop where
  below : Below w.heap.size w wr
  known : KnownAt wr b1 b2 (f.sorts.take k)
  err : firstErr f.sorts f.sorts.length 0 = firstErr f.sorts (f.sorts.length - k) k
  lt : w1.heap.size < wr.heap.size
  k0 : wr.cell? ⟨w1.heap.size, 0, none⟩ = some (.map (some b1))
  k1 : wr.cell? ⟨w1.heap.size, 1, none⟩ = some (.map (some b2))
  r0 : wr.cell? ⟨w.heap.size + 1, 0, none⟩ = some (.map none)
  r1 : wr.cell? ⟨w.heap.size + 1, 1, none⟩ = some (.map none)
  z0 : wr.frozen? ⟨w.heap.size + 1, 0, none⟩ = false
  z1 : wr.frozen? ⟨w.heap.size + 1, 1, none⟩ = false
theorem checkF_of {f : FT} (h : frameErr f.name f.body f.sorts.length = 0) : checkF f = firstErr f.sorts f.sorts.length 0 := by unfold checkF; rw [if_neg (by simp [h])]
theorem checkF_frame {f : FT} (h : frameErr f.name f.body f.sorts.length ≠ 0) : checkF f = (0, frameErr f.name f.body f.sorts.length) := by unfold checkF; rw [if_pos h]
theorem frame_le {f : FT} (h : frameErr f.name f.body f.sorts.length = 0) : f.sorts.length ≤ 120 := by
  unfold frameErr at h
  split at h
  · cases h
  split at h
  · cases h
  split at h
  · cases h
  split at h
  · cases h
  · omega

set_option maxRecDepth 100000 in
set_option maxHeartbeats 1000000 in
theorem learn_any (f : FT) (a : Option Addr) (c : Nat) (w : World) (hO : OkF f) (hF : SortsAt w a f.sorts) (hT : TabOk w) :
    Calls Tryd.prog 68 #[.agg #[.string f.name, .int .i64 f.body, .slice a f.sorts.length c]] w (Learned w f) := by
  have hO1 := hO.1
  have hO2 := hO.2.1
  have hT0 := hT.1
  by_cases h1 : frameErr f.name f.body f.sorts.length = 0
  · have HC := Lib.hid (checkF_of h1)
    have hle := frame_le h1
    go_enter Tryd.func68, Tryd.ntmps68
    go_wp2_with fail
    refine (nothingKnown_any _).mono ?_
    rintro e w1 ⟨b1, b2, rfl, hK, hb1, hb2, hb⟩
    have hz : w.heap.size + 2 ≤ w1.heap.size := by have := hb.size; simpa using this
    have hb1' : w.heap.size + 2 ≤ b1 := by simpa using hb1
    have hb2' : w.heap.size + 2 ≤ b2 := by simpa using hb2
    clear hb1 hb2
    obtain ⟨hc, hf⟩ := bcell hb
    have hlt1 : w.heap.size < w1.heap.size := by omega
    have hlt2 : w.heap.size + 1 < w1.heap.size := by omega
    have hklt := hK.lt
    have hB1 := (((Below.refl w.heap.size w).alloc (Nat.le_refl _) (.cells #[.string f.name, .int .i64 f.body, .slice a f.sorts.length c] 24)).alloc (by simp) (.cells #[.map none, .map none] 97)).trans (hb.mono (B' := w.heap.size) (by simp <;> omega))
    go_wp2_with fail
    refine (errorOfFrame_any _ _ _ _ _ _ hO1 hO2).mono ?_
    rintro e w2 ⟨rfl, hb3⟩
    rw [h1]
    obtain ⟨hc3, hf3⟩ := bcell hb3
    have hz3 : w1.heap.size + 1 ≤ w2.heap.size := by have := hb3.size; simpa using this
    go_wp2_with fail
    have start : LearnRel w w1 b1 b2 f 0 w2 := by
      refine ⟨(hB1.alloc (by omega) _).trans (hb3.mono (B' := w.heap.size) (by simp <;> omega)), ?_, rfl, by omega, ?_, ?_, ?_, ?_, ?_, ?_⟩
      · exact (hK.alloc _).below hb3 (by simp <;> omega) (by simp <;> omega)
      · rw [hc3 _ _ (by simp)]; simp
      · rw [hc3 _ _ (by simp)]; simp
      · rw [hc3 _ _ (by simp <;> omega), World.cell?_alloc_past _ _ _ hlt2, hc _ _ (by simp)]; simp [World.cell?_alloc_at]
      · rw [hc3 _ _ (by simp <;> omega), World.cell?_alloc_past _ _ _ hlt2, hc _ _ (by simp)]; simp [World.cell?_alloc_at]
      · rw [hf3 _ _ (by simp <;> omega), World.frozen?_alloc_past _ _ _ hlt2, hf _ _ (by simp)]; simp [World.frozen?_alloc_at]
      · rw [hf3 _ _ (by simp <;> omega), World.frozen?_alloc_past _ _ _ hlt2, hf _ _ (by simp)]; simp [World.frozen?_alloc_at]
    clear hc hf hc3 hf3 hb hb3 hB1 hK h1
    go_loopw [20] (fun i wr => ∃ k : Nat, k ≤ f.sorts.length ∧ i = .int .i64 k ∧ LearnRel w w1 b1 b2 f k wr) (fun i _ => f.sorts.length - (intOf i).toNat)
    case atStart => exact ⟨0, Nat.zero_le _, rfl, start⟩
    case round =>
      obtain ⟨k, hk, rfl, R⟩ := hrel
      clear start
      by_cases hlt : k < f.sorts.length
      · obtain ⟨ad, rfl, had, s0, s1, s2, s3⟩ := (hF.below R.below).at_ hlt
        have hx := hO.at_ hlt
        obtain ⟨x, ex⟩ : ∃ x, x = f.sorts.getD k noTS := ⟨_, rfl⟩
        rw [← ex] at s0 s1 s2 s3 hx
        have EX := Lib.hid ex; clear ex
        obtain ⟨RB, RK, RE, RL, q0, q1, r0, r1, z0, z1⟩ := R
        have RE' := Lib.hid RE; clear RE
        have hhr : w.heap.size + 1 < wr.heap.size := by omega
        have hadb : (ad.add (k * 4)).block < wr.heap.size := by rw [add_block]; exact had
        have hT1 : TabOk wr := hT.below RB hT0
        have hkl := RK.lt
        go_wp2_with fail
        refine (errorOfSort_any b1 b2 (f.sorts.take k) x _ hx.1 hx.2 (by exact RK.alloc _) (by exact hT1.alloc _)).mono ?_
        rintro e w4 ⟨rfl, hb4⟩
        obtain ⟨hc4, hf4⟩ := bcell hb4
        have hz4 : wr.heap.size + 1 ≤ w4.heap.size := by have := hb4.size; simpa using this
        have hb4' := (Below.alloc (Below.refl wr.heap.size wr) (Nat.le_refl _) (.cells #[.string x.name, .string x.text, .int .i64 x.kind, .int .i64 x.width] 47)).trans (hb4.mono (B' := wr.heap.size) (by simp))
        have RB4 : Below w.heap.size w w4 := RB.trans (hb4'.mono RB.size)
        by_cases he : sortErr (f.sorts.take k) x = 0
        · rw [he]
          have hfe : firstErr f.sorts (f.sorts.length - k) k = firstErr f.sorts (f.sorts.length - (k + 1)) (k + 1) := firstErr_go hlt (by rw [← EX.out]; exact he)
          have HFE := Lib.hid hfe; clear hfe
          have RK4 := RK.below hb4' hkl.1 hkl.2
          have HE := Lib.hid he; clear he
          go_wp2_with fail
          refine (add_any b1 b2 (f.sorts.take k) x _ hx.1 hx.2 RK4 HE.out (by rw [List.length_take]; omega)).mono ?_
          rintro e w5 ⟨rfl, hK5, hB5⟩
          go_wp2
          go_roundw
          case rel =>
            have hs5 := hB5.size
            refine ⟨k + 1, by omega, by go_num, RB4.trans (hB5.below (by omega) (by omega) (by omega)), ?_, RE'.out.trans HFE.out, by omega, ?_, ?_, ?_, ?_, ?_, ?_⟩
            · rw [take_snoc hlt, ← getD_eq hlt, ← EX.out]; exact hK5
            · exact (hB5.cell (by omega) (by omega) (by omega)).trans ((hb4'.cell (p := ⟨_, _, none⟩) RL).trans q0)
            · exact (hB5.cell (by omega) (by omega) (by omega)).trans ((hb4'.cell (p := ⟨_, _, none⟩) RL).trans q1)
            · exact (hB5.cell (by omega) (by omega) (by omega)).trans ((hb4'.cell (p := ⟨_, _, none⟩) hhr).trans r0)
            · exact (hB5.cell (by omega) (by omega) (by omega)).trans ((hb4'.cell (p := ⟨_, _, none⟩) hhr).trans r1)
            · exact (hB5.frozen (by omega) (by omega) (by omega)).trans ((hb4'.frozen (p := ⟨_, _, none⟩) hhr).trans z0)
            · exact (hB5.frozen (by omega) (by omega) (by omega)).trans ((hb4'.frozen (p := ⟨_, _, none⟩) hhr).trans z1)
          case measure => simp [intOf]; omega
        · have hfe : firstErr f.sorts (f.sorts.length - k) k = ((k : Int), sortErr (f.sorts.take k) x) := by rw [EX.out]; exact firstErr_stop hlt (by rw [← EX.out]; exact he)
          have HFE := Lib.hid hfe; clear hfe
          have heb : (sortErr (f.sorts.take k) x != 0) = true := by simpa using he
          have HE := Lib.hid he; clear he
          have q0' : w4.cell? ⟨w1.heap.size, 0, none⟩ = some (.map (some b1)) := (hb4'.cell (p := ⟨_, _, none⟩) RL).trans q0
          have q1' : w4.cell? ⟨w1.heap.size, 1, none⟩ = some (.map (some b2)) := (hb4'.cell (p := ⟨_, _, none⟩) RL).trans q1
          have r0' : w4.cell? ⟨w.heap.size + 1, 0, none⟩ = some (.map none) := (hb4'.cell (p := ⟨_, _, none⟩) hhr).trans r0
          have r1' : w4.cell? ⟨w.heap.size + 1, 1, none⟩ = some (.map none) := (hb4'.cell (p := ⟨_, _, none⟩) hhr).trans r1
          have z0' : w4.frozen? ⟨w.heap.size + 1, 0, none⟩ = false := (hb4'.frozen (p := ⟨_, _, none⟩) hhr).trans z0
          have z1' : w4.frozen? ⟨w.heap.size + 1, 1, none⟩ = false := (hb4'.frozen (p := ⟨_, _, none⟩) hhr).trans z1
          clear hc4 hf4
          go_wp2
          refine bodyPost_ret (v := .tuple #[.agg #[.map (some b1), .map (some b2)], .int .i64 k, .int .i64 (sortErr (f.sorts.take k) x)]) ?_ rfl ?_
          · simp [results, Tryd.results68, go_sem, r0', r1']
          · exact ⟨b1, b2, by rw [HC.out, RE'.out, HFE.out], fun h0 => absurd (by rw [HC.out, RE'.out, HFE.out] at h0; exact h0) HE.out, (RB4.setCell (by simp) _).setCell (by simp) _⟩
      · obtain ⟨RB, RK, RE, RL, q0, q1, r0, r1, z0, z1⟩ := R
        have HFE := Lib.hid (RE.trans (firstErr_end hlt))
        clear RE
        have hhr : w.heap.size + 1 < wr.heap.size := by omega
        have hkn : k = f.sorts.length := by omega
        have HK := Lib.hid hkn; clear hkn
        go_wp2
        refine bodyPost_ret (v := .tuple #[.agg #[.map (some b1), .map (some b2)], .int .i64 0, .int .i64 0]) ?_ rfl ?_
        · simp [results, Tryd.results68, go_sem, r0, r1]
        · refine ⟨b1, b2, by rw [HC.out, HFE.out], fun _ => ?_, (RB.setCell (by simp) _).setCell (by simp) _⟩
          rw [HK.out, List.take_length] at RK
          exact (RK.setCell (by show b1 ≠ w.heap.size + 1; omega) (by show b2 ≠ w.heap.size + 1; omega) _).setCell (by show b1 ≠ w.heap.size + 1; omega) (by show b2 ≠ w.heap.size + 1; omega) _
  · have HC := Lib.hid (checkF_frame h1)
    have heb : (frameErr f.name f.body f.sorts.length != 0) = true := by simpa using h1
    have H1 := Lib.hid h1; clear h1
    go_enter Tryd.func68, Tryd.ntmps68
    go_wp2_with fail
    refine (nothingKnown_any _).mono ?_
    rintro e w1 ⟨b1, b2, rfl, hK, hb1, hb2, hb⟩
    have hz : w.heap.size + 2 ≤ w1.heap.size := by have := hb.size; simpa using this
    have hb1' : w.heap.size + 2 ≤ b1 := by simpa using hb1
    have hb2' : w.heap.size + 2 ≤ b2 := by simpa using hb2
    clear hb1 hb2
    obtain ⟨hc, hf⟩ := bcell hb
    have hlt1 : w.heap.size < w1.heap.size := by omega
    have hlt2 : w.heap.size + 1 < w1.heap.size := by omega
    have hklt := hK.lt
    have hB1 := (((Below.refl w.heap.size w).alloc (Nat.le_refl _) (.cells #[.string f.name, .int .i64 f.body, .slice a f.sorts.length c] 24)).alloc (by simp) (.cells #[.map none, .map none] 97)).trans (hb.mono (B' := w.heap.size) (by simp <;> omega))
    go_wp2_with fail
    refine (errorOfFrame_any _ _ _ _ _ _ hO1 hO2).mono ?_
    rintro e w2 ⟨rfl, hb3⟩
    have hz3 : w1.heap.size + 1 ≤ w2.heap.size := by have := hb3.size; simpa using this
    have hB2 := (hB1.alloc (by omega) (.cells #[.map (some b1), .map (some b2)] 97)).trans (hb3.mono (B' := w.heap.size) (by simp <;> omega))
    obtain ⟨hc3, hf3⟩ := bcell hb3
    have q0 : w2.cell? ⟨w1.heap.size, 0, none⟩ = some (.map (some b1)) := by rw [hc3 _ _ (by simp)]; simp
    have q1 : w2.cell? ⟨w1.heap.size, 1, none⟩ = some (.map (some b2)) := by rw [hc3 _ _ (by simp)]; simp
    have r0 : w2.cell? ⟨w.heap.size + 1, 0, none⟩ = some (.map none) := by rw [hc3 _ _ (by simp <;> omega), World.cell?_alloc_past _ _ _ hlt2, hc _ _ (by simp)]; simp [World.cell?_alloc_at]
    have r1 : w2.cell? ⟨w.heap.size + 1, 1, none⟩ = some (.map none) := by rw [hc3 _ _ (by simp <;> omega), World.cell?_alloc_past _ _ _ hlt2, hc _ _ (by simp)]; simp [World.cell?_alloc_at]
    have z0 : w2.frozen? ⟨w.heap.size + 1, 0, none⟩ = false := by rw [hf3 _ _ (by simp <;> omega), World.frozen?_alloc_past _ _ _ hlt2, hf _ _ (by simp)]; simp [World.frozen?_alloc_at]
    have z1 : w2.frozen? ⟨w.heap.size + 1, 1, none⟩ = false := by rw [hf3 _ _ (by simp <;> omega), World.frozen?_alloc_past _ _ _ hlt2, hf _ _ (by simp)]; simp [World.frozen?_alloc_at]
    clear hc hf hc3 hf3 hK
    go_wp2
    refine bodyPost_ret (v := .tuple #[.agg #[.map (some b1), .map (some b2)], .int .i64 0, .int .i64 (frameErr f.name f.body f.sorts.length)]) ?_ rfl ?_
    · simp [results, Tryd.results68, go_sem, r0, r1]
    · exact ⟨b1, b2, by rw [HC.out], fun h0 => absurd (by rw [HC.out] at h0; exact h0) H1.out, (hB2.setCell (by simp) _).setCell (by simp) _⟩

/-- The check of a fount. -/
def Checked2 (w : World) (f : FT) (e : Ending) (w' : World) : Prop := e = .returned (.tuple #[.int .i64 (checkF f).1, .int .i64 (checkF f).2]) ∧ Below w.heap.size w w'
set_option maxRecDepth 100000 in
set_option maxHeartbeats 1000000 in
theorem checkFount_any (f : FT) (a : Option Addr) (c : Nat) (w : World) (hO : OkF f) (hF : SortsAt w a f.sorts) (hT : TabOk w) :
    Calls Tryd.prog 18 #[.agg #[.string f.name, .int .i64 f.body, .slice a f.sorts.length c]] w (Checked2 w f) := by
  go_enter Tryd.func18, Tryd.ntmps18
  go_wp2_with fail
  refine (learn_any f a c _ hO (by exact hF.alloc _) (by exact hT.alloc _)).mono ?_
  rintro e w1 ⟨b1, b2, rfl, _, hb⟩
  have hB := ((Below.refl w.heap.size w).alloc (Nat.le_refl _) (.cells #[.string f.name, .int .i64 f.body, .slice a f.sorts.length c] 24)).trans (hb.mono (B' := w.heap.size) (by simp))
  have hz := hB.size
  clear hb
  go_wp2
  go_ret2
  exact ⟨rfl, hB.alloc hz _⟩
end Go.Proofs.YtjkcomafgkabeaaDoor
