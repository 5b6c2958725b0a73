/-
  The steps of a line: by its first word.
-/
import Derived.Test.YtebndgepmjonoaaDoorP5
namespace Go.Proofs.YtebndgepmjonoaaDoor
open Go.RowKit Go.Maps

def kwA (k : Nat) : ByteArray := if k = 1 then ⟨#[108, 101, 116, 116, 101, 114]⟩ else if k = 2 then ⟨#[108, 105, 103, 97, 116, 117, 114, 101]⟩ else ⟨#[115, 112, 97, 99, 101]⟩
theorem kw12 : ((⟨#[108, 101, 116, 116, 101, 114]⟩ : ByteArray).toList == (⟨#[108, 105, 103, 97, 116, 117, 114, 101]⟩ : ByteArray).toList) = false := by decide +kernel
theorem kw13 : ((⟨#[108, 101, 116, 116, 101, 114]⟩ : ByteArray).toList == (⟨#[115, 112, 97, 99, 101]⟩ : ByteArray).toList) = false := by decide +kernel
theorem kw23 : ((⟨#[108, 105, 103, 97, 116, 117, 114, 101]⟩ : ByteArray).toList == (⟨#[115, 112, 97, 99, 101]⟩ : ByteArray).toList) = false := by decide +kernel
theorem kw11 (s : ByteArray) : (s.toList == s.toList) = true := by simp
set_option maxRecDepth 100000 in
set_option maxHeartbeats 1000000 in
theorem kindOf_any (k : Nat) (h1 : 1 ≤ k) (h3 : k ≤ 3) (w : World) (hW : WordsOk w) :
    Calls Tryd.prog 81 #[.string (kwA k)] w fun e w' => e = .returned (.tuple #[.int .i64 k, .bool true]) ∧ w' = w := by
  have c1 := hW.c1
  have c2 := hW.c2
  have c3 := hW.c3
  have e12 := kw12
  have e13 := kw13
  have e23 := kw23
  obtain rfl | rfl | rfl : k = 1 ∨ k = 2 ∨ k = 3 := by omega
  · rw [show kwA 1 = ⟨#[108, 101, 116, 116, 101, 114]⟩ from rfl]
    have e11 := kw11 ⟨#[108, 101, 116, 116, 101, 114]⟩
    go_enter Tryd.func81, Tryd.ntmps81
    go_wp2_with fail
    refine wp_loop_rounds 1 ?_
    rw [rounds_succ]
    go_wp2
    go_ret2
    exact ⟨rfl, rfl⟩
  · rw [show kwA 2 = ⟨#[108, 105, 103, 97, 116, 117, 114, 101]⟩ from rfl]
    have e11 := kw11 ⟨#[108, 105, 103, 97, 116, 117, 114, 101]⟩
    go_enter Tryd.func81, Tryd.ntmps81
    go_wp2_with fail
    refine wp_loop_rounds 2 ?_
    rw [rounds_succ]
    go_wp2_with fail
    rw [rounds_succ]
    go_wp2
    go_ret2
    exact ⟨rfl, rfl⟩
  · rw [show kwA 3 = ⟨#[115, 112, 97, 99, 101]⟩ from rfl]
    have e11 := kw11 ⟨#[115, 112, 97, 99, 101]⟩
    go_enter Tryd.func81, Tryd.ntmps81
    go_wp2_with fail
    refine wp_loop_rounds 3 ?_
    rw [rounds_succ]
    go_wp2_with fail
    rw [rounds_succ]
    go_wp2_with fail
    rw [rounds_succ]
    go_wp2
    go_ret2
    exact ⟨rfl, rfl⟩
/-- The steps of a line: functions that have the reader. -/
def stepF (n b : Nat) : Value := .func (.func n) #[.pointer (some ⟨b, 0, none⟩)] #[]
def fountW : ByteArray := ⟨#[102, 111, 117, 110, 116]⟩
def StepsPost (w : World) (B b b1 b2 : Nat) (r' : Rd) (fs : List Value) (e : Ending) (w' : World) : Prop :=
  (∃ g : Nat, e = .returned (.tuple #[.slice (some ⟨g, 0, none⟩) fs.length fs.length, .int .i64 0]) ∧ g ≠ b ∧ w'.heap[g]? = some (.cells fs.toArray 116 (0, 0))) ∧ RdAt w' B b b1 b2 r' ∧ Below B w w' ∧ Keep b w w'
set_option maxRecDepth 100000 in
set_option maxHeartbeats 1000000 in
theorem stepsOf_fount {B b b1 b2 : Nat} {r : Rd} {w : World} (h : RdAt w B b b1 b2 r) (h0 : r.body = 0) :
    Calls Tryd.prog 66 #[.pointer (some ⟨b, 0, none⟩), .string fountW] w (StepsPost w B b b1 b2 r [stepF 79 b, stepF 80 b]) := by
  have hlb := h.lt
  have hB := h.hb
  have c3 : w.cell? ⟨b, 3, none⟩ = some (.int .i64 0) := by rw [← h0]; exact h.cell (j := 3) rfl
  have e11 := kw11 ⟨#[102, 111, 117, 110, 116]⟩
  have hBa : Below w.heap.size w (w.alloc (.cells #[stepF 79 b, stepF 80 b] 116)) := (Below.refl _ _).alloc (Nat.le_refl _) _
  have ha := h.below hBa
  have hk := Keep.of_below (b := b) hBa
  have hB1 := hBa.mono (B' := B) (by omega)
  have hn := heap_alloc_new w (.cells #[stepF 79 b, stepF 80 b] 116)
  unfold stepF at hBa ha hk hB1 hn
  unfold fountW
  clear h hBa
  go_enter Tryd.func66, Tryd.ntmps66
  go_wp2
  go_ret2
  exact ⟨⟨w.heap.size, rfl, by omega, hn⟩, ha, hB1, hk⟩
theorem own_form {w : World} {base e n size : Nat} {v : Value} {xs : List Value} (h : w.ownsRow base e size v n xs) : ∃ (A : Option Addr) (cap : Nat), v = .slice A n cap := by
  rcases h.2 with ⟨e1, e2⟩ | ⟨g, cap, cur, e1, _⟩
  · subst e2; exact ⟨none, 0, e1⟩
  · exact ⟨_, cap, e1⟩
def Rd.line (r : Rd) (k : Int) : Rd := { r with sn := ⟨#[]⟩, st := ⟨#[]⟩, sk := k, sw := 0 }
/-- The sort of the line is begun anew. -/
def lineW (w : World) (b : Nat) (k : Int) : World := (((w.setCell ⟨b, 5, none⟩ (.string ⟨#[]⟩)).setCell ⟨b, 6, none⟩ (.string ⟨#[]⟩)).setCell ⟨b, 7, none⟩ (.int .i64 k)).setCell ⟨b, 8, none⟩ (.int .i64 0)
theorem line_set {w : World} {B b b1 b2 : Nat} {r : Rd} (h : RdAt w B b b1 b2 r) (k : Int) : RdAt (lineW w b k) B b b1 b2 (r.line k) ∧ Below B w (lineW w b k) ∧ Keep b w (lineW w b k) ∧ (lineW w b k).heap.size = w.heap.size := by
  have h5 := h.set_ 5 (.string ⟨#[]⟩) (r' := { r with sn := ⟨#[]⟩ }) rfl rfl rfl
  have h6 := h5.set_ 6 (.string ⟨#[]⟩) (r' := { r with sn := ⟨#[]⟩, st := ⟨#[]⟩ }) rfl rfl rfl
  have h7 := h6.set_ 7 (.int .i64 k) (r' := { r with sn := ⟨#[]⟩, st := ⟨#[]⟩, sk := k }) rfl rfl rfl
  have h8 := h7.set_ 8 (.int .i64 0) (r' := r.line k) rfl rfl rfl
  have hB := h.hb
  refine ⟨h8, ((((Below.refl B w).setCell (p := ⟨b, 5, none⟩) hB _).setCell (p := ⟨b, 6, none⟩) hB _).setCell (p := ⟨b, 7, none⟩) hB _).setCell (p := ⟨b, 8, none⟩) hB _, ?_, by simp [lineW, World.setCell]⟩
  exact (((Keep.set_ b w 5 _).trans (Keep.set_ b _ 6 _)).trans (Keep.set_ b _ 7 _)).trans (Keep.set_ b _ 8 _)
theorem line_steps {w : World} {B b b1 b2 : Nat} {r : Rd} (h : RdAt w B b b1 b2 r) (k : Int) (cs : Array Value) :
    (lineW w b k).heap.size ≠ b ∧ ((lineW w b k).alloc (.cells cs 116)).heap[(lineW w b k).heap.size]? = some (.cells cs 116 (0, 0)) ∧ RdAt ((lineW w b k).alloc (.cells cs 116)) B b b1 b2 (r.line k) ∧ Below B w ((lineW w b k).alloc (.cells cs 116)) ∧ Keep b w ((lineW w b k).alloc (.cells cs 116)) := by
  obtain ⟨a1, a2, a3, a4⟩ := line_set h k
  have hBa : Below (lineW w b k).heap.size (lineW w b k) ((lineW w b k).alloc (.cells cs 116)) := (Below.refl _ _).alloc (Nat.le_refl _) _
  have hlt := h.lt
  have hB := h.hb
  exact ⟨by omega, heap_alloc_new _ _, a1.below hBa, a2.trans (hBa.mono (B' := B) (by omega)), a3.trans (Keep.of_below hBa)⟩
def stepsL (k b : Nat) : List Value := if k = 3 then [stepF 82 b, stepF 83 b] else [stepF 82 b, stepF 84 b, stepF 83 b]
set_option maxRecDepth 100000 in
set_option maxHeartbeats 1000000 in
theorem stepsOf_sort {B b b1 b2 : Nat} {r : Rd} {w : World} (h : RdAt w B b b1 b2 r) (hbd : 1 ≤ r.body) (hl : r.l.length < 120) (k : Nat) (h1 : 1 ≤ k) (h3 : k ≤ 3) (hW : WordsOk w) :
    Calls Tryd.prog 66 #[.pointer (some ⟨b, 0, none⟩), .string (kwA k)] w (StepsPost w B b b1 b2 (r.line k) (stepsL k b)) := by
  have hlb := h.lt
  have hB := h.hb
  obtain ⟨A, cap, ev⟩ := own_form h.own
  have c3 : w.cell? ⟨b, 3, none⟩ = some (.int .i64 r.body) := h.cell (j := 3) rfl
  have c4 : w.cell? ⟨b, 4, none⟩ = some (.slice A r.l.length cap) := by rw [← ev]; exact h.cell (j := 4) rfl
  have c5 : w.cell? ⟨b, 5, none⟩ = some (.string r.sn) := h.cell (j := 5) rfl
  have c6 : w.cell? ⟨b, 6, none⟩ = some (.string r.st) := h.cell (j := 6) rfl
  have c7 : w.cell? ⟨b, 7, none⟩ = some (.int .i64 r.sk) := h.cell (j := 7) rfl
  have c8 : w.cell? ⟨b, 8, none⟩ = some (.int .i64 r.sw) := h.cell (j := 8) rfl
  have z5 := h.frozen 5
  have z6 := h.frozen 6
  have z7 := h.frozen 7
  have z8 := h.frozen 8
  have hb0 : (r.body == 0) = false := by simp; omega
  have hl0 : ((r.l.length : Int) == 120) = false := by simp; omega
  have HK := Lib.hid (fun w (hW : WordsOk w) => kindOf_any k h1 h3 w hW)
  have hne : ((kwA k).toList != (⟨#[102, 111, 117, 110, 116]⟩ : ByteArray).toList) = true := by
    obtain rfl | rfl | rfl : k = 1 ∨ k = 2 ∨ k = 3 := by omega
    all_goals decide +kernel
  go_enter Tryd.func66, Tryd.ntmps66
  go_wp2_with fail
  refine (HK.out _ hW).mono ?_
  rintro e w1 ⟨rfl, rfl⟩
  by_cases hk3 : k = 3
  · subst hk3
    obtain ⟨x1, x2, x3, x4, x5⟩ := line_steps h 3 #[stepF 82 b, stepF 83 b]
    have hsz : (lineW w1 b 3).heap.size = w1.heap.size := (line_set h 3).2.2.2
    rw [hsz] at x1 x2
    go_wp2
    go_ret2
    exact ⟨⟨w1.heap.size, rfl, x1, x2⟩, x3, x4, x5⟩
  · obtain ⟨x1, x2, x3, x4, x5⟩ := line_steps h k #[stepF 82 b, stepF 84 b, stepF 83 b]
    have hsz : (lineW w1 b k).heap.size = w1.heap.size := (line_set h k).2.2.2
    rw [hsz] at x1 x2
    have hSL := Lib.hid (show stepsL k b = [stepF 82 b, stepF 84 b, stepF 83 b] by unfold stepsL; rw [if_neg hk3])
    have hk3b : ((k : Int) == 3) = false := by simp; omega
    clear hk3
    go_wp2
    go_ret2
    unfold StepsPost
    rw [hSL.out]
    exact ⟨⟨w1.heap.size, rfl, x1, x2⟩, x3, x4, x5⟩
end Go.Proofs.YtebndgepmjonoaaDoor
