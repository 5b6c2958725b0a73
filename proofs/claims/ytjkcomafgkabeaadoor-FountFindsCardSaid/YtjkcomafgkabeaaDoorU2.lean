/-
  Parts of the em: the program's and the reference's.
-/
import Derived.Test.YtjkcomafgkabeaaDoorU1
namespace Go.Proofs.YtjkcomafgkabeaaDoor
open Go.RowKit Go.Maps

def partW (f : FT) (x : Nat) : Nat := (f.sorts.getD x noTS).width.toNat
def emN (f : FT) : Nat := (f.body * 60).toNat
def partR (f : FT) (x : Int) : Int × Int × Int :=
  if (checkF f).2 ≠ 0 then (0, 0, (checkF f).2) else if idxBad f.sorts.length x = true then (0, 0, 6) else
    (((partW f x.toNat / Nat.gcd (partW f x.toNat) (emN f) : Nat) : Int), ((emN f / Nat.gcd (partW f x.toNat) (emN f) : Nat) : Int), 0)

theorem emOf_any (b : Int) (h : 1 ≤ b ∧ b ≤ 144) (w : World) :
    Calls Tryd.prog 69 #[.int .i64 b] w fun e w' => e = .returned (.int .i64 (b * 60)) ∧ w' = w := by
  obtain ⟨h1, h2⟩ := h
  go_enter Tryd.func69, Tryd.ntmps69
  go_wp2
  go_ret
  exact ⟨rfl, rfl⟩
theorem refEm_any (f : FT) (a : Option Addr) (c : Nat) (w : World) (h : 1 ≤ f.body ∧ f.body ≤ 144) :
    Calls Tryd.prog 23 #[.agg #[.string f.name, .int .i64 f.body, .slice a f.sorts.length c]] w fun e w' => e = .returned (.int .i64 (f.body * 60)) ∧ Below w.heap.size w w' := by
  obtain ⟨h1, h2⟩ := h
  have hB := (Below.refl w.heap.size w).alloc (Nat.le_refl _) (boxF f a c)
  have hm : (60 : Int) * f.body = f.body * 60 := Int.mul_comm _ _
  have hw : IntKind.i64.wrap (60 * f.body) = f.body * 60 := by rw [IntWalk.i64_in _ (by omega)]; exact hm
  clear hm
  go_enter Tryd.func23, Tryd.ntmps23
  go_wp2
  go_ret
  exact ⟨rfl, hB⟩

theorem Drew.frozen {w0 wr : World} (h : Drew w0 wr) {p : Addr} {v : Bool} (hi : w0.frozen? p = v) : wr.frozen? p = v := by obtain ⟨n, rfl⟩ := h; exact hi
def zFrac : Obj := .cells #[.int .i64 0, .int .i64 0] 40
set_option maxRecDepth 100000 in
set_option maxHeartbeats 1000000 in
theorem lowest_any (m n : Nat) (hm : m ≤ 1000000000) (hn : n ≤ 1000000000) (hn1 : 1 ≤ n) (w : World) :
    Calls Tryd.prog 31 #[.int .i64 m, .int .i64 n] w fun e w' => e = .returned (.agg #[.int .i64 (m / Nat.gcd m n : Nat), .int .i64 (n / Nat.gcd m n : Nat)]) ∧ Below w.heap.size w w' := by
  have hg : 0 < Nat.gcd m n := Nat.gcd_pos_of_pos_right _ hn1
  have hgl : Nat.gcd m n ≤ n := Nat.gcd_le_right _ hn1
  go_enter Tryd.func31, Tryd.ntmps31
  go_wp2_with fail
  refine (gcd_any m n hm hn _).mono ?_
  rintro e w2 ⟨rfl, hD⟩
  obtain ⟨g, eg⟩ : ∃ g, g = Nat.gcd m n := ⟨_, rfl⟩
  rw [← eg] at hg hgl ⊢
  obtain ⟨mg, emg⟩ : ∃ mg, mg = m / g := ⟨_, rfl⟩
  obtain ⟨ng, eng⟩ : ∃ ng, ng = n / g := ⟨_, rfl⟩
  have HE := Lib.hid (show m / Nat.gcd m n = mg ∧ n / Nat.gcd m n = ng by rw [← eg]; exact ⟨emg.symm, eng.symm⟩)
  have hm0 : (0 : Int) ≤ m := by omega
  have hn0 : (0 : Int) ≤ n := by omega
  have hn0' : decide ((n : Int) < 0) = false := by simp
  have hg1 : (1 : Int) ≤ g := by omega
  have hgz : ((g : Int) == 0) = false := by simp; omega
  have hdm : mg ≤ 1000000000 := by rw [emg]; exact Nat.le_trans (Nat.div_le_self _ _) hm
  have hdn : ng ≤ 1000000000 := by rw [eng]; exact Nat.le_trans (Nat.div_le_self _ _) hn
  have hwa : IntKind.i64.wrap ((m : Int) / (g : Int)) = (mg : Int) := by
    rw [show (m : Int) / (g : Int) = (mg : Int) by rw [emg]; omega]; exact IntWalk.i64_in _ (by omega)
  have hwb : IntKind.i64.wrap ((n : Int) / (g : Int)) = (ng : Int) := by
    rw [show (n : Int) / (g : Int) = (ng : Int) by rw [eng]; omega]; exact IntWalk.i64_in _ (by omega)
  clear emg eng eg
  have c0 := hD.cell (p := ⟨w.heap.size, 0, none⟩) (v := .int .i64 0) (by simp)
  have c1 := hD.cell (p := ⟨w.heap.size, 1, none⟩) (v := .int .i64 0) (by simp)
  have f0 := hD.frozen (p := ⟨w.heap.size, 0, none⟩) (v := false) (by simp)
  have f1 := hD.frozen (p := ⟨w.heap.size, 1, none⟩) (v := false) (by simp)
  have hB0 : Below w.heap.size w w2 := hD.below ((Below.refl _ _).alloc (Nat.le_refl _) _)
  go_wp2_with fail
  go_region
  go_wp2
  refine bodyPost_ret (v := .agg #[.int .i64 mg, .int .i64 ng]) (by simp [results, Tryd.results31, go_sem, c0, c1]) rfl ⟨by rw [HE.out.1, HE.out.2], ?_⟩
  exact ((hB0.setCell (p := ⟨w.heap.size, 0, none⟩) (Nat.le_refl _) _).setCell (p := ⟨w.heap.size, 1, none⟩) (Nat.le_refl _) _).drew
end Go.Proofs.YtjkcomafgkabeaaDoor
