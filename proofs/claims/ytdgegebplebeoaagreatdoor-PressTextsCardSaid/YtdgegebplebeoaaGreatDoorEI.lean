/-
  Package press: the example of a run; chances scaled to cases.
-/
import Derived.Test.YtdgegebplebeoaaGreatDoorEH
import Derived.Test.YtdgegebplebeoaaGreatDoorED
namespace Go.Proofs.YtdgegebplebeoaaGreatDoor
open Go.RowKit

def bs (l : List UInt8) : ByteArray := ⟨l.toArray⟩
def posterR : Run := ⟨⟨#[112, 111, 115, 116, 101, 114]⟩, 3, 100, 110, [⟨#[114, 101, 100]⟩, ⟨#[98, 108, 117, 101]⟩], 30, 600⟩
def PosterPost (w : World) (e : Ending) (w' : World) : Prop :=
  ∃ b, e = .returned (.agg #[.string posterR.job, .int .i64 3, .int .i64 100, .int .i64 110, .slice (some ⟨b, 0, none⟩) 2 2, .int .i64 30, .int .i64 600]) ∧ RowsG 1 tx w' (some ⟨b, 0, none⟩) posterR.cols ∧ Below w.heap.size w w'
set_option maxHeartbeats 1000000 in
theorem poster_any (w : World) : Calls Tryz.prog 14 #[] w (PosterPost w) := by
  have hr := fun W : World => rowsG_lit tx_l W 9 posterR.cols _ rfl
  go_enter Tryz.func14, Tryz.ntmps14
  go_wp2
  refine bodyPost_ret (v := .agg #[.string posterR.job, .int .i64 3, .int .i64 100, .int .i64 110, .slice (some ⟨w.heap.size + 1, 0, none⟩) 2 2, .int .i64 30, .int .i64 600]) (by simp [results, Tryz.results14, go_sem]; rfl) rfl ⟨w.heap.size + 1, rfl, ?_, ?_⟩
  · have h := hr (w.alloc (.cells #[.string ⟨#[112, 111, 115, 116, 101, 114]⟩, .int .i64 3, .int .i64 100, .int .i64 110, .slice (some ⟨w.heap.size + 1, 0, none⟩) 2 2, .int .i64 30, .int .i64 600] 24))
    rw [World.size_alloc] at h
    exact h
  · exact ((Below.refl _ _).alloc (Nat.le_refl _) _).alloc (by simp) _
set_option maxRecDepth 100000 in
set_option maxHeartbeats 2000000 in
theorem estPoster_any (b : Nat) (w : World) (hr : RowsG 1 tx w (some ⟨b, 0, none⟩) posterR.cols) :
    Calls Tryz.prog 13 #[.agg #[.string posterR.job, .int .i64 3, .int .i64 100, .int .i64 110, .slice (some ⟨b, 0, none⟩) 2 2, .int .i64 30, .int .i64 600], .agg #[.int .i64 5, .int .i64 100, .int .i64 3000]] w (pairPost 4850 0 w) := by
  have h := estimate_any posterR (some ⟨b, 0, none⟩) 2 5 100 3000 w (by decide) hr (by decide) (by intro s hs; have : s = ⟨#[114, 101, 100]⟩ ∨ s = ⟨#[98, 108, 117, 101]⟩ := by simpa [posterR] using hs
                                                                                                   rcases this with rfl | rfl <;> decide)
  rw [show estErr posterR 5 100 3000 = 0 by decide +kernel, show estP posterR 5 100 3000 = 4850 by decide +kernel] at h
  exact h
theorem ex_runErr : estErr posterR 5 100 3000 = 0 := by decide +kernel
theorem ex_run : estP posterR 5 100 3000 = 4850 := by decide +kernel
/-- A chance x / y is E cases of A. -/
structure ScOk (x y A E : Int) : Prop where
  y1 : 1 ≤ y
  yA : y ≤ A
  x0 : 0 ≤ x
  xy : x ≤ y
  md : A % y = 0
  ml : x * (A / y) = E
  e0 : 0 ≤ E
  eA : E ≤ A
  a1 : A ≤ 100000000000000000
theorem sc_ok {E A : Int} (h0 : 0 ≤ E) (h1 : E ≤ A) (h2 : 1 ≤ A) (h3 : A ≤ 100000000000000000) : ScOk (E / Int.gcd E A) (A / Int.gcd E A) A E := by
  obtain ⟨g2, g1⟩ := gcd_le (a := E) h2
  obtain ⟨g, hg⟩ : ∃ g : Int, g = Int.gcd E A := ⟨_, rfl⟩
  have d1 : g ∣ E := by rw [hg]; exact Int.gcd_dvd_left ..
  have d2 : g ∣ A := by rw [hg]; exact Int.gcd_dvd_right ..
  rw [← hg] at g1 g2 ⊢
  obtain ⟨x, rfl⟩ := d1
  obtain ⟨y, rfl⟩ := d2
  have e1 : g * x / g = x := Int.mul_ediv_cancel_left _ (by omega)
  have e2 : g * y / g = y := Int.mul_ediv_cancel_left _ (by omega)
  have y1 : 1 ≤ y := by
    rcases Int.lt_or_le y 1 with h | h
    · have : g * y ≤ g * 0 := Int.mul_le_mul_of_nonneg_left (by omega) (by omega)
      omega
    · exact h
  have x0 : 0 ≤ x := by
    rcases Int.lt_or_le x 0 with h | h
    · have : g * x ≤ g * (-1) := Int.mul_le_mul_of_nonneg_left (by omega) (by omega)
      omega
    · exact h
  rw [e1, e2]
  refine ⟨y1, ?_, x0, ?_, ?_, ?_, h0, h1, h3⟩
  · have : 1 * y ≤ g * y := Int.mul_le_mul_of_nonneg_right g1 (by omega)
    omega
  · exact Int.le_of_mul_le_mul_left h1 (by omega)
  · exact Int.mul_emod_left _ _
  · rw [Int.mul_ediv_cancel _ (by omega), Int.mul_comm]
theorem sc_zero {A : Int} (h2 : 1 ≤ A) (h3 : A ≤ 100000000000000000) : ScOk 0 1 A 0 :=
  ⟨by omega, by omega, by omega, by omega, by omega, by omega, by omega, by omega, by omega⟩
end Go.Proofs.YtdgegebplebeoaaGreatDoor
