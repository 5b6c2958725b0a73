/-
  Package impose: a book in memory of its own.
-/
import Derived.Test.YtjkjfmahcjcniaaT9
import Derived.Test.YtjkjfmahcjcniaaRM
namespace Go.Proofs.Ytjkjfmahcjcniaa
open Go.RowKit

def BookPost (w : World) (P S : Int) (pl cl : List Int) (e : Ending) (w' : World) : Prop :=
  ∃ (a1 : Option Addr) (n1 c1 : Nat) (a2 : Option Addr) (n2 c2 : Nat), e = .returned (.agg #[.int .i64 P, .int .i64 S, .slice a1 n1 c1, .slice a2 n2 c2]) ∧ n1 = pl.length ∧ n2 = cl.length ∧ RowsAt 1 intL w' a1 pl ∧ RowsAt 1 intL w' a2 cl ∧ Below w.heap.size w w'
set_option maxRecDepth 100000 in
set_option maxHeartbeats 16000000 in
theorem book_any (P S : Int) (pa : Option Addr) (pl : List Int) (pc : Nat) (ca : Option Addr) (cl : List Int) (cc : Nat) (w : World) (hp : RowsAt 1 intL w pa pl) (hpl : pl.length ≤ 45) (hpn : pa = none → pc = 0) (hc : RowsAt 1 intL w ca cl) (hcl : cl.length ≤ 45) (hcn : ca = none → cc = 0) :
    Calls Try.prog 56 #[.agg #[.int .i64 P, .int .i64 S, .slice pa pl.length pc, .slice ca cl.length cc]] w (BookPost w P S pl cl) := by
  obtain ⟨w1, hw1⟩ : ∃ w1, w1 = (w.alloc (.cells #[.int .i64 P, .int .i64 S, .slice pa pl.length pc, .slice ca cl.length cc] 93)).alloc (.cells #[.int .i64 0, .int .i64 0, .slice none 0 0, .slice none 0 0] 93) := ⟨_, rfl⟩
  have bx : BoxAt w1 w.heap.size #[.int .i64 P, .int .i64 S, .slice pa pl.length pc, .slice ca cl.length cc] 93 := by rw [hw1]; exact (BoxAt.new w _ _).alloc _
  have br : BoxAt w1 (w.heap.size + 1) #[.int .i64 0, .int .i64 0, .slice none 0 0, .slice none 0 0] 93 := by
    rw [hw1]
    have := BoxAt.new (w.alloc (.cells #[.int .i64 P, .int .i64 S, .slice pa pl.length pc, .slice ca cl.length cc] 93)) #[.int .i64 0, .int .i64 0, .slice none 0 0, .slice none 0 0] 93
    simpa using this
  have hB : Below w.heap.size w w1 := by rw [hw1]; exact ((Below.refl _ _).alloc (Nat.le_refl _) _).alloc (by simp) _
  have hs1 : w1.heap.size = w.heap.size + 1 + 1 := by rw [hw1]; simp
  have W1 := Lib.hid hw1
  have HS1 := Lib.hid hs1
  have HPN := Lib.hid hpn; have HCN := Lib.hid hcn
  have HP6 : Hid (pl.length ≤ 1000000) := Lib.hid (by omega)
  have HC6 : Hid (cl.length ≤ 1000000) := Lib.hid (by omega)
  have hp1 := hp.below hB; have hc1 := hc.below hB
  clear hw1 hpn hcn hs1
  have c0 := bx.cell 0; have c1 := bx.cell 1; have c2 := bx.cell 2; have c3 := bx.cell 3
  have hbl := bx.lt
  simp at c0 c1 c2 c3
  go_enter Try.func56, Try.ntmps56
  go_upto_region 1 with fail
  rw [← W1.out]
  have hq : Below w1.heap.size w1 w1.drew := (Below.refl _ w1).drew
  go_region_law ((first
      | (go_simp; go_at_call 67; refine (copyInts_any pa pl pc _ (hp1.below hq) HP6.out HPN.out).mono ?_; rintro e v ⟨v1, rfl, hO1, hbv⟩; obtain ⟨a1, d1, e1, hr1, -, -, -, hge1⟩ := hO1.rows int_l; obtain ⟨n1, hn1⟩ : ∃ n, n = pl.length := ⟨_, rfl⟩; rw [← hn1] at e1; subst e1; have HN1 := Lib.hid hn1; clear hn1; have hle1 := hq.size; (try (have hr2 := hr2.below hbv)); have hq := keep_same hq hbv; have hbq := bx.below hq; have z := fun j => hbq.free j; have j0 := hbq.cell 0; have j1 := hbq.cell 1; have j2 := hbq.cell 2; have j3 := hbq.cell 3; have jl := hbq.lt; simp at j0 j1 j2 j3)
      | (go_simp; go_at_call 67; refine (copyInts_any ca cl cc _ (hc1.below hq) HC6.out HCN.out).mono ?_; rintro e v ⟨v2, rfl, hO2, hbv⟩; obtain ⟨a2, d2, e2, hr2, -, -, -, hge2⟩ := hO2.rows int_l; obtain ⟨n2, hn2⟩ : ∃ n, n = cl.length := ⟨_, rfl⟩; rw [← hn2] at e2; subst e2; have HN2 := Lib.hid hn2; clear hn2; have hle2 := hq.size; (try (have hr1 := hr1.below hbv)); have hq := keep_same hq hbv; have hbq := bx.below hq; have z := fun j => hbq.free j; have j0 := hbq.cell 0; have j1 := hbq.cell 1; have j2 := hbq.cell 2; have j3 := hbq.cell 3; have jl := hbq.lt; simp at j0 j1 j2 j3)))
  all_goals
    have hbr := br.below hq
    have hBq := hB.trans (hq.mono (B' := w.heap.size) hB.size)
    have x0 := hbr.cell 0; have x1 := hbr.cell 1; have x2 := hbr.cell 2; have x3 := hbr.cell 3
    have zr := fun j => hbr.free j
    have hrl := hbr.lt
    simp at x0 x1 x2 x3
    have HS := HS1.out
    have k1 : ∀ ad, a1 = some ad → ad.block ≠ w.heap.size := fun ad e => by have := hge1 ad e; omega
    have k2 : ∀ ad, a2 = some ad → ad.block ≠ w.heap.size := fun ad e => by have := hge2 ad e; omega
    have l1 : ∀ ad, a1 = some ad → ad.block ≠ w.heap.size + 1 := fun ad e => by have := hge1 ad e; omega
    have l2 : ∀ ad, a2 = some ad → ad.block ≠ w.heap.size + 1 := fun ad e => by have := hge2 ad e; omega
    have hn1 : w.heap.size ≠ w.heap.size + 1 := by omega
    obtain ⟨wz, hwz⟩ : ∃ wz, wz = (v.setCell ⟨w.heap.size, 2, none⟩ (.slice a1 n1 d1)).setCell ⟨w.heap.size, 3, none⟩ (.slice a2 n2 d2) := ⟨_, rfl⟩
    have bz : BoxAt wz w.heap.size #[.int .i64 P, .int .i64 S, .slice a1 n1 d1, .slice a2 n2 d2] 93 := by rw [hwz]; exact (hbq.set 2 _).set 3 _
    have rz : BoxAt wz (w.heap.size + 1) #[.int .i64 0, .int .i64 0, .slice none 0 0, .slice none 0 0] 93 := by rw [hwz]; exact (hbr.set_other (p := ⟨w.heap.size, 2, none⟩) hn1.symm _).set_other (p := ⟨w.heap.size, 3, none⟩) hn1.symm _
    have hBz : Below w.heap.size w wz := by rw [hwz]; exact (hBq.setCell (p := ⟨w.heap.size, 2, none⟩) (Nat.le_refl _) _).setCell (p := ⟨w.heap.size, 3, none⟩) (Nat.le_refl _) _
    have r1z : RowsAt 1 intL wz a1 pl := by rw [hwz]; exact (hr1.set (p := ⟨w.heap.size, 2, none⟩) k1 _).set (p := ⟨w.heap.size, 3, none⟩) k1 _
    have r2z : RowsAt 1 intL wz a2 cl := by rw [hwz]; exact (hr2.set (p := ⟨w.heap.size, 2, none⟩) k2 _).set (p := ⟨w.heap.size, 3, none⟩) k2 _
    have HWZ := Lib.hid hwz
    rw [← HWZ.out]
    clear hwz hbq hbr j0 j1 j2 j3 jl z x0 x1 x2 x3 zr hrl c0 c1 c2 c3 hbl k1 k2 hr1 hr2
    have c0 := bz.cell 0; have c1 := bz.cell 1; have c2 := bz.cell 2; have c3 := bz.cell 3
    have x0 := rz.cell 0; have x1 := rz.cell 1; have x2 := rz.cell 2; have x3 := rz.cell 3
    have zr := fun j => rz.free j
    have hrl := rz.lt
    simp at c0 c1 c2 c3 x0 x1 x2 x3
    have hle : w.heap.size ≤ w.heap.size + 1 := Nat.le_succ _
    go_wp2_with fail
    refine bodyPost_ret (v := .agg #[.int .i64 P, .int .i64 S, .slice a1 n1 d1, .slice a2 n2 d2]) ?_ rfl ⟨a1, n1, d1, a2, n2, d2, rfl, HN1.out, HN2.out, (((r1z.set (p := ⟨w.heap.size + 1, 0, none⟩) l1 _).set (p := ⟨w.heap.size + 1, 1, none⟩) l1 _).set (p := ⟨w.heap.size + 1, 2, none⟩) l1 _).set (p := ⟨w.heap.size + 1, 3, none⟩) l1 _, (((r2z.set (p := ⟨w.heap.size + 1, 0, none⟩) l2 _).set (p := ⟨w.heap.size + 1, 1, none⟩) l2 _).set (p := ⟨w.heap.size + 1, 2, none⟩) l2 _).set (p := ⟨w.heap.size + 1, 3, none⟩) l2 _, (((hBz.setCell (p := ⟨w.heap.size + 1, 0, none⟩) hle _).setCell (p := ⟨w.heap.size + 1, 1, none⟩) hle _).setCell (p := ⟨w.heap.size + 1, 2, none⟩) hle _).setCell (p := ⟨w.heap.size + 1, 3, none⟩) hle _⟩
    simp [results, Try.results56, go_sem, x0, x1, x2, x3]
end Go.Proofs.Ytjkjfmahcjcniaa
