/-
  Package press: the lateness of a schedule.
-/
import Derived.Test.YtdgegebplebeoaaGreatDoorER
import Derived.Test.YtdgegebplebeoaaGreatDoorShelf
namespace Go.Proofs.YtdgegebplebeoaaGreatDoor
open Go.RowKit

/-- How late each job is done. -/
def lateP (L : List Job) (M : List Int) (s : Sl) : List Int := M.set s.job.toNat (s.from_ + s.mins - (L.getD s.job.toNat noJob).due)
def lateL (L : List Job) (S : List Sl) : List Int := S.foldl (lateP L) (List.replicate L.length 0)
def latI (L : List Job) (S : List Sl) : Int := Lib.maxOf (lateL L S)
def latJ (L : List Job) (S : List Sl) : Int := Lib.idxOf (lateL L S) (latI L S)
theorem lateF_len (L : List Job) : ∀ (S : List Sl) (M : List Int), (S.foldl (lateP L) M).length = M.length
  | [], _ => rfl
  | s :: S, M => by rw [List.foldl_cons, lateF_len L S]; unfold lateP; rw [List.length_set]
theorem lateL_len (L : List Job) (S : List Sl) : (lateL L S).length = L.length := by unfold lateL; rw [lateF_len, List.length_replicate]
def SlOk (n : Nat) (S : List Sl) : Prop := ∀ x ∈ S, (0 ≤ x.job ∧ x.job < n) ∧ (0 ≤ x.from_ ∧ x.from_ ≤ 1000000000) ∧ (0 ≤ x.mins ∧ x.mins ≤ 1000000000)
theorem RowsAt.sl3 {w : World} {a : Option Addr} {S : List Sl} (h : RowsAt 3 Sl.l w a S) {k : Nat} (hk : k < S.length) : ∃ ad, a = some ad ∧ (ad.add (k * 3)).block < w.heap.size ∧
    w.cell? (ad.add (k * 3)) = some (.int .i64 S[k].job) ∧ w.cell? ⟨(ad.add (k * 3)).block, (ad.add (k * 3)).off + 1, none⟩ = some (.int .i64 S[k].from_) ∧ w.cell? ⟨(ad.add (k * 3)).block, (ad.add (k * 3)).off + 2, none⟩ = some (.int .i64 S[k].mins) := by
  obtain ⟨ad, e, hlt, hs⟩ := h k hk
  exact ⟨ad, e, by rw [add_block]; exact hlt, hs 0 (by decide), hs 1 (by decide), hs 2 (by decide)⟩
def LatPost (x y : Int) (w : World) (e : Ending) (w' : World) : Prop := e = .returned (.tuple #[.int .i64 x, .int .i64 y]) ∧ Below w.heap.size w w'
set_option maxRecDepth 100000 in
set_option maxHeartbeats 8000000 in
theorem latenessOf_any (L : List Job) (S : List Sl) (a : Option Addr) (n c : Nat) (sa : Option Addr) (sn sc : Nat) (w : World) (hn : n = L.length) (hsn : sn = S.length) (hr : RowsG 4 jobV w a L) (hs : RowsAt 3 Sl.l w sa S) (hl1 : 1 ≤ L.length) (hl : L.length ≤ 20) (hsl : S.length ≤ 400000) (hok : JobsOk L) (hso : SlOk L.length S) :
    Calls Tryz.prog 49 #[.slice a n c, .slice sa sn sc] w (LatPost (latI L S) (latJ L S) w) := by
  subst hn hsn
  have HOK := Lib.hid hok; have HSO := Lib.hid hso
  clear hok hso
  have hmk := fun W => make_int L.length (by omega) W
  have im := IBox.made w L.length
  have hB0 := (Below.refl w.heap.size w).alloc (Nat.le_refl _) (.cells (madeCells #[.int .i64 0] L.length) 3)
  go_enter Tryz.func49, Tryz.ntmps49
  go_wp2_with fail
  obtain ⟨w0, hw0⟩ : ∃ w0, w0 = w.alloc (.cells (madeCells #[.int .i64 0] L.length) 3) := ⟨_, rfl⟩
  rw [← hw0] at im hB0 ⊢
  clear hw0
  go_loopw [15] (fun i wr => ∃ k : Nat, k ≤ S.length ∧ i = .int .i64 k ∧ IBox wr w.heap.size ((S.take k).foldl (lateP L) (List.replicate L.length 0)) ∧ Below w.heap.size w wr) (fun i _ => S.length - (intOf i).toNat)
  case atStart => exact ⟨0, Nat.zero_le _, rfl, im, hB0⟩
  case round =>
    obtain ⟨k, hk, rfl, ib, hB⟩ := hrel
    clear im hB0 hmk
    by_cases hlt : k < S.length
    · obtain ⟨ad, rfl, had, s0, s1, s2⟩ := (hs.below hB).sl3 hlt
      have HST := Lib.hid (fold_step (f := lateP L) (b := List.replicate L.length 0) hlt)
      obtain ⟨⟨j0, j1⟩, ⟨f0, f1⟩, n0, n1'⟩ := HSO.out _ (List.getElem_mem hlt)
      obtain ⟨x, ex⟩ : ∃ x, x = S[k] := ⟨_, rfl⟩
      rw [← ex] at s0 s1 s2 HST j0 j1 f0 f1 n0 n1'
      obtain ⟨xj, xf, xn⟩ := x
      dsimp only at s0 s1 s2 j0 j1 f0 f1 n0 n1'
      obtain ⟨j, rfl⟩ : ∃ j : Nat, xj = j := ⟨xj.toNat, by omega⟩
      have hjl : j < L.length := by omega
      obtain ⟨M, hM⟩ : ∃ M, M = (S.take k).foldl (lateP L) (List.replicate L.length 0) := ⟨_, rfl⟩
      have hMl : M.length = L.length := by rw [hM, lateF_len, List.length_replicate]
      rw [← hM] at ib HST
      obtain ⟨ad2, ea2, hau, -, -, -, t3⟩ := (hr.below hB).job hjl
      subst ea2
      have hau2 : (ad2.add (j * 4)).block < w.heap.size := by obtain ⟨ad3, e3, h3, -⟩ := hr.job hjl; injection e3 with e3; rw [e3]; exact h3
      have HDU := HOK.out _ (List.getElem_mem hjl)
      have HPU := Lib.hid (show lateP L M ⟨j, xf, xn⟩ = M.set j (xf + xn - L[j].due) by unfold lateP; rw [show ((j : Int)).toNat = j by omega, job_getD hjl])
      have hdu := HDU.2.1
      obtain ⟨d, hd⟩ : ∃ d, d = L[j].due := ⟨_, rfl⟩
      rw [← hd] at t3 HPU hdu
      obtain ⟨d0, d1⟩ := hdu
      have hw1 : IntKind.i64.wrap (xf + xn - d) = xf + xn - d := IntWalk.i64_in _ (by omega)
      have hc := ib.cell (k := j) (by omega)
      have hf := ib.free j
      have hil := ib.lt
      obtain ⟨y, hy⟩ : ∃ y, y = M[j]'(by omega) := ⟨_, rfl⟩
      rw [← hy] at hc
      have bx := BoxAt.new wr #[.int .i64 j, .int .i64 xf, .int .i64 xn] 134
      have ib1 := ib.alloc (.cells #[.int .i64 j, .int .i64 xf, .int .i64 xn] 134)
      have hB1 := hB.alloc hB.size (.cells #[.int .i64 j, .int .i64 xf, .int .i64 xn] 134)
      have ht3 : (wr.alloc (.cells #[.int .i64 j, .int .i64 xf, .int .i64 xn] 134)).cell? ⟨(ad2.add (j * 4)).block, (ad2.add (j * 4)).off + 3, none⟩ = some (.int .i64 d) := by rw [World.cell?_alloc_past _ _ _ hau]; exact t3
      clear ex hM hd hy HDU hMl ib hB
      have hil1 := ib1.lt
      have HC1 := Lib.hid (show (wr.alloc (.cells #[.int .i64 j, .int .i64 xf, .int .i64 xn] 134)).cell? ⟨w.heap.size, j, none⟩ = some (.int .i64 y) by rw [World.cell?_alloc_past _ _ _ hil]; exact hc)
      have HT3 := Lib.hid ht3
      have n1 : ¬ wr.heap.size = w.heap.size := by omega
      have n2 : ¬ w.heap.size = wr.heap.size := by omega
      have n3 : ¬ (ad2.add (j * 4)).block = w.heap.size := by omega
      have n4 : ¬ w.heap.size = (ad2.add (j * 4)).block := by omega
      have hau3 : (ad2.add (j * 4)).block < wr.heap.size + 1 := by omega
      clear ht3
      go_wp2_with fail
      go_region_held3 (fun w' => w'.cell? ⟨wr.heap.size, 0, none⟩ = some (.int .i64 j) ∧ w'.cell? ⟨wr.heap.size, 1, none⟩ = some (.int .i64 xf) ∧ w'.cell? ⟨wr.heap.size, 2, none⟩ = some (.int .i64 xn) ∧ w'.cell? ⟨(ad2.add (j * 4)).block, (ad2.add (j * 4)).off + 3, none⟩ = some (.int .i64 d)) (go_keep)
        ((go_at_call 75; refine (endOf_any _ _ _ _ f0 f1 n0 n1').mono ?_; rintro e w8 ⟨rfl, hb8⟩; have k0 := (bx.drew.below hb8).cell 0; have k1 := (bx.drew.below hb8).cell 1; have k2 := (bx.drew.below hb8).cell 2; simp at k0 k1 k2; have k3 := (hb8.cell (p := ⟨(ad2.add (j * 4)).block, (ad2.add (j * 4)).off + 3, none⟩) (by simp; omega)).trans HT3.out; have k4 := (hb8.cell (p := ⟨w.heap.size, j, none⟩) (by simp; omega)).trans HC1.out; have k5 := (ib1.drew.below hb8).free j))
      have ib8 := (ib1.drew.below hb8).set j (xf + xn - d)
      rw [← HPU.out, ← HST.out] at ib8
      have hB8 := (hB1.drew.trans (hb8.mono (B' := w.heap.size) (by simp; omega))).setCell (p := ⟨w.heap.size, j, none⟩) (Nat.le_refl _) (.int .i64 (xf + xn - d))
      go_wp2
      go_roundw
      case rel => exact ⟨k + 1, by omega, by go_num, ib8, hB8⟩
      case measure => simp [intOf]; omega
    · have HX := Lib.hid (show (S.take k).foldl (lateP L) (List.replicate L.length 0) = lateL L S by rw [fold_all hlt]; rfl)
      rw [HX.out] at ib
      have HLL := Lib.hid (lateL_len L S)
      have hcells : ∀ j, j < (lateL L S).length → wr.cell? ⟨w.heap.size, 0 + j, none⟩ = some (.int .i64 ((lateL L S).getD j 0)) := fun j hj => by rw [Nat.zero_add, getD_eqI hj]; exact ib.cell hj
      have HMX := Lib.hid (Tryz.slices_Max_int w.heap.size 0 L.length L.length (lateL L S) wr (by omega) (by rw [HLL.out]; exact Nat.le_refl _) (by omega) hcells)
      have HIX := Lib.hid (fun x => Tryz.slices_Index_int w.heap.size 0 L.length L.length (lateL L S) x wr (by rw [HLL.out]; exact Nat.le_refl _) (by omega) hcells)
      have hta : (lateL L S).take L.length = lateL L S := List.take_of_length_le (by rw [HLL.out]; exact Nat.le_refl _)
      rw [hta] at HMX HIX
      clear hta hcells
      go_wp2_with fail
      refine HMX.out.mono ?_
      rintro e w' ⟨rfl, hw'⟩
      subst hw'
      go_wp2_with fail
      refine (HIX.out _).mono ?_
      rintro e w' ⟨rfl, hw'⟩
      subst hw'
      go_wp2_with fail
      go_ret2
      exact ⟨rfl, hB⟩
end Go.Proofs.YtdgegebplebeoaaGreatDoor
