/-
  Package impose: the pages of leaves that lie on each other.
-/
import Derived.Test.YtgoandhlcekmiaaGreatDoorKI
namespace Go.Proofs.YtgoandhlcekmiaaGreatDoor
open Go.RowKit

set_option maxRecDepth 100000 in
set_option maxHeartbeats 16000000 in
theorem pagesOf_any (C R : Nat) (a : Option Addr) (L : List Cell) (n c : Nat) (pa : Option Addr) (M : List Leaf) (pn pc : Nat) (w : World) (hC : 1 ≤ C ∧ C ≤ 8) (hR : 1 ≤ R ∧ R ≤ 8) (hn : n = L.length) (hlen : L.length = C * R) (hL : RowsAt 4 Cell.l w a L) (hLb : ∀ x ∈ L, Bit x.ft ∧ Bit x.bt)
    (hpn : pn = M.length) (hM : RowsAt 4 Leaf.l w pa M) (hMi : ∀ x ∈ M, LeafIn C R x) (hMl : M.length ≤ 1000) :
    Calls Tryz.prog 51 #[.agg #[.int .i64 C, .int .i64 R, .slice a n c], .slice pa pn pc] w (PagesPost w (rdTo C L M M.length)) := by
  have HLEN := Lib.hid hlen; have HNN := Lib.hid hn; have HPN := Lib.hid hpn; have HLB := Lib.hid hLb; have HMI := Lib.hid hMi; have HML := Lib.hid hMl; have HCR := Lib.hid (And.intro hC hR)
  obtain ⟨w0, hw0⟩ : ∃ w0, w0 = w.alloc (.cells #[.int .i64 C, .int .i64 R, .slice a n c] 29) := ⟨_, rfl⟩
  have E0 : PgEnv w C R a n c (.slice none 0 0) (rdTo C L M 0) w0 := by
    rw [hw0]; exact ⟨BoxAt.new w _ _, OwnR.nil _ _, (Below.refl w.heap.size w).alloc (Nat.le_refl _) _⟩
  have W0 := Lib.hid hw0
  clear hw0 hlen hn hpn hLb hMi hMl hC hR
  go_enter Tryz.func51, Tryz.ntmps51
  go_wp2
  rw [← W0.out]
  go_loopw [5, 13] (fun v i wr => ∃ k : Nat, k ≤ pn ∧ i = .int .i64 k ∧ PgEnv w C R a n c v (rdTo C L M k) wr) (fun v i _ => pn - (intOf i).toNat)
  case atStart => exact ⟨0, Nat.zero_le _, rfl, E0⟩
  case round =>
    obtain ⟨k, hk, rfl, E⟩ := hrel
    clear E0
    by_cases hkl : k < pn
    · have hkI : (k : Int) < (pn : Int) := by omega
      have hkM : k < M.length := by rw [← HPN.out]; exact hkl
      obtain ⟨pd, rfl, hpd, s0, s1, s2, s3⟩ := (hM.below E.low).leaf hkM
      obtain ⟨z, ez⟩ : ∃ z, z = M[k] := ⟨_, rfl⟩
      have hin := HMI.out _ (List.getElem_mem hkM)
      have HRD := Lib.hid (rdTo_succ (C := (C : Int)) (L := L) hkM)
      rw [← ez] at s0 s1 s2 s3 hin HRD
      obtain ⟨⟨hz1a, hz1b⟩, ⟨hz2a, hz2b⟩, hzo, hzt⟩ := hin
      obtain ⟨zc, zr, zo, zt⟩ := z
      have hz1a : 0 ≤ zc := hz1a
      have hz1b : zc < C := hz1b
      have hz2a : 0 ≤ zr := hz2a
      have hz2b : zr < R := hz2b
      have hzo : Bit zo := hzo
      have hzt : Bit zt := hzt
      obtain ⟨uc, rfl⟩ : ∃ u : Nat, zc = u := ⟨zc.toNat, by omega⟩
      obtain ⟨ur, rfl⟩ : ∃ u : Nat, zr = u := ⟨zr.toNat, by omega⟩
      obtain ⟨i, hi⟩ : ∃ i, ur * C + uc = i := ⟨_, rfl⟩
      have hil : i < L.length := by rw [← hi, HLEN.out]; exact mul_lt (by omega) (by omega)
      have HIX : Hid ((ur : Int) * (C : Int) + (uc : Int) = (i : Int)) := Lib.hid (by rw [← hi, Int.natCast_add, Int.natCast_mul])
      have HIB : Hid (-1000000 ≤ (ur : Int) * (C : Int) ∧ (ur : Int) * (C : Int) ≤ 1000000) := Lib.hid (by
        have hcr := HCR.out
        have := Int.mul_le_mul (show (ur : Int) ≤ 8 by omega) (show (C : Int) ≤ 8 by omega) (by omega) (by omega)
        have := Int.mul_nonneg (show (0 : Int) ≤ ur by omega) (show (0 : Int) ≤ C by omega)
        omega)
      have HUC : Hid (-1000000 ≤ (uc : Int) ∧ (uc : Int) ≤ 1000000) := Lib.hid (by have hcr := HCR.out; omega)
      obtain ⟨ad, rfl, had, t0, t1, t2, t3⟩ := (hL.below E.low).cell hil
      obtain ⟨y, ey⟩ : ∃ y, y = L[i] := ⟨_, rfl⟩
      have HYB : Hid (Bit y.ft ∧ Bit y.bt) := Lib.hid (by rw [ey]; exact HLB.out _ (List.getElem_mem hil))
      have HCE : Hid (cellAt C L ⟨uc, ur, zo, zt⟩ = y) := Lib.hid (by
        unfold cellAt
        show L.getD ((ur : Int) * (C : Int) + (uc : Int)).toNat default = y
        rw [HIX.out, Int.toNat_natCast, getD_in default hil, ey])
      rw [← ey] at t0 t1 t2 t3
      have hinI : (i : Int) < (n : Int) := by have := HNN.out; omega
      have HZO := Lib.hid hzo; have HZT := Lib.hid hzt
      have EZ := Lib.hid ez; have EY := Lib.hid ey
      clear ez ey hi hzo hzt
      obtain ⟨f, ft, b, bt⟩ := y
      simp only at s0 s1 s2 s3 t0 t1 t2 t3
      obtain ⟨al, hal⟩ : ∃ al, wr.heap.size = al := ⟨_, rfl⟩
      obtain ⟨w7, hw7⟩ : ∃ w7, w7 = wr.alloc (.cells #[.int .i64 uc, .int .i64 ur, .int .i64 zo, .int .i64 zt] 77) := ⟨_, rfl⟩
      have hb7 : Below wr.heap.size wr w7 := by rw [hw7]; exact (Below.refl _ wr).alloc (Nat.le_refl _) _
      have bl7 : BoxAt w7 al #[.int .i64 uc, .int .i64 ur, .int .i64 zo, .int .i64 zt] 77 := by rw [hw7, ← hal]; exact BoxAt.new wr _ _
      have E7 := E.below hb7
      have hvoa : some al ≠ u5.ownBlock := fun e => by have := (E.own.lt al e.symm).2; omega
      have had7 : (ad.add (i * 4)).block < w7.heap.size := by rw [add_block]; exact Nat.lt_of_lt_of_le had hb7.size
      have had8 : ∀ q, (⟨(ad.add (i * 4)).block, q, none⟩ : Addr).block < w7.heap.size := fun _ => had7
      have t0 := (hb7.cell (p := ad.add (i * 4)) (by rw [add_block]; exact had)).trans t0
      have t1 := (hb7.cell (p := ⟨(ad.add (i * 4)).block, (ad.add (i * 4)).off + 1, none⟩) (by show (ad.add (i * 4)).block < _; rw [add_block]; exact had)).trans t1
      have t2 := (hb7.cell (p := ⟨(ad.add (i * 4)).block, (ad.add (i * 4)).off + 2, none⟩) (by show (ad.add (i * 4)).block < _; rw [add_block]; exact had)).trans t2
      have t3 := (hb7.cell (p := ⟨(ad.add (i * 4)).block, (ad.add (i * 4)).off + 3, none⟩) (by show (ad.add (i * 4)).block < _; rw [add_block]; exact had)).trans t3
      go_wp2_with fail
      rw [← hw7]
      have c0 := E7.bs.cell 0; have c1 := E7.bs.cell 1; have c2 := E7.bs.cell 2
      have l0 := bl7.cell 0; have l1 := bl7.cell 1
      have hxl := E7.bs.lt; have hll := bl7.lt
      simp at c0 c1 c2 l0 l1
      have hq : Below w7.heap.size w7 w7.drew := (Below.refl _ w7).drew
      have jn0 := World.new_ne _ _ c0; have jn1 := World.new_ne _ _ c1; have jn2 := World.new_ne _ _ c2; have jn3 := World.new_ne _ _ l0; have jn4 := World.new_ne _ _ l1; have jn5 := World.new_ne _ _ t0; have jn6 := World.new_ne _ _ t1; have jn7 := World.new_ne _ _ t2; have jn8 := World.new_ne _ _ t3
      clear E hb7 s0 s1 s2 s3 hw7
      go_cut [8] from 14 to 48 (fun v8 wx => ∃ b8, v8 = .pointer (some ⟨b8, 0, none⟩) ∧ BoxAt wx b8 #[.int .i64 f, .int .i64 ft, .int .i64 b, .int .i64 bt] 57 ∧ w7.heap.size ≤ b8 ∧ Below w7.heap.size w7 wx)
      case first =>
        rename_i J9 K9 hR9 hM9
        go_region_held3 (fun w' => w'.cell? ⟨w.heap.size, 0, none⟩ = some (.int .i64 C) ∧ w'.cell? ⟨w.heap.size, 1, none⟩ = some (.int .i64 R) ∧ w'.cell? ⟨w.heap.size, 2, none⟩ = some (.slice (some ad) n c) ∧ w'.cell? ⟨al, 0, none⟩ = some (.int .i64 uc) ∧ w'.cell? ⟨al, 1, none⟩ = some (.int .i64 ur) ∧ w'.cell? (ad.add (i * 4)) = some (.int .i64 f) ∧ w'.cell? ⟨(ad.add (i * 4)).block, (ad.add (i * 4)).off + 1, none⟩ = some (.int .i64 ft) ∧ w'.cell? ⟨(ad.add (i * 4)).block, (ad.add (i * 4)).off + 2, none⟩ = some (.int .i64 b) ∧ w'.cell? ⟨(ad.add (i * 4)).block, (ad.add (i * 4)).off + 3, none⟩ = some (.int .i64 bt)) (first | exact ⟨j0, j1, j2, j3, j4, j5, j6, j7, j8⟩ | go_keep)
          (first
            | (go_at_call 39; refine (sizeOfScheme_any (C : Int) (R : Int) _ ⟨_, _, _, rfl⟩ _).mono ?_; rintro e v ⟨rfl, hbv⟩; first | ((with_reducible have hq := keep_same hq hbv); (try (have bal := bal.below hbv; have fz := fun j => bal.free j; have hbl8 := bal.lt; have y0 := bal.cell 0; have y1 := bal.cell 1; have y2 := bal.cell 2; have y3 := bal.cell 3; simp at y0 y1 y2 y3)); have j0 := (hq.cell (p := ⟨w.heap.size, 0, none⟩) hxl).trans c0; have jn0 := World.new_ne _ _ j0; have j1 := (hq.cell (p := ⟨w.heap.size, 1, none⟩) hxl).trans c1; have jn1 := World.new_ne _ _ j1; have j2 := (hq.cell (p := ⟨w.heap.size, 2, none⟩) hxl).trans c2; have jn2 := World.new_ne _ _ j2; have j3 := (hq.cell (p := ⟨al, 0, none⟩) hll).trans l0; have jn3 := World.new_ne _ _ j3; have j4 := (hq.cell (p := ⟨al, 1, none⟩) hll).trans l1; have jn4 := World.new_ne _ _ j4; have j5 := (hq.cell (p := ad.add (i * 4)) had7).trans t0; have jn5 := World.new_ne _ _ j5; have j6 := (hq.cell (p := ⟨(ad.add (i * 4)).block, (ad.add (i * 4)).off + 1, none⟩) had7).trans t1; have jn6 := World.new_ne _ _ j6; have j7 := (hq.cell (p := ⟨(ad.add (i * 4)).block, (ad.add (i * 4)).off + 2, none⟩) had7).trans t2; have jn7 := World.new_ne _ _ j7; have j8 := (hq.cell (p := ⟨(ad.add (i * 4)).block, (ad.add (i * 4)).off + 3, none⟩) had7).trans t3; have jn8 := World.new_ne _ _ j8) | ((with_reducible have bal := box_new hbv); have fz := fun j => bal.free j; have hbl8 := bal.lt; have y0 := bal.cell 0; have y1 := bal.cell 1; have y2 := bal.cell 2; have y3 := bal.cell 3; simp at y0 y1 y2 y3; have hle := hq.size; obtain ⟨nx1, ny1⟩ := lt_ne (Nat.lt_of_lt_of_le hxl hq.size); obtain ⟨nx2, ny2⟩ := lt_ne (Nat.lt_of_lt_of_le hll hq.size); obtain ⟨nx3, ny3⟩ := lt_ne (Nat.lt_of_lt_of_le had7 hq.size); (with_reducible have hq := keep_new hq hbv); have j0 := (hq.cell (p := ⟨w.heap.size, 0, none⟩) hxl).trans c0; have jn0 := World.new_ne _ _ j0; have j1 := (hq.cell (p := ⟨w.heap.size, 1, none⟩) hxl).trans c1; have jn1 := World.new_ne _ _ j1; have j2 := (hq.cell (p := ⟨w.heap.size, 2, none⟩) hxl).trans c2; have jn2 := World.new_ne _ _ j2; have j3 := (hq.cell (p := ⟨al, 0, none⟩) hll).trans l0; have jn3 := World.new_ne _ _ j3; have j4 := (hq.cell (p := ⟨al, 1, none⟩) hll).trans l1; have jn4 := World.new_ne _ _ j4; have j5 := (hq.cell (p := ad.add (i * 4)) had7).trans t0; have jn5 := World.new_ne _ _ j5; have j6 := (hq.cell (p := ⟨(ad.add (i * 4)).block, (ad.add (i * 4)).off + 1, none⟩) had7).trans t1; have jn6 := World.new_ne _ _ j6; have j7 := (hq.cell (p := ⟨(ad.add (i * 4)).block, (ad.add (i * 4)).off + 2, none⟩) had7).trans t2; have jn7 := World.new_ne _ _ j7; have j8 := (hq.cell (p := ⟨(ad.add (i * 4)).block, (ad.add (i * 4)).off + 3, none⟩) had7).trans t3; have jn8 := World.new_ne _ _ j8) | ((with_reducible have bal := box_newD hbv); have fz := fun j => bal.free j; have hbl8 := bal.lt; have y0 := bal.cell 0; have y1 := bal.cell 1; have y2 := bal.cell 2; have y3 := bal.cell 3; simp at y0 y1 y2 y3; have hle := Nat.le_refl w7.heap.size; obtain ⟨nx1, ny1⟩ := lt_ne (Nat.lt_of_lt_of_le hxl (Nat.le_refl w7.heap.size)); obtain ⟨nx2, ny2⟩ := lt_ne (Nat.lt_of_lt_of_le hll (Nat.le_refl w7.heap.size)); obtain ⟨nx3, ny3⟩ := lt_ne (Nat.lt_of_lt_of_le had7 (Nat.le_refl w7.heap.size)); (with_reducible have hq := keep_newD hbv); have j0 := (hq.cell (p := ⟨w.heap.size, 0, none⟩) hxl).trans c0; have jn0 := World.new_ne _ _ j0; have j1 := (hq.cell (p := ⟨w.heap.size, 1, none⟩) hxl).trans c1; have jn1 := World.new_ne _ _ j1; have j2 := (hq.cell (p := ⟨w.heap.size, 2, none⟩) hxl).trans c2; have jn2 := World.new_ne _ _ j2; have j3 := (hq.cell (p := ⟨al, 0, none⟩) hll).trans l0; have jn3 := World.new_ne _ _ j3; have j4 := (hq.cell (p := ⟨al, 1, none⟩) hll).trans l1; have jn4 := World.new_ne _ _ j4; have j5 := (hq.cell (p := ad.add (i * 4)) had7).trans t0; have jn5 := World.new_ne _ _ j5; have j6 := (hq.cell (p := ⟨(ad.add (i * 4)).block, (ad.add (i * 4)).off + 1, none⟩) had7).trans t1; have jn6 := World.new_ne _ _ j6; have j7 := (hq.cell (p := ⟨(ad.add (i * 4)).block, (ad.add (i * 4)).off + 2, none⟩) had7).trans t2; have jn7 := World.new_ne _ _ j7; have j8 := (hq.cell (p := ⟨(ad.add (i * 4)).block, (ad.add (i * 4)).off + 3, none⟩) had7).trans t3; have jn8 := World.new_ne _ _ j8))
            | (go_at_call 27; refine (at_any (C : Int) (R : Int) (uc : Int) (ur : Int) (i : Int) _ HIX.out HIB.out.1 HIB.out.2 HUC.out.1 HUC.out.2).mono ?_; rintro e v ⟨rfl, hbv⟩; first | ((with_reducible have hq := keep_same hq hbv); (try (have bal := bal.below hbv; have fz := fun j => bal.free j; have hbl8 := bal.lt; have y0 := bal.cell 0; have y1 := bal.cell 1; have y2 := bal.cell 2; have y3 := bal.cell 3; simp at y0 y1 y2 y3)); have j0 := (hq.cell (p := ⟨w.heap.size, 0, none⟩) hxl).trans c0; have jn0 := World.new_ne _ _ j0; have j1 := (hq.cell (p := ⟨w.heap.size, 1, none⟩) hxl).trans c1; have jn1 := World.new_ne _ _ j1; have j2 := (hq.cell (p := ⟨w.heap.size, 2, none⟩) hxl).trans c2; have jn2 := World.new_ne _ _ j2; have j3 := (hq.cell (p := ⟨al, 0, none⟩) hll).trans l0; have jn3 := World.new_ne _ _ j3; have j4 := (hq.cell (p := ⟨al, 1, none⟩) hll).trans l1; have jn4 := World.new_ne _ _ j4; have j5 := (hq.cell (p := ad.add (i * 4)) had7).trans t0; have jn5 := World.new_ne _ _ j5; have j6 := (hq.cell (p := ⟨(ad.add (i * 4)).block, (ad.add (i * 4)).off + 1, none⟩) had7).trans t1; have jn6 := World.new_ne _ _ j6; have j7 := (hq.cell (p := ⟨(ad.add (i * 4)).block, (ad.add (i * 4)).off + 2, none⟩) had7).trans t2; have jn7 := World.new_ne _ _ j7; have j8 := (hq.cell (p := ⟨(ad.add (i * 4)).block, (ad.add (i * 4)).off + 3, none⟩) had7).trans t3; have jn8 := World.new_ne _ _ j8) | ((with_reducible have bal := box_new hbv); have fz := fun j => bal.free j; have hbl8 := bal.lt; have y0 := bal.cell 0; have y1 := bal.cell 1; have y2 := bal.cell 2; have y3 := bal.cell 3; simp at y0 y1 y2 y3; have hle := hq.size; obtain ⟨nx1, ny1⟩ := lt_ne (Nat.lt_of_lt_of_le hxl hq.size); obtain ⟨nx2, ny2⟩ := lt_ne (Nat.lt_of_lt_of_le hll hq.size); obtain ⟨nx3, ny3⟩ := lt_ne (Nat.lt_of_lt_of_le had7 hq.size); (with_reducible have hq := keep_new hq hbv); have j0 := (hq.cell (p := ⟨w.heap.size, 0, none⟩) hxl).trans c0; have jn0 := World.new_ne _ _ j0; have j1 := (hq.cell (p := ⟨w.heap.size, 1, none⟩) hxl).trans c1; have jn1 := World.new_ne _ _ j1; have j2 := (hq.cell (p := ⟨w.heap.size, 2, none⟩) hxl).trans c2; have jn2 := World.new_ne _ _ j2; have j3 := (hq.cell (p := ⟨al, 0, none⟩) hll).trans l0; have jn3 := World.new_ne _ _ j3; have j4 := (hq.cell (p := ⟨al, 1, none⟩) hll).trans l1; have jn4 := World.new_ne _ _ j4; have j5 := (hq.cell (p := ad.add (i * 4)) had7).trans t0; have jn5 := World.new_ne _ _ j5; have j6 := (hq.cell (p := ⟨(ad.add (i * 4)).block, (ad.add (i * 4)).off + 1, none⟩) had7).trans t1; have jn6 := World.new_ne _ _ j6; have j7 := (hq.cell (p := ⟨(ad.add (i * 4)).block, (ad.add (i * 4)).off + 2, none⟩) had7).trans t2; have jn7 := World.new_ne _ _ j7; have j8 := (hq.cell (p := ⟨(ad.add (i * 4)).block, (ad.add (i * 4)).off + 3, none⟩) had7).trans t3; have jn8 := World.new_ne _ _ j8) | ((with_reducible have bal := box_newD hbv); have fz := fun j => bal.free j; have hbl8 := bal.lt; have y0 := bal.cell 0; have y1 := bal.cell 1; have y2 := bal.cell 2; have y3 := bal.cell 3; simp at y0 y1 y2 y3; have hle := Nat.le_refl w7.heap.size; obtain ⟨nx1, ny1⟩ := lt_ne (Nat.lt_of_lt_of_le hxl (Nat.le_refl w7.heap.size)); obtain ⟨nx2, ny2⟩ := lt_ne (Nat.lt_of_lt_of_le hll (Nat.le_refl w7.heap.size)); obtain ⟨nx3, ny3⟩ := lt_ne (Nat.lt_of_lt_of_le had7 (Nat.le_refl w7.heap.size)); (with_reducible have hq := keep_newD hbv); have j0 := (hq.cell (p := ⟨w.heap.size, 0, none⟩) hxl).trans c0; have jn0 := World.new_ne _ _ j0; have j1 := (hq.cell (p := ⟨w.heap.size, 1, none⟩) hxl).trans c1; have jn1 := World.new_ne _ _ j1; have j2 := (hq.cell (p := ⟨w.heap.size, 2, none⟩) hxl).trans c2; have jn2 := World.new_ne _ _ j2; have j3 := (hq.cell (p := ⟨al, 0, none⟩) hll).trans l0; have jn3 := World.new_ne _ _ j3; have j4 := (hq.cell (p := ⟨al, 1, none⟩) hll).trans l1; have jn4 := World.new_ne _ _ j4; have j5 := (hq.cell (p := ad.add (i * 4)) had7).trans t0; have jn5 := World.new_ne _ _ j5; have j6 := (hq.cell (p := ⟨(ad.add (i * 4)).block, (ad.add (i * 4)).off + 1, none⟩) had7).trans t1; have jn6 := World.new_ne _ _ j6; have j7 := (hq.cell (p := ⟨(ad.add (i * 4)).block, (ad.add (i * 4)).off + 2, none⟩) had7).trans t2; have jn7 := World.new_ne _ _ j7; have j8 := (hq.cell (p := ⟨(ad.add (i * 4)).block, (ad.add (i * 4)).off + 3, none⟩) had7).trans t3; have jn8 := World.new_ne _ _ j8)))
        all_goals
          refine hM9 _ _ ?_
          refine Met.intro ?_
          refine hR9 _ _ ?_
          (repeat apply Exists.intro)
          refine ⟨?_, rfl⟩
        all_goals
          refine ⟨_, rfl, ?_, ?_, ?_⟩
          · first
              | (with_reducible exact BoxAt.new _ _ _)
              | (with_reducible exact (((bal.set 0 _).set 1 _).set 2 _).set 3 _)
              | exact (((bal.set 0 _).set 1 _).set 2 _).set 3 _
          · first
              | (with_reducible exact hle)
              | exact hq.size
          · first
              | (with_reducible exact hq.alloc hq.size _)
              | exact (((hq.setCell (p := ⟨_, 0, none⟩) hle _).setCell (p := ⟨_, 1, none⟩) hle _).setCell (p := ⟨_, 2, none⟩) hle _).setCell (p := ⟨_, 3, none⟩) hle _
      case rest =>
        obtain ⟨b8, rfl, bb8, hb8, hq8⟩ := hcut
        have E8 := E7.below hq8
        have bl8 := bl7.below hq8
        have r0 := bb8.cell 0; have r1 := bb8.cell 1; have r2 := bb8.cell 2; have r3 := bb8.cell 3
        have hrl := bb8.lt
        simp at r0 r1 r2 r3
        have hb8l : al < b8 := Nat.lt_of_lt_of_le hll hb8
        clear c0 c1 c2 l0 l1 hxl hll hq jn0 jn1 jn2 jn3 jn4 jn5 jn6 jn7 jn8 t0 t1 t2 t3 had7 had8 had bl7 E7 hb8 hq8
        have hq : Below wc.heap.size wc wc.drew := (Below.refl _ wc).drew
        have jn0 := World.new_ne _ _ r0; have jn1 := World.new_ne _ _ r1; have jn2 := World.new_ne _ _ r2; have jn3 := World.new_ne _ _ r3
        go_wp2_with fail
        go_cut [9, 10] from 14 to 48 (fun v9 v10 wx => ∃ b9 b10, v9 = .pointer (some ⟨b9, 0, none⟩) ∧ v10 = .pointer (some ⟨b10, 0, none⟩) ∧ BoxAt wx b9 #[.int .i64 f, .int .i64 ft] 79 ∧ BoxAt wx b10 #[.int .i64 b, .int .i64 bt] 79 ∧ ¬ b9 = b10 ∧ wc.heap.size ≤ b9 ∧ wc.heap.size ≤ b10 ∧ Below wc.heap.size wc wx)
        case first =>
          rename_i J9 K9 hR9 hM9
          go_region_held3 (fun w' => w'.cell? ⟨b8, 0, none⟩ = some (.int .i64 f) ∧ w'.cell? ⟨b8, 1, none⟩ = some (.int .i64 ft) ∧ w'.cell? ⟨b8, 2, none⟩ = some (.int .i64 b) ∧ w'.cell? ⟨b8, 3, none⟩ = some (.int .i64 bt)) (first | exact ⟨j0, j1, j2, j3⟩ | go_keep)
            (first
              | (go_at_call 42; refine (frontOf_any ⟨f, ft, b, bt⟩ _).mono ?_; rintro e v ⟨rfl, hbv⟩; first | ((with_reducible have hq := keep_same hq hbv); (try (have balA := balA.below hbv; have fzA := fun j => balA.free j; have hlA := balA.lt; have yA0 := balA.cell 0; have yA1 := balA.cell 1; simp at yA0 yA1)); (try (have balB := balB.below hbv; have fzB := fun j => balB.free j; have hlB := balB.lt; have yB0 := balB.cell 0; have yB1 := balB.cell 1; simp at yB0 yB1)); have j0 := (hq.cell (p := ⟨b8, 0, none⟩) hrl).trans r0; have jn0 := World.new_ne _ _ j0; have j1 := (hq.cell (p := ⟨b8, 1, none⟩) hrl).trans r1; have jn1 := World.new_ne _ _ j1; have j2 := (hq.cell (p := ⟨b8, 2, none⟩) hrl).trans r2; have jn2 := World.new_ne _ _ j2; have j3 := (hq.cell (p := ⟨b8, 3, none⟩) hrl).trans r3; have jn3 := World.new_ne _ _ j3) | (have balA := box_low balA hbv; (with_reducible have balB := box_new hbv); have hleB := hq.size; obtain ⟨hAB, hBA⟩ := lt_ne hlA; have fzA := fun j => balA.free j; have hlA := balA.lt; have yA0 := balA.cell 0; have yA1 := balA.cell 1; simp at yA0 yA1; have fzB := fun j => balB.free j; have hlB := balB.lt; have yB0 := balB.cell 0; have yB1 := balB.cell 1; simp at yB0 yB1; obtain ⟨nB1, mB1⟩ := lt_ne (Nat.lt_of_lt_of_le hrl hq.size); (with_reducible have hq := keep_new hq hbv); have j0 := (hq.cell (p := ⟨b8, 0, none⟩) hrl).trans r0; have jn0 := World.new_ne _ _ j0; have j1 := (hq.cell (p := ⟨b8, 1, none⟩) hrl).trans r1; have jn1 := World.new_ne _ _ j1; have j2 := (hq.cell (p := ⟨b8, 2, none⟩) hrl).trans r2; have jn2 := World.new_ne _ _ j2; have j3 := (hq.cell (p := ⟨b8, 3, none⟩) hrl).trans r3; have jn3 := World.new_ne _ _ j3) | ((with_reducible have balA := box_new hbv); have hleA := hq.size; have fzA := fun j => balA.free j; have hlA := balA.lt; have yA0 := balA.cell 0; have yA1 := balA.cell 1; simp at yA0 yA1; obtain ⟨nA1, mA1⟩ := lt_ne (Nat.lt_of_lt_of_le hrl hq.size); (with_reducible have hq := keep_new hq hbv); have j0 := (hq.cell (p := ⟨b8, 0, none⟩) hrl).trans r0; have jn0 := World.new_ne _ _ j0; have j1 := (hq.cell (p := ⟨b8, 1, none⟩) hrl).trans r1; have jn1 := World.new_ne _ _ j1; have j2 := (hq.cell (p := ⟨b8, 2, none⟩) hrl).trans r2; have jn2 := World.new_ne _ _ j2; have j3 := (hq.cell (p := ⟨b8, 3, none⟩) hrl).trans r3; have jn3 := World.new_ne _ _ j3) | ((with_reducible have balA := box_newD hbv); have hleA := Nat.le_refl wc.heap.size; have fzA := fun j => balA.free j; have hlA := balA.lt; have yA0 := balA.cell 0; have yA1 := balA.cell 1; simp at yA0 yA1; obtain ⟨nA1, mA1⟩ := lt_ne (Nat.lt_of_lt_of_le hrl (Nat.le_refl wc.heap.size)); (with_reducible have hq := keep_newD hbv); have j0 := (hq.cell (p := ⟨b8, 0, none⟩) hrl).trans r0; have jn0 := World.new_ne _ _ j0; have j1 := (hq.cell (p := ⟨b8, 1, none⟩) hrl).trans r1; have jn1 := World.new_ne _ _ j1; have j2 := (hq.cell (p := ⟨b8, 2, none⟩) hrl).trans r2; have jn2 := World.new_ne _ _ j2; have j3 := (hq.cell (p := ⟨b8, 3, none⟩) hrl).trans r3; have jn3 := World.new_ne _ _ j3) | ((with_reducible have balA := box_new2a hbv); (with_reducible have balB := box_new2b hbv); have hleA := hq.size; have hleB := Nat.le_succ_of_le hq.size; have fzA := fun j => balA.free j; have hlA := balA.lt; have yA0 := balA.cell 0; have yA1 := balA.cell 1; simp at yA0 yA1; have fzB := fun j => balB.free j; have hlB := balB.lt; have yB0 := balB.cell 0; have yB1 := balB.cell 1; simp at yB0 yB1; obtain ⟨nA1, mA1⟩ := lt_ne (Nat.lt_of_lt_of_le hrl hq.size); obtain ⟨nB1, mB1⟩ := lt_ne (Nat.lt_of_lt_of_le hrl (Nat.le_succ_of_le hq.size)); (with_reducible have hq := keep_new2 hq hbv); have j0 := (hq.cell (p := ⟨b8, 0, none⟩) hrl).trans r0; have jn0 := World.new_ne _ _ j0; have j1 := (hq.cell (p := ⟨b8, 1, none⟩) hrl).trans r1; have jn1 := World.new_ne _ _ j1; have j2 := (hq.cell (p := ⟨b8, 2, none⟩) hrl).trans r2; have jn2 := World.new_ne _ _ j2; have j3 := (hq.cell (p := ⟨b8, 3, none⟩) hrl).trans r3; have jn3 := World.new_ne _ _ j3) | ((with_reducible have balA := box_new2aD hbv); (with_reducible have balB := box_new2bD hbv); have hleA := Nat.le_refl wc.heap.size; have hleB := Nat.le_succ wc.heap.size; have fzA := fun j => balA.free j; have hlA := balA.lt; have yA0 := balA.cell 0; have yA1 := balA.cell 1; simp at yA0 yA1; have fzB := fun j => balB.free j; have hlB := balB.lt; have yB0 := balB.cell 0; have yB1 := balB.cell 1; simp at yB0 yB1; obtain ⟨nA1, mA1⟩ := lt_ne (Nat.lt_of_lt_of_le hrl (Nat.le_refl wc.heap.size)); obtain ⟨nB1, mB1⟩ := lt_ne (Nat.lt_of_lt_of_le hrl (Nat.le_succ wc.heap.size)); (with_reducible have hq := keep_new2D hbv); have j0 := (hq.cell (p := ⟨b8, 0, none⟩) hrl).trans r0; have jn0 := World.new_ne _ _ j0; have j1 := (hq.cell (p := ⟨b8, 1, none⟩) hrl).trans r1; have jn1 := World.new_ne _ _ j1; have j2 := (hq.cell (p := ⟨b8, 2, none⟩) hrl).trans r2; have jn2 := World.new_ne _ _ j2; have j3 := (hq.cell (p := ⟨b8, 3, none⟩) hrl).trans r3; have jn3 := World.new_ne _ _ j3))
              | (go_at_call 44; refine (backOf_any ⟨f, ft, b, bt⟩ _).mono ?_; rintro e v ⟨rfl, hbv⟩; first | ((with_reducible have hq := keep_same hq hbv); (try (have balA := balA.below hbv; have fzA := fun j => balA.free j; have hlA := balA.lt; have yA0 := balA.cell 0; have yA1 := balA.cell 1; simp at yA0 yA1)); (try (have balB := balB.below hbv; have fzB := fun j => balB.free j; have hlB := balB.lt; have yB0 := balB.cell 0; have yB1 := balB.cell 1; simp at yB0 yB1)); have j0 := (hq.cell (p := ⟨b8, 0, none⟩) hrl).trans r0; have jn0 := World.new_ne _ _ j0; have j1 := (hq.cell (p := ⟨b8, 1, none⟩) hrl).trans r1; have jn1 := World.new_ne _ _ j1; have j2 := (hq.cell (p := ⟨b8, 2, none⟩) hrl).trans r2; have jn2 := World.new_ne _ _ j2; have j3 := (hq.cell (p := ⟨b8, 3, none⟩) hrl).trans r3; have jn3 := World.new_ne _ _ j3) | (have balA := box_low balA hbv; (with_reducible have balB := box_new hbv); have hleB := hq.size; obtain ⟨hAB, hBA⟩ := lt_ne hlA; have fzA := fun j => balA.free j; have hlA := balA.lt; have yA0 := balA.cell 0; have yA1 := balA.cell 1; simp at yA0 yA1; have fzB := fun j => balB.free j; have hlB := balB.lt; have yB0 := balB.cell 0; have yB1 := balB.cell 1; simp at yB0 yB1; obtain ⟨nB1, mB1⟩ := lt_ne (Nat.lt_of_lt_of_le hrl hq.size); (with_reducible have hq := keep_new hq hbv); have j0 := (hq.cell (p := ⟨b8, 0, none⟩) hrl).trans r0; have jn0 := World.new_ne _ _ j0; have j1 := (hq.cell (p := ⟨b8, 1, none⟩) hrl).trans r1; have jn1 := World.new_ne _ _ j1; have j2 := (hq.cell (p := ⟨b8, 2, none⟩) hrl).trans r2; have jn2 := World.new_ne _ _ j2; have j3 := (hq.cell (p := ⟨b8, 3, none⟩) hrl).trans r3; have jn3 := World.new_ne _ _ j3) | ((with_reducible have balA := box_new hbv); have hleA := hq.size; have fzA := fun j => balA.free j; have hlA := balA.lt; have yA0 := balA.cell 0; have yA1 := balA.cell 1; simp at yA0 yA1; obtain ⟨nA1, mA1⟩ := lt_ne (Nat.lt_of_lt_of_le hrl hq.size); (with_reducible have hq := keep_new hq hbv); have j0 := (hq.cell (p := ⟨b8, 0, none⟩) hrl).trans r0; have jn0 := World.new_ne _ _ j0; have j1 := (hq.cell (p := ⟨b8, 1, none⟩) hrl).trans r1; have jn1 := World.new_ne _ _ j1; have j2 := (hq.cell (p := ⟨b8, 2, none⟩) hrl).trans r2; have jn2 := World.new_ne _ _ j2; have j3 := (hq.cell (p := ⟨b8, 3, none⟩) hrl).trans r3; have jn3 := World.new_ne _ _ j3) | ((with_reducible have balA := box_newD hbv); have hleA := Nat.le_refl wc.heap.size; have fzA := fun j => balA.free j; have hlA := balA.lt; have yA0 := balA.cell 0; have yA1 := balA.cell 1; simp at yA0 yA1; obtain ⟨nA1, mA1⟩ := lt_ne (Nat.lt_of_lt_of_le hrl (Nat.le_refl wc.heap.size)); (with_reducible have hq := keep_newD hbv); have j0 := (hq.cell (p := ⟨b8, 0, none⟩) hrl).trans r0; have jn0 := World.new_ne _ _ j0; have j1 := (hq.cell (p := ⟨b8, 1, none⟩) hrl).trans r1; have jn1 := World.new_ne _ _ j1; have j2 := (hq.cell (p := ⟨b8, 2, none⟩) hrl).trans r2; have jn2 := World.new_ne _ _ j2; have j3 := (hq.cell (p := ⟨b8, 3, none⟩) hrl).trans r3; have jn3 := World.new_ne _ _ j3) | ((with_reducible have balA := box_new2a hbv); (with_reducible have balB := box_new2b hbv); have hleA := hq.size; have hleB := Nat.le_succ_of_le hq.size; have fzA := fun j => balA.free j; have hlA := balA.lt; have yA0 := balA.cell 0; have yA1 := balA.cell 1; simp at yA0 yA1; have fzB := fun j => balB.free j; have hlB := balB.lt; have yB0 := balB.cell 0; have yB1 := balB.cell 1; simp at yB0 yB1; obtain ⟨nA1, mA1⟩ := lt_ne (Nat.lt_of_lt_of_le hrl hq.size); obtain ⟨nB1, mB1⟩ := lt_ne (Nat.lt_of_lt_of_le hrl (Nat.le_succ_of_le hq.size)); (with_reducible have hq := keep_new2 hq hbv); have j0 := (hq.cell (p := ⟨b8, 0, none⟩) hrl).trans r0; have jn0 := World.new_ne _ _ j0; have j1 := (hq.cell (p := ⟨b8, 1, none⟩) hrl).trans r1; have jn1 := World.new_ne _ _ j1; have j2 := (hq.cell (p := ⟨b8, 2, none⟩) hrl).trans r2; have jn2 := World.new_ne _ _ j2; have j3 := (hq.cell (p := ⟨b8, 3, none⟩) hrl).trans r3; have jn3 := World.new_ne _ _ j3) | ((with_reducible have balA := box_new2aD hbv); (with_reducible have balB := box_new2bD hbv); have hleA := Nat.le_refl wc.heap.size; have hleB := Nat.le_succ wc.heap.size; have fzA := fun j => balA.free j; have hlA := balA.lt; have yA0 := balA.cell 0; have yA1 := balA.cell 1; simp at yA0 yA1; have fzB := fun j => balB.free j; have hlB := balB.lt; have yB0 := balB.cell 0; have yB1 := balB.cell 1; simp at yB0 yB1; obtain ⟨nA1, mA1⟩ := lt_ne (Nat.lt_of_lt_of_le hrl (Nat.le_refl wc.heap.size)); obtain ⟨nB1, mB1⟩ := lt_ne (Nat.lt_of_lt_of_le hrl (Nat.le_succ wc.heap.size)); (with_reducible have hq := keep_new2D hbv); have j0 := (hq.cell (p := ⟨b8, 0, none⟩) hrl).trans r0; have jn0 := World.new_ne _ _ j0; have j1 := (hq.cell (p := ⟨b8, 1, none⟩) hrl).trans r1; have jn1 := World.new_ne _ _ j1; have j2 := (hq.cell (p := ⟨b8, 2, none⟩) hrl).trans r2; have jn2 := World.new_ne _ _ j2; have j3 := (hq.cell (p := ⟨b8, 3, none⟩) hrl).trans r3; have jn3 := World.new_ne _ _ j3)))
          all_goals
            refine hM9 _ _ ?_
            refine Met.intro ?_
            refine hR9 _ _ ?_
            (repeat apply Exists.intro)
            refine ⟨?_, rfl⟩
          all_goals
            first
              | (with_reducible exact fin1 hq)
              | (with_reducible exact fin1' hq)
              | (with_reducible exact fin2 balA hleA hq)
              | (with_reducible exact fin2' balA hleA hq)
              | (with_reducible exact fin3 balA balB hAB hleA hleB hq)
              | (with_reducible exact fin3 balB balA hBA hleB hleA hq)
              | (with_reducible exact fin3 balA balB (Nat.ne_of_lt (Nat.lt_succ_self _)) hleA (Nat.le_succ_of_le hleA) hq)
              | (with_reducible exact fin3 balB balA (Nat.ne_of_gt (Nat.lt_succ_self _)) (Nat.le_succ_of_le hleA) hleA hq)
        case rest =>
          obtain ⟨b9, b10, rfl, rfl, bu, bv, hne, hb9, hb10, hq9⟩ := hcut
          have hvo : ∀ q, u5.ownBlock = some q → q < b9 ∧ q < b10 := fun q e => by have := (E8.own.lt q e).2; omega
          have hvo9 : u5.ownBlock ≠ some b9 := fun e => by have := hvo _ e; omega
          have hvo10 : u5.ownBlock ≠ some b10 := fun e => by have := hvo _ e; omega
          have hw9 : w.heap.size < b9 := Nat.lt_of_lt_of_le E8.bs.lt hb9
          have hw10 : w.heap.size < b10 := Nat.lt_of_lt_of_le E8.bs.lt hb10
          have ha9 : ¬ al = b9 := Nat.ne_of_lt (Nat.lt_of_lt_of_le bl8.lt hb9)
          have ha10 : ¬ al = b10 := Nat.ne_of_lt (Nat.lt_of_lt_of_le bl8.lt hb10)
          have E9 := E8.below hq9
          have bl9 := bl8.below hq9
          clear r0 r1 r2 r3 hrl hq jn0 jn1 jn2 jn3 hb8l bb8 E8 bl8 hb9 hb10 hq9 hvo
          rename World => w9
          have u0 := bu.cell 0; have u1 := bu.cell 1; have v0 := bv.cell 0; have v1 := bv.cell 1; have l2 := bl9.cell 2
          have fu := fun j => bu.free j; have fv := fun j => bv.free j
          have hul := bu.lt; have hvl := bv.lt; have hll := bl9.lt
          simp at u0 u1 v0 v1 l2
          have hne' : ¬ b10 = b9 := Ne.symm hne
          go_upto_if 34 with fail
          go_cut [10] from 14 to 48 (fun v10 wx => v10 = .pointer (some ⟨b10, 0, none⟩) ∧ (∃ x y : Page, Hid (rdP C L ⟨uc, ur, zo, zt⟩ = [⟨x.p, xr x.t zt⟩, ⟨y.p, xr y.t zt⟩]) ∧ Hid (Bit x.t ∧ Bit y.t) ∧ BoxAt wx b9 #[.int .i64 x.p, .int .i64 x.t] 79 ∧ BoxAt wx b10 #[.int .i64 y.p, .int .i64 y.t] 79) ∧ PgEnv w C R (some ad) n c u5 (rdTo C L M k) wx ∧ BoxAt wx al #[.int .i64 uc, .int .i64 ur, .int .i64 zo, .int .i64 zt] 77)
          case first =>
            rcases HZO.out with h0 | h1
            · subst h0
              go_wp2
              go_meet
              exact ⟨rfl, ⟨⟨f, ft⟩, ⟨b, bt⟩, Lib.hid (by unfold rdP; rw [if_neg (show ¬ (0 : Int) = 1 by decide), HCE.out]), HYB, bu, bv⟩, E9, bl9⟩
            · subst h1
              have EB : PgEnv w C R (some ad) n c u5 (rdTo C L M k) ((((w9.setCell ⟨b9, 0, none⟩ (.int .i64 b)).setCell ⟨b9, 1, none⟩ (.int .i64 bt)).setCell ⟨b10, 0, none⟩ (.int .i64 f)).setCell ⟨b10, 1, none⟩ (.int .i64 ft)) := by
                have hl8 : w.heap.size ≠ b9 := by omega
                have hl9 : w.heap.size ≠ b10 := by omega
                exact ⟨(((E9.bs.set_other (p := ⟨b9, 0, none⟩) hl8 _).set_other (p := ⟨b9, 1, none⟩) hl8 _).set_other (p := ⟨b10, 0, none⟩) hl9 _).set_other (p := ⟨b10, 1, none⟩) hl9 _,
                  (((E9.own.set (p := ⟨b9, 0, none⟩) hvo9 _).set (p := ⟨b9, 1, none⟩) hvo9 _).set (p := ⟨b10, 0, none⟩) hvo10 _).set (p := ⟨b10, 1, none⟩) hvo10 _,
                  (((E9.low.setCell (p := ⟨b9, 0, none⟩) (Nat.le_of_lt hw9) _).setCell (p := ⟨b9, 1, none⟩) (Nat.le_of_lt hw9) _).setCell (p := ⟨b10, 0, none⟩) (Nat.le_of_lt hw10) _).setCell (p := ⟨b10, 1, none⟩) (Nat.le_of_lt hw10) _⟩
              go_wp2
              go_meet
              exact ⟨rfl, ⟨⟨b, bt⟩, ⟨f, ft⟩, Lib.hid (by unfold rdP; rw [if_pos rfl, HCE.out]), Lib.hid ⟨HYB.out.2, HYB.out.1⟩, (((bu.set 0 _).set 1 _).set_other (p := ⟨b10, 0, none⟩) hne _).set_other (p := ⟨b10, 1, none⟩) hne _, ((((bv.set_other (p := ⟨b9, 0, none⟩) hne' _).set_other (p := ⟨b9, 1, none⟩) hne' _).set 0 _).set 1 _)⟩, EB,
                (((bl9.set_other (p := ⟨b9, 0, none⟩) ha9 _).set_other (p := ⟨b9, 1, none⟩) ha9 _).set_other (p := ⟨b10, 0, none⟩) ha10 _).set_other (p := ⟨b10, 1, none⟩) ha10 _⟩
          case rest =>
          obtain ⟨rfl, ⟨⟨xp, xt⟩, ⟨yp, yt⟩, HXY, HBB, bx, by_⟩, EA, bla⟩ := hcut
          rename World => wa
          have x0 := bx.cell 0; have x1 := bx.cell 1; have y0 := by_.cell 0; have y1 := by_.cell 1; have l3 := bla.cell 3
          have hxl := bx.lt; have hyl := by_.lt; have hal := bla.lt
          simp at x0 x1 y0 y1 l3
          have HBX : Hid (Bit xt) := Lib.hid HBB.out.1
          have HBY : Hid (Bit yt) := Lib.hid HBB.out.2
          clear u0 u1 v0 v1 l2 bu bv E9 bl9 fu fv hul hvl hll
          have HLT : Hid (∀ q, u5.ownBlock = some q → w.heap.size + 1 ≤ q) := Lib.hid (fun q e => (EA.own.lt q e).1)
          have HRL : Hid ((rdTo C L M k).length ≤ 1000000) := Lib.hid (by rw [rdTo_len (by omega)]; have := HML.out; omega)
          have HWR := Lib.hid EA.bs.lt
          have hkb : k ≤ 1000 := by have := HML.out; omega
          have hq : Below wa.heap.size wa wa.drew := (Below.refl _ wa).drew
          go_wp2_with fail
          go_region_held3 (fun w' => w'.cell? ⟨al, 3, none⟩ = some (.int .i64 zt) ∧ w'.cell? ⟨b9, 0, none⟩ = some (.int .i64 xp) ∧ w'.cell? ⟨b9, 1, none⟩ = some (.int .i64 xt) ∧ w'.cell? ⟨b10, 0, none⟩ = some (.int .i64 yp) ∧ w'.cell? ⟨b10, 1, none⟩ = some (.int .i64 yt)) (first | exact ⟨j0, j1, j2, j3, j4⟩ | go_keep)
            (first
              | (go_at_call 43; refine (turned_any ⟨xp, xt⟩ zt _ HBX.out HZT.out).mono ?_; rintro e v ⟨rfl, hbv⟩; have hq := keep_same hq hbv; have j0 := (hq.cell (p := ⟨al, 3, none⟩) hal).trans l3; have jn0 := World.new_ne _ _ j0; have j1 := (hq.cell (p := ⟨b9, 0, none⟩) hxl).trans x0; have jn1 := World.new_ne _ _ j1; have j2 := (hq.cell (p := ⟨b9, 1, none⟩) hxl).trans x1; have jn2 := World.new_ne _ _ j2; have j3 := (hq.cell (p := ⟨b10, 0, none⟩) hyl).trans y0; have jn3 := World.new_ne _ _ j3; have j4 := (hq.cell (p := ⟨b10, 1, none⟩) hyl).trans y1; have jn4 := World.new_ne _ _ j4)
              | (go_at_call 43; refine (turned_any ⟨yp, yt⟩ zt _ HBY.out HZT.out).mono ?_; rintro e v ⟨rfl, hbv⟩; have hq := keep_same hq hbv; have j0 := (hq.cell (p := ⟨al, 3, none⟩) hal).trans l3; have jn0 := World.new_ne _ _ j0; have j1 := (hq.cell (p := ⟨b9, 0, none⟩) hxl).trans x0; have jn1 := World.new_ne _ _ j1; have j2 := (hq.cell (p := ⟨b9, 1, none⟩) hxl).trans x1; have jn2 := World.new_ne _ _ j2; have j3 := (hq.cell (p := ⟨b10, 0, none⟩) hyl).trans y0; have jn3 := World.new_ne _ _ j3; have j4 := (hq.cell (p := ⟨b10, 1, none⟩) hyl).trans y1; have jn4 := World.new_ne _ _ j4)
              | (refine step_appL tPage page_l _ (by rfl) _ _ (by rfl) (w.heap.size + 1) u5 (rdTo C L M k) (by rfl) ((EA.below hq).own.alloc _) (some ⟨v.heap.size, 0, none⟩) [⟨xp, xr xt zt⟩, ⟨yp, xr yt zt⟩] 2 2 rfl (by rfl) (rows_lit page_l _ _ _ _ rfl) (fun e => by cases e) HRL.out (by simp) (by have h1 := hq.size; have h2 := HWR.out; simp; omega) ?_
                 intro v6 w6 hO6 hg6 hb6 ho6
                 have EC : PgEnv w C R (some ad) n c v6 (rdTo C L M (k + 1)) w6 := by
                   refine ⟨?_, ?_, ?_⟩
                   · exact ((EA.bs.below hq).alloc _).grown hg6 (fun e => by have := HLT.out _ e.symm; omega)
                   · have := hO6; rw [← HXY.out, HRD.out] at this; exact this
                   · exact ((EA.low.trans (hq.mono EA.low.size)).alloc (Nat.le_trans EA.low.size hq.size) _).trans (hb6.mono (B' := w.heap.size) (by omega))
                 have bx6 := ((bx.below hq).alloc _).grown hg6 (Ne.symm hvo9); have by6 := ((by_.below hq).alloc _).grown hg6 (Ne.symm hvo10)
                 have j0 := (((bla.below hq).alloc _).grown hg6 hvoa).cell 3; have j1 := bx6.cell 0; have j2 := bx6.cell 1; have j3 := by6.cell 0; have j4 := by6.cell 1))
          all_goals
            go_wp2
            go_roundw
            case rel => exact ⟨k + 1, by omega, by go_num, EC⟩
            case measure => simp [intOf]; omega
    · have hkp : k = pn := by omega
      have hkI : ¬ (k : Int) < (pn : Int) := by omega
      have HO : Hid (OwnR 2 79 Page.l wr (w.heap.size + 1) _ (rdTo C L M M.length)) := Lib.hid (by rw [← HPN.out, ← hkp]; exact E.own)
      obtain ⟨va, vc, ev, hrow, -, -, hnil, -⟩ := HO.out.rows page_l
      obtain ⟨vn, hvn⟩ : ∃ n, n = (rdTo C L M M.length).length := ⟨_, rfl⟩
      rw [← hvn] at ev
      subst ev
      have HVN := Lib.hid hvn
      have hlow := E.low
      clear hkp E hvn
      go_wp2
      go_ret
      exact ⟨va, vn, vc, rfl, HVN.out, hrow, hnil, hlow⟩
end Go.Proofs.YtgoandhlcekmiaaGreatDoor
