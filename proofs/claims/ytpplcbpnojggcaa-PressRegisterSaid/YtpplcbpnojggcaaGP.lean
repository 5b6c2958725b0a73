/-
  Package press: pins: the reference's InRegister.
-/
import Derived.Test.YtpplcbpnojggcaaGO
import Derived.Test.YtpplcbpnojggcaaGK
import Derived.Deep.RegionHeld
namespace Go.Proofs.Ytpplcbpnojggcaa
open Go.RowKit

def RegJ (ans rest T : Int) : Prop := RegI ans rest T ∧ 1 ≤ ans
theorem RegJ.no {ans r T : Int} (h : RegJ ans (min 0 r) T) (hr : 0 ≤ r) : T = 0 := by unfold RegJ RegI at h; omega
theorem RegJ.may {ans r T : Int} (h : RegJ ans (min 1 r) T) : RegJ 1 r T := by unfold RegJ RegI at h ⊢; omega
theorem RegJ.yes {ans r T : Int} (h : RegJ ans (min 2 r) T) : RegJ ans r T := by unfold RegJ RegI at h ⊢; omega
set_option maxRecDepth 100000 in
set_option maxHeartbeats 4000000 in
theorem refInRegister_any (L : List Pin) (a : Option Addr) (n c : Nat) (most : Int) (w : World) (hn : n = L.length) (hr : RowsAt 6 Pin.l w a L) (hl : n ≤ 8) (hok : ∀ p ∈ L, PinOk p) (hm0 : 0 ≤ most) (hm1 : most ≤ 1000000) :
    Calls Try.prog 43 #[.slice a n c, .int .i64 most] w (CheckPost (totM most L) w) := by
  have HN := Lib.hid hn
  have HR := Lib.hid hr; have HOK := Lib.hid hok
  have HTB := Lib.hid (totM_bd most)
  have HRB := Lib.hid (fun x => rowM_bd x most)
  obtain ⟨T, hT⟩ : ∃ T, T = totM most L := ⟨_, rfl⟩
  have HT0 : Hid (RegJ 2 (totM most (L.drop 0)) T) := Lib.hid (by have := totM_bd most L; unfold RegJ RegI; rw [List.drop_zero, ← hT] at *; omega)
  rw [← hT]
  clear hT hr hok hn
  go_enter Try.func43, Try.ntmps43
  go_wp2
  go_loopw [6, 5] (fun i v5 wr => ∃ (k : Nat) (ans : Int), k ≤ n ∧ i = .int .i64 k ∧ v5 = .int .i64 ans ∧ Hid (RegJ ans (totM most (L.drop k)) T) ∧ Below w.heap.size w wr) (fun i _ _ => n - (intOf i).toNat)
  case atStart => exact ⟨0, 2, Nat.zero_le _, rfl, rfl, HT0, Below.refl _ _⟩
  case round =>
    obtain ⟨k, ans, hk, rfl, rfl, hg, hB⟩ := hrel
    have HB := Lib.hid hB
    by_cases hlt : k < n
    · have hlt2 : k < L.length := by have := HN.out; omega
      have hlt' : (k : Int) < n := by omega
      have hsz := hB.size
      have HST := Lib.hid (totM_step (most := most) hlt2)
      have HOA := Lib.hid (HOK.out _ (List.getElem_mem hlt2))
      obtain ⟨p, hp⟩ : ∃ p, p = L[k] := ⟨_, rfl⟩
      obtain ⟨rest, hrest⟩ : ∃ r, r = totM most (L.drop (k + 1)) := ⟨_, rfl⟩
      have HRE := Lib.hid hrest
      rw [← hrest, ← hp] at HST
      rw [← hp] at HOA
      have HP := Lib.hid hp
      rw [HST.out] at hg
      have HG := Lib.hid (show RegJ ans (min (rowM p most (L.drop (k + 1))) rest) T from hg.out)
      obtain ⟨q1, hq1⟩ : ∃ q1, q1 = k + 1 := ⟨_, rfl⟩
      have hq1' : (k : Int) + 1 = q1 := by omega
      rw [← hq1] at HG HRE
      have HQ1 := Lib.hid hq1
      have hq1n : q1 ≤ n := by omega
      clear hp hrest hB hg hq1
      go_wp2
      go_loopw [7, 5] (fun i v5 wr => ∃ (j : Nat) (ans : Int), q1 ≤ j ∧ j ≤ n ∧ i = .int .i64 j ∧ v5 = .int .i64 ans ∧ Hid (RegJ ans (min (rowM p most (L.drop j)) rest) T) ∧ Below w.heap.size w wr) (fun i _ _ => n - (intOf i).toNat)
      case atStart => exact ⟨q1, ans, Nat.le_refl _, hq1n, rfl, rfl, HG, HB.out⟩
      case round =>
        obtain ⟨j, ans2, hj0, hj, rfl, rfl, hg, hB⟩ := hrel
        have HB2 := Lib.hid hB
        by_cases hjt : j < n
        · have hjt2 : j < L.length := by have := HN.out; omega
          have hjt' : (j : Int) < n := by omega
          obtain ⟨ad, rfl, hpl, s0, s1, s2, s3, s4, s5⟩ := (HR.out.below hB).pin hlt2
          obtain ⟨ad', e, hql, u0, u1, u2, u3, u4, u5⟩ := (HR.out.below hB).pin hjt2
          obtain rfl : ad = ad' := Option.some.inj e
          rw [← HP.out] at s0 s1 s2 s3 s4 s5
          have HST2 := Lib.hid (rowM_step (a := p) (most := most) hjt2)
          have HOB := Lib.hid (HOK.out _ (List.getElem_mem hjt2))
          obtain ⟨q, hq⟩ : ∃ q, q = L[j] := ⟨_, rfl⟩
          rw [← hq] at u0 u1 u2 u3 u4 u5 HOB HST2
          have HOF := Lib.hid (fun W => refOffset_any p q W HOA.out HOB.out)
          have HRB2 := Lib.hid (HRB.out p (L.drop (j + 1)))
          have HTB2 := Lib.hid (HTB.out (L.drop q1))
          rw [← HRE.out] at HTB2
          rw [HST2.out] at hg
          obtain ⟨rr, hrr⟩ : ∃ r, r = rowM p most (L.drop (j + 1)) := ⟨_, rfl⟩
          rw [← hrr] at hg HRB2
          have HRR := Lib.hid hrr
          unfold OffPost at HOF
          obtain ⟨D, hD⟩ : ∃ D, D = offP p q := ⟨_, rfl⟩
          rw [← hD] at hg HOF
          obtain ⟨a0, a1, a2, a3, a4, a5⟩ := p
          obtain ⟨b0, b1, b2, b3, b4, b5⟩ := q
          obtain ⟨d0, d1, d2, d3, d4, d5⟩ := D
          dsimp only at s0 s1 s2 s3 s4 s5 u0 u1 u2 u3 u4 u5 HOF
          unfold agP at hg
          dsimp only at hg
          obtain ⟨y3, hy3⟩ : ∃ y, y = min rr rest := ⟨_, rfl⟩
          obtain ⟨y2, hy2⟩ : ∃ y, y = min (agr d4 d5 most) y3 := ⟨_, rfl⟩
          obtain ⟨y1, hy1⟩ : ∃ y, y = min (agr d2 d3 most) y2 := ⟨_, rfl⟩
          obtain ⟨y0, hy0⟩ : ∃ y, y = min (agr d0 d1 most) y1 := ⟨_, rfl⟩
          have HG0 := Lib.hid (show RegJ ans2 y0 T by have h := hg.out; rw [show min (min (agr d0 d1 most) (min (agr d2 d3 most) (agr d4 d5 most))) rr = min (agr d0 d1 most) (min (agr d2 d3 most) (min (agr d4 d5 most) rr)) by omega] at h; rw [show min (min (agr d0 d1 most) (min (agr d2 d3 most) (min (agr d4 d5 most) rr))) rest = y0 by omega] at h; exact h)
          have hpos : 0 ≤ y3 ∧ 0 ≤ y2 ∧ 0 ≤ y1 := by
            have h1 := HRB2.out; have h2 := HTB2.out
            have h3 := agr_bd d4 d5 most; have h4 := agr_bd d2 d3 most
            omega
          have HPOS := Lib.hid hpos
          have HY0 := Lib.hid hy0; have HY1 := Lib.hid hy1; have HY2 := Lib.hid hy2; have HY3 := Lib.hid hy3
          have hbs := hB.size
          clear hB e hq hg hD hy0 hy1 hy2 hy3 HST2 HOB hrr hpos
          go_wp2
          refine Code.wp_mono (Q := fun e a' w' => match e with
            | .normal => ∃ (d : Nat) (v4 : Value), a' = { tmps := #[.slice (some ad) n c, .int .i64 most, undef, undef, v4, .int .i64 ans2, .int .i64 k, .int .i64 j, .pointer (some ⟨d, 0, none⟩), u9, .int .i64 k, .slice (some ad) n c, .int .i64 n, .bool true, u14, u15, .int .i64 k, .int .i64 q1, .int .i64 j, .slice (some ad) n c, .int .i64 n, .bool true, u22, u23, .slice (some ad) n c, .int .i64 k, .pointer (some (ad.add (k * 6))), .agg #[.int .i64 a0, .int .i64 a1, .int .i64 a2, .int .i64 a3, .int .i64 a4, .int .i64 a5], .slice (some ad) n c, .int .i64 j, .pointer (some (ad.add (j * 6))), .agg #[.int .i64 b0, .int .i64 b1, .int .i64 b2, .int .i64 b3, .int .i64 b4, .int .i64 b5], .agg #[.int .i64 d0, .int .i64 d1, .int .i64 d2, .int .i64 d3, .int .i64 d4, .int .i64 d5], u33, u34, u35, u36, u37, u38, u39, u40, u41, u42, u43, u44, u45, u46, u47, u48, u49, u50, u51, u52, u53, u54, u55, u56, u57, u58, u59, u60, u61, u62, u63, u64, u65, u66, undef], defers := [] } ∧ BoxAt w' d #[.int .i64 d0, .int .i64 d1, .int .i64 d2, .int .i64 d3, .int .i64 d4, .int .i64 d5] 63 ∧ Below wr.heap.size wr w'
            | _ => False) ?cont ?reg
          case reg =>
            refine wp_region_held_drew (S := fun Z9 : World => Z9.cell? (ad.add (k * 6)) = some (.int .i64 a0) ∧ Z9.cell? ⟨(ad.add (k * 6)).block, (ad.add (k * 6)).off + 1, none⟩ = some (.int .i64 a1) ∧ Z9.cell? ⟨(ad.add (k * 6)).block, (ad.add (k * 6)).off + 2, none⟩ = some (.int .i64 a2) ∧ Z9.cell? ⟨(ad.add (k * 6)).block, (ad.add (k * 6)).off + 3, none⟩ = some (.int .i64 a3) ∧ Z9.cell? ⟨(ad.add (k * 6)).block, (ad.add (k * 6)).off + 4, none⟩ = some (.int .i64 a4) ∧ Z9.cell? ⟨(ad.add (k * 6)).block, (ad.add (k * 6)).off + 5, none⟩ = some (.int .i64 a5) ∧ Z9.cell? (ad.add (j * 6)) = some (.int .i64 b0) ∧ Z9.cell? ⟨(ad.add (j * 6)).block, (ad.add (j * 6)).off + 1, none⟩ = some (.int .i64 b1) ∧ Z9.cell? ⟨(ad.add (j * 6)).block, (ad.add (j * 6)).off + 2, none⟩ = some (.int .i64 b2) ∧ Z9.cell? ⟨(ad.add (j * 6)).block, (ad.add (j * 6)).off + 3, none⟩ = some (.int .i64 b3) ∧ Z9.cell? ⟨(ad.add (j * 6)).block, (ad.add (j * 6)).off + 4, none⟩ = some (.int .i64 b4) ∧ Z9.cell? ⟨(ad.add (j * 6)).block, (ad.add (j * 6)).off + 5, none⟩ = some (.int .i64 b5)) (by kernel_rfl) ⟨s0, s1, s2, s3, s4, s5, u0, u1, u2, u3, u4, u5⟩ (fun hSS => ?_)
            have hZ0 : Below wr.heap.size wr wr.drew := (Below.refl _ _).drew
            change wpAnyH _ _ _ _ _ _ _ _ (World.drew wr)
            obtain ⟨Z0, hZ09⟩ : ∃ Z0, Z0 = wr.drew := ⟨_, rfl⟩
            rw [← hZ09] at hSS hZ0 ⊢
            clear hZ09
            refine takeL (i := 0) (v := .slice (some ad) n c) rfl (by kernel_rfl) (by kernel_rfl) (by kernel_rfl) (fun _ _ _ h => h) (Or.inl ⟨by rfl, fun V9 h9 => by dsimp only at h9; go_simp⟩) hSS ?_
            try simp only [Act.put, List.setIfInBounds_toArray, List.set_cons_zero, List.set_cons_succ]
            refine takeL (i := 1) (v := .int .i64 k) rfl (by kernel_rfl) (by kernel_rfl) (by kernel_rfl) (fun _ _ _ h => h) (Or.inl ⟨by rfl, fun V9 h9 => by dsimp only at h9; go_simp⟩) hSS ?_
            try simp only [Act.put, List.setIfInBounds_toArray, List.set_cons_zero, List.set_cons_succ]
            refine takeL (i := 2) (v := .pointer (some (ad.add (k * 6)))) rfl (by kernel_rfl) (by kernel_rfl) (by kernel_rfl) (fun _ _ _ h => h) (Or.inl ⟨by rfl, fun V9 h9 => by dsimp only at h9; go_simp⟩) hSS ?_
            try simp only [Act.put, List.setIfInBounds_toArray, List.set_cons_zero, List.set_cons_succ]
            refine takeL (i := 3) (v := .agg #[.int .i64 a0, .int .i64 a1, .int .i64 a2, .int .i64 a3, .int .i64 a4, .int .i64 a5]) rfl (by kernel_rfl) (by kernel_rfl) (by kernel_rfl) (fun _ _ _ h => h) (Or.inl ⟨by rfl, fun V9 h9 => by dsimp only at h9; go_simp⟩) hSS ?_
            try simp only [Act.put, List.setIfInBounds_toArray, List.set_cons_zero, List.set_cons_succ]
            refine takeL (i := 4) (v := .slice (some ad) n c) rfl (by kernel_rfl) (by kernel_rfl) (by kernel_rfl) (fun _ _ _ h => h) (Or.inl ⟨by rfl, fun V9 h9 => by dsimp only at h9; go_simp⟩) hSS ?_
            try simp only [Act.put, List.setIfInBounds_toArray, List.set_cons_zero, List.set_cons_succ]
            refine takeL (i := 5) (v := .int .i64 j) rfl (by kernel_rfl) (by kernel_rfl) (by kernel_rfl) (fun _ _ _ h => h) (Or.inl ⟨by rfl, fun V9 h9 => by dsimp only at h9; go_simp⟩) hSS ?_
            try simp only [Act.put, List.setIfInBounds_toArray, List.set_cons_zero, List.set_cons_succ]
            refine takeL (i := 6) (v := .pointer (some (ad.add (j * 6)))) rfl (by kernel_rfl) (by kernel_rfl) (by kernel_rfl) (fun _ _ _ h => h) (Or.inl ⟨by rfl, fun V9 h9 => by dsimp only at h9; go_simp⟩) hSS ?_
            try simp only [Act.put, List.setIfInBounds_toArray, List.set_cons_zero, List.set_cons_succ]
            refine takeL (i := 7) (v := .agg #[.int .i64 b0, .int .i64 b1, .int .i64 b2, .int .i64 b3, .int .i64 b4, .int .i64 b5]) rfl (by kernel_rfl) (by kernel_rfl) (by kernel_rfl) (fun _ _ _ h => h) (Or.inl ⟨by rfl, fun V9 h9 => by dsimp only at h9; go_simp⟩) hSS ?_
            try simp only [Act.put, List.setIfInBounds_toArray, List.set_cons_zero, List.set_cons_succ]
            clear hSS
            refine wpAnyH_ready (rs := [8, 9]) (by kernel_rfl) (by simp) (consL rfl (fun K9 hK9 => ?_) (consL rfl (fun K9 hK9 => ?_) (AllReadyH.nil)))
            · go_simp
              refine (HOF.out _).mono ?_
              rintro e Z1 ⟨rfl, hv9⟩
              have hZ1 := hZ0.trans (hv9.mono hZ0.size)
              clear hv9
              have hS9 : (fun Z9 : World => Z9.cell? (ad.add (k * 6)) = some (.int .i64 a0) ∧ Z9.cell? ⟨(ad.add (k * 6)).block, (ad.add (k * 6)).off + 1, none⟩ = some (.int .i64 a1) ∧ Z9.cell? ⟨(ad.add (k * 6)).block, (ad.add (k * 6)).off + 2, none⟩ = some (.int .i64 a2) ∧ Z9.cell? ⟨(ad.add (k * 6)).block, (ad.add (k * 6)).off + 3, none⟩ = some (.int .i64 a3) ∧ Z9.cell? ⟨(ad.add (k * 6)).block, (ad.add (k * 6)).off + 4, none⟩ = some (.int .i64 a4) ∧ Z9.cell? ⟨(ad.add (k * 6)).block, (ad.add (k * 6)).off + 5, none⟩ = some (.int .i64 a5) ∧ Z9.cell? (ad.add (j * 6)) = some (.int .i64 b0) ∧ Z9.cell? ⟨(ad.add (j * 6)).block, (ad.add (j * 6)).off + 1, none⟩ = some (.int .i64 b1) ∧ Z9.cell? ⟨(ad.add (j * 6)).block, (ad.add (j * 6)).off + 2, none⟩ = some (.int .i64 b2) ∧ Z9.cell? ⟨(ad.add (j * 6)).block, (ad.add (j * 6)).off + 3, none⟩ = some (.int .i64 b3) ∧ Z9.cell? ⟨(ad.add (j * 6)).block, (ad.add (j * 6)).off + 4, none⟩ = some (.int .i64 b4) ∧ Z9.cell? ⟨(ad.add (j * 6)).block, (ad.add (j * 6)).off + 5, none⟩ = some (.int .i64 b5)) _ := ⟨(hZ1.cell (p := (ad.add (k * 6))) hpl).trans s0, (hZ1.cell (p := ⟨(ad.add (k * 6)).block, (ad.add (k * 6)).off + 1, none⟩) hpl).trans s1, (hZ1.cell (p := ⟨(ad.add (k * 6)).block, (ad.add (k * 6)).off + 2, none⟩) hpl).trans s2, (hZ1.cell (p := ⟨(ad.add (k * 6)).block, (ad.add (k * 6)).off + 3, none⟩) hpl).trans s3, (hZ1.cell (p := ⟨(ad.add (k * 6)).block, (ad.add (k * 6)).off + 4, none⟩) hpl).trans s4, (hZ1.cell (p := ⟨(ad.add (k * 6)).block, (ad.add (k * 6)).off + 5, none⟩) hpl).trans s5, (hZ1.cell (p := (ad.add (j * 6))) hql).trans u0, (hZ1.cell (p := ⟨(ad.add (j * 6)).block, (ad.add (j * 6)).off + 1, none⟩) hql).trans u1, (hZ1.cell (p := ⟨(ad.add (j * 6)).block, (ad.add (j * 6)).off + 2, none⟩) hql).trans u2, (hZ1.cell (p := ⟨(ad.add (j * 6)).block, (ad.add (j * 6)).off + 3, none⟩) hql).trans u3, (hZ1.cell (p := ⟨(ad.add (j * 6)).block, (ad.add (j * 6)).off + 4, none⟩) hql).trans u4, (hZ1.cell (p := ⟨(ad.add (j * 6)).block, (ad.add (j * 6)).off + 5, none⟩) hql).trans u5⟩
              refine hK9.out _ _ hS9 (fun _ => ?_)
              clear hK9 K9 hS9
              try simp only [Act.put, List.setIfInBounds_toArray, List.set_cons_zero, List.set_cons_succ]
              refine wpAnyH_ready (rs := [9]) (by kernel_rfl) (by simp) (consL rfl (fun K9 hK9 => ?_) (AllReadyH.nil))
              go_simp
              obtain ⟨Z2, hZ29⟩ : ∃ Z2, Z2 = Z1.alloc (.cells #[.int .i64 0, .int .i64 0, .int .i64 0, .int .i64 0, .int .i64 0, .int .i64 0] 63) := ⟨_, rfl⟩
              have Bd : BoxAt Z2 Z1.heap.size #[.int .i64 0, .int .i64 0, .int .i64 0, .int .i64 0, .int .i64 0, .int .i64 0] 63 := by rw [hZ29]; exact BoxAt.new _ _ _
              have hZ2 : Below wr.heap.size wr Z2 := by rw [hZ29]; exact hZ1.alloc hZ1.size _
              rw [← hZ29]
              have ld : wr.heap.size ≤ Z1.heap.size := hZ1.size
              obtain ⟨d, hd9⟩ : ∃ d, d = Z1.heap.size := ⟨_, rfl⟩
              rw [← hd9] at Bd ld ⊢
              clear hd9 hZ29
              have hS9 : (fun Z9 : World => Z9.cell? (ad.add (k * 6)) = some (.int .i64 a0) ∧ Z9.cell? ⟨(ad.add (k * 6)).block, (ad.add (k * 6)).off + 1, none⟩ = some (.int .i64 a1) ∧ Z9.cell? ⟨(ad.add (k * 6)).block, (ad.add (k * 6)).off + 2, none⟩ = some (.int .i64 a2) ∧ Z9.cell? ⟨(ad.add (k * 6)).block, (ad.add (k * 6)).off + 3, none⟩ = some (.int .i64 a3) ∧ Z9.cell? ⟨(ad.add (k * 6)).block, (ad.add (k * 6)).off + 4, none⟩ = some (.int .i64 a4) ∧ Z9.cell? ⟨(ad.add (k * 6)).block, (ad.add (k * 6)).off + 5, none⟩ = some (.int .i64 a5) ∧ Z9.cell? (ad.add (j * 6)) = some (.int .i64 b0) ∧ Z9.cell? ⟨(ad.add (j * 6)).block, (ad.add (j * 6)).off + 1, none⟩ = some (.int .i64 b1) ∧ Z9.cell? ⟨(ad.add (j * 6)).block, (ad.add (j * 6)).off + 2, none⟩ = some (.int .i64 b2) ∧ Z9.cell? ⟨(ad.add (j * 6)).block, (ad.add (j * 6)).off + 3, none⟩ = some (.int .i64 b3) ∧ Z9.cell? ⟨(ad.add (j * 6)).block, (ad.add (j * 6)).off + 4, none⟩ = some (.int .i64 b4) ∧ Z9.cell? ⟨(ad.add (j * 6)).block, (ad.add (j * 6)).off + 5, none⟩ = some (.int .i64 b5)) _ := ⟨(hZ2.cell (p := (ad.add (k * 6))) hpl).trans s0, (hZ2.cell (p := ⟨(ad.add (k * 6)).block, (ad.add (k * 6)).off + 1, none⟩) hpl).trans s1, (hZ2.cell (p := ⟨(ad.add (k * 6)).block, (ad.add (k * 6)).off + 2, none⟩) hpl).trans s2, (hZ2.cell (p := ⟨(ad.add (k * 6)).block, (ad.add (k * 6)).off + 3, none⟩) hpl).trans s3, (hZ2.cell (p := ⟨(ad.add (k * 6)).block, (ad.add (k * 6)).off + 4, none⟩) hpl).trans s4, (hZ2.cell (p := ⟨(ad.add (k * 6)).block, (ad.add (k * 6)).off + 5, none⟩) hpl).trans s5, (hZ2.cell (p := (ad.add (j * 6))) hql).trans u0, (hZ2.cell (p := ⟨(ad.add (j * 6)).block, (ad.add (j * 6)).off + 1, none⟩) hql).trans u1, (hZ2.cell (p := ⟨(ad.add (j * 6)).block, (ad.add (j * 6)).off + 2, none⟩) hql).trans u2, (hZ2.cell (p := ⟨(ad.add (j * 6)).block, (ad.add (j * 6)).off + 3, none⟩) hql).trans u3, (hZ2.cell (p := ⟨(ad.add (j * 6)).block, (ad.add (j * 6)).off + 4, none⟩) hql).trans u4, (hZ2.cell (p := ⟨(ad.add (j * 6)).block, (ad.add (j * 6)).off + 5, none⟩) hql).trans u5⟩
              refine hK9.out _ _ hS9 (fun _ => ?_)
              clear hK9 K9 hS9
              try simp only [Act.put, List.setIfInBounds_toArray, List.set_cons_zero, List.set_cons_succ]
              have q00 : Z2.cell? ⟨d, 0, none⟩ = some (.int .i64 0) := Bd.cell 0
              have q01 : Z2.cell? ⟨d, 1, none⟩ = some (.int .i64 0) := Bd.cell 1
              have q02 : Z2.cell? ⟨d, 2, none⟩ = some (.int .i64 0) := Bd.cell 2
              have q03 : Z2.cell? ⟨d, 3, none⟩ = some (.int .i64 0) := Bd.cell 3
              have q04 : Z2.cell? ⟨d, 4, none⟩ = some (.int .i64 0) := Bd.cell 4
              have q05 : Z2.cell? ⟨d, 5, none⟩ = some (.int .i64 0) := Bd.cell 5
              have z00 : Z2.frozen? ⟨d, 0, none⟩ = false := Bd.free 0
              have z01 : Z2.frozen? ⟨d, 1, none⟩ = false := Bd.free 1
              have z02 : Z2.frozen? ⟨d, 2, none⟩ = false := Bd.free 2
              have z03 : Z2.frozen? ⟨d, 3, none⟩ = false := Bd.free 3
              have z04 : Z2.frozen? ⟨d, 4, none⟩ = false := Bd.free 4
              have z05 : Z2.frozen? ⟨d, 5, none⟩ = false := Bd.free 5
              refine wpAnyH_ready (rs := [10]) (by kernel_rfl) (by simp) (consL rfl (fun K9 hK9 => ?_) (AllReadyH.nil))
              go_simp
              obtain ⟨Y, hY⟩ : ∃ Y, Y = ((((((Z2.setCell ⟨d, 0, none⟩ (.int .i64 d0)).setCell ⟨d, 1, none⟩ (.int .i64 d1)).setCell ⟨d, 2, none⟩ (.int .i64 d2)).setCell ⟨d, 3, none⟩ (.int .i64 d3)).setCell ⟨d, 4, none⟩ (.int .i64 d4)).setCell ⟨d, 5, none⟩ (.int .i64 d5)) := ⟨_, rfl⟩
              have bY : BoxAt Y d #[.int .i64 d0, .int .i64 d1, .int .i64 d2, .int .i64 d3, .int .i64 d4, .int .i64 d5] 63 := by rw [hY]; exact box6 Bd _ _ _ _ _ _
              have hYb : Below wr.heap.size wr Y := by rw [hY]; exact below6 hZ2 ld _ _ _ _ _ _
              rw [← hY]
              have hS9 : (fun Z9 : World => Z9.cell? (ad.add (k * 6)) = some (.int .i64 a0) ∧ Z9.cell? ⟨(ad.add (k * 6)).block, (ad.add (k * 6)).off + 1, none⟩ = some (.int .i64 a1) ∧ Z9.cell? ⟨(ad.add (k * 6)).block, (ad.add (k * 6)).off + 2, none⟩ = some (.int .i64 a2) ∧ Z9.cell? ⟨(ad.add (k * 6)).block, (ad.add (k * 6)).off + 3, none⟩ = some (.int .i64 a3) ∧ Z9.cell? ⟨(ad.add (k * 6)).block, (ad.add (k * 6)).off + 4, none⟩ = some (.int .i64 a4) ∧ Z9.cell? ⟨(ad.add (k * 6)).block, (ad.add (k * 6)).off + 5, none⟩ = some (.int .i64 a5) ∧ Z9.cell? (ad.add (j * 6)) = some (.int .i64 b0) ∧ Z9.cell? ⟨(ad.add (j * 6)).block, (ad.add (j * 6)).off + 1, none⟩ = some (.int .i64 b1) ∧ Z9.cell? ⟨(ad.add (j * 6)).block, (ad.add (j * 6)).off + 2, none⟩ = some (.int .i64 b2) ∧ Z9.cell? ⟨(ad.add (j * 6)).block, (ad.add (j * 6)).off + 3, none⟩ = some (.int .i64 b3) ∧ Z9.cell? ⟨(ad.add (j * 6)).block, (ad.add (j * 6)).off + 4, none⟩ = some (.int .i64 b4) ∧ Z9.cell? ⟨(ad.add (j * 6)).block, (ad.add (j * 6)).off + 5, none⟩ = some (.int .i64 b5)) _ := ⟨(hYb.cell (p := (ad.add (k * 6))) hpl).trans s0, (hYb.cell (p := ⟨(ad.add (k * 6)).block, (ad.add (k * 6)).off + 1, none⟩) hpl).trans s1, (hYb.cell (p := ⟨(ad.add (k * 6)).block, (ad.add (k * 6)).off + 2, none⟩) hpl).trans s2, (hYb.cell (p := ⟨(ad.add (k * 6)).block, (ad.add (k * 6)).off + 3, none⟩) hpl).trans s3, (hYb.cell (p := ⟨(ad.add (k * 6)).block, (ad.add (k * 6)).off + 4, none⟩) hpl).trans s4, (hYb.cell (p := ⟨(ad.add (k * 6)).block, (ad.add (k * 6)).off + 5, none⟩) hpl).trans s5, (hYb.cell (p := (ad.add (j * 6))) hql).trans u0, (hYb.cell (p := ⟨(ad.add (j * 6)).block, (ad.add (j * 6)).off + 1, none⟩) hql).trans u1, (hYb.cell (p := ⟨(ad.add (j * 6)).block, (ad.add (j * 6)).off + 2, none⟩) hql).trans u2, (hYb.cell (p := ⟨(ad.add (j * 6)).block, (ad.add (j * 6)).off + 3, none⟩) hql).trans u3, (hYb.cell (p := ⟨(ad.add (j * 6)).block, (ad.add (j * 6)).off + 4, none⟩) hql).trans u4, (hYb.cell (p := ⟨(ad.add (j * 6)).block, (ad.add (j * 6)).off + 5, none⟩) hql).trans u5⟩
              refine hK9.out _ _ hS9 (fun _ => ?_)
              clear hK9 K9 hS9
              try simp only [Act.put, List.setIfInBounds_toArray, List.set_cons_zero, List.set_cons_succ]
              refine wpAnyH_done (by kernel_rfl) ?_ _
              exact ⟨d, _, rfl, bY, hYb⟩
            · go_simp
              obtain ⟨Z1, hZ19⟩ : ∃ Z1, Z1 = Z0.alloc (.cells #[.int .i64 0, .int .i64 0, .int .i64 0, .int .i64 0, .int .i64 0, .int .i64 0] 63) := ⟨_, rfl⟩
              have Bd : BoxAt Z1 Z0.heap.size #[.int .i64 0, .int .i64 0, .int .i64 0, .int .i64 0, .int .i64 0, .int .i64 0] 63 := by rw [hZ19]; exact BoxAt.new _ _ _
              have hZ1 : Below wr.heap.size wr Z1 := by rw [hZ19]; exact hZ0.alloc hZ0.size _
              rw [← hZ19]
              have ld : wr.heap.size ≤ Z0.heap.size := hZ0.size
              obtain ⟨d, hd9⟩ : ∃ d, d = Z0.heap.size := ⟨_, rfl⟩
              rw [← hd9] at Bd ld ⊢
              clear hd9 hZ19
              have hS9 : (fun Z9 : World => Z9.cell? (ad.add (k * 6)) = some (.int .i64 a0) ∧ Z9.cell? ⟨(ad.add (k * 6)).block, (ad.add (k * 6)).off + 1, none⟩ = some (.int .i64 a1) ∧ Z9.cell? ⟨(ad.add (k * 6)).block, (ad.add (k * 6)).off + 2, none⟩ = some (.int .i64 a2) ∧ Z9.cell? ⟨(ad.add (k * 6)).block, (ad.add (k * 6)).off + 3, none⟩ = some (.int .i64 a3) ∧ Z9.cell? ⟨(ad.add (k * 6)).block, (ad.add (k * 6)).off + 4, none⟩ = some (.int .i64 a4) ∧ Z9.cell? ⟨(ad.add (k * 6)).block, (ad.add (k * 6)).off + 5, none⟩ = some (.int .i64 a5) ∧ Z9.cell? (ad.add (j * 6)) = some (.int .i64 b0) ∧ Z9.cell? ⟨(ad.add (j * 6)).block, (ad.add (j * 6)).off + 1, none⟩ = some (.int .i64 b1) ∧ Z9.cell? ⟨(ad.add (j * 6)).block, (ad.add (j * 6)).off + 2, none⟩ = some (.int .i64 b2) ∧ Z9.cell? ⟨(ad.add (j * 6)).block, (ad.add (j * 6)).off + 3, none⟩ = some (.int .i64 b3) ∧ Z9.cell? ⟨(ad.add (j * 6)).block, (ad.add (j * 6)).off + 4, none⟩ = some (.int .i64 b4) ∧ Z9.cell? ⟨(ad.add (j * 6)).block, (ad.add (j * 6)).off + 5, none⟩ = some (.int .i64 b5)) _ := ⟨(hZ1.cell (p := (ad.add (k * 6))) hpl).trans s0, (hZ1.cell (p := ⟨(ad.add (k * 6)).block, (ad.add (k * 6)).off + 1, none⟩) hpl).trans s1, (hZ1.cell (p := ⟨(ad.add (k * 6)).block, (ad.add (k * 6)).off + 2, none⟩) hpl).trans s2, (hZ1.cell (p := ⟨(ad.add (k * 6)).block, (ad.add (k * 6)).off + 3, none⟩) hpl).trans s3, (hZ1.cell (p := ⟨(ad.add (k * 6)).block, (ad.add (k * 6)).off + 4, none⟩) hpl).trans s4, (hZ1.cell (p := ⟨(ad.add (k * 6)).block, (ad.add (k * 6)).off + 5, none⟩) hpl).trans s5, (hZ1.cell (p := (ad.add (j * 6))) hql).trans u0, (hZ1.cell (p := ⟨(ad.add (j * 6)).block, (ad.add (j * 6)).off + 1, none⟩) hql).trans u1, (hZ1.cell (p := ⟨(ad.add (j * 6)).block, (ad.add (j * 6)).off + 2, none⟩) hql).trans u2, (hZ1.cell (p := ⟨(ad.add (j * 6)).block, (ad.add (j * 6)).off + 3, none⟩) hql).trans u3, (hZ1.cell (p := ⟨(ad.add (j * 6)).block, (ad.add (j * 6)).off + 4, none⟩) hql).trans u4, (hZ1.cell (p := ⟨(ad.add (j * 6)).block, (ad.add (j * 6)).off + 5, none⟩) hql).trans u5⟩
              refine hK9.out _ _ hS9 (fun _ => ?_)
              clear hK9 K9 hS9
              try simp only [Act.put, List.setIfInBounds_toArray, List.set_cons_zero, List.set_cons_succ]
              refine wpAnyH_ready (rs := [8]) (by kernel_rfl) (by simp) (consL rfl (fun K9 hK9 => ?_) (AllReadyH.nil))
              go_simp
              refine (HOF.out _).mono ?_
              rintro e Z2 ⟨rfl, hv9⟩
              have hZ2 := hZ1.trans (hv9.mono hZ1.size)
              have Bd := Bd.below hv9
              clear hv9
              have hS9 : (fun Z9 : World => Z9.cell? (ad.add (k * 6)) = some (.int .i64 a0) ∧ Z9.cell? ⟨(ad.add (k * 6)).block, (ad.add (k * 6)).off + 1, none⟩ = some (.int .i64 a1) ∧ Z9.cell? ⟨(ad.add (k * 6)).block, (ad.add (k * 6)).off + 2, none⟩ = some (.int .i64 a2) ∧ Z9.cell? ⟨(ad.add (k * 6)).block, (ad.add (k * 6)).off + 3, none⟩ = some (.int .i64 a3) ∧ Z9.cell? ⟨(ad.add (k * 6)).block, (ad.add (k * 6)).off + 4, none⟩ = some (.int .i64 a4) ∧ Z9.cell? ⟨(ad.add (k * 6)).block, (ad.add (k * 6)).off + 5, none⟩ = some (.int .i64 a5) ∧ Z9.cell? (ad.add (j * 6)) = some (.int .i64 b0) ∧ Z9.cell? ⟨(ad.add (j * 6)).block, (ad.add (j * 6)).off + 1, none⟩ = some (.int .i64 b1) ∧ Z9.cell? ⟨(ad.add (j * 6)).block, (ad.add (j * 6)).off + 2, none⟩ = some (.int .i64 b2) ∧ Z9.cell? ⟨(ad.add (j * 6)).block, (ad.add (j * 6)).off + 3, none⟩ = some (.int .i64 b3) ∧ Z9.cell? ⟨(ad.add (j * 6)).block, (ad.add (j * 6)).off + 4, none⟩ = some (.int .i64 b4) ∧ Z9.cell? ⟨(ad.add (j * 6)).block, (ad.add (j * 6)).off + 5, none⟩ = some (.int .i64 b5)) _ := ⟨(hZ2.cell (p := (ad.add (k * 6))) hpl).trans s0, (hZ2.cell (p := ⟨(ad.add (k * 6)).block, (ad.add (k * 6)).off + 1, none⟩) hpl).trans s1, (hZ2.cell (p := ⟨(ad.add (k * 6)).block, (ad.add (k * 6)).off + 2, none⟩) hpl).trans s2, (hZ2.cell (p := ⟨(ad.add (k * 6)).block, (ad.add (k * 6)).off + 3, none⟩) hpl).trans s3, (hZ2.cell (p := ⟨(ad.add (k * 6)).block, (ad.add (k * 6)).off + 4, none⟩) hpl).trans s4, (hZ2.cell (p := ⟨(ad.add (k * 6)).block, (ad.add (k * 6)).off + 5, none⟩) hpl).trans s5, (hZ2.cell (p := (ad.add (j * 6))) hql).trans u0, (hZ2.cell (p := ⟨(ad.add (j * 6)).block, (ad.add (j * 6)).off + 1, none⟩) hql).trans u1, (hZ2.cell (p := ⟨(ad.add (j * 6)).block, (ad.add (j * 6)).off + 2, none⟩) hql).trans u2, (hZ2.cell (p := ⟨(ad.add (j * 6)).block, (ad.add (j * 6)).off + 3, none⟩) hql).trans u3, (hZ2.cell (p := ⟨(ad.add (j * 6)).block, (ad.add (j * 6)).off + 4, none⟩) hql).trans u4, (hZ2.cell (p := ⟨(ad.add (j * 6)).block, (ad.add (j * 6)).off + 5, none⟩) hql).trans u5⟩
              refine hK9.out _ _ hS9 (fun _ => ?_)
              clear hK9 K9 hS9
              try simp only [Act.put, List.setIfInBounds_toArray, List.set_cons_zero, List.set_cons_succ]
              have q00 : Z2.cell? ⟨d, 0, none⟩ = some (.int .i64 0) := Bd.cell 0
              have q01 : Z2.cell? ⟨d, 1, none⟩ = some (.int .i64 0) := Bd.cell 1
              have q02 : Z2.cell? ⟨d, 2, none⟩ = some (.int .i64 0) := Bd.cell 2
              have q03 : Z2.cell? ⟨d, 3, none⟩ = some (.int .i64 0) := Bd.cell 3
              have q04 : Z2.cell? ⟨d, 4, none⟩ = some (.int .i64 0) := Bd.cell 4
              have q05 : Z2.cell? ⟨d, 5, none⟩ = some (.int .i64 0) := Bd.cell 5
              have z00 : Z2.frozen? ⟨d, 0, none⟩ = false := Bd.free 0
              have z01 : Z2.frozen? ⟨d, 1, none⟩ = false := Bd.free 1
              have z02 : Z2.frozen? ⟨d, 2, none⟩ = false := Bd.free 2
              have z03 : Z2.frozen? ⟨d, 3, none⟩ = false := Bd.free 3
              have z04 : Z2.frozen? ⟨d, 4, none⟩ = false := Bd.free 4
              have z05 : Z2.frozen? ⟨d, 5, none⟩ = false := Bd.free 5
              refine wpAnyH_ready (rs := [10]) (by kernel_rfl) (by simp) (consL rfl (fun K9 hK9 => ?_) (AllReadyH.nil))
              go_simp
              obtain ⟨Y, hY⟩ : ∃ Y, Y = ((((((Z2.setCell ⟨d, 0, none⟩ (.int .i64 d0)).setCell ⟨d, 1, none⟩ (.int .i64 d1)).setCell ⟨d, 2, none⟩ (.int .i64 d2)).setCell ⟨d, 3, none⟩ (.int .i64 d3)).setCell ⟨d, 4, none⟩ (.int .i64 d4)).setCell ⟨d, 5, none⟩ (.int .i64 d5)) := ⟨_, rfl⟩
              have bY : BoxAt Y d #[.int .i64 d0, .int .i64 d1, .int .i64 d2, .int .i64 d3, .int .i64 d4, .int .i64 d5] 63 := by rw [hY]; exact box6 Bd _ _ _ _ _ _
              have hYb : Below wr.heap.size wr Y := by rw [hY]; exact below6 hZ2 ld _ _ _ _ _ _
              rw [← hY]
              have hS9 : (fun Z9 : World => Z9.cell? (ad.add (k * 6)) = some (.int .i64 a0) ∧ Z9.cell? ⟨(ad.add (k * 6)).block, (ad.add (k * 6)).off + 1, none⟩ = some (.int .i64 a1) ∧ Z9.cell? ⟨(ad.add (k * 6)).block, (ad.add (k * 6)).off + 2, none⟩ = some (.int .i64 a2) ∧ Z9.cell? ⟨(ad.add (k * 6)).block, (ad.add (k * 6)).off + 3, none⟩ = some (.int .i64 a3) ∧ Z9.cell? ⟨(ad.add (k * 6)).block, (ad.add (k * 6)).off + 4, none⟩ = some (.int .i64 a4) ∧ Z9.cell? ⟨(ad.add (k * 6)).block, (ad.add (k * 6)).off + 5, none⟩ = some (.int .i64 a5) ∧ Z9.cell? (ad.add (j * 6)) = some (.int .i64 b0) ∧ Z9.cell? ⟨(ad.add (j * 6)).block, (ad.add (j * 6)).off + 1, none⟩ = some (.int .i64 b1) ∧ Z9.cell? ⟨(ad.add (j * 6)).block, (ad.add (j * 6)).off + 2, none⟩ = some (.int .i64 b2) ∧ Z9.cell? ⟨(ad.add (j * 6)).block, (ad.add (j * 6)).off + 3, none⟩ = some (.int .i64 b3) ∧ Z9.cell? ⟨(ad.add (j * 6)).block, (ad.add (j * 6)).off + 4, none⟩ = some (.int .i64 b4) ∧ Z9.cell? ⟨(ad.add (j * 6)).block, (ad.add (j * 6)).off + 5, none⟩ = some (.int .i64 b5)) _ := ⟨(hYb.cell (p := (ad.add (k * 6))) hpl).trans s0, (hYb.cell (p := ⟨(ad.add (k * 6)).block, (ad.add (k * 6)).off + 1, none⟩) hpl).trans s1, (hYb.cell (p := ⟨(ad.add (k * 6)).block, (ad.add (k * 6)).off + 2, none⟩) hpl).trans s2, (hYb.cell (p := ⟨(ad.add (k * 6)).block, (ad.add (k * 6)).off + 3, none⟩) hpl).trans s3, (hYb.cell (p := ⟨(ad.add (k * 6)).block, (ad.add (k * 6)).off + 4, none⟩) hpl).trans s4, (hYb.cell (p := ⟨(ad.add (k * 6)).block, (ad.add (k * 6)).off + 5, none⟩) hpl).trans s5, (hYb.cell (p := (ad.add (j * 6))) hql).trans u0, (hYb.cell (p := ⟨(ad.add (j * 6)).block, (ad.add (j * 6)).off + 1, none⟩) hql).trans u1, (hYb.cell (p := ⟨(ad.add (j * 6)).block, (ad.add (j * 6)).off + 2, none⟩) hql).trans u2, (hYb.cell (p := ⟨(ad.add (j * 6)).block, (ad.add (j * 6)).off + 3, none⟩) hql).trans u3, (hYb.cell (p := ⟨(ad.add (j * 6)).block, (ad.add (j * 6)).off + 4, none⟩) hql).trans u4, (hYb.cell (p := ⟨(ad.add (j * 6)).block, (ad.add (j * 6)).off + 5, none⟩) hql).trans u5⟩
              refine hK9.out _ _ hS9 (fun _ => ?_)
              clear hK9 K9 hS9
              try simp only [Act.put, List.setIfInBounds_toArray, List.set_cons_zero, List.set_cons_succ]
              refine wpAnyH_done (by kernel_rfl) ?_ _
              exact ⟨d, _, rfl, bY, hYb⟩
          case cont =>
            rintro e a' w' hq
            cases e <;> try exact hq.elim
            obtain ⟨d, v4, rfl, bY, hYb⟩ := hq
            have HBY := Lib.hid bY
            have HYB := Lib.hid (HB2.out.trans (hYb.mono hbs))
            clear s0 s1 s2 s3 s4 s5 u0 u1 u2 u3 u4 u5 hpl hql bY hYb
            go_wp2
            go_loopw [9, 5] (fun i v5 wr => ∃ (t : Nat) (ans : Int), ((t = 0 ∧ Hid (RegJ ans y0 T)) ∨ (t = 1 ∧ Hid (RegJ ans y1 T)) ∨ (t = 2 ∧ Hid (RegJ ans y2 T)) ∨ (t = 3 ∧ Hid (RegJ ans y3 T))) ∧ i = .int .i64 t ∧ v5 = .int .i64 ans ∧ Below w'.heap.size w' wr) (fun i _ _ => 3 - (intOf i).toNat)
            case atStart => exact ⟨0, ans2, Or.inl ⟨rfl, HG0⟩, rfl, rfl, Below.refl _ _⟩
            case round =>
              obtain ⟨t, ans3, ht, rfl, rfl, hB6⟩ := hrel
              have HB6 := Lib.hid hB6
              have hd6 := HBY.out.below hB6
              have hdl := hd6.lt
              have x0 : wr.cell? ⟨d, 0, none⟩ = some (.int .i64 d0) := hd6.cell 0
              have x1 : wr.cell? ⟨d, 1, none⟩ = some (.int .i64 d1) := hd6.cell 1
              have x2 : wr.cell? ⟨d, 2, none⟩ = some (.int .i64 d2) := hd6.cell 2
              have x3 : wr.cell? ⟨d, 3, none⟩ = some (.int .i64 d3) := hd6.cell 3
              have x4 : wr.cell? ⟨d, 4, none⟩ = some (.int .i64 d4) := hd6.cell 4
              have x5 : wr.cell? ⟨d, 5, none⟩ = some (.int .i64 d5) := hd6.cell 5
              clear hB6 hd6
              rcases ht with ⟨rfl, hi⟩ | ⟨rfl, hi⟩ | ⟨rfl, hi⟩ | ⟨rfl, hi⟩
              · have HS : Hid (RegJ ans3 (min (agr d0 d1 most) y1) T) := Lib.hid (by rw [← HY0.out]; exact hi.out)
                clear hi
                by_cases e1 : d0 > most
                · have e1' := decide_eq_true e1
                  go_wp2
                  go_ret
                  exact ⟨ret_int (by symm; refine (show RegJ ans3 (min 0 y1) T from ?_).no HPOS.out.2.2; have h := HS.out; rw [show agr d0 d1 most = 0 by unfold agr; rw [if_pos (Or.inl e1)]] at h; exact h), HYB.out.trans (HB6.out.mono HYB.out.size)⟩
                have e1' := decide_eq_false e1
                by_cases e2 : d1 < -most
                · have e2' := decide_eq_true e2
                  have E2 := Lib.hid e2
                  clear e1 e2
                  go_wp2
                  go_ret
                  exact ⟨ret_int (by symm; refine (show RegJ ans3 (min 0 y1) T from ?_).no HPOS.out.2.2; have h := HS.out; rw [show agr d0 d1 most = 0 by unfold agr; rw [if_pos (Or.inr E2.out)]] at h; exact h), HYB.out.trans (HB6.out.mono HYB.out.size)⟩
                have e2' := decide_eq_false e2
                have HN0 := Lib.hid (show ¬ (most < d0 ∨ d1 < -most) by rintro (h | h); exact e1 h; exact e2 h)
                by_cases e3 : d0 < -most
                · have e3' := decide_eq_true e3
                  have HI := Lib.hid ((show RegJ ans3 (min 1 y1) T from (by have h := HS.out; rw [show agr d0 d1 most = 1 by unfold agr; rw [if_neg HN0.out, if_neg (fun h => by omega)]] at h; exact h)).may)
                  clear e1 e2 e3
                  go_wp2
                  go_roundw
                  case rel => exact ⟨1, 1, Or.inr (Or.inl ⟨rfl, HI⟩), by go_num, rfl, HB6.out⟩
                  case measure => simp [intOf] <;> omega
                have e3' := decide_eq_false e3
                by_cases e4 : d1 > most
                · have e4' := decide_eq_true e4
                  have HI := Lib.hid ((show RegJ ans3 (min 1 y1) T from (by have h := HS.out; rw [show agr d0 d1 most = 1 by unfold agr; rw [if_neg HN0.out, if_neg (fun h => by omega)]] at h; exact h)).may)
                  clear e1 e2 e3 e4
                  go_wp2
                  go_roundw
                  case rel => exact ⟨1, 1, Or.inr (Or.inl ⟨rfl, HI⟩), by go_num, rfl, HB6.out⟩
                  case measure => simp [intOf] <;> omega
                have e4' := decide_eq_false e4
                have HI := Lib.hid ((show RegJ ans3 (min 2 y1) T from (by have h := HS.out; rw [show agr d0 d1 most = 2 by unfold agr; rw [if_neg HN0.out, if_pos ⟨by omega, by omega⟩]] at h; exact h)).yes)
                clear e1 e2 e3 e4
                go_wp2
                go_roundw
                case rel => exact ⟨1, ans3, Or.inr (Or.inl ⟨rfl, HI⟩), by go_num, rfl, HB6.out⟩
                case measure => simp [intOf] <;> omega
              · have HS : Hid (RegJ ans3 (min (agr d2 d3 most) y2) T) := Lib.hid (by rw [← HY1.out]; exact hi.out)
                clear hi
                by_cases e1 : d2 > most
                · have e1' := decide_eq_true e1
                  go_wp2
                  go_ret
                  exact ⟨ret_int (by symm; refine (show RegJ ans3 (min 0 y2) T from ?_).no HPOS.out.2.1; have h := HS.out; rw [show agr d2 d3 most = 0 by unfold agr; rw [if_pos (Or.inl e1)]] at h; exact h), HYB.out.trans (HB6.out.mono HYB.out.size)⟩
                have e1' := decide_eq_false e1
                by_cases e2 : d3 < -most
                · have e2' := decide_eq_true e2
                  have E2 := Lib.hid e2
                  clear e1 e2
                  go_wp2
                  go_ret
                  exact ⟨ret_int (by symm; refine (show RegJ ans3 (min 0 y2) T from ?_).no HPOS.out.2.1; have h := HS.out; rw [show agr d2 d3 most = 0 by unfold agr; rw [if_pos (Or.inr E2.out)]] at h; exact h), HYB.out.trans (HB6.out.mono HYB.out.size)⟩
                have e2' := decide_eq_false e2
                have HN0 := Lib.hid (show ¬ (most < d2 ∨ d3 < -most) by rintro (h | h); exact e1 h; exact e2 h)
                by_cases e3 : d2 < -most
                · have e3' := decide_eq_true e3
                  have HI := Lib.hid ((show RegJ ans3 (min 1 y2) T from (by have h := HS.out; rw [show agr d2 d3 most = 1 by unfold agr; rw [if_neg HN0.out, if_neg (fun h => by omega)]] at h; exact h)).may)
                  clear e1 e2 e3
                  go_wp2
                  go_roundw
                  case rel => exact ⟨2, 1, Or.inr (Or.inr (Or.inl ⟨rfl, HI⟩)), by go_num, rfl, HB6.out⟩
                  case measure => simp [intOf] <;> omega
                have e3' := decide_eq_false e3
                by_cases e4 : d3 > most
                · have e4' := decide_eq_true e4
                  have HI := Lib.hid ((show RegJ ans3 (min 1 y2) T from (by have h := HS.out; rw [show agr d2 d3 most = 1 by unfold agr; rw [if_neg HN0.out, if_neg (fun h => by omega)]] at h; exact h)).may)
                  clear e1 e2 e3 e4
                  go_wp2
                  go_roundw
                  case rel => exact ⟨2, 1, Or.inr (Or.inr (Or.inl ⟨rfl, HI⟩)), by go_num, rfl, HB6.out⟩
                  case measure => simp [intOf] <;> omega
                have e4' := decide_eq_false e4
                have HI := Lib.hid ((show RegJ ans3 (min 2 y2) T from (by have h := HS.out; rw [show agr d2 d3 most = 2 by unfold agr; rw [if_neg HN0.out, if_pos ⟨by omega, by omega⟩]] at h; exact h)).yes)
                clear e1 e2 e3 e4
                go_wp2
                go_roundw
                case rel => exact ⟨2, ans3, Or.inr (Or.inr (Or.inl ⟨rfl, HI⟩)), by go_num, rfl, HB6.out⟩
                case measure => simp [intOf] <;> omega
              · have HS : Hid (RegJ ans3 (min (agr d4 d5 most) y3) T) := Lib.hid (by rw [← HY2.out]; exact hi.out)
                clear hi
                by_cases e1 : d4 > most
                · have e1' := decide_eq_true e1
                  go_wp2
                  go_ret
                  exact ⟨ret_int (by symm; refine (show RegJ ans3 (min 0 y3) T from ?_).no HPOS.out.1; have h := HS.out; rw [show agr d4 d5 most = 0 by unfold agr; rw [if_pos (Or.inl e1)]] at h; exact h), HYB.out.trans (HB6.out.mono HYB.out.size)⟩
                have e1' := decide_eq_false e1
                by_cases e2 : d5 < -most
                · have e2' := decide_eq_true e2
                  have E2 := Lib.hid e2
                  clear e1 e2
                  go_wp2
                  go_ret
                  exact ⟨ret_int (by symm; refine (show RegJ ans3 (min 0 y3) T from ?_).no HPOS.out.1; have h := HS.out; rw [show agr d4 d5 most = 0 by unfold agr; rw [if_pos (Or.inr E2.out)]] at h; exact h), HYB.out.trans (HB6.out.mono HYB.out.size)⟩
                have e2' := decide_eq_false e2
                have HN0 := Lib.hid (show ¬ (most < d4 ∨ d5 < -most) by rintro (h | h); exact e1 h; exact e2 h)
                by_cases e3 : d4 < -most
                · have e3' := decide_eq_true e3
                  have HI := Lib.hid ((show RegJ ans3 (min 1 y3) T from (by have h := HS.out; rw [show agr d4 d5 most = 1 by unfold agr; rw [if_neg HN0.out, if_neg (fun h => by omega)]] at h; exact h)).may)
                  clear e1 e2 e3
                  go_wp2
                  go_roundw
                  case rel => exact ⟨3, 1, Or.inr (Or.inr (Or.inr ⟨rfl, HI⟩)), by go_num, rfl, HB6.out⟩
                  case measure => simp [intOf] <;> omega
                have e3' := decide_eq_false e3
                by_cases e4 : d5 > most
                · have e4' := decide_eq_true e4
                  have HI := Lib.hid ((show RegJ ans3 (min 1 y3) T from (by have h := HS.out; rw [show agr d4 d5 most = 1 by unfold agr; rw [if_neg HN0.out, if_neg (fun h => by omega)]] at h; exact h)).may)
                  clear e1 e2 e3 e4
                  go_wp2
                  go_roundw
                  case rel => exact ⟨3, 1, Or.inr (Or.inr (Or.inr ⟨rfl, HI⟩)), by go_num, rfl, HB6.out⟩
                  case measure => simp [intOf] <;> omega
                have e4' := decide_eq_false e4
                have HI := Lib.hid ((show RegJ ans3 (min 2 y3) T from (by have h := HS.out; rw [show agr d4 d5 most = 2 by unfold agr; rw [if_neg HN0.out, if_pos ⟨by omega, by omega⟩]] at h; exact h)).yes)
                clear e1 e2 e3 e4
                go_wp2
                go_roundw
                case rel => exact ⟨3, ans3, Or.inr (Or.inr (Or.inr ⟨rfl, HI⟩)), by go_num, rfl, HB6.out⟩
                case measure => simp [intOf] <;> omega
              · have HI := Lib.hid (show RegJ ans3 (min (rowM ⟨a0, a1, a2, a3, a4, a5⟩ most (L.drop (j + 1))) rest) T by rw [← HRR.out, ← HY3.out]; exact hi.out)
                clear hi x0 x1 x2 x3 x4 x5
                go_wp2
                go_roundw
                case rel => exact ⟨j + 1, ans3, by omega, by omega, by go_num, rfl, HI, HYB.out.trans (HB6.out.mono HYB.out.size)⟩
                case measure => simp [intOf] <;> omega
        · have HI := Lib.hid (show RegJ ans2 (totM most (L.drop (k + 1))) T by
            have h := hg.out
            rw [List.drop_of_length_le (by have := HN.out; omega)] at h
            rw [← HQ1.out, ← HRE.out]
            have hb := HTB.out (L.drop q1)
            rw [← HRE.out] at hb
            unfold RegJ RegI rowM at *
            omega)
          clear hg hB
          obtain rfl : j = n := by omega
          go_wp2
          go_roundw
          case rel => exact ⟨k + 1, ans2, by omega, by go_num, rfl, HI, HB2.out⟩
          case measure => simp [intOf] <;> omega
    · have HXT : Hid (ans = T) := Lib.hid (by have h := hg.out; rw [List.drop_of_length_le (by have := HN.out; omega)] at h; unfold RegJ RegI totM at h; omega)
      clear hg hB
      obtain rfl : k = n := by omega
      go_wp2
      go_ret
      exact ⟨ret_int HXT.out, HB.out⟩
end Go.Proofs.Ytpplcbpnojggcaa
