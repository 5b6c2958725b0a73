/-
  Package impose: both halves of a sheet.
-/
import Derived.Test.YtgoandhlcekmiaaGreatDoorKO
import Derived.Test.YtgoandhlcekmiaaGreatDoorKI
namespace Go.Proofs.YtgoandhlcekmiaaGreatDoor
open Go.RowKit

theorem all_at {L : List Cell} {k : Nat} (hk : k < L.length) (h : (L.take k).all cellPB = true) : (L.take (k + 1)).all cellPB = cellPB L[k] := by
  rw [List.take_succ_eq_append_getElem hk, List.all_append, h]; simp
theorem all_bad {L : List Cell} {k : Nat} (hk : k < L.length) (h : cellPB L[k] = false) : L.all cellPB = false := by
  rw [List.all_eq_false]; exact ⟨L[k], List.getElem_mem hk, by rw [h]; simp⟩
theorem twoPages (x : Cell) (b : Nat) (W : World) (hW : RowsAt 2 Page.l W (some ⟨b, 0, none⟩) [⟨x.f, x.ft⟩, ⟨x.b, x.bt⟩]) :
    Calls Tryz.prog 48 #[.int .i64 4000, .slice (some ⟨b, 0, none⟩) 2 2] W fun e w' => e = .returned (.bool (cellPB x)) ∧ Below W.heap.size W w' := by
  have h := arePages_any 4000 (some ⟨b, 0, none⟩) [⟨x.f, x.ft⟩, ⟨x.b, x.bt⟩] 2 W hW (show 2 ≤ maxLen by decide)
  rw [show ([⟨x.f, x.ft⟩, ⟨x.b, x.bt⟩] : List Page).all (pageB 4000) = cellPB x by unfold cellPB; simp] at h
  exact h
set_option maxRecDepth 100000 in
set_option maxHeartbeats 60000000 in
theorem halves_any (C R : Int) (a : Option Addr) (L : List Cell) (c : Nat) (b : Bool) (w : World) (hL : RowsAt 4 Cell.l w a L) (hl : L.length ≤ 1000000) :
    Calls Tryz.prog 16 #[.agg #[.int .i64 C, .int .i64 R, .slice a L.length c], .bool b] w (HalvesPost w (hvErr C R L b) (hvD C R L b) (hv1 C R L b) (hv2 C R L b)) := by
  obtain ⟨w2, hw2⟩ : ∃ w2, w2 = (w.alloc (.cells #[.int .i64 C, .int .i64 R, .slice a L.length c] 29)).alloc (.cells #[.int .i64 0, .int .i64 0, .slice none 0 0, .int .i64 0, .int .i64 0, .slice none 0 0] 49) := ⟨_, rfl⟩
  have bx2 : BoxAt w2 w.heap.size #[.int .i64 C, .int .i64 R, .slice a L.length c] 29 := by rw [hw2]; exact (BoxAt.new w _ _).alloc _
  have br2 : BoxAt w2 (w.heap.size + 1) #[.int .i64 0, .int .i64 0, .slice none 0 0, .int .i64 0, .int .i64 0, .slice none 0 0] 49 := by
    rw [hw2]
    have := BoxAt.new (w.alloc (.cells #[.int .i64 C, .int .i64 R, .slice a L.length c] 29)) #[.int .i64 0, .int .i64 0, .slice none 0 0, .int .i64 0, .int .i64 0, .slice none 0 0] 49
    simpa using this
  have hB2 : Below w.heap.size w w2 := by rw [hw2]; exact ((Below.refl w.heap.size w).alloc (Nat.le_refl _) _).alloc (by simp) _
  have W2 := Lib.hid hw2
  have HLL := Lib.hid hl
  clear hw2
  go_enter Tryz.func16, Tryz.ntmps16
  go_wp2_with fail
  rw [← W2.out]
  refine (sizeOfScheme_any C R (.slice a L.length c) ⟨_, _, _, rfl⟩ _).mono ?_
  rintro e w4 ⟨rfl, hb4⟩
  have bx4 := bx2.below hb4; have br4 := br2.below hb4
  have hB4 := hB2.trans (hb4.mono (B' := w.heap.size) hB2.size)
  clear hb4 bx2 br2 hB2
  obtain ⟨g6, hg6⟩ : ∃ g6, g6 = w4.heap.size := ⟨_, rfl⟩
  obtain ⟨w5, hw5⟩ : ∃ w5, w5 = w4.alloc (.cells #[.int .i64 C, .int .i64 R] 73) := ⟨_, rfl⟩
  have bz5 : BoxAt w5 g6 #[.int .i64 C, .int .i64 R] 73 := by rw [hw5, hg6]; exact BoxAt.new w4 _ _
  have bx5 : BoxAt w5 w.heap.size #[.int .i64 C, .int .i64 R, .slice a L.length c] 29 := by rw [hw5]; exact bx4.alloc _
  have br5 : BoxAt w5 (w.heap.size + 1) #[.int .i64 0, .int .i64 0, .slice none 0 0, .int .i64 0, .int .i64 0, .slice none 0 0] 49 := by rw [hw5]; exact br4.alloc _
  have hB5 : Below w.heap.size w w5 := by rw [hw5]; exact hB4.alloc hB4.size _
  have G1 : w.heap.size + 1 < g6 := by rw [hg6]; exact br4.lt
  have c2 := bx4.cell 2
  have hxl := bx4.lt
  simp at c2
  have q1 : ¬ w.heap.size = w4.heap.size := by omega
  have q2 : ¬ w4.heap.size = w.heap.size := by omega
  have W5 := Lib.hid hw5; have HG6 := Lib.hid hg6
  clear hw5 hg6 bx4 br4 hB4
  go_wp2_with fail
  rw [← W5.out, ← HG6.out]
  refine (errorOfCells_any C R (L.length : Int) _).mono ?_
  rintro e w6 ⟨rfl, hb6⟩
  have bx6 := bx5.below hb6; have br6 := br5.below hb6; have bz6 := bz5.below hb6
  have hB6 := hB5.trans (hb6.mono (B' := w.heap.size) hB5.size)
  clear hb6 bx5 br5 bz5 hB5 c2 hxl q1 q2
  by_cases h1 : cellsErr C R L.length = 0
  case neg =>
    have HE : Hid (hvErr C R L b = cellsErr C R L.length) := Lib.hid (by unfold hvErr; rw [if_pos h1])
    have heb : (cellsErr C R L.length != 0) = true := by simpa using h1
    have h1' := h1
    clear h1
    have r0 := br6.cell 0; have r1 := br6.cell 1; have r2 := br6.cell 2; have r3 := br6.cell 3; have r4 := br6.cell 4; have r5 := br6.cell 5
    have z := fun j => br6.free j
    have hrl := br6.lt
    simp at r0 r1 r2 r3 r4 r5
    have HD : Hid (hvD C R L b = (0, 0) ∧ hv1 C R L b = [] ∧ hv2 C R L b = []) := Lib.hid (by unfold hvD hv1 hv2; rw [HE.out]; exact ⟨if_neg h1', if_neg h1', if_neg h1'⟩)
    go_wp2_with fail
    rw [HE.out]
    refine bodyPost_ret (v := .tuple #[.agg #[.int .i64 0, .int .i64 0, .slice none 0 0, .int .i64 0, .int .i64 0, .slice none 0 0], .int .i64 (cellsErr C R L.length)]) ?_ rfl (hv_fail (below_set6 hB6 (Nat.le_succ _) _ _ _ _ _ _) HD.out.1 HD.out.2.1 HD.out.2.2)
    simp [results, Tryz.results16, go_sem, r0, r1, r2, r3, r4, r5]
  have HC0 := Lib.hid h1
  rw [h1]
  clear h1
  have c2 := bx6.cell 2
  simp at c2
  go_wp2_with fail
  go_loopw [31] (fun i wr => ∃ k : Nat, k ≤ L.length ∧ i = .int .i64 k ∧ Hid ((L.take k).all cellPB = true) ∧ Below w6.heap.size w6 wr) (fun i _ => L.length - (intOf i).toNat)
  case atStart => exact ⟨0, Nat.zero_le _, rfl, Lib.hid rfl, Below.refl _ _⟩
  case round =>
    obtain ⟨k, hk, rfl, HT, hB⟩ := hrel
    have hBr := hB6.trans (hB.mono (B' := w.heap.size) hB6.size)
    have bxr := bx6.below hB; have brr := br6.below hB; have bzr := bz6.below hB
    clear c2
    by_cases hkl : k < L.length
    · have hkI : (k : Int) < (L.length : Int) := by omega
      obtain ⟨ad, rfl, had, s0, s1, s2, s3⟩ := (hL.below hBr).cell hkl
      obtain ⟨x, ex⟩ : ∃ x, x = L[k] := ⟨_, rfl⟩
      rw [← ex] at s0 s1 s2 s3
      have EX := Lib.hid ex
      clear ex
      obtain ⟨w7, e7⟩ : ∃ w7, w7 = wr.alloc (.cells #[.int .i64 x.f, .int .i64 x.ft, .int .i64 x.b, .int .i64 x.bt] 57) := ⟨_, rfl⟩
      have hA : Below wr.heap.size wr w7 := by rw [e7]; exact (Below.refl wr.heap.size wr).alloc (Nat.le_refl _) _
      have bp7 : BoxAt w7 wr.heap.size #[.int .i64 x.f, .int .i64 x.ft, .int .i64 x.b, .int .i64 x.bt] 57 := by rw [e7]; exact BoxAt.new wr _ _
      go_wp2_with fail
      rw [← e7]
      have p0 := bp7.cell 0; have p1 := bp7.cell 1; have p2 := bp7.cell 2; have p3 := bp7.cell 3
      have hpl := bp7.lt
      simp at p0 p1 p2 p3
      clear e7 s0 s1 s2 s3
      have hq : Below w7.heap.size w7 w7.drew := (Below.refl _ w7).drew
      have n0 := World.new_ne _ _ p0
      go_cut [41] from 32 to 43 (fun v41 wx => v41 = .bool (!cellPB x) ∧ Below w7.heap.size w7 wx)
      case first =>
        rename_i J9 K9 hR9 hM9
        go_region_held3 (fun w' => w'.cell? ⟨wr.heap.size, 0, none⟩ = some (.int .i64 x.f) ∧ w'.cell? ⟨wr.heap.size, 1, none⟩ = some (.int .i64 x.ft) ∧ w'.cell? ⟨wr.heap.size, 2, none⟩ = some (.int .i64 x.b) ∧ w'.cell? ⟨wr.heap.size, 3, none⟩ = some (.int .i64 x.bt)) (first | exact ⟨j0, j1, j2, j3⟩ | go_keep)
          (first
            | (go_at_call 42; refine (frontOf_any x _).mono ?_; rintro e v ⟨rfl, hbv⟩; have hq := keep_same hq hbv; have j0 := (hq.cell (p := ⟨wr.heap.size, 0, none⟩) hpl).trans p0; have j1 := (hq.cell (p := ⟨wr.heap.size, 1, none⟩) hpl).trans p1; have j2 := (hq.cell (p := ⟨wr.heap.size, 2, none⟩) hpl).trans p2; have j3 := (hq.cell (p := ⟨wr.heap.size, 3, none⟩) hpl).trans p3; have jn0 := World.new_ne _ _ j0; have jn1 := World.new_ne _ _ j1; have jn2 := World.new_ne _ _ j2; have jn3 := World.new_ne _ _ j3)
            | (go_at_call 44; refine (backOf_any x _).mono ?_; rintro e v ⟨rfl, hbv⟩; have hq := keep_same hq hbv; have j0 := (hq.cell (p := ⟨wr.heap.size, 0, none⟩) hpl).trans p0; have j1 := (hq.cell (p := ⟨wr.heap.size, 1, none⟩) hpl).trans p1; have j2 := (hq.cell (p := ⟨wr.heap.size, 2, none⟩) hpl).trans p2; have j3 := (hq.cell (p := ⟨wr.heap.size, 3, none⟩) hpl).trans p3; have jn0 := World.new_ne _ _ j0; have jn1 := World.new_ne _ _ j1; have jn2 := World.new_ne _ _ j2; have jn3 := World.new_ne _ _ j3)
            | (go_at_call 48; refine (twoPages x _ _ (rows_lit page_l _ _ _ _ rfl)).mono ?_; rintro e v ⟨rfl, hbv⟩; have hq := keep_new hq hbv; have j0 := (hq.cell (p := ⟨wr.heap.size, 0, none⟩) hpl).trans p0; have j1 := (hq.cell (p := ⟨wr.heap.size, 1, none⟩) hpl).trans p1; have j2 := (hq.cell (p := ⟨wr.heap.size, 2, none⟩) hpl).trans p2; have j3 := (hq.cell (p := ⟨wr.heap.size, 3, none⟩) hpl).trans p3; have jn0 := World.new_ne _ _ j0; have jn1 := World.new_ne _ _ j1; have jn2 := World.new_ne _ _ j2; have jn3 := World.new_ne _ _ j3))
        all_goals
          refine hM9 _ _ ?_
          refine Met.intro ?_
          refine hR9 _ _ ?_
          (repeat apply Exists.intro)
          refine ⟨?_, rfl⟩
        all_goals exact ⟨rfl, hq⟩
      case rest =>
      obtain ⟨rfl, hbx⟩ := hcut
      rename World => w8
      have hA8 := hA.trans (hbx.mono (B' := wr.heap.size) hA.size)
      have hB8 := hBr.trans (hA8.mono (B' := w.heap.size) hBr.size)
      have brx := brr.below hA8
      have hB8' := hB.trans (hA8.mono (B' := w6.heap.size) hB.size)
      clear p0 p1 p2 p3 n0 hpl
      cases hx : cellPB x
      · have HE : Hid (hvErr C R L b = 2) := Lib.hid (by
          have := all_bad hkl (by rw [← EX.out]; exact hx)
          unfold hvErr; rw [if_neg (by simp [HC0.out]), if_neg (by rw [this]; simp)])
        have r0 := brx.cell 0; have r1 := brx.cell 1; have r2 := brx.cell 2; have r3 := brx.cell 3; have r4 := brx.cell 4; have r5 := brx.cell 5
        have z := fun j => brx.free j
        have hrl := brx.lt
        simp at r0 r1 r2 r3 r4 r5
        have HD : Hid (hvD C R L b = (0, 0) ∧ hv1 C R L b = [] ∧ hv2 C R L b = []) := Lib.hid (by unfold hvD hv1 hv2; rw [HE.out]; exact ⟨if_neg (by decide), if_neg (by decide), if_neg (by decide)⟩)
        go_wp2_with fail
        rw [HE.out]
        refine bodyPost_ret (v := .tuple #[.agg #[.int .i64 0, .int .i64 0, .slice none 0 0, .int .i64 0, .int .i64 0, .slice none 0 0], .int .i64 2]) ?_ rfl (hv_fail (below_set6 hB8 (Nat.le_succ _) _ _ _ _ _ _) HD.out.1 HD.out.2.1 HD.out.2.2)
        simp [results, Tryz.results16, go_sem, r0, r1, r2, r3, r4, r5]
      · have HT2 : Hid ((L.take (k + 1)).all cellPB = true) := Lib.hid (by rw [all_at hkl HT.out, ← EX.out]; exact hx)
        go_wp2_with fail
        go_roundw
        case rel => exact ⟨k + 1, by omega, by go_num, HT2, hB8'⟩
        case measure => simp [intOf]; omega
    · have hkL : k = L.length := by omega
      have HALL : Hid (L.all cellPB = true) := Lib.hid (by have := HT.out; rw [hkL, List.take_length] at this; exact this)
      have hkI : ¬ (k : Int) < (L.length : Int) := by omega
      clear HT hkL
      obtain ⟨hs, hn⟩ := cells_ok HC0.out
      obtain ⟨sC, sR, sm⟩ := side_ok hs
      obtain ⟨cn, rfl⟩ : ∃ n : Nat, C = n := ⟨C.toNat, by omega⟩
      obtain ⟨rn, rfl⟩ : ∃ n : Nat, R = n := ⟨R.toNat, by omega⟩
      have HCR : Hid ((1 ≤ cn ∧ cn ≤ 8) ∧ (1 ≤ rn ∧ rn ≤ 8)) := Lib.hid (by omega)
      have HN : Hid (L.length = cn * rn) := Lib.hid (by have : (L.length : Int) = ((cn * rn : Nat) : Int) := by rw [hn, Int.natCast_mul]
                                                        omega)
      clear hs hn sC sR sm
      have z0 := bzr.cell 0; have z1 := bzr.cell 1
      simp at z0 z1
      go_wp2_with fail
      refine (half_any cn rn b _ (by have := HCR.out; omega) (by have := HCR.out; omega)).mono ?_
      rintro e w8 ⟨rfl, hb8⟩
      have bx8 := bxr.below hb8; have br8 := brr.below hb8; have bz8 := bzr.below hb8
      have hB8 := hBr.trans (hb8.mono (B' := w.heap.size) hBr.size)
      clear z0 z1 hb8 bxr brr bzr hBr bx6 br6 bz6 hB6
      obtain ⟨hc, ehc⟩ : ∃ n, halfC cn b = n := ⟨_, rfl⟩
      obtain ⟨hr, ehr⟩ : ∃ n, halfR rn b = n := ⟨_, rfl⟩
      rw [ehc, ehr]
      cases hev : evenB cn rn b
      · have br8q := br8.alloc (.cells #[.int .i64 hc, .int .i64 hr] 73)
        have hB8q := hB8.alloc hB8.size (.cells #[.int .i64 hc, .int .i64 hr] 73)
        have HE : Hid (hvErr cn rn L b = 25) := Lib.hid (by unfold hvErr; rw [if_neg (by simp [HC0.out]), if_pos HALL.out, Int.toNat_natCast, Int.toNat_natCast, if_neg (by rw [hev]; simp)])
        have r0 := br8q.cell 0; have r1 := br8q.cell 1; have r2 := br8q.cell 2; have r3 := br8q.cell 3; have r4 := br8q.cell 4; have r5 := br8q.cell 5
        have z := fun j => br8q.free j
        have hrl := br8q.lt
        simp at r0 r1 r2 r3 r4 r5
        have HD : Hid (hvD cn rn L b = (0, 0) ∧ hv1 cn rn L b = [] ∧ hv2 cn rn L b = []) := Lib.hid (by unfold hvD hv1 hv2; rw [HE.out]; exact ⟨if_neg (by decide), if_neg (by decide), if_neg (by decide)⟩)
        go_wp2_with fail
        rw [HE.out]
        refine bodyPost_ret (v := .tuple #[.agg #[.int .i64 0, .int .i64 0, .slice none 0 0, .int .i64 0, .int .i64 0, .slice none 0 0], .int .i64 25]) ?_ rfl (hv_fail (below_set6 hB8q (Nat.le_succ _) _ _ _ _ _ _) HD.out.1 HD.out.2.1 HD.out.2.2)
        simp [results, Tryz.results16, go_sem, r0, r1, r2, r3, r4, r5]
      · have HE : Hid (hvErr cn rn L b = 0) := Lib.hid (by unfold hvErr; rw [if_neg (by simp [HC0.out]), if_pos HALL.out, Int.toNat_natCast, Int.toNat_natCast, if_pos hev])
        have HD : Hid (hvD cn rn L b = ((hc : Int), (hr : Int)) ∧ hv1 cn rn L b = hOne cn hc L hr 0 ∧ hv2 cn rn L b = hTwo cn rn hc b L hr 0) := Lib.hid (by
          unfold hvD hv1 hv2; rw [HE.out, Int.toNat_natCast, Int.toNat_natCast, ehc, ehr]; exact ⟨rfl, rfl, rfl⟩)
        have HH : Hid (hc ≤ cn ∧ hr ≤ rn ∧ hc ≤ 8 ∧ hr ≤ 8) := Lib.hid (by
          have := HCR.out
          rw [← ehc, ← ehr]; unfold halfC halfR; cases b <;> simp <;> omega)
        clear hev
        have hc8 : hc ≤ 8 := HH.out.2.2.1
        have hr8 : hr ≤ 8 := HH.out.2.2.2
        obtain ⟨g, hg⟩ : ∃ g, g = w8.heap.size := ⟨_, rfl⟩
        have G2 : g6 < g := by rw [hg]; exact bz8.lt
        obtain ⟨w9, hw9⟩ : ∃ w9, w9 = ((w8.alloc (.cells #[.int .i64 hc, .int .i64 hr] 73)).alloc (.cells #[.int .i64 hc, .int .i64 hr, .slice none 0 0] 29)).alloc (.cells #[.int .i64 hc, .int .i64 hr, .slice none 0 0] 29) := ⟨_, rfl⟩
        have E0 : HvEnv w cn rn hc hr a L c g6 g (.slice none 0 0) (hOne cn hc L 0 0) (.slice none 0 0) (hTwo cn rn hc b L 0 0) w9 := by
          have e1 : hOne cn hc L 0 0 = [] := by simp [hOne]
          have e2 : hTwo cn rn hc b L 0 0 = [] := by simp [hTwo]
          rw [e1, e2, hw9, hg]
          refine ⟨((bx8.alloc _).alloc _).alloc _, ((br8.alloc _).alloc _).alloc _, ((bz8.alloc _).alloc _).alloc _, ((BoxAt.new w8 _ _).alloc _).alloc _, ?_, ?_, OwnR.nil _ _, OwnR.nil _ _, (fun q e => by cases e), ((hB8.alloc hB8.size _).alloc (by have := hB8.size; simp; omega) _).alloc (by have := hB8.size; simp; omega) _⟩
          · have := (BoxAt.new (w8.alloc (.cells #[.int .i64 hc, .int .i64 hr] 73)) #[.int .i64 hc, .int .i64 hr, .slice none 0 0] 29).alloc (.cells #[.int .i64 hc, .int .i64 hr, .slice none 0 0] 29)
            simpa using this
          · have := BoxAt.new ((w8.alloc (.cells #[.int .i64 hc, .int .i64 hr] 73)).alloc (.cells #[.int .i64 hc, .int .i64 hr, .slice none 0 0] 29)) #[.int .i64 hc, .int .i64 hr, .slice none 0 0] 29
            simpa using this
        have HW9 := Lib.hid hw9; have HG := Lib.hid hg
        clear hw9 hg bx8 br8 bz8 hB8 ehc ehr
        go_wp2_with fail
        rw [← HW9.out, ← HG.out]
        go_loopw [61] (fun i wr => ∃ (y : Nat) (v1 v2 : Value), y ≤ hr ∧ i = .int .i64 y ∧ HvEnv w cn rn hc hr a L c g6 g v1 (hOne cn hc L y 0) v2 (hTwo cn rn hc b L y 0) wr) (fun i _ => hr - (intOf i).toNat)
        case atStart => exact ⟨0, _, _, Nat.zero_le _, rfl, E0⟩
        case round =>
          obtain ⟨y, v1, v2, hy, rfl, E⟩ := hrel
          clear E0
          by_cases hyl : y < hr
          · have hyI : (y : Int) < (hr : Int) := by omega
            have t0 := E.bh.cell 0; have t1 := E.bh.cell 1
            simp at t0 t1
            go_wp2_with fail
            go_loopw [66] (fun i wr => ∃ (x : Nat) (v1 v2 : Value), x ≤ hc ∧ i = .int .i64 x ∧ HvEnv w cn rn hc hr a L c g6 g v1 (hOne cn hc L y x) v2 (hTwo cn rn hc b L y x) wr) (fun i _ => hc - (intOf i).toNat)
            case atStart => exact ⟨0, v1, v2, Nat.zero_le _, rfl, E⟩
            case round =>
              obtain ⟨x, v1, v2, hx, rfl, E⟩ := hrel
              clear t0 t1
              by_cases hxl : x < hc
              · have hxI : (x : Int) < (hc : Int) := by omega
                obtain ⟨n, hn⟩ : ∃ n, y * cn + x = n := ⟨_, rfl⟩
                have hnI : (y : Int) * (cn : Int) + (x : Int) = (n : Int) := by rw [← hn, Int.natCast_add, Int.natCast_mul]
                have hycN : y * cn ≤ 8 * 8 := Nat.mul_le_mul (by have := HH.out; omega) (by have := HCR.out; omega)
                have hyc : (y : Int) * (cn : Int) = ((y * cn : Nat) : Int) := (Int.natCast_mul y cn).symm
                have hnl : n < L.length := by rw [← hn, HN.out]; exact mul_lt (by have := HH.out; omega) (by have := HH.out; omega)
                have z0 := E.bz.cell 0; have z1 := E.bz.cell 1
                simp at z0 z1
                have HNN := Lib.hid hn
                have h64 : y * cn ≤ 64 := hycN
                have HAT := Lib.hid (fun W => at_any (cn : Int) (rn : Int) (x : Int) (y : Int) (n : Int) W hnI (by rw [hyc]; omega) (by rw [hyc]; omega) (by omega) (by have := HH.out; omega))
                clear hyc hycN h64 hnI hn
                go_wp2_with (go_at_call 27; refine (HAT.out _).mono ?_; rintro e wa ⟨rfl, hba⟩)
                have Ea := E.below hba
                clear z0 z1 E hba
                have c2 := Ea.bs.cell 2; have v12 := Ea.b1.cell 2
                have hsl := Ea.bs.lt; have hgl := Ea.b1.lt
                simp at c2 v12
                obtain ⟨ad, rfl, had, s0, s1, s2, s3⟩ := (hL.below Ea.low).cell hnl
                obtain ⟨p, ep⟩ : ∃ p, p = L[n] := ⟨_, rfl⟩
                rw [← ep] at s0 s1 s2 s3
                have EP := Lib.hid ep
                clear ep
                have hnlI : (n : Int) < (L.length : Int) := by omega
                have HH1 : Hid (hOne cn hc L y x ++ [p] = hOne cn hc L y (x + 1)) := Lib.hid (by
                  rw [← hOne_succ hxl, HNN.out, getD_in default hnl, ← EP.out])
                have HL1 : Hid ((hOne cn hc L y x).length ≤ 1000) := Lib.hid (by
                  rw [hOne_len]; have h1 : y * hc ≤ 8 * 8 := Nat.mul_le_mul (show y ≤ 8 by omega) hc8; omega)
                have hsb : ad.block < w.heap.size := by
                  obtain ⟨_, e, h, _⟩ := hL.cell hnl
                  cases e; exact h
                have n0 := World.new_ne _ _ c2; have n1 := World.new_ne _ _ v12; have n2 := World.new_ne _ _ s0; have n3 := World.new_ne _ _ s1; have n4 := World.new_ne _ _ s2; have n5 := World.new_ne _ _ s3
                have m1 : ¬ g + 1 = wa.heap.size := by omega
                have m2 : ¬ wa.heap.size = g + 1 := by omega
                have m4 : (wa.alloc (.cells #[.int .i64 p.f, .int .i64 p.ft, .int .i64 p.b, .int .i64 p.bt] 57)).cell? ⟨g + 1, 2, none⟩ = some v1 := (Ea.b1.alloc _).cell 2
                have hg3 : g + 1 + 1 < wa.heap.size := Ea.b2.lt
                go_cut [16] from 73 to 98 (fun v16 wx => v16 = .int .i64 n ∧ ∃ v1', HvEnv w cn rn hc hr (some ad) L c g6 g v1' (hOne cn hc L y (x + 1)) v2 (hTwo cn rn hc b L y x) wx)
                case first =>
                  rename_i J9 K9 hR9 hM9
                  go_region_law ((
                    refine step_appL tCell cell_l _ (by rfl) _ _ (by rfl) (g + 1 + 1 + 1) v1 (hOne cn hc L y x) (by rfl) (Ea.o1.alloc _) (some ⟨wa.heap.size, 0, none⟩) [p] 1 1 rfl (by rfl) (rows_lit cell_l _ _ _ _ rfl) (fun e => by cases e) (by have := HL1.out; omega) (by simp) (by simp; omega) ?_
                    intro v6 w6 hO6 hg6 hb6 ho6
                    have bvg := (Ea.b1.drew.alloc (.cells #[.int .i64 p.f, .int .i64 p.ft, .int .i64 p.b, .int .i64 p.bt] 57)).grown hg6 (fun e => by have := (Ea.o1.lt _ e.symm).1; omega)
                    have fz := bvg.free 2; have hvg := bvg.lt; have g1 := bvg.cell 2
                    simp at g1
                    obtain ⟨a6, d6, e6, -, -, -, -, -⟩ := hO6.rows cell_l
                    obtain ⟨m6, hm6⟩ : ∃ n, n = (hOne cn hc L y x ++ [p]).length := ⟨_, rfl⟩
                    rw [← hm6] at e6
                    subst e6
                    clear hm6))
                  all_goals
                    rw [HH1.out] at hO6
                    refine hM9 _ _ ?_
                    refine Met.intro ?_
                    refine hR9 _ _ ?_
                    (repeat apply Exists.intro)
                    refine ⟨?_, rfl⟩
                  all_goals exact ⟨rfl, _, (Ea.below (((Below.refl wa.heap.size wa).alloc (Nat.le_refl _) _).drew)).app1 G1 G2 hO6 hg6 hb6 ho6⟩
                case rest =>
                obtain ⟨rfl, v1', E1⟩ := hcut
                rename World => wb
                clear c2 v12 hsl hgl n0 n1 n2 n3 n4 n5 m1 m2 m4 hg3 s0 s1 s2 s3 Ea had
                obtain ⟨o, ho⟩ : ∃ o, oppN cn rn n b = o := ⟨_, rfl⟩
                have hol : o < L.length := by rw [← ho, HN.out]; exact oppN_lt b HCR.out.1.1 (by rw [← HN.out]; exact hnl)
                have HOP := Lib.hid (fun W => opposite_any cn rn n b W HCR.out.1 HCR.out.2 (by rw [← HN.out]; exact hnl))
                rw [ho] at HOP
                have holI : (o : Int) < (L.length : Int) := by omega
                have c2 := E1.bs.cell 2; have v22 := E1.b2.cell 2; have z0 := E1.bz.cell 0; have z1 := E1.bz.cell 1
                have hsl := E1.bs.lt; have hgl := E1.b2.lt; have hzl := E1.bz.lt
                simp at c2 v22 z0 z1
                obtain ⟨_, e2, had, s0, s1, s2, s3⟩ := (hL.below E1.low).cell hol
                cases e2
                obtain ⟨p2, ep⟩ : ∃ p, p = L[o] := ⟨_, rfl⟩
                rw [← ep] at s0 s1 s2 s3
                have hal : (ad.add (o * 4)).block < wb.heap.size := by rw [add_block]; exact had
                have HPB : Hid (Bit p2.ft ∧ Bit p2.bt) := Lib.hid (cellPB_bits (List.all_eq_true.1 HALL.out _ (by rw [ep]; exact List.getElem_mem hol)))
                have HH2 : Hid (hTwo cn rn hc b L y x ++ [ovCell b p2] = hTwo cn rn hc b L y (x + 1)) := Lib.hid (by
                  rw [← hTwo_succ hxl, HNN.out, ho, getD_in default hol, ← ep])
                have EP2 := Lib.hid ep
                have HL2 : Hid ((hTwo cn rn hc b L y x).length ≤ 1000) := Lib.hid (by
                  rw [hTwo_len]; have h1 : y * hc ≤ 8 * 8 := Nat.mul_le_mul (show y ≤ 8 by omega) hc8; omega)
                have n0 := World.new_ne _ _ c2; have n1 := World.new_ne _ _ v22; have n2 := World.new_ne _ _ s0; have n3 := World.new_ne _ _ s1; have n4 := World.new_ne _ _ s2; have n5 := World.new_ne _ _ s3; have n6 := World.new_ne _ _ z0
                have hq : Below wb.heap.size wb wb.drew := (Below.refl _ wb).drew
                clear ho ep
                go_wp2_with fail
                go_region_law ((first
                      | (refine step_appL tCell cell_l _ (by rfl) _ _ (by rfl) (g + 1 + 1 + 1) v2 (hTwo cn rn hc b L y x) (by rfl) ((E1.o2.below hq).alloc _) (some ⟨v.heap.size, 0, none⟩) [ovCell b p2] 1 1 rfl (by rfl) (rows_lit cell_l _ _ _ _ rfl) (fun e => by cases e) (by have := HL2.out; omega) (by simp) (by have h1 := hq.size; simp; omega) ?_
                         intro v6 w6 hO6 hg6 hb6 ho6
                         have hne : ∀ q, q < g + 1 + 1 + 1 → some q ≠ v2.ownBlock := fun q hq e => by have := (E1.o2.lt q e.symm).1; omega
                         have Eq := E1.below (hq.alloc hq.size (.cells #[.int .i64 (ovCell b p2).f, .int .i64 (ovCell b p2).ft, .int .i64 (ovCell b p2).b, .int .i64 (ovCell b p2).bt] 57))
                         have bvg := Eq.b2.grown hg6 (hne _ (by omega))
                         have bsg := Eq.bs.grown hg6 (hne _ (by omega))
                         have bzg := Eq.bz.grown hg6 (hne _ (by omega))
                         have lowg := Eq.low.trans (hb6.mono (B' := w.heap.size) (by omega))
                         have fz := bvg.free 2; have hvg := bvg.lt; have j1 := bvg.cell 2
                         have j0 := bsg.cell 2; have j2 := bzg.cell 0; have j3 := bzg.cell 1
                         obtain ⟨_, e7, _, j4, j5, j6, j7⟩ := (hL.below lowg).cell hol
                         cases e7
                         rw [← EP2.out] at j4 j5 j6 j7
                         simp at j0 j1 j2 j3
                         obtain ⟨a6, d6, e6, -, -, -, -, -⟩ := hO6.rows cell_l
                         obtain ⟨m6, hm6⟩ : ∃ n, n = (hTwo cn rn hc b L y x ++ [ovCell b p2]).length := ⟨_, rfl⟩
                         rw [← hm6] at e6
                         subst e6
                         clear hm6)
                      | (go_simp; go_at_call 46; refine (HOP.out _).mono ?_; rintro e v ⟨rfl, hbv⟩; have hq := keep_same hq hbv; have j0 := (hq.cell (p := ⟨w.heap.size, 2, none⟩) hsl).trans c2; have j1 := (hq.cell (p := ⟨g + 1 + 1, 2, none⟩) hgl).trans v22; have j2 := (hq.cell (p := ⟨g6, 0, none⟩) hzl).trans z0; have j3 := (hq.cell (p := ⟨g6, 1, none⟩) hzl).trans z1; have j4 := (hq.cell (p := (ad.add (o * 4))) hal).trans s0; have j5 := (hq.cell (p := ⟨(ad.add (o * 4)).block, (ad.add (o * 4)).off + 1, none⟩) hal).trans s1; have j6 := (hq.cell (p := ⟨(ad.add (o * 4)).block, (ad.add (o * 4)).off + 2, none⟩) hal).trans s2; have j7 := (hq.cell (p := ⟨(ad.add (o * 4)).block, (ad.add (o * 4)).off + 3, none⟩) hal).trans s3; have jn0 := World.new_ne _ _ j0; have jn1 := World.new_ne _ _ j1; have jn2 := World.new_ne _ _ j2; have jn3 := World.new_ne _ _ j3; have jn4 := World.new_ne _ _ j4; have jn5 := World.new_ne _ _ j5; have jn6 := World.new_ne _ _ j6; have jn7 := World.new_ne _ _ j7)
                      | (go_simp; go_at_call 50; refine (overturned_any p2 b _ HPB.out.1 HPB.out.2).mono ?_; rintro e v ⟨rfl, hbv⟩; have hq := keep_same hq hbv; have j0 := (hq.cell (p := ⟨w.heap.size, 2, none⟩) hsl).trans c2; have j1 := (hq.cell (p := ⟨g + 1 + 1, 2, none⟩) hgl).trans v22; have j2 := (hq.cell (p := ⟨g6, 0, none⟩) hzl).trans z0; have j3 := (hq.cell (p := ⟨g6, 1, none⟩) hzl).trans z1; have j4 := (hq.cell (p := (ad.add (o * 4))) hal).trans s0; have j5 := (hq.cell (p := ⟨(ad.add (o * 4)).block, (ad.add (o * 4)).off + 1, none⟩) hal).trans s1; have j6 := (hq.cell (p := ⟨(ad.add (o * 4)).block, (ad.add (o * 4)).off + 2, none⟩) hal).trans s2; have j7 := (hq.cell (p := ⟨(ad.add (o * 4)).block, (ad.add (o * 4)).off + 3, none⟩) hal).trans s3; have jn0 := World.new_ne _ _ j0; have jn1 := World.new_ne _ _ j1; have jn2 := World.new_ne _ _ j2; have jn3 := World.new_ne _ _ j3; have jn4 := World.new_ne _ _ j4; have jn5 := World.new_ne _ _ j5; have jn6 := World.new_ne _ _ j6; have jn7 := World.new_ne _ _ j7; have m4 : (v.alloc (.cells #[.int .i64 p2.b, .int .i64 (xr p2.bt (roundB b)), .int .i64 p2.f, .int .i64 (xr p2.ft (roundB b))] 57)).cell? ⟨g + 1 + 1, 2, none⟩ = some v2 := ((E1.below hq).b2.alloc _).cell 2; have m1 : ¬ g + 1 + 1 = v.heap.size := Nat.ne_of_lt (E1.below hq).b2.lt; have m2 : ¬ v.heap.size = g + 1 + 1 := Nat.ne_of_gt (E1.below hq).b2.lt)))
                all_goals
                  rw [HH2.out] at hO6
                  have E2 := (E1.below (hq.alloc hq.size _)).app2 G1 G2 hO6 hg6 hb6 ho6
                  clear c2 v22 z0 z1 hsl hgl hzl s0 s1 s2 s3 n0 n1 n2 n3 n4 n5 n6 hal j0 j1 j2 j3 j4 j5 j6 j7
                  go_wp2_with fail
                  go_roundw
                  case rel => exact ⟨x + 1, v1', _, by omega, by go_num, E2⟩
                  case measure => simp [intOf]; omega
              · have hxC : x = hc := by omega
                subst hxC
                have hxI : ¬ (x : Int) < (x : Int) := by omega
                rw [hOne_row, hTwo_row] at E
                go_wp2_with fail
                go_roundw
                case rel => exact ⟨y + 1, v1, v2, by omega, by go_num, E⟩
                case measure => simp [intOf]; omega
          · have hyR : y = hr := by omega
            subst hyR
            have hyI : ¬ (y : Int) < (y : Int) := by omega
            have r0 := E.br.cell 0; have r1 := E.br.cell 1; have r2 := E.br.cell 2; have r3 := E.br.cell 3; have r4 := E.br.cell 4; have r5 := E.br.cell 5
            have z := fun j => E.br.free j
            have hrl := E.br.lt
            have f0 := E.b1.cell 0; have f1 := E.b1.cell 1; have f2 := E.b1.cell 2
            have k0 := E.b2.cell 0; have k1 := E.b2.cell 1; have k2 := E.b2.cell 2
            simp at r0 r1 r2 r3 r4 r5 f0 f1 f2 k0 k1 k2
            obtain ⟨a1, d1, ev1, -, -, -, -, -⟩ := E.o1.rows cell_l
            obtain ⟨a2, d2, ev2, -, -, -, -, -⟩ := E.o2.rows cell_l
            obtain ⟨m1, hm1⟩ : ∃ n, n = (hOne cn hc L y 0).length := ⟨_, rfl⟩
            obtain ⟨m2, hm2⟩ : ∃ n, n = (hTwo cn rn hc b L y 0).length := ⟨_, rfl⟩
            rw [← hm1] at ev1
            rw [← hm2] at ev2
            subst ev1 ev2
            have HM1 := Lib.hid hm1; have HM2 := Lib.hid hm2
            clear hm1 hm2
            go_wp2_with fail
            rw [HE.out, HD.out.1, HD.out.2.1, HD.out.2.2]
            refine bodyPost_ret (v := .tuple #[.agg #[.int .i64 hc, .int .i64 y, .slice a1 m1 d1, .int .i64 hc, .int .i64 y, .slice a2 m2 d2], .int .i64 0]) ?_ rfl (hv_end E G1 G2 HM1.out HM2.out _ _ _ _ _ _)
            simp [results, Tryz.results16, go_sem, r0, r1, r2, r3, r4, r5]
end Go.Proofs.YtgoandhlcekmiaaGreatDoor
