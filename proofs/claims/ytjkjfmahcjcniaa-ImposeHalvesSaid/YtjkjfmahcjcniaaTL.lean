/-
  The law on halves: its walk.
-/
import Derived.Test.YtjkjfmahcjcniaaTD
import Derived.Test.YtjkjfmahcjcniaaTJ
import Derived.Test.YtjkjfmahcjcniaaTK
namespace Go.Proofs.Ytjkjfmahcjcniaa
open Go.RowKit

theorem halves_n (C R : Int) (a : Option Addr) (n : Nat) (L : List Cell) (c : Nat) (b : Bool) (w : World) (hn : n = L.length) (hL : RowsAt 4 Cell.l w a L) (hl : L.length ≤ 1000000) {q : Int} {D : Int × Int} {H1 H2 : List Cell} (h1 : hvErr C R L b = q) (h2 : hvD C R L b = D) (h3 : hv1 C R L b = H1) (h4 : hv2 C R L b = H2) :
    Calls Try.prog 51 #[.agg #[.int .i64 C, .int .i64 R, .slice a n c], .bool b] w (HalvesPost w q D H1 H2) := by
  subst hn; rw [← h1, ← h2, ← h3, ← h4]; exact halves_any C R a L c b w hL hl
theorem refHalves_n (C R : Int) (a : Option Addr) (n : Nat) (L : List Cell) (c : Nat) (b : Bool) (w : World) (hn : n = L.length) (hL : RowsAt 4 Cell.l w a L) (hl : L.length ≤ 1000000) {q : Int} {D : Int × Int} {H1 H2 : List Cell} (h1 : hvErr C R L b = q) (h2 : hvD C R L b = D) (h3 : hv1 C R L b = H1) (h4 : hv2 C R L b = H2) :
    Calls Try.prog 54 #[.agg #[.int .i64 C, .int .i64 R, .slice a n c], .bool b] w (HalvesPost w q D H1 H2) := by
  subst hn; rw [← h1, ← h2, ← h3, ← h4]; exact refHalves_any C R a L c b w hL hl
set_option maxRecDepth 100000 in
set_option maxHeartbeats 16000000 in
theorem halves_walk (C R : Int) (a : Option Addr) (L : List Cell) (c : Nat) (b : Bool) (w : World) (hL : RowsAt 4 Cell.l w a L) (hl : L.length ≤ maxLen) (hn : a = none → c = 0) :
    Calls Try.prog 12 #[.agg #[.int .i64 C, .int .i64 R, .slice a L.length c], .bool b] w fun e w' => e = .returned (.bool true) ∧ Below w.heap.size w w' := by
  unfold maxLen at hl
  go_enter Try.func12, Try.ntmps12
  go_wp2_with fail
  refine (awake_any _).mono ?_
  rintro e w1 ⟨rfl, hb1⟩
  have hB1 := ((Below.refl w.heap.size w).alloc (Nat.le_refl _) (.cells #[.int .i64 C, .int .i64 R, .slice a L.length c] 43)).trans (hb1.mono (B' := w.heap.size) (by simp))
  have bx1 := (BoxAt.new w #[.int .i64 C, .int .i64 R, .slice a L.length c] 43).below hb1
  clear hb1
  have c0 := bx1.cell 0; have c1 := bx1.cell 1; have c2 := bx1.cell 2
  simp at c0 c1 c2
  go_wp2_with fail
  refine (light_any C R a L.length c _).mono ?_
  rintro e w2 ⟨rfl, hb2⟩
  have bx2 := bx1.below hb2
  have hB2 := hB1.trans (hb2.mono (B' := w.heap.size) hB1.size)
  clear hb2 bx1 hB1 c0 c1 c2
  have c0 := bx2.cell 0; have c1 := bx2.cell 1; have c2 := bx2.cell 2
  simp at c0 c1 c2
  by_cases h40 : L.length ≤ 40
  case neg =>
    have hd : decide (L.length ≤ 40) = false := by simpa using h40
    go_wp2_with fail
    go_ret
    exact ⟨rfl, hB2⟩
  have hd : decide (L.length ≤ 40) = true := by simpa using h40
  obtain ⟨q, hq⟩ : ∃ q, hvErr C R L b = q := ⟨_, rfl⟩
  obtain ⟨D, hD⟩ : ∃ D, hvD C R L b = D := ⟨_, rfl⟩
  obtain ⟨H1, h1⟩ : ∃ H, hv1 C R L b = H := ⟨_, rfl⟩
  obtain ⟨H2, h2⟩ : ∃ H, hv2 C R L b = H := ⟨_, rfl⟩
  obtain ⟨D1, D2⟩ := D
  have HQ := Lib.hid hq; have HD := Lib.hid hD; have HH1 := Lib.hid h1; have HH2 := Lib.hid h2
  have HLN : Hid (H1.length ≤ maxLen ∧ H2.length ≤ maxLen) := Lib.hid (by rw [← h1, ← h2]; have := hv_len C R L b; unfold maxLen; omega)
  have HL6 : Hid (L.length ≤ 1000000) := Lib.hid (by omega)
  have HNC := Lib.hid hn
  obtain ⟨N, hN⟩ : ∃ N, N = L.length := ⟨_, rfl⟩
  have HN := Lib.hid hN
  clear hq hD h1 h2 hn
  go_wp2_with fail
  refine (copySc2 C R a L.length L c _ rfl (hL.below hB2) HL6.out HNC.out).mono ?_
  rintro e w3 ⟨a3, n3, d3, rfl, hn3, hr3, -, hb3⟩
  have HN3 := Lib.hid hn3
  have bx3 := bx2.below hb3
  have hB3 := hB2.trans (hb3.mono (B' := w.heap.size) hB2.size)
  clear hb3 bx2 hB2 c0 c1 c2 hn3 hd
  go_wp2_with fail
  refine (halves_n C R a3 n3 L d3 b _ HN3.out hr3 HL6.out HQ.out HD.out HH1.out HH2.out).mono ?_
  rintro e w4 ⟨a4, n4, d4, a5, n5, d5, rfl, hn4, hn5, hr4, hr5, hc4, hc5, hb4⟩
  have HN4 := Lib.hid hn4; have HN5 := Lib.hid hn5
  have bx4 := bx3.below hb4
  have hB4 := hB3.trans (hb4.mono (B' := w.heap.size) hB3.size)
  clear hb4 bx3 hB3 hn4 hn5 hr3
  obtain ⟨w5, hw5⟩ : ∃ w5, w5 = w4.alloc (.cells #[.int .i64 D1, .int .i64 D2, .slice a4 n4 d4, .int .i64 D1, .int .i64 D2, .slice a5 n5 d5] 80) := ⟨_, rfl⟩
  have hA5 : Below w4.heap.size w4 w5 := by rw [hw5]; exact (Below.refl _ _).alloc (Nat.le_refl _) _
  obtain ⟨g5, hg5⟩ : ∃ g, g = w4.heap.size := ⟨_, rfl⟩
  have bh5 : BoxAt w5 g5 #[.int .i64 D1, .int .i64 D2, .slice a4 n4 d4, .int .i64 D1, .int .i64 D2, .slice a5 n5 d5] 80 := by rw [hw5, hg5]; exact BoxAt.new _ _ _
  have bx5 := bx4.below hA5; have hr45 := hr4.below hA5; have hr55 := hr5.below hA5
  have hB5 := hB4.trans (hA5.mono (B' := w.heap.size) hB4.size)
  have c0 := bx4.cell 0; have c1 := bx4.cell 1; have c2 := bx4.cell 2
  simp at c0 c1 c2
  have hbl := bx4.lt
  have HW5 := Lib.hid hw5; have HG5 := Lib.hid hg5
  clear hw5 hg5 hA5 hr4 hr5
  go_wp2_with fail
  rw [← HW5.out, ← HG5.out]
  refine (refHalves_n C R a L.length L c b _ rfl (hL.below hB5) HL6.out HQ.out HD.out HH1.out HH2.out).mono ?_
  rintro e w6 ⟨a6, n6, d6, a7, n7, d7, rfl, hn6, hn7, hr6, hr7, hc6, hc7, hb6⟩
  have HN6 := Lib.hid hn6; have HN7 := Lib.hid hn7
  have bx6 := bx5.below hb6; have bh6 := bh5.below hb6; have hr46 := hr45.below hb6; have hr56 := hr55.below hb6
  have hB6 := hB5.trans (hb6.mono (B' := w.heap.size) hB5.size)
  clear hb6 bx5 bh5 hr45 hr55 hB5 bx4 hB4 hn6 hn7 c0 c1 c2 hbl
  obtain ⟨w7, hw7⟩ : ∃ w7, w7 = w6.alloc (.cells #[.int .i64 D1, .int .i64 D2, .slice a6 n6 d6, .int .i64 D1, .int .i64 D2, .slice a7 n7 d7] 80) := ⟨_, rfl⟩
  have hA7 : Below w6.heap.size w6 w7 := by rw [hw7]; exact (Below.refl _ _).alloc (Nat.le_refl _) _
  obtain ⟨g7, hg7⟩ : ∃ g, g = w6.heap.size := ⟨_, rfl⟩
  have bi7 : BoxAt w7 g7 #[.int .i64 D1, .int .i64 D2, .slice a6 n6 d6, .int .i64 D1, .int .i64 D2, .slice a7 n7 d7] 80 := by rw [hw7, hg7]; exact BoxAt.new _ _ _
  have bx7 := bx6.below hA7; have bh7 := bh6.below hA7; have hr47 := hr46.below hA7; have hr57 := hr56.below hA7; have hr67 := hr6.below hA7; have hr77 := hr7.below hA7
  have hB7 := hB6.trans (hA7.mono (B' := w.heap.size) hB6.size)
  have e0 := bh6.cell 0; have e1 := bh6.cell 1; have e2 := bh6.cell 2
  have hel := bh6.lt
  simp at e0 e1 e2
  have HW7 := Lib.hid hw7; have HG7 := Lib.hid hg7
  clear hw7 hg7 hA7 hr6 hr7 hr46 hr56
  have hqq : (q != q) = false := by simp
  go_upto_region 7 with fail
  rw [← HW7.out, ← HG7.out]
  clear e0 e1 e2 hel bx6 bh6 hB6
  have e0 := bh7.cell 0; have e1 := bh7.cell 1; have e2 := bh7.cell 2
  have f0 := bi7.cell 0; have f1 := bi7.cell 1; have f2 := bi7.cell 2
  simp at e0 e1 e2 f0 f1 f2
  go_wp2_with fail
  refine (sameSc2 D1 D2 H1 a4 a6 n4 n6 d4 d6 _ HN4.out HN6.out hr47 hr67 HLN.out.1).mono ?_
  rintro e w8 ⟨rfl, hb8⟩
  have bx8 := bx7.below hb8; have bh8 := bh7.below hb8; have bi8 := bi7.below hb8; have hr48 := hr47.below hb8; have hr58 := hr57.below hb8; have hr78 := hr77.below hb8
  have hB8 := hB7.trans (hb8.mono (B' := w.heap.size) hB7.size)
  clear hb8 bx7 bh7 bi7 hr47 hr57 hr67 hr77 hB7 e0 e1 e2 f0 f1 f2
  have e0 := bh8.cell 3; have e1 := bh8.cell 4; have e2 := bh8.cell 5
  have f0 := bi8.cell 3; have f1 := bi8.cell 4; have f2 := bi8.cell 5
  simp at e0 e1 e2 f0 f1 f2
  go_wp2_with fail
  refine (sameSc2 D1 D2 H2 a5 a7 n5 n7 d5 d7 _ HN5.out HN7.out hr58 hr78 HLN.out.2).mono ?_
  rintro e w9 ⟨rfl, hb9⟩
  have bx9 := bx8.below hb9; have bh9 := bh8.below hb9; have hr49 := hr48.below hb9; have hr59 := hr58.below hb9
  have hB9 := hB8.trans (hb9.mono (B' := w.heap.size) hB8.size)
  clear hb9 bx8 bh8 bi8 hr48 hr58 hr78 hB8 e0 e1 e2 f0 f1 f2
  by_cases he : q = 0
  case neg =>
    have heb : (q != 0) = true := by simpa using he
    clear he
    go_wp2_with fail
    go_ret
    exact ⟨rfl, hB9⟩
  subst he
  cases b
  case true =>
    go_wp2_with fail
    go_ret
    exact ⟨rfl, hB9⟩
  have c0 := bx9.cell 0; have c1 := bx9.cell 1; have c2 := bx9.cell 2
  simp at c0 c1 c2
  obtain ⟨hce, hall, hev⟩ := hv_ok HQ.out
  obtain ⟨hs, hNN⟩ := cells_ok hce
  obtain ⟨sC, sR, sm⟩ := side_ok hs
  obtain ⟨cn, rfl⟩ : ∃ n : Nat, C = n := ⟨C.toNat, by omega⟩
  obtain ⟨rn, rfl⟩ : ∃ n : Nat, R = n := ⟨R.toNat, by omega⟩
  have HCR : Hid ((1 ≤ cn ∧ cn ≤ 8) ∧ (1 ≤ rn ∧ rn ≤ 8)) := Lib.hid (by omega)
  have HNX : Hid (L.length = cn * rn) := Lib.hid (by have : (L.length : Int) = ((cn * rn : Nat) : Int) := by rw [hNN, Int.natCast_mul]
                                                     omega)
  have HALL := Lib.hid hall
  have hc8 : cn ≤ 8 := HCR.out.1.2
  have hr8 : rn ≤ 8 := HCR.out.2.2
  clear hce hall hev hs hNN sC sR sm
  go_wp2_with fail
  refine (copyOwn_any cn rn a L c _ (hL.below hB9) HL6.out HNC.out).mono ?_
  rintro e w10 ⟨v10, rfl, hO10, hb10⟩
  have hpos : 0 < L.length := by rw [HNX.out]; exact Nat.mul_pos (by have := HCR.out; omega) (by have := HCR.out; omega)
  obtain ⟨gk, ck, rfl, hgk1, hgk2⟩ := hO10.form hpos
  have bx10 := bx9.below hb10
  have hcell := bx10.cell 0; 
  obtain ⟨w11, hw11⟩ : ∃ w11, w11 = w10.alloc (.cells #[.int .i64 cn, .int .i64 rn, .slice (some ⟨gk, 0, none⟩) L.length ck] 43) := ⟨_, rfl⟩
  obtain ⟨g9, hg9⟩ : ∃ g, g = w10.heap.size := ⟨_, rfl⟩
  have hA11 : Below w10.heap.size w10 w11 := by rw [hw11]; exact (Below.refl _ _).alloc (Nat.le_refl _) _
  have b9 : BoxAt w11 g9 #[.int .i64 cn, .int .i64 rn, .slice (some ⟨gk, 0, none⟩) L.length ck] 43 := by rw [hw11, hg9]; exact BoxAt.new _ _ _
  have hO11 : OwnR 4 91 Cell.l w11 w9.heap.size (.slice (some ⟨gk, 0, none⟩) L.length ck) (ovTo cn rn L (0 * cn + 0)) := by
    rw [show 0 * cn + 0 = 0 by omega, ovTo_zero]; exact hO10.below hA11
  have hb11 : Below w9.heap.size w9 w11 := hb10.trans (hA11.mono (B' := w9.heap.size) hb10.size)
  have hgkg : gk < g9 := by rw [hg9]; exact hgk2
  have hg99 : w9.heap.size ≤ g9 := by rw [hg9]; exact hb10.size
  have HW11 := Lib.hid hw11; have HG9 := Lib.hid hg9
  clear hw11 hg9 hA11 hO10 hb10 hcell hgk2 c0 c1 c2
  have c0 := bx10.cell 0; have c1 := bx10.cell 1; have c2 := bx10.cell 2
  have hbl := bx10.lt
  simp at c0 c1 c2
  go_upto_region 12 with fail
  rw [← HW11.out, ← HG9.out]
  clear c0 c1 c2 hbl bx10
  have hbx9 := bx9.lt
  go_wp2_with fail
  go_loopw [10] (fun i wq => ∃ y : Nat, y ≤ rn ∧ i = .int .i64 y ∧ BoxAt wq g9 #[.int .i64 cn, .int .i64 rn, .slice (some ⟨gk, 0, none⟩) L.length ck] 43 ∧ OwnR 4 91 Cell.l wq w9.heap.size (.slice (some ⟨gk, 0, none⟩) L.length ck) (ovTo cn rn L (y * cn + 0)) ∧ Below w9.heap.size w9 wq) (fun i _ => rn - (intOf i).toNat)
  case atStart => exact ⟨0, Nat.zero_le _, rfl, b9, hO11, hb11⟩
  case round =>
    obtain ⟨y, hy, rfl, bq, hO, hB⟩ := hrel
    clear b9 hO11 hb11
    have bxr := bx9.below hB
    have c0 := bxr.cell 0; have c1 := bxr.cell 1
    simp at c0 c1
    by_cases hyl : y < rn
    · have hyI : (y : Int) < (rn : Int) := by omega
      go_wp2_with fail
      go_loopw [11] (fun i wq => ∃ x : Nat, x ≤ cn ∧ i = .int .i64 x ∧ BoxAt wq g9 #[.int .i64 cn, .int .i64 rn, .slice (some ⟨gk, 0, none⟩) L.length ck] 43 ∧ OwnR 4 91 Cell.l wq w9.heap.size (.slice (some ⟨gk, 0, none⟩) L.length ck) (ovTo cn rn L (y * cn + x)) ∧ Below w9.heap.size w9 wq) (fun i _ => cn - (intOf i).toNat)
      case atStart => exact ⟨0, Nat.zero_le _, rfl, bq, hO, hB⟩
      case round =>
        obtain ⟨x, hx, rfl, bq, hO, hB⟩ := hrel
        clear c0 c1 bxr
        have bxr := bx9.below hB
        have c0 := bxr.cell 0; have c1 := bxr.cell 1; have c2 := bxr.cell 2
        simp at c0 c1 c2
        by_cases hxl : x < cn
        · have hxI : (x : Int) < (cn : Int) := by omega
          obtain ⟨n, hn⟩ : ∃ n, y * cn + x = n := ⟨_, rfl⟩
          obtain ⟨o1, ho1⟩ : ∃ o, y * cn + (cn - 1 - x) = o := ⟨_, rfl⟩
          have hnl : n < L.length := by rw [← hn, HNX.out]; exact mul_lt hyl hxl
          have hol : o1 < L.length := by rw [← ho1, HNX.out]; exact mul_lt hyl (by omega)
          have hnI : (y : Int) * (cn : Int) + (x : Int) = (n : Int) := by rw [← hn, Int.natCast_add, Int.natCast_mul]
          have hoI : (y : Int) * (cn : Int) + (cn : Int) - 1 - (x : Int) = (o1 : Int) := by rw [← ho1, Int.natCast_add, Int.natCast_mul]; omega
          have hyc0 : 0 ≤ (y : Int) * (cn : Int) := Int.mul_nonneg (by omega) (by omega)
          have hyc1 : (y : Int) * (cn : Int) ≤ 64 := by have := Int.mul_le_mul (show (y : Int) ≤ 8 by omega) (show (cn : Int) ≤ 8 by omega) (by omega) (by omega); omega
          have hn64 : (n : Int) ≤ 100 := by omega
          have ho64 : (o1 : Int) ≤ 100 := by omega
          have q1 : IntKind.i64.wrap ((y : Int) * (cn : Int)) = (y : Int) * (cn : Int) := IntWalk.i64_in _ (by omega)
          have q2 : IntKind.i64.wrap ((y : Int) * (cn : Int) + (x : Int)) = (n : Int) := by rw [← hnI]; exact IntWalk.i64_in _ (by omega)
          have q3 : IntKind.i64.wrap ((y : Int) * (cn : Int) + (cn : Int)) = (y : Int) * (cn : Int) + (cn : Int) := IntWalk.i64_in _ (by omega)
          have q4 : IntKind.i64.wrap ((y : Int) * (cn : Int) + (cn : Int) - 1) = (y : Int) * (cn : Int) + (cn : Int) - 1 := IntWalk.i64_in _ (by omega)
          have q5 : IntKind.i64.wrap ((y : Int) * (cn : Int) + (cn : Int) - 1 - (x : Int)) = (o1 : Int) := by rw [← hoI]; exact IntWalk.i64_in _ (by omega)
          have hnlI : (n : Int) < (L.length : Int) := by omega
          have holI : (o1 : Int) < (L.length : Int) := by omega
          obtain ⟨ad, rfl, had, s0, s1, s2, s3⟩ := (hL.below (hB9.trans (hB.mono (B' := w.heap.size) hB9.size))).cell hol
          obtain ⟨u, eu⟩ : ∃ u, u = L[o1] := ⟨_, rfl⟩
          rw [← eu] at s0 s1 s2 s3
          have EU := Lib.hid eu; have HO1 := Lib.hid ho1; have HNN2 := Lib.hid hn
          have HPU : Hid (Bit u.ft ∧ Bit u.bt) := Lib.hid (cellPB_bits (List.all_eq_true.1 HALL.out _ (by rw [eu]; exact List.getElem_mem hol)))
          have HSET : Hid ((ovTo cn rn L n).set n ⟨u.b, u.bt, u.f, u.ft⟩ = ovTo cn rn L (y * cn + (x + 1))) := Lib.hid (by
            have t1 : xr u.ft (roundB false) = u.ft := xr_zero HPU.out.1
            have t2 : xr u.bt (roundB false) = u.bt := xr_zero HPU.out.2
            rw [← Nat.add_assoc, hn, ← ovTo_set, ← hn, (opp_at hxl).1, ho1, getD_in default hol, ← eu]
            unfold ovCell; rw [t1, t2])
          clear eu ho1 hoI ho64 hnI hn64
          rw [hn] at hO
          clear hn
          obtain ⟨wu, hwu⟩ : ∃ wu, wu = wr.alloc (.cells #[.int .i64 u.f, .int .i64 u.ft, .int .i64 u.b, .int .i64 u.bt] 91) := ⟨_, rfl⟩
          obtain ⟨gu, hgu⟩ : ∃ g, g = wr.heap.size := ⟨_, rfl⟩
          have hA : Below wr.heap.size wr wu := by rw [hwu]; exact (Below.refl _ _).alloc (Nat.le_refl _) _
          have bu : BoxAt wu gu #[.int .i64 u.f, .int .i64 u.ft, .int .i64 u.b, .int .i64 u.bt] 91 := by rw [hwu, hgu]; exact BoxAt.new wr _ _
          have HWU := Lib.hid hwu; have HGU := Lib.hid hgu
          have hgu2 : gk < gu := by rw [hgu]; exact (hO.lt gk rfl).2
          clear hwu hgu
          go_upto_region 19 with fail
          rw [← HWU.out, ← HGU.out]
          have bqu := bq.below hA; have hOu := hO.below hA; have bxu := bxr.below hA
          have hBu := hB.trans (hA.mono (B' := w9.heap.size) hB.size)
          clear c0 c1 c2 s0 s1 s2 s3 q3 q4 q5 bxr
          have c0 := bxu.cell 0
          have k2 := bqu.cell 2
          have p0 := bu.cell 0; have p1 := bu.cell 1; have p2 := bu.cell 2; have p3 := bu.cell 3
          simp at c0 k2 p0 p1 p2 p3
          have hOp := hOu.put4c (ovTo_len cn rn L n).symm (k := n) (by rw [ovTo_len]; exact hnl) ⟨u.b, u.bt, u.f, u.ft⟩
          rw [HSET.out] at hOp
          obtain ⟨og, oc, oe1, orow, -, -, -, -⟩ := hOu.rows cell_l
          injection oe1 with oe1 oe2 oe3
          clear oe2
          subst oe1 oe3
          obtain ⟨_, oe1, oh1, x0, x1, x2, x3⟩ := orow.cell (k := n) (by rw [ovTo_len]; exact hnl)
          cases oe1
          rw [add0] at x0 x1 x2 x3
          have z := fun q => hOu.free q
          have m0 : g9 ≠ gk := by omega
          have m1 : ¬ gk = gu := by omega
          have m2 : ¬ gu = gk := by omega
          go_wp2_with fail
          go_roundw
          case rel => exact ⟨x + 1, by omega, by go_num, (((bqu.set_other (p := ⟨gk, n * 4, none⟩) m0 _).set_other (p := ⟨gk, n * 4 + 1, none⟩) m0 _).set_other (p := ⟨gk, n * 4 + 2, none⟩) m0 _).set_other (p := ⟨gk, n * 4 + 3, none⟩) m0 _, hOp, (((hBu.setCell (p := ⟨gk, n * 4, none⟩) hgk1 _).setCell (p := ⟨gk, n * 4 + 1, none⟩) hgk1 _).setCell (p := ⟨gk, n * 4 + 2, none⟩) hgk1 _).setCell (p := ⟨gk, n * 4 + 3, none⟩) hgk1 _⟩
          case measure => simp [intOf]; omega
        · have hxC : x = cn := by omega
          have hxI : ¬ (x : Int) < (cn : Int) := by omega
          rw [hxC, show y * cn + cn = (y + 1) * cn + 0 by rw [Nat.succ_mul]; rfl] at hO
          clear hxC
          go_wp2_with fail
          go_roundw
          case rel => exact ⟨y + 1, by omega, by go_num, bq, hO, hB⟩
          case measure => simp [intOf]; omega
    · have hyR : y = rn := by omega
      have hyI : ¬ (y : Int) < (rn : Int) := by omega
      rw [hyR, show rn * cn + 0 = L.length by rw [HNX.out, Nat.mul_comm]; rfl] at hO
      clear hyR
      obtain ⟨o1, o2, o3, o4⟩ := hv_over HQ.out
      rw [HD.out] at o2
      rw [HH2.out] at o3
      rw [HH1.out] at o4
      have O1 := Lib.hid o1; have O2 := Lib.hid o2; have O3 := Lib.hid o3; have O4 := Lib.hid o4
      obtain ⟨og, oc, oe1, orow, -, -, -, -⟩ := hO.rows cell_l
      injection oe1 with oe1 oe2 oe3
      clear oe2
      subst oe1 oe3
      have bhr := bh9.below hB; have hr4r := hr49.below hB; have hr5r := hr59.below hB
      have hBr := hB9.trans (hB.mono (B' := w.heap.size) hB9.size)
      have k0 := bq.cell 0; have k1 := bq.cell 1; have k2 := bq.cell 2
      simp at k0 k1 k2
      clear o1 o2 o3 o4 bx9 bh9 hr49 hr59 hB9
      go_wp2_with fail
      refine (halves_n cn rn (some ⟨gk, 0, none⟩) L.length (ovTo cn rn L L.length) ck false _ (ovTo_len cn rn L L.length).symm orow (by rw [ovTo_len]; exact HL6.out) O1.out O2.out O3.out O4.out).mono ?_
      rintro e w12 ⟨a8, n8, d8, a9, n9, d9, rfl, hn8, hn9, hr8', hr9', -, -, hb12⟩
      have HN8 := Lib.hid hn8; have HN9 := Lib.hid hn9
      have bh12 := bhr.below hb12; have hr412 := hr4r.below hb12; have hr512 := hr5r.below hb12
      have hB12 := hBr.trans (hb12.mono (B' := w.heap.size) hBr.size)
      clear hb12 hn8 hn9 bhr hr4r hr5r hBr k0 k1 k2 bq hO orow hB bxr c0 c1
      obtain ⟨w13, hw13⟩ : ∃ w13, w13 = w12.alloc (.cells #[.int .i64 D1, .int .i64 D2, .slice a8 n8 d8, .int .i64 D1, .int .i64 D2, .slice a9 n9 d9] 80) := ⟨_, rfl⟩
      have hA13 : Below w12.heap.size w12 w13 := by rw [hw13]; exact (Below.refl _ _).alloc (Nat.le_refl _) _
      obtain ⟨g13, hg13⟩ : ∃ g, g = w12.heap.size := ⟨_, rfl⟩
      have bg13 : BoxAt w13 g13 #[.int .i64 D1, .int .i64 D2, .slice a8 n8 d8, .int .i64 D1, .int .i64 D2, .slice a9 n9 d9] 80 := by rw [hw13, hg13]; exact BoxAt.new _ _ _
      have bh13 := bh12.below hA13; have hr413 := hr412.below hA13; have hr513 := hr512.below hA13; have hr813 := hr8'.below hA13; have hr913 := hr9'.below hA13
      have hB13 := hB12.trans (hA13.mono (B' := w.heap.size) hB12.size)
      have HW13 := Lib.hid hw13; have HG13 := Lib.hid hg13
      clear hw13 hg13 hA13 bh12 hr412 hr512 hr8' hr9' hB12
      go_upto_region 21 with fail
      rw [← HW13.out, ← HG13.out]
      have e0 := bh13.cell 3; have e1 := bh13.cell 4; have e2 := bh13.cell 5
      have f0 := bg13.cell 0; have f1 := bg13.cell 1; have f2 := bg13.cell 2
      simp at e0 e1 e2 f0 f1 f2
      go_wp2_with fail
      refine (sameSc2 D1 D2 H2 a8 a5 n8 n5 d8 d5 _ HN8.out HN5.out hr813 hr513 HLN.out.2).mono ?_
      rintro e w14 ⟨rfl, hb14⟩
      have bh14 := bh13.below hb14; have bg14 := bg13.below hb14; have hr414 := hr413.below hb14; have hr914 := hr913.below hb14
      have hB14 := hB13.trans (hb14.mono (B' := w.heap.size) hB13.size)
      clear hb14 bh13 bg13 hr413 hr513 hr813 hr913 hB13 e0 e1 e2 f0 f1 f2
      have e0 := bh14.cell 0; have e1 := bh14.cell 1; have e2 := bh14.cell 2
      have f0 := bg14.cell 3; have f1 := bg14.cell 4; have f2 := bg14.cell 5
      simp at e0 e1 e2 f0 f1 f2
      go_wp2_with fail
      refine (sameSc2 D1 D2 H1 a9 a4 n9 n4 d9 d4 _ HN9.out HN4.out hr914 hr414 HLN.out.1).mono ?_
      rintro e w15 ⟨rfl, hb15⟩
      have hB15 := hB14.trans (hb15.mono (B' := w.heap.size) hB14.size)
      go_wp2_with fail
      go_ret
      exact ⟨rfl, hB15⟩
end Go.Proofs.Ytjkjfmahcjcniaa
