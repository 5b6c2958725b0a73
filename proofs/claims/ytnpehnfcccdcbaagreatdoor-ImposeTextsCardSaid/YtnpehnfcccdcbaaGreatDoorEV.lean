/-
  Package impose: Print, walked.
-/
import Derived.Test.YtnpehnfcccdcbaaGreatDoorEW
import Derived.Test.YtnpehnfcccdcbaaGreatDoorCZ
namespace Go.Proofs.YtnpehnfcccdcbaaGreatDoor
open Go.RowKit

/-- The text so far. -/
def prTo (C R : Nat) (l : List Cell) (k : Nat) : List UInt8 := headT C R ++ [10] ++ cellsT C 0 (l.take k)
theorem prTo_zero (C R : Nat) (l : List Cell) : prTo C R l 0 = headT C R ++ [10] := by
  unfold prTo; rw [List.take_zero]; exact List.append_nil _
theorem prTo_end (C R : Nat) (l : List Cell) : prTo C R l l.length = printT C R l := by unfold prTo printT; rw [List.take_length]
theorem prTo_nl {C R : Nat} {l : List Cell} {k : Nat} (hk : k < l.length) (h : (k + 1) % C = 0) : prTo C R l (k + 1) = prTo C R l k ++ cellT l[k] ++ [10] := by
  unfold prTo
  rw [List.take_succ_eq_append_getElem hk, cellsT_snoc, List.length_take, Nat.min_eq_left (by omega), Nat.zero_add, if_pos h]
  simp only [List.append_assoc]
theorem prTo_sp {C R : Nat} {l : List Cell} {k : Nat} (hk : k < l.length) (h : ¬ (k + 1) % C = 0) : prTo C R l (k + 1) = prTo C R l k ++ cellT l[k] ++ [32] := by
  unfold prTo
  rw [List.take_succ_eq_append_getElem hk, cellsT_snoc, List.length_take, Nat.min_eq_left (by omega), Nat.zero_add, if_neg h]
  simp only [List.append_assoc]
theorem prTo_len {C R : Nat} {l : List Cell} (h1 : C < 10000) (h2 : R < 10000) (h : ∀ x ∈ l, CellSm x) (k : Nat) : (prTo C R l k).length ≤ 47 + 93 * l.length := by
  unfold prTo
  have h3 := headT_len (C := (C : Int)) (R := (R : Int)) (by omega) (by omega)
  have h4 := cellsT_len (C := C) (l := l.take k) (i := 0) fun x hx => h x (List.mem_of_mem_take hx)
  rw [List.length_take] at h4
  simp only [List.length_append, List.length_cons, List.length_nil]; omega
set_option maxRecDepth 100000 in
set_option maxHeartbeats 1600000 in
theorem print_any (C R : Int) (a : Option Addr) (l : List Cell) (c : Nat) (w : World) (hP : WF w) (hL : RowsAt 4 Cell.l w a l) (hl : l.length ≤ 1000000) :
    Calls Tryz.prog 9 #[.agg #[.int .i64 C, .int .i64 R, .slice a l.length c]] w fun e w' => e = .returned (.tuple #[.string (bs (printRes C R l).1), .int .i64 (printRes C R l).2]) ∧ Below w.heap.size w w' := by
  have bx := BoxAt.new w #[.int .i64 C, .int .i64 R, .slice a l.length c] 24
  have hB1 := (Below.refl w.heap.size w).alloc (Nat.le_refl _) (.cells #[.int .i64 C, .int .i64 R, .slice a l.length c] 24)
  have hL1 := hL.alloc (.cells #[.int .i64 C, .int .i64 R, .slice a l.length c] 24)
  obtain ⟨m, hm⟩ : ∃ m, m = l.length := ⟨_, rfl⟩
  have HCS := Lib.hid (checkScheme_any C R a l c _ hL1 hl)
  obtain ⟨p, hp⟩ : ∃ p, p = printRes C R l := ⟨_, rfl⟩
  rw [← hp]
  by_cases h0 : (checkSc C R l).2 = 0
  · obtain ⟨⟨hC1, hC8⟩, ⟨hR1, hR8⟩, hn, h32, -⟩ := sc_right h0
    have hsm := sc_small h0
    have HF := Lib.hid (show p = (printT C.toNat R.toNat l, 0) by rw [hp]; unfold printRes; rw [if_neg (by simp [h0])])
    rw [h0] at HCS
    obtain ⟨Cn, hCn⟩ : ∃ Cn : Nat, C = Cn := ⟨C.toNat, by omega⟩
    obtain ⟨Rn, hRn⟩ : ∃ Rn : Nat, R = Rn := ⟨R.toNat, by omega⟩
    subst hCn hRn
    rw [Int.toNat_natCast, Int.toNat_natCast] at HF
    obtain ⟨k1, hk1⟩ : ∃ k1, k1 = (checkSc Cn Rn l).1 := ⟨_, rfl⟩
    rw [← hk1] at HCS
    rw [← hm] at HCS bx hB1 hL1
    rw [← hm] at h32
    have HSM := Lib.hid hsm
    have HM := Lib.hid hm
    clear hp h0 hk1 hsm hn hl hm
    rw [← HM.out]
    go_enter Tryz.func9, Tryz.ntmps9
    go_wp2_with fail
    refine HCS.out.mono ?_
    rintro e w2 ⟨rfl, hb2⟩
    have bx2 := bx.below hb2
    have hB2 := hB1.trans (hb2.mono hB1.size)
    have c0 := bx2.cell 0
    have c1 := bx2.cell 1
    have c2 := bx2.cell 2
    have hlt2 := bx2.lt
    simp at c0 c1 c2
    obtain ⟨b, hb⟩ : ∃ b, w2.heap.size = b := ⟨_, rfl⟩
    obtain ⟨w3, hw3⟩ : ∃ w3, w3 = w2.alloc (.cells #[.pointer none, .slice none 0 0] 72) := ⟨_, rfl⟩
    have sb3 : SB b b [] w3 := by rw [hw3, ← hb]; exact SB.new w2
    have z3 : w3.heap.size = b + 1 := by rw [hw3]; simp; omega
    have bx3 : BoxAt w3 w.heap.size #[.int .i64 (Cn : Int), .int .i64 (Rn : Int), .slice a m c] 24 := by rw [hw3]; exact bx2.alloc _
    have hB3 : Below w.heap.size w w3 := by rw [hw3]; exact hB2.alloc hB2.size _
    have HW3 := Lib.hid hw3
    have HB := Lib.hid hb
    clear hw3 bx bx2 hB1 hB2
    have hgb : w.heap.size < b := by omega
    clear hb
    go_wp2_with fail
    rw [← HW3.out, HB.out]
    obtain ⟨H, hH⟩ : ∃ H, H = headT (Cn : Int) (Rn : Int) := ⟨_, rfl⟩
    have hHl : H.length ≤ 46 := by rw [hH]; exact headT_len (by omega) (by omega)
    have HH := Lib.hid hH
    have hadd : ∀ W, (Op.stringOp .add (bs H) (⟨#[10]⟩ : ByteArray)).run Tryz.prog W = .ok (.string (bs (H ++ [10]))) W := fun W => bs_add H [10] (by simp; omega) W
    have hM := rows_lit int_l w3 3 [(Cn : Int), (Rn : Int)] _ rfl
    rw [z3] at hM
    have hB4 := hB3.alloc hB3.size (.cells #[.int .i64 (Cn : Int), .int .i64 (Rn : Int)] 3)
    refine (joined_any 32 (some ⟨b + 1, 0, none⟩) [(Cn : Int), (Rn : Int)] 2 2 _ rfl hM (by decide) (fun v hv => by
      simp only [List.mem_cons, List.not_mem_nil, or_false] at hv
      rcases hv with rfl | rfl <;> exact OkI.of (by omega)) (hP.below hB4)).mono ?_
    rintro e w4 ⟨rfl, hb4⟩
    have e4 : Lib.join ([(Cn : Int), (Rn : Int)].map Lib.itoa) [32] = H := HH.out.symm
    rw [e4]
    have sb4 := (sb3.below ((Below.refl _ _).alloc (Nat.le_refl _) (.cells #[.int .i64 (Cn : Int), .int .i64 (Rn : Int)] 3))).below hb4
    have bx4 := (bx3.alloc (.cells #[.int .i64 (Cn : Int), .int .i64 (Rn : Int)] 3)).below hb4
    have hB5 := hB4.trans (hb4.mono hB4.size)
    have hlb := sb4.lt
    clear hH hM hB4 hb4 e4 sb3 bx3 hB3 z3
    go_wp2_with fail
    refine (sb_string b b [] (H ++ [10]) w4 sb4 (by simp; omega) (by omega)).mono ?_
    rintro e w5 ⟨⟨kk, rfl⟩, sb5, hb5⟩
    rw [List.nil_append] at sb5
    have bx5 : BoxAt w5 w.heap.size #[.int .i64 (Cn : Int), .int .i64 (Rn : Int), .slice a m c] 24 := (hb5.block _ hgb).trans bx4
    have hB6 := hB5.trans (hb5.mono (by omega))
    have d0 := bx5.cell 0
    have d2 := bx5.cell 2
    simp at d0 d2
    have hz : prTo Cn Rn l 0 = H ++ [10] := by rw [prTo_zero, HH.out]
    rw [← hz] at sb5
    clear hz sb4 bx4 hB5 hlb hadd c0 c1 c2 hlt2
    go_wp2_with fail
    go_loopw [28] (fun i wr => ∃ k : Nat, k ≤ m ∧ i = .int .i64 k ∧ SB b b (prTo Cn Rn l k) wr ∧ BoxAt wr w.heap.size #[.int .i64 (Cn : Int), .int .i64 (Rn : Int), .slice a m c] 24 ∧ Below w.heap.size w wr ∧ b ≤ wr.heap.size) (fun i _ => m - (intOf i).toNat)
    case atStart => exact ⟨0, Nat.zero_le _, rfl, sb5, bx5, hB6, by have := sb5.lt; omega⟩
    case round =>
      obtain ⟨k, hk, rfl, sb, bx, hB, hbr⟩ := hrel
      clear sb5 bx5 hB6 d0 d2
      by_cases hlt : k < m
      · have hkl : k < l.length := by have := HM.out; omega
        have hkI : (k : Int) < (m : Int) := by omega
        obtain ⟨ad, rfl, had, s0, s1, s2, s3⟩ := (hL.below hB).cell hkl
        obtain ⟨x, ex⟩ : ∃ x, x = l[k] := ⟨_, rfl⟩
        rw [← ex] at s0 s1 s2 s3
        have hxs := HSM.out l[k] (List.getElem_mem hkl)
        rw [← ex] at hxs
        have HXL := Lib.hid (cellT_len hxs)
        have HLN := Lib.hid (show (prTo Cn Rn l k).length ≤ 100000 by have := prTo_len (C := Cn) (R := Rn) (by omega) (by omega) HSM.out k; have := HM.out; omega)
        have EX := Lib.hid ex
        clear ex
        obtain ⟨f, ft, bk, bt⟩ := x
        simp only at s0 s1 s2 s3
        obtain ⟨t, ht⟩ : ∃ t, t = cellT ⟨f, ft, bk, bt⟩ := ⟨_, rfl⟩
        have HT := Lib.hid ht
        have hM : RowsAt 1 intL ((wr.alloc (.cells #[.int .i64 f, .int .i64 ft, .int .i64 bk, .int .i64 bt] 54)).alloc (.cells #[.int .i64 f, .int .i64 ft, .int .i64 bk, .int .i64 bt] 3)) (some ⟨wr.heap.size + 1, 0, none⟩) [f, ft, bk, bt] := by
          have h := rows_lit int_l (wr.alloc (.cells #[.int .i64 f, .int .i64 ft, .int .i64 bk, .int .i64 bt] 54)) 3 [f, ft, bk, bt] _ rfl
          rw [World.size_alloc] at h; exact h
        have hbA : Below wr.heap.size wr ((wr.alloc (.cells #[.int .i64 f, .int .i64 ft, .int .i64 bk, .int .i64 bt] 54)).alloc (.cells #[.int .i64 f, .int .i64 ft, .int .i64 bk, .int .i64 bt] 3)) := ((Below.refl _ _).alloc (Nat.le_refl _) _).alloc (by simp) _
        have HJ := Lib.hid (joined_any 47 (some ⟨wr.heap.size + 1, 0, none⟩) [f, ft, bk, bt] 4 4 _ rfl hM (by decide) (fun v hv => by
          obtain ⟨q1, q2, q3, q4⟩ := hxs
          simp only at q1 q2 q3 q4
          simp only [List.mem_cons, List.not_mem_nil, or_false] at hv
          rcases hv with rfl | rfl | rfl | rfl <;> exact OkI.of (by omega)) (hP.below (hB.trans (hbA.mono hB.size))))
        have e4 : Lib.join ([f, ft, bk, bt].map Lib.itoa) [47] = t := ht.symm
        rw [e4] at HJ
        clear ht hM e4 hxs
        go_wp2_with fail
        refine HJ.out.mono ?_
        rintro e w8 ⟨rfl, hb8⟩
        have sb8 := (sb.below hbA).below hb8
        have bx8 := (bx.below hbA).below hb8
        have hB8 := (hB.trans (hbA.mono hB.size)).trans (hb8.mono (by have := (hB.trans (hbA.mono hB.size)).size; exact this))
        have hbr8 : b ≤ w8.heap.size := by have := sb8.lt; omega
        clear hbA hb8 HJ bx hB s0 s1 s2 s3 had
        go_wp2_with fail
        refine (sb_string b b _ t w8 sb8 (by have h1 := HLN.out; have h2 := HXL.out; rw [← HT.out] at h2; omega) hbr8).mono ?_
        rintro e w9 ⟨⟨kk, rfl⟩, sb9, hb9⟩
        have bx9 : BoxAt w9 w.heap.size #[.int .i64 (Cn : Int), .int .i64 (Rn : Int), .slice (some ad) m c] 24 := (hb9.block _ hgb).trans bx8
        have hB9 := hB8.trans (hb9.mono (by omega))
        have d0 := bx9.cell 0
        simp at d0
        have hb9s := sb9.lt
        rw [HT.out] at sb9
        clear sb8 bx8 hB8 hb9 sb
        by_cases hr : (k + 1) % Cn = 0
        · have hbI : (((k : Int) + 1) % (Cn : Int) == 0) = true := by
            have e : ((k : Int) + 1) % (Cn : Int) = (((k + 1) % Cn : Nat) : Int) := by push_cast; rfl
            rw [e, hr]; try rfl
          have HP := Lib.hid (prTo_nl (C := Cn) (R := Rn) hkl hr)
          rw [← EX.out] at HP
          clear hr
          go_wp2_with fail
          refine (sb_nl b b _ w9 sb9 (by rw [List.length_append]; have := HLN.out; have := HXL.out; omega) (by omega)).mono ?_
          rintro e w10 ⟨rfl, sb10, hb10⟩
          rw [← HP.out] at sb10
          go_wp2_with fail
          go_roundw
          case rel => exact ⟨k + 1, by omega, by go_num, sb10, (hb10.block _ hgb).trans bx9, hB9.trans (hb10.mono (by omega)), by have := sb10.lt; omega⟩
          case measure => simp [intOf]; omega
        · have hbI : (((k : Int) + 1) % (Cn : Int) == 0) = false := by
            have e : ((k : Int) + 1) % (Cn : Int) = (((k + 1) % Cn : Nat) : Int) := by push_cast; rfl
            rw [e, beq_eq_false_iff_ne]
            generalize (k + 1) % Cn = q at hr ⊢
            omega
          have HP := Lib.hid (prTo_sp (C := Cn) (R := Rn) hkl hr)
          rw [← EX.out] at HP
          clear hr
          go_wp2_with fail
          refine (sb_sp b b _ w9 sb9 (by rw [List.length_append]; have := HLN.out; have := HXL.out; omega) (by omega)).mono ?_
          rintro e w10 ⟨rfl, sb10, hb10⟩
          rw [← HP.out] at sb10
          go_wp2_with fail
          go_roundw
          case rel => exact ⟨k + 1, by omega, by go_num, sb10, (hb10.block _ hgb).trans bx9, hB9.trans (hb10.mono (by omega)), by have := sb10.lt; omega⟩
          case measure => simp [intOf]; omega
      · have hkm : k = m := by omega
        have HE := Lib.hid (show prTo Cn Rn l k = printT Cn Rn l by rw [hkm, HM.out, prTo_end])
        have hkI : ¬ (k : Int) < (m : Int) := by omega
        rw [HE.out] at sb
        clear hkm
        go_wp2_with fail
        refine (sb_text b b _ wr sb hbr).mono ?_
        rintro e w9 ⟨rfl, hb9⟩
        go_wp2_with fail
        go_ret2
        exact ⟨by rw [HF.out]; try rfl, hB.trans (hb9.mono (by omega))⟩
  · have HF := Lib.hid (show p = ([], (checkSc C R l).2) by rw [hp]; unfold printRes; rw [if_pos h0])
    have hb : ((checkSc C R l).2 != 0) = true := by simpa using h0
    clear hp h0
    go_enter Tryz.func9, Tryz.ntmps9
    go_wp2_with fail
    refine HCS.out.mono ?_
    rintro e w2 ⟨rfl, hb2⟩
    have hB2 := hB1.trans (hb2.mono hB1.size)
    go_wp2_with fail
    go_ret2
    exact ⟨by rw [HF.out]; try rfl, hB2⟩
end Go.Proofs.YtnpehnfcccdcbaaGreatDoor

namespace Go.Proofs.YtnpehnfcccdcbaaGreatDoor
open Go.RowKit

theorem sadd (a b : List UInt8) (c : List UInt8) (hc : c = a ++ b) (h : a.length + b.length ≤ 1000000) : ∀ W, (Op.stringOp .add (bs a) (bs b)).run Tryz.prog W = .ok (.string (bs c)) W := fun W => by rw [hc]; exact bs_add a b h W
theorem sadd1 (a : List UInt8) (b : UInt8) (c : List UInt8) (hc : c = a ++ [b]) (h : a.length ≤ 100000) : ∀ W, (Op.stringOp .add (bs a) (⟨#[b]⟩ : ByteArray)).run Tryz.prog W = .ok (.string (bs c)) W := fun W => by rw [hc]; exact bs_add a [b] (by simp; omega) W
theorem itoa_len22 {v : Int} (h : v.natAbs < 10000) : (Lib.itoa v).length ≤ 22 := by have := itoa_len21 (OkI.of (n := v) (by omega)); omega
set_option maxRecDepth 100000 in
set_option maxHeartbeats 1600000 in
theorem refPrint_any (Cn Rn : Nat) (a : Option Addr) (l : List Cell) (m c : Nat) (w : World) (hL : RowsAt 4 Cell.l w a l) (hm : m = l.length) (h0 : (checkSc Cn Rn l).2 = 0) :
    Calls Tryz.prog 12 #[.agg #[.int .i64 (Cn : Int), .int .i64 (Rn : Int), .slice a m c]] w (StrPost w (printT Cn Rn l)) := by
  obtain ⟨⟨hC1, hC8⟩, ⟨hR1, hR8⟩, hn, h32, -⟩ := sc_right h0
  have HSM := Lib.hid (sc_small h0)
  have HM := Lib.hid hm
  have h32 : m ≤ 32 := by omega
  obtain ⟨w1, hw1⟩ : ∃ w1, w1 = w.alloc (.cells #[.int .i64 (Cn : Int), .int .i64 (Rn : Int), .slice a m c] 24) := ⟨_, rfl⟩
  have bx1 : BoxAt w1 w.heap.size #[.int .i64 (Cn : Int), .int .i64 (Rn : Int), .slice a m c] 24 := by rw [hw1]; exact BoxAt.new _ _ _
  have hB1 : Below w.heap.size w w1 := by rw [hw1]; exact (Below.refl _ _).alloc (Nat.le_refl _) _
  have HW1 := Lib.hid hw1
  have c0 := bx1.cell 0
  have c1 := bx1.cell 1
  have hlt1 := bx1.lt
  simp at c0 c1
  have oC : OkI (Cn : Int) := OkI.of (by omega)
  have oR : OkI (Rn : Int) := OkI.of (by omega)
  have HD := Lib.hid (fun n (h : OkI n) W => decimal_any n h W)
  obtain ⟨tC, htC⟩ : ∃ t, t = Lib.itoa (Cn : Int) := ⟨_, rfl⟩
  obtain ⟨tR, htR⟩ : ∃ t, t = Lib.itoa (Rn : Int) := ⟨_, rfl⟩
  obtain ⟨y1, hy1⟩ : ∃ t, t = tC ++ [32] := ⟨_, rfl⟩
  obtain ⟨y2, hy2⟩ : ∃ t, t = y1 ++ tR := ⟨_, rfl⟩
  have lC : tC.length ≤ 22 := by rw [htC]; exact itoa_len22 (by omega)
  have lR : tR.length ≤ 22 := by rw [htR]; exact itoa_len22 (by omega)
  have l1 : y1.length ≤ 23 := by rw [hy1, List.length_append]; simp; omega
  have l2 : y2.length ≤ 45 := by rw [hy2, List.length_append]; omega
  have hz : prTo Cn Rn l 0 = y2 ++ [10] := by
    rw [prTo_zero, hy2, hy1, htC, htR]
    show Lib.join [Lib.itoa (Cn : Int), Lib.itoa (Rn : Int)] [32] ++ [10] = _
    rw [join_cons, join_one]
  have a1 := sadd1 tC 32 y1 hy1 (by omega)
  have a2 := sadd y1 tR y2 hy2 (by omega)
  have a3 := sadd1 y2 10 (prTo Cn Rn l 0) hz (by omega)
  have HTC := Lib.hid htC
  have HTR := Lib.hid htR
  have hq := (Below.refl w1.heap.size w1).drew
  clear hw1 hm hn htC htR hy1 hy2 hz lC lR l1 l2 h0
  go_enter Tryz.func12, Tryz.ntmps12
  go_wp2_with fail
  rw [← HW1.out]
  go_region_held3 (fun w' => w'.cell? ⟨w.heap.size, 0, none⟩ = some (.int .i64 (Cn : Int)) ∧ w'.cell? ⟨w.heap.size, 1, none⟩ = some (.int .i64 (Rn : Int))) (first | exact ⟨j0, j1⟩ | go_keep)
    ((go_at_call 31; refine (HD.out _ (by first | exact oC | exact oR) _).mono ?_; rintro e w3 ⟨rfl, hb3⟩; have hq := hq.trans (hb3.mono (B' := w1.heap.size) hq.size); have j0 := (hq.cell (p := ⟨w.heap.size, 0, none⟩) hlt1).trans c0; have j1 := (hq.cell (p := ⟨w.heap.size, 1, none⟩) hlt1).trans c1; first | rw [← HTC.out] | rw [← HTR.out]))
  have bx2 := bx1.below hq
  have hB2 := hB1.trans (hq.mono hB1.size)
  rename_i hHeld
  clear hHeld hb3 hq j0 j1 a1 a2 a3 c0 c1 hlt1 bx1 hB1
  go_wp2_with fail
  go_loopw [3, 4] (fun v i wr => ∃ k : Nat, k ≤ m ∧ i = .int .i64 k ∧ v = .string (bs (prTo Cn Rn l k)) ∧ BoxAt wr w.heap.size #[.int .i64 (Cn : Int), .int .i64 (Rn : Int), .slice a m c] 24 ∧ Below w.heap.size w wr) (fun _ i _ => m - (intOf i).toNat)
  case atStart => exact ⟨0, Nat.zero_le _, rfl, rfl, bx2, hB2⟩
  case round =>
    obtain ⟨k, hk, rfl, rfl, bx, hB⟩ := hrel
    clear bx2 hB2
    have d0 := bx.cell 0
    have d2 := bx.cell 2
    have hlt0 := bx.lt
    simp at d0 d2
    by_cases hlt : k < m
    · have hkl : k < l.length := by have := HM.out; omega
      have hkI : (k : Int) < (m : Int) := by omega
      obtain ⟨ad, rfl, had, s0, s1, s2, s3⟩ := (hL.below hB).cell hkl
      obtain ⟨x, ex⟩ : ∃ x, x = l[k] := ⟨_, rfl⟩
      rw [← ex] at s0 s1 s2 s3
      have hxs := HSM.out l[k] (List.getElem_mem hkl)
      rw [← ex] at hxs
      have hln : (prTo Cn Rn l k).length ≤ 4000 := by have := prTo_len (C := Cn) (R := Rn) (by omega) (by omega) HSM.out k; have := HM.out; omega
      have EX := Lib.hid ex
      clear ex
      obtain ⟨f, ft, bk, bt⟩ := x
      simp only at s0 s1 s2 s3
      obtain ⟨x1, x2, x3, x4⟩ := hxs
      simp only at x1 x2 x3 x4
      have o1 : OkI f := OkI.of (by omega)
      have o2 : OkI ft := OkI.of (by omega)
      have o3 : OkI bk := OkI.of (by omega)
      have o4 : OkI bt := OkI.of (by omega)
      obtain ⟨z0, hz0⟩ : ∃ t, t = prTo Cn Rn l k := ⟨_, rfl⟩
      obtain ⟨t1, ht1⟩ : ∃ t, t = Lib.itoa f := ⟨_, rfl⟩
      obtain ⟨t2, ht2⟩ : ∃ t, t = Lib.itoa ft := ⟨_, rfl⟩
      obtain ⟨t3, ht3⟩ : ∃ t, t = Lib.itoa bk := ⟨_, rfl⟩
      obtain ⟨t4, ht4⟩ : ∃ t, t = Lib.itoa bt := ⟨_, rfl⟩
      have m1 : t1.length ≤ 22 := by rw [ht1]; exact itoa_len22 x1
      have m2 : t2.length ≤ 22 := by rw [ht2]; exact itoa_len22 x2
      have m3 : t3.length ≤ 22 := by rw [ht3]; exact itoa_len22 x3
      have m4 : t4.length ≤ 22 := by rw [ht4]; exact itoa_len22 x4
      rw [← hz0] at hln
      obtain ⟨z1, hz1⟩ : ∃ t, t = z0 ++ t1 := ⟨_, rfl⟩
      obtain ⟨z2, hz2⟩ : ∃ t, t = z1 ++ [47] := ⟨_, rfl⟩
      obtain ⟨z3, hz3⟩ : ∃ t, t = z2 ++ t2 := ⟨_, rfl⟩
      obtain ⟨z4, hz4⟩ : ∃ t, t = z3 ++ [47] := ⟨_, rfl⟩
      obtain ⟨z5, hz5⟩ : ∃ t, t = z4 ++ t3 := ⟨_, rfl⟩
      obtain ⟨z6, hz6⟩ : ∃ t, t = z5 ++ [47] := ⟨_, rfl⟩
      obtain ⟨z7, hz7⟩ : ∃ t, t = z6 ++ t4 := ⟨_, rfl⟩
      have lz1 : z1.length ≤ 4022 := by rw [hz1, List.length_append]; omega
      have lz2 : z2.length ≤ 4023 := by rw [hz2, List.length_append]; simp; omega
      have lz3 : z3.length ≤ 4045 := by rw [hz3, List.length_append]; omega
      have lz4 : z4.length ≤ 4046 := by rw [hz4, List.length_append]; simp; omega
      have lz5 : z5.length ≤ 4068 := by rw [hz5, List.length_append]; omega
      have lz6 : z6.length ≤ 4069 := by rw [hz6, List.length_append]; simp; omega
      have lz7 : z7.length ≤ 100000 := by rw [hz7, List.length_append]; omega
      have HZ7 : Hid (z7 = prTo Cn Rn l k ++ cellT ⟨f, ft, bk, bt⟩) := Lib.hid (by
        rw [hz7, hz6, hz5, hz4, hz3, hz2, hz1, hz0, ht1, ht2, ht3, ht4]
        show _ = _ ++ Lib.join [Lib.itoa f, Lib.itoa ft, Lib.itoa bk, Lib.itoa bt] [47]
        rw [join_cons, join_cons, join_cons, join_one]
        simp only [List.append_assoc])
      have b1 := sadd z0 t1 z1 hz1 (by omega)
      have b2 := sadd1 z1 47 z2 hz2 (by omega)
      have b3 := sadd z2 t2 z3 hz3 (by omega)
      have b4 := sadd1 z3 47 z4 hz4 (by omega)
      have b5 := sadd z4 t3 z5 hz5 (by omega)
      have b6 := sadd1 z5 47 z6 hz6 (by omega)
      have b7 := sadd z6 t4 z7 hz7 (by omega)
      have HT1 := Lib.hid ht1
      have HT2 := Lib.hid ht2
      have HT3 := Lib.hid ht3
      have HT4 := Lib.hid ht4
      rw [← hz0]
      obtain ⟨w5, hw5⟩ : ∃ w5, w5 = wr.alloc (.cells #[.int .i64 f, .int .i64 ft, .int .i64 bk, .int .i64 bt] 54) := ⟨_, rfl⟩
      obtain ⟨al, hal⟩ : ∃ al, wr.heap.size = al := ⟨_, rfl⟩
      have bc : BoxAt w5 al #[.int .i64 f, .int .i64 ft, .int .i64 bk, .int .i64 bt] 54 := by rw [hw5, ← hal]; exact BoxAt.new _ _ _
      have bx5 : BoxAt w5 w.heap.size #[.int .i64 (Cn : Int), .int .i64 (Rn : Int), .slice (some ad) m c] 24 := by rw [hw5]; exact bx.alloc _
      have hB5 : Below w.heap.size w w5 := by rw [hw5]; exact hB.alloc hB.size _
      have HW5 := Lib.hid hw5
      have HAL := Lib.hid hal
      have e0 := bc.cell 0
      have e1 := bc.cell 1
      have e2 := bc.cell 2
      have e3 := bc.cell 3
      have hcl := bc.lt
      simp at e0 e1 e2 e3
      have hq := (Below.refl w5.heap.size w5).drew
      clear hw5 hal hz0 hz1 hz2 hz3 hz4 hz5 hz6 hz7 ht1 ht2 ht3 ht4 m1 m2 m3 m4 x1 x2 x3 x4 lz1 lz2 lz3 lz4 lz5 lz6 hln bx hB
      go_wp2_with fail
      rw [← HW5.out, HAL.out]
      go_region_held3 (fun w' => w'.cell? ⟨al, 0, none⟩ = some (.int .i64 f) ∧ w'.cell? ⟨al, 1, none⟩ = some (.int .i64 ft) ∧ w'.cell? ⟨al, 2, none⟩ = some (.int .i64 bk) ∧ w'.cell? ⟨al, 3, none⟩ = some (.int .i64 bt)) (first | exact ⟨j0, j1, j2, j3⟩ | go_keep)
        ((go_at_call 31; refine (HD.out _ (by first | exact o1 | exact o2 | exact o3 | exact o4) _).mono ?_; rintro e w6 ⟨rfl, hb6⟩; have hq := hq.trans (hb6.mono (B' := w5.heap.size) hq.size); have j0 := (hq.cell (p := ⟨al, 0, none⟩) hcl).trans e0; have j1 := (hq.cell (p := ⟨al, 1, none⟩) hcl).trans e1; have j2 := (hq.cell (p := ⟨al, 2, none⟩) hcl).trans e2; have j3 := (hq.cell (p := ⟨al, 3, none⟩) hcl).trans e3; first | rw [← HT1.out] | rw [← HT2.out] | rw [← HT3.out] | rw [← HT4.out]))
      have bx6 := bx5.below hq
      have hB6 := hB5.trans (hq.mono hB5.size)
      have g0 := bx6.cell 0
      simp at g0
      rename_i hHeld
      clear hHeld hb6 hq j0 j1 j2 j3 b1 b2 b3 b4 b5 b6 b7 e0 e1 e2 e3 bx5 hB5 s0 s1 s2 s3 d0 d2
      by_cases hr : (k + 1) % Cn = 0
      · have hbI : (((k : Int) + 1) % (Cn : Int) == 0) = true := by
          have e : ((k : Int) + 1) % (Cn : Int) = (((k + 1) % Cn : Nat) : Int) := by push_cast; rfl
          rw [e, hr]; try rfl
        have HP := (prTo_nl (C := Cn) (R := Rn) hkl hr)
        rw [← EX.out, ← HZ7.out] at HP
        have a8 := sadd1 z7 10 (prTo Cn Rn l (k + 1)) HP lz7
        clear hr HP
        go_wp2_with fail
        go_roundw
        case rel => exact ⟨k + 1, by omega, by go_num, rfl, bx6, hB6⟩
        case measure => simp [intOf]; omega
      · have hbI : (((k : Int) + 1) % (Cn : Int) == 0) = false := by
          have e : ((k : Int) + 1) % (Cn : Int) = (((k + 1) % Cn : Nat) : Int) := by push_cast; rfl
          rw [e, beq_eq_false_iff_ne]
          generalize (k + 1) % Cn = q at hr ⊢
          omega
        have HP := (prTo_sp (C := Cn) (R := Rn) hkl hr)
        rw [← EX.out, ← HZ7.out] at HP
        have a8 := sadd1 z7 32 (prTo Cn Rn l (k + 1)) HP lz7
        clear hr HP
        go_wp2_with fail
        go_roundw
        case rel => exact ⟨k + 1, by omega, by go_num, rfl, bx6, hB6⟩
        case measure => simp [intOf]; omega
    · have hkm : k = m := by omega
      have HE := Lib.hid (show prTo Cn Rn l k = printT Cn Rn l by rw [hkm, HM.out, prTo_end])
      have hkI : ¬ (k : Int) < (m : Int) := by omega
      rw [HE.out]
      clear hkm
      go_wp2_with fail
      go_ret
      exact ⟨rfl, hB⟩
end Go.Proofs.YtnpehnfcccdcbaaGreatDoor
