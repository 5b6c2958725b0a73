/-
  PressChances: the walk of the law (written by tools/mkMS.py).
-/
import Derived.Test.YtpplcbpnojggcaaMR
import Derived.Test.YtpplcbpnojggcaaGE
namespace Go.Proofs.Ytpplcbpnojggcaa
open Go.RowKit

set_option maxRecDepth 100000 in
set_option maxHeartbeats 8000000 in
theorem chances_bad_A1 (n good N D s : Int) (w : World) (se ce f gx gy X Y : Int) (hin : inB s 0 2000 = false)
    (HCO : Hid (∀ W, Calls Try.prog 27 #[.agg #[.int .i64 n, .int .i64 good, .int .i64 N, .int .i64 D]] W (ChancePost X Y se W)))
    (HEX : Hid (∀ W, Calls Try.prog 28 #[.int .i64 s, .agg #[.int .i64 N, .int .i64 D]] W (ChancePost gx gy f W)))
    (HCC : Hid (∀ W, Calls Try.prog 29 #[.agg #[.int .i64 N, .int .i64 D], .int .i64 10] W (CheckPost ce W)))
    (HCS : Hid (∀ W, Calls Try.prog 32 #[.agg #[.int .i64 n, .int .i64 good, .int .i64 N, .int .i64 D]] W (CheckPost se W)))
    (hf : f = 2) (hgx : gx = 0) (hgy : gy = 0)
    (hse : ¬ se = 0) (hX : X = 0) (hY : Y = 0)
    : Calls Try.prog 4 #[.agg #[.int .i64 n, .int .i64 good, .int .i64 N, .int .i64 D], .int .i64 s] w (AggPost (.bool true) w) := by
  have hb := (Below.refl w.heap.size w).alloc (Nat.le_refl _) (.cells #[.int .i64 n, .int .i64 good, .int .i64 N, .int .i64 D] 42)
  have bx := BoxAt.new w #[.int .i64 n, .int .i64 good, .int .i64 N, .int .i64 D] 42
  subst hf hgx hgy
  subst hX hY
  have hz1 : (se == 0) = false := by simpa using hse
  have hz2 : (se != 0) = true := by simpa using hse
  go_enter Try.func4, Try.ntmps4
  go_wp2_with fail
  refine (awake_any _).mono ?_
  rintro e w1 ⟨rfl, hb1⟩
  have bx1 := bx.below hb1
  have hB1 := hb.trans (hb1.mono (B' := w.heap.size) (by simp <;> omega))
  have c0 := bx1.cell 0; have c1 := bx1.cell 1; have c2 := bx1.cell 2; have c3 := bx1.cell 3
  simp at c0 c1 c2 c3
  have hbl := bx1.lt
  clear hb1 hb bx
  go_wp2_with fail
  refine (HCO.out _).mono ?_
  rintro e w2 ⟨rfl, hb2⟩
  have bx2 := (bx1.below hb2).alloc (.cells #[.int .i64 0, .int .i64 0] 43)
  have bc2 := BoxAt.new w2 #[.int .i64 0, .int .i64 0] 43
  have hB2 := hB1.trans (hb2.mono (B' := w.heap.size) hB1.size)
  have hB2' := hB2.alloc hB2.size (.cells #[.int .i64 0, .int .i64 0] 43)
  clear c0 c1 c2 c3 hbl bx1 hB1 hb2
  have c0 := bx2.cell 0; have c1 := bx2.cell 1; have c2 := bx2.cell 2; have c3 := bx2.cell 3
  simp at c0 c1 c2 c3
  have hbl := bx2.lt
  go_wp2_with fail
  refine (HEX.out _).mono ?_
  rintro e w3 ⟨rfl, hb3⟩
  have bx3 := (bx2.below hb3).alloc (.cells #[.int .i64 0, .int .i64 0] 40)
  have bc3 := (bc2.below hb3).alloc (.cells #[.int .i64 0, .int .i64 0] 40)
  have bg3 := BoxAt.new w3 #[.int .i64 0, .int .i64 0] 40
  have hB3 := hB2'.trans (hb3.mono (B' := w.heap.size) hB2'.size)
  have hB3' := hB3.alloc hB3.size (.cells #[.int .i64 0, .int .i64 0] 40)
  obtain ⟨b5, hb5⟩ : ∃ b, b = w2.heap.size := ⟨_, rfl⟩
  obtain ⟨b7, hb7⟩ : ∃ b, b = w3.heap.size := ⟨_, rfl⟩
  clear c0 c1 c2 c3 hbl bx2 bc2 hB2 hB2' hb3
  have c0 := bx3.cell 0; have c1 := bx3.cell 1; have c2 := bx3.cell 2; have c3 := bx3.cell 3
  simp at c0 c1 c2 c3
  have hbl := bx3.lt
  go_wp2_with fail
  refine (HCC.out _).mono ?_
  rintro e w4 ⟨rfl, hb4⟩
  rw [← hb5, ← hb7]
  rw [← hb5] at bc3
  rw [← hb7] at bg3
  have HX := Lib.hid (bx3.below hb4)
  have HC := Lib.hid (bc3.below hb4)
  have HG := Lib.hid (bg3.below hb4)
  have HB := Lib.hid (hB3'.trans (hb4.mono (B' := w.heap.size) hB3'.size))
  clear c0 c1 c2 c3 hbl bx3 bc3 bg3 hB3 hB3' hb4 hb5 hb7
  have c0 := HX.out.cell 0; have c1 := HX.out.cell 1; have c2 := HX.out.cell 2; have c3 := HX.out.cell 3
  have g0 := HG.out.cell 0; have g1 := HG.out.cell 1
  simp at c0 c1 c2 c3 g0 g1
  have hbl := HX.out.lt; have hgl := HG.out.lt
  go_wp2_with (go_at_call 30; refine (within_any _ _ _ _).mono ?_; rintro e w' ⟨rfl, rfl⟩)
  refine Code.wp_mono (Q := fun e a' w' => match e with
    | .normal => (∃ u0 u7 u8 u9 u15 u16 u17 u18 u19 u20 u21 u22 u23 u24 u25 u26 u27 u28 u29 u30 u31 u32 u33 u34 u35 u36 u37 u38 u39 u40 u41 u42 u43 u44 u45 u46 u47 u48 u49 u50 u51 u52 u53 u54 u55 u56 u57 u58 u59 u60 u61 u62 u63 u64 u65 u66 u67 u68 u69 u70, a' = { tmps := #[u0, .int .i64 s, .pointer (some ⟨w.heap.size, 0, none⟩), undef, .bool false, .pointer (some ⟨b5, 0, none⟩), .int .i64 se, u7, u8, u9, undef, undef, undef, undef, undef, u15, u16, u17, u18, u19, u20, u21, u22, u23, u24, u25, u26, u27, u28, u29, u30, u31, u32, u33, u34, u35, u36, u37, u38, u39, u40, u41, u42, u43, u44, u45, u46, u47, u48, u49, u50, u51, u52, u53, u54, u55, u56, u57, u58, u59, u60, u61, u62, u63, u64, u65, u66, u67, u68, u69, u70, .bool false, undef, undef, undef, undef, undef, undef, undef, undef, undef, undef, undef, undef, undef, undef, undef, undef, undef, undef, undef, undef, undef, undef, undef, undef, undef, undef, undef, undef, undef, undef, undef, undef, undef, undef, undef, undef, undef, undef, undef, undef, undef, undef, undef, undef, undef, undef, undef, undef, undef, undef, undef, undef, undef, undef, undef, undef, undef, undef, undef, undef, undef, undef, undef, undef, undef, undef, undef, undef, undef, undef, undef, undef, undef, undef, undef, undef, undef, undef, undef, undef, undef, undef, undef, undef, undef, undef, undef, undef, undef], defers := [] }) ∧ BoxAt w' w.heap.size #[.int .i64 n, .int .i64 good, .int .i64 N, .int .i64 D] 42 ∧ BoxAt w' b5 #[.int .i64 0, .int .i64 0] 43 ∧ Below w.heap.size w w'
    | _ => False) ?cont ?reg
  case reg =>
    have hfr := fun W => neq_frac 0 0 W
    go_region
    all_goals exact ⟨⟨_, _, _, _, _, _, _, _, _, _, _, _, _, _, _, _, _, _, _, _, _, _, _, _, _, _, _, _, _, _, _, _, _, _, _, _, _, _, _, _, _, _, _, _, _, _, _, _, _, _, _, _, _, _, _, _, _, _, _, _, rfl⟩, HX.out.drew, HC.out.drew, HB.out.drew⟩
  case cont =>
    rintro e a' w6 hq
    cases e <;> try exact hq.elim
    obtain ⟨⟨u0, u7, u8, u9, u15, u16, u17, u18, u19, u20, u21, u22, u23, u24, u25, u26, u27, u28, u29, u30, u31, u32, u33, u34, u35, u36, u37, u38, u39, u40, u41, u42, u43, u44, u45, u46, u47, u48, u49, u50, u51, u52, u53, u54, u55, u56, u57, u58, u59, u60, u61, u62, u63, u64, u65, u66, u67, u68, u69, u70, rfl⟩, bx6, bc6, hB6⟩ := hq
    clear c0 c1 c2 c3 g0 g1 hbl hgl HX HC HG HB
    have c0 := bx6.cell 0; have c1 := bx6.cell 1; have c2 := bx6.cell 2; have c3 := bx6.cell 3
    simp at c0 c1 c2 c3
    have hbl := bx6.lt
    go_wp2_with fail
    refine (HCS.out _).mono ?_
    rintro e w7 ⟨rfl, hb7⟩
    have bx7 := bx6.below hb7
    have bc7 := bc6.below hb7
    have hB7 := hB6.trans (hb7.mono (B' := w.heap.size) hB6.size)
    clear c0 c1 c2 c3 hbl bx6 bc6 hB6 hb7
    have c0 := bx7.cell 0; have c1 := bx7.cell 1; have c2 := bx7.cell 2; have c3 := bx7.cell 3
    have x0 := bc7.cell 0; have x1 := bc7.cell 1
    simp at c0 c1 c2 c3 x0 x1
    have hbl := bx7.lt; have hcl := bc7.lt
    have heq := fun W => eql_pair0 0 0 W
    go_wp2_with fail
    go_ret
    exact ⟨rfl, hB7⟩
set_option maxRecDepth 100000 in
set_option maxHeartbeats 8000000 in
theorem chances_bad_A2 (n good N D s : Int) (w : World) (se ce f gx gy X Y : Int) (hin : inB s 0 2000 = true)
    (HCO : Hid (∀ W, Calls Try.prog 27 #[.agg #[.int .i64 n, .int .i64 good, .int .i64 N, .int .i64 D]] W (ChancePost X Y se W)))
    (HEX : Hid (∀ W, Calls Try.prog 28 #[.int .i64 s, .agg #[.int .i64 N, .int .i64 D]] W (ChancePost gx gy f W)))
    (HCC : Hid (∀ W, Calls Try.prog 29 #[.agg #[.int .i64 N, .int .i64 D], .int .i64 10] W (CheckPost ce W)))
    (HCS : Hid (∀ W, Calls Try.prog 32 #[.agg #[.int .i64 n, .int .i64 good, .int .i64 N, .int .i64 D]] W (CheckPost se W)))
    (hf : f = ce) (hce : ¬ ce = 0) (hgx : gx = 0) (hgy : gy = 0)
    (hse : ¬ se = 0) (hX : X = 0) (hY : Y = 0)
    : Calls Try.prog 4 #[.agg #[.int .i64 n, .int .i64 good, .int .i64 N, .int .i64 D], .int .i64 s] w (AggPost (.bool true) w) := by
  have hb := (Below.refl w.heap.size w).alloc (Nat.le_refl _) (.cells #[.int .i64 n, .int .i64 good, .int .i64 N, .int .i64 D] 42)
  have bx := BoxAt.new w #[.int .i64 n, .int .i64 good, .int .i64 N, .int .i64 D] 42
  subst hf hgx hgy
  have hcz : (f == 0) = false := by simpa using hce
  have hcz2 : (f != 0) = true := by simpa using hce
  subst hX hY
  have hz1 : (se == 0) = false := by simpa using hse
  have hz2 : (se != 0) = true := by simpa using hse
  go_enter Try.func4, Try.ntmps4
  go_wp2_with fail
  refine (awake_any _).mono ?_
  rintro e w1 ⟨rfl, hb1⟩
  have bx1 := bx.below hb1
  have hB1 := hb.trans (hb1.mono (B' := w.heap.size) (by simp <;> omega))
  have c0 := bx1.cell 0; have c1 := bx1.cell 1; have c2 := bx1.cell 2; have c3 := bx1.cell 3
  simp at c0 c1 c2 c3
  have hbl := bx1.lt
  clear hb1 hb bx
  go_wp2_with fail
  refine (HCO.out _).mono ?_
  rintro e w2 ⟨rfl, hb2⟩
  have bx2 := (bx1.below hb2).alloc (.cells #[.int .i64 0, .int .i64 0] 43)
  have bc2 := BoxAt.new w2 #[.int .i64 0, .int .i64 0] 43
  have hB2 := hB1.trans (hb2.mono (B' := w.heap.size) hB1.size)
  have hB2' := hB2.alloc hB2.size (.cells #[.int .i64 0, .int .i64 0] 43)
  clear c0 c1 c2 c3 hbl bx1 hB1 hb2
  have c0 := bx2.cell 0; have c1 := bx2.cell 1; have c2 := bx2.cell 2; have c3 := bx2.cell 3
  simp at c0 c1 c2 c3
  have hbl := bx2.lt
  go_wp2_with fail
  refine (HEX.out _).mono ?_
  rintro e w3 ⟨rfl, hb3⟩
  have bx3 := (bx2.below hb3).alloc (.cells #[.int .i64 0, .int .i64 0] 40)
  have bc3 := (bc2.below hb3).alloc (.cells #[.int .i64 0, .int .i64 0] 40)
  have bg3 := BoxAt.new w3 #[.int .i64 0, .int .i64 0] 40
  have hB3 := hB2'.trans (hb3.mono (B' := w.heap.size) hB2'.size)
  have hB3' := hB3.alloc hB3.size (.cells #[.int .i64 0, .int .i64 0] 40)
  obtain ⟨b5, hb5⟩ : ∃ b, b = w2.heap.size := ⟨_, rfl⟩
  obtain ⟨b7, hb7⟩ : ∃ b, b = w3.heap.size := ⟨_, rfl⟩
  clear c0 c1 c2 c3 hbl bx2 bc2 hB2 hB2' hb3
  have c0 := bx3.cell 0; have c1 := bx3.cell 1; have c2 := bx3.cell 2; have c3 := bx3.cell 3
  simp at c0 c1 c2 c3
  have hbl := bx3.lt
  go_wp2_with fail
  refine (HCC.out _).mono ?_
  rintro e w4 ⟨rfl, hb4⟩
  rw [← hb5, ← hb7]
  rw [← hb5] at bc3
  rw [← hb7] at bg3
  have HX := Lib.hid (bx3.below hb4)
  have HC := Lib.hid (bc3.below hb4)
  have HG := Lib.hid (bg3.below hb4)
  have HB := Lib.hid (hB3'.trans (hb4.mono (B' := w.heap.size) hB3'.size))
  clear c0 c1 c2 c3 hbl bx3 bc3 bg3 hB3 hB3' hb4 hb5 hb7
  have c0 := HX.out.cell 0; have c1 := HX.out.cell 1; have c2 := HX.out.cell 2; have c3 := HX.out.cell 3
  have g0 := HG.out.cell 0; have g1 := HG.out.cell 1
  simp at c0 c1 c2 c3 g0 g1
  have hbl := HX.out.lt; have hgl := HG.out.lt
  go_wp2_with (go_at_call 30; refine (within_any _ _ _ _).mono ?_; rintro e w' ⟨rfl, rfl⟩)
  refine Code.wp_mono (Q := fun e a' w' => match e with
    | .normal => (∃ u0 u7 u8 u9 u15 u16 u17 u18 u19 u20 u21 u22 u23 u24 u25 u26 u27 u28 u29 u30 u31 u32 u33 u34 u35 u36 u37 u38 u39 u40 u41 u42 u43 u44 u45 u46 u47 u48 u49 u50 u51 u52 u53 u54 u55 u56 u57 u58 u59 u60 u61 u62 u63 u64 u65 u66 u67 u68 u69 u70, a' = { tmps := #[u0, .int .i64 s, .pointer (some ⟨w.heap.size, 0, none⟩), undef, .bool false, .pointer (some ⟨b5, 0, none⟩), .int .i64 se, u7, u8, u9, undef, undef, undef, undef, undef, u15, u16, u17, u18, u19, u20, u21, u22, u23, u24, u25, u26, u27, u28, u29, u30, u31, u32, u33, u34, u35, u36, u37, u38, u39, u40, u41, u42, u43, u44, u45, u46, u47, u48, u49, u50, u51, u52, u53, u54, u55, u56, u57, u58, u59, u60, u61, u62, u63, u64, u65, u66, u67, u68, u69, u70, .bool false, undef, undef, undef, undef, undef, undef, undef, undef, undef, undef, undef, undef, undef, undef, undef, undef, undef, undef, undef, undef, undef, undef, undef, undef, undef, undef, undef, undef, undef, undef, undef, undef, undef, undef, undef, undef, undef, undef, undef, undef, undef, undef, undef, undef, undef, undef, undef, undef, undef, undef, undef, undef, undef, undef, undef, undef, undef, undef, undef, undef, undef, undef, undef, undef, undef, undef, undef, undef, undef, undef, undef, undef, undef, undef, undef, undef, undef, undef, undef, undef, undef, undef, undef, undef, undef, undef, undef, undef, undef], defers := [] }) ∧ BoxAt w' w.heap.size #[.int .i64 n, .int .i64 good, .int .i64 N, .int .i64 D] 42 ∧ BoxAt w' b5 #[.int .i64 0, .int .i64 0] 43 ∧ Below w.heap.size w w'
    | _ => False) ?cont ?reg
  case reg =>
    have hfr := fun W => neq_frac 0 0 W
    go_region
    all_goals exact ⟨⟨_, _, _, _, _, _, _, _, _, _, _, _, _, _, _, _, _, _, _, _, _, _, _, _, _, _, _, _, _, _, _, _, _, _, _, _, _, _, _, _, _, _, _, _, _, _, _, _, _, _, _, _, _, _, _, _, _, _, _, _, rfl⟩, HX.out.drew, HC.out.drew, HB.out.drew⟩
  case cont =>
    rintro e a' w6 hq
    cases e <;> try exact hq.elim
    obtain ⟨⟨u0, u7, u8, u9, u15, u16, u17, u18, u19, u20, u21, u22, u23, u24, u25, u26, u27, u28, u29, u30, u31, u32, u33, u34, u35, u36, u37, u38, u39, u40, u41, u42, u43, u44, u45, u46, u47, u48, u49, u50, u51, u52, u53, u54, u55, u56, u57, u58, u59, u60, u61, u62, u63, u64, u65, u66, u67, u68, u69, u70, rfl⟩, bx6, bc6, hB6⟩ := hq
    clear c0 c1 c2 c3 g0 g1 hbl hgl HX HC HG HB
    have c0 := bx6.cell 0; have c1 := bx6.cell 1; have c2 := bx6.cell 2; have c3 := bx6.cell 3
    simp at c0 c1 c2 c3
    have hbl := bx6.lt
    go_wp2_with fail
    refine (HCS.out _).mono ?_
    rintro e w7 ⟨rfl, hb7⟩
    have bx7 := bx6.below hb7
    have bc7 := bc6.below hb7
    have hB7 := hB6.trans (hb7.mono (B' := w.heap.size) hB6.size)
    clear c0 c1 c2 c3 hbl bx6 bc6 hB6 hb7
    have c0 := bx7.cell 0; have c1 := bx7.cell 1; have c2 := bx7.cell 2; have c3 := bx7.cell 3
    have x0 := bc7.cell 0; have x1 := bc7.cell 1
    simp at c0 c1 c2 c3 x0 x1
    have hbl := bx7.lt; have hcl := bc7.lt
    have heq := fun W => eql_pair0 0 0 W
    go_wp2_with fail
    go_ret
    exact ⟨rfl, hB7⟩
end Go.Proofs.Ytpplcbpnojggcaa
