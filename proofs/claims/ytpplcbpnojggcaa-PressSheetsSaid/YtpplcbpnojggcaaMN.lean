/-
  PressSheets: the walk of the law.
-/
import Derived.Test.YtpplcbpnojggcaaML
import Derived.Test.YtpplcbpnojggcaaGE
namespace Go.Proofs.Ytpplcbpnojggcaa
open Go.RowKit

set_option maxRecDepth 100000 in
set_option maxHeartbeats 8000000 in
theorem least_walk (good N D rn rd : Int) (w : World) (hN : OkI N) (hD : OkI D) (hrn : OkI rn) (hrd : OkI rd) :
    Calls Try.prog 5 #[.int .i64 good, .agg #[.int .i64 N, .int .i64 D], .agg #[.int .i64 rn, .int .i64 rd]] w (AggPost (.bool true) w) := by
  have hb := ((Below.refl w.heap.size w).alloc (Nat.le_refl _) (.cells #[.int .i64 N, .int .i64 D] 40)).alloc (by simp) (.cells #[.int .i64 rn, .int .i64 rd] 40)
  have bx := (BoxAt.new w #[.int .i64 N, .int .i64 D] 40).alloc (.cells #[.int .i64 rn, .int .i64 rd] 40)
  have bz := BoxAt.new (w.alloc (.cells #[.int .i64 N, .int .i64 D] 40)) #[.int .i64 rn, .int .i64 rd] 40
  rw [World.size_alloc] at bz
  have HL := Lib.hid (fun W => leastSheets_any good N D rn rd W hN hD hrn hrd)
  have HRL := Lib.hid (fun W => refLeastSheets_any good N D rn rd W hN hD hrn hrd)
  have HCH := Lib.hid (fun n W => chanceOf_any n good N D W hN hD)
  have HSP := Lib.hid (ls_spec (good := good) (N := N) (D := D) (rn := rn) (rd := rd))
  obtain ⟨r1, hr1⟩ : ∃ x, x = (lsR good N D rn rd).1 := ⟨_, rfl⟩
  obtain ⟨r2, hr2⟩ : ∃ x, x = (lsR good N D rn rd).2 := ⟨_, rfl⟩
  have HL' : Hid (∀ W, Calls Try.prog 36 #[.int .i64 good, .agg #[.int .i64 N, .int .i64 D], .agg #[.int .i64 rn, .int .i64 rd]] W (PairPost (r1, r2) W)) := Lib.hid (fun W => by rw [hr1, hr2]; exact HL.out W)
  have HRL' : Hid (∀ W, Calls Try.prog 37 #[.int .i64 good, .agg #[.int .i64 N, .int .i64 D], .agg #[.int .i64 rn, .int .i64 rd]] W (PairPost (r1, r2) W)) := Lib.hid (fun W => by rw [hr1, hr2]; exact HRL.out W)
  rw [← hr2, ← hr1] at HSP
  clear HL HRL hr1 hr2
  go_enter Try.func5, Try.ntmps5
  go_wp2_with fail
  refine (awake_any _).mono ?_
  rintro e w1 ⟨rfl, hb1⟩
  have bx1 := bx.below hb1
  have bz1 := bz.below hb1
  have hB1 := hb.trans (hb1.mono (B' := w.heap.size) (by simp <;> omega))
  have c0 := bx1.cell 0; have c1 := bx1.cell 1; have z0 := bz1.cell 0; have z1 := bz1.cell 1
  simp at c0 c1 z0 z1
  have hbl := bx1.lt; have hzl := bz1.lt
  clear hb1 hb bx bz
  go_wp2_with fail
  refine (HL'.out _).mono ?_
  rintro e w2 ⟨rfl, hb2⟩
  have bx2 := bx1.below hb2
  have bz2 := bz1.below hb2
  have hB2 := hB1.trans (hb2.mono (B' := w.heap.size) hB1.size)
  clear c0 c1 z0 z1 hbl hzl bx1 bz1 hB1 hb2
  have c0 := bx2.cell 0; have c1 := bx2.cell 1; have z0 := bz2.cell 0; have z1 := bz2.cell 1
  simp at c0 c1 z0 z1
  have hbl := bx2.lt; have hzl := bz2.lt
  go_wp2_with fail
  refine (HRL'.out _).mono ?_
  rintro e w3 ⟨rfl, hb3⟩
  have HX := Lib.hid (bx2.below hb3)
  have HZ := Lib.hid (bz2.below hb3)
  have HB := Lib.hid (hB2.trans (hb3.mono (B' := w.heap.size) hB2.size))
  clear c0 c1 z0 z1 hbl hzl bx2 bz2 hB2 hb3
  by_cases h0 : r2 = 0
  · obtain ⟨m, h1, hg, hm, he1, he2, hok, hno⟩ := HSP.out h0
    subst h0
    subst h1
    clear HL' HRL' HSP
    have HE := Lib.hid (sheets_err (n := (m : Int)) (good := good) (N := N) (D := D) (by omega) hg.2 (by omega) he1)
    have HF := Lib.hid (chance_fewer (rn := rn) (rd := rd) HE.out)
    have HC1 := Lib.hid (fun W => HCH.out m W)
    rw [HE.out] at HC1
    rw [Int.toNat_natCast, hok] at HF
    obtain ⟨X, hX⟩ : ∃ x, x = chanceX m good N D := ⟨_, rfl⟩
    obtain ⟨Y, hY⟩ : ∃ x, x = chanceY m good N D := ⟨_, rfl⟩
    rw [← hX, ← hY] at HF HC1
    obtain ⟨y1, x1, hf⟩ := HF.out
    obtain ⟨hrd1, -, hrn1, hrd2⟩ := ch_ok he2
    have HCA := Lib.hid (fun W => chance_any X Y W y1 x1)
    have HCM := Lib.hid (fun W => compare_any (Y - X) Y rn rd W (by omega) (by omega) (by omega) (by omega))
    have hc : ¬ 0 < cmp3 ((Y - X) * rd - rn * Y) := by have := (cmp3_le ((Y - X) * rd) (rn * Y)).2 (of_decide_eq_true hf); omega
    have hw : IntKind.i64.wrap (Y - X) = Y - X := IntWalk.i64_in _ (by omega)
    obtain ⟨cc, hcc⟩ : ∃ cc, cc = cmp3 ((Y - X) * rd - rn * Y) := ⟨_, rfl⟩
    rw [← hcc] at HCM hc
    have HNO := Lib.hid hno
    have HER := Lib.hid (And.intro he1 he2)
    clear hcc hX hY hf hok hno he1 he2 y1 x1
    have c0 := HX.out.cell 0; have c1 := HX.out.cell 1; have z0 := HZ.out.cell 0; have z1 := HZ.out.cell 1
    simp at c0 c1 z0 z1
    have hbl := HX.out.lt; have hzl := HZ.out.lt
    go_wp2_with fail
    refine (HC1.out _).mono ?_
    rintro e w4 ⟨rfl, hb4⟩
    have HX4 := Lib.hid (HX.out.below hb4)
    have HZ4 := Lib.hid (HZ.out.below hb4)
    have HB4 := Lib.hid (HB.out.trans (hb4.mono (B' := w.heap.size) HB.out.size))
    clear c0 c1 z0 z1 hbl hzl hb4
    have hbl := HX4.out.lt; have hzl := HZ4.out.lt
    go_wp2_with fail
    refine (HCA.out _).mono ?_
    rintro e w5 ⟨rfl, hb5⟩
    have HX5 := Lib.hid ((HX4.out.alloc (.cells #[.int .i64 X, .int .i64 Y] 43)).below hb5)
    have HZ5 := Lib.hid ((HZ4.out.alloc (.cells #[.int .i64 X, .int .i64 Y] 43)).below hb5)
    have HY5 := Lib.hid ((BoxAt.new w4 #[.int .i64 X, .int .i64 Y] 43).below hb5)
    have HB5 := Lib.hid ((HB4.out.alloc HB4.out.size (.cells #[.int .i64 X, .int .i64 Y] 43)).trans (hb5.mono (B' := w.heap.size) (HB4.out.alloc HB4.out.size (.cells #[.int .i64 X, .int .i64 Y] 43)).size))
    clear hbl hzl hb5
    have z0 := HZ5.out.cell 0; have z1 := HZ5.out.cell 1; have y0 := HY5.out.cell 0; have y1 := HY5.out.cell 1
    have c0 := HX5.out.cell 0; have c1 := HX5.out.cell 1
    simp at z0 z1 y0 y1 c0 c1
    have hbl := HX5.out.lt; have hzl := HZ5.out.lt; have hyl := HY5.out.lt
    by_cases hmg : (m : Int) = good
    · subst hmg
      go_wp2_with (go_at_call 35; refine (HCM.out _).mono ?_; rintro e w' ⟨rfl, rfl⟩)
      go_ret
      exact ⟨rfl, HB5.out⟩
    · have hne : ((m : Int) == good) = false := by simpa using hmg
      have HEB := Lib.hid (sheets_err (n := (m : Int) - 1) (good := good) (N := N) (D := D) (by omega) (by omega) (by omega) HER.out.1)
      have HFB := Lib.hid (chance_fewer (rn := rn) (rd := rd) HEB.out)
      have HC2 := Lib.hid (fun W => HCH.out ((m : Int) - 1) W)
      rw [HEB.out] at HC2
      rw [HNO.out ((m : Int) - 1).toNat (by omega) (by omega)] at HFB
      obtain ⟨X2, hX⟩ : ∃ x, x = chanceX ((m : Int) - 1) good N D := ⟨_, rfl⟩
      obtain ⟨Y2, hY⟩ : ∃ x, x = chanceY ((m : Int) - 1) good N D := ⟨_, rfl⟩
      rw [← hX, ← hY] at HFB HC2
      obtain ⟨y2, x2, hf⟩ := HFB.out
      have HCA2 := Lib.hid (fun W => chance_any X2 Y2 W y2 x2)
      have HCM2 := Lib.hid (fun W => compare_any (Y2 - X2) Y2 rn rd W (by omega) (by omega) (by omega) (by omega))
      have hc2 : 0 < cmp3 ((Y2 - X2) * rd - rn * Y2) := by
        have := cmp3_le ((Y2 - X2) * rd) (rn * Y2)
        have h3 := of_decide_eq_false hf
        omega
      have hw2 : IntKind.i64.wrap (Y2 - X2) = Y2 - X2 := IntWalk.i64_in _ (by omega)
      have hw3 : IntKind.i64.wrap ((m : Int) - 1) = (m : Int) - 1 := IntWalk.i64_in _ (by omega)
      obtain ⟨c2, hcc⟩ : ∃ cc, cc = cmp3 ((Y2 - X2) * rd - rn * Y2) := ⟨_, rfl⟩
      rw [← hcc] at HCM2 hc2
      clear hcc hX hY hf y2 x2
      go_wp2_with (go_at_call 35; refine (HCM.out _).mono ?_; rintro e w' ⟨rfl, rfl⟩)
      refine (HC2.out _).mono ?_
      rintro e w6 ⟨rfl, hb6⟩
      have HX6 := Lib.hid (HX5.out.below hb6)
      have HZ6 := Lib.hid (HZ5.out.below hb6)
      have HB6 := Lib.hid (HB5.out.trans (hb6.mono (B' := w.heap.size) HB5.out.size))
      clear hb6 z0 z1 y0 y1 c0 c1 hbl hzl hyl HC1 HCA HCM HX4 HZ4 HB4
      have hbl := HX6.out.lt; have hzl := HZ6.out.lt
      go_wp2_with fail
      refine (HCA2.out _).mono ?_
      rintro e w7 ⟨rfl, hb7⟩
      have HZ7 := Lib.hid ((HZ6.out.alloc (.cells #[.int .i64 X2, .int .i64 Y2] 43)).below hb7)
      have HY7 := Lib.hid ((BoxAt.new w6 #[.int .i64 X2, .int .i64 Y2] 43).below hb7)
      have HB7 := Lib.hid ((HB6.out.alloc HB6.out.size (.cells #[.int .i64 X2, .int .i64 Y2] 43)).trans (hb7.mono (B' := w.heap.size) (HB6.out.alloc HB6.out.size (.cells #[.int .i64 X2, .int .i64 Y2] 43)).size))
      clear hbl hzl hb7
      have z0 := HZ7.out.cell 0; have z1 := HZ7.out.cell 1; have y0 := HY7.out.cell 0; have y1 := HY7.out.cell 1
      simp at z0 z1 y0 y1
      have hzl := HZ7.out.lt; have hyl := HY7.out.lt
      go_wp2_with (go_at_call 35; refine (HCM2.out _).mono ?_; rintro e w' ⟨rfl, rfl⟩)
      go_ret
      exact ⟨rfl, HB7.out⟩
  · have hn : (r2 == 0) = false := by simp; omega
    clear HL' HRL' HSP
    go_wp2_with fail
    go_ret
    exact ⟨rfl, HB.out⟩
end Go.Proofs.Ytpplcbpnojggcaa
