/-
  Package press: a copy of a run; a quotient rounded up by the reference.
-/
import Derived.Test.YtpplcbpnojggcaaGW
import Derived.Laws.Rows
namespace Go.Proofs.Ytpplcbpnojggcaa
open Go.RowKit Go.Maps

theorem res_run {fn : Func} {p : Tmp} {tmps : Array Value} {Y : World} {d : Nat} {T : TypeId} {x0 x1 x2 x3 x4 x5 x6 : Value} (hf : fn.results = #[.cell p 24]) (hp : tmps.getD p undef = .pointer (some ⟨d, 0, none⟩)) (h : BoxAt Y d #[x0, x1, x2, x3, x4, x5, x6] T) :
    (results fn tmps).run Try.prog Y = .ok (.agg #[x0, x1, x2, x3, x4, x5, x6]) Y := by
  have hl : (loadVar 24 ⟨d, 0, none⟩).run Try.prog Y = .ok (.agg #[x0, x1, x2, x3, x4, x5, x6]) Y := run_loadVar_row (P := Try.prog) Y d T 24 _ (0, 0) _ h Try.underlying24 rfl info_run
  have hp' : tmps[p]?.getD undef = .pointer (some ⟨d, 0, none⟩) := by simpa using hp
  simp only [results, hf]
  simp [hp', asAddr, hl]
theorem box7 {Z : World} {d : Nat} {T : TypeId} {x0 x1 x2 x3 x4 x5 x6 : Value} (h : BoxAt Z d #[x0, x1, x2, x3, x4, x5, x6] T) (y0 y1 y2 y3 y4 y5 y6 : Value) :
    BoxAt (((((((Z.setCell ⟨d, 0, none⟩ y0).setCell ⟨d, 1, none⟩ y1).setCell ⟨d, 2, none⟩ y2).setCell ⟨d, 3, none⟩ y3).setCell ⟨d, 4, none⟩ y4).setCell ⟨d, 5, none⟩ y5).setCell ⟨d, 6, none⟩ y6) d #[y0, y1, y2, y3, y4, y5, y6] T := by
  have h0 : BoxAt (Z.setCell ⟨d, 0, none⟩ y0) d #[y0, x1, x2, x3, x4, x5, x6] T := h.set 0 y0
  have h1 : BoxAt ((Z.setCell ⟨d, 0, none⟩ y0).setCell ⟨d, 1, none⟩ y1) d #[y0, y1, x2, x3, x4, x5, x6] T := h0.set 1 y1
  have h2 : BoxAt (((Z.setCell ⟨d, 0, none⟩ y0).setCell ⟨d, 1, none⟩ y1).setCell ⟨d, 2, none⟩ y2) d #[y0, y1, y2, x3, x4, x5, x6] T := h1.set 2 y2
  have h3 : BoxAt ((((Z.setCell ⟨d, 0, none⟩ y0).setCell ⟨d, 1, none⟩ y1).setCell ⟨d, 2, none⟩ y2).setCell ⟨d, 3, none⟩ y3) d #[y0, y1, y2, y3, x4, x5, x6] T := h2.set 3 y3
  have h4 : BoxAt (((((Z.setCell ⟨d, 0, none⟩ y0).setCell ⟨d, 1, none⟩ y1).setCell ⟨d, 2, none⟩ y2).setCell ⟨d, 3, none⟩ y3).setCell ⟨d, 4, none⟩ y4) d #[y0, y1, y2, y3, y4, x5, x6] T := h3.set 4 y4
  have h5 : BoxAt ((((((Z.setCell ⟨d, 0, none⟩ y0).setCell ⟨d, 1, none⟩ y1).setCell ⟨d, 2, none⟩ y2).setCell ⟨d, 3, none⟩ y3).setCell ⟨d, 4, none⟩ y4).setCell ⟨d, 5, none⟩ y5) d #[y0, y1, y2, y3, y4, y5, x6] T := h4.set 5 y5
  have h6 : BoxAt (((((((Z.setCell ⟨d, 0, none⟩ y0).setCell ⟨d, 1, none⟩ y1).setCell ⟨d, 2, none⟩ y2).setCell ⟨d, 3, none⟩ y3).setCell ⟨d, 4, none⟩ y4).setCell ⟨d, 5, none⟩ y5).setCell ⟨d, 6, none⟩ y6) d #[y0, y1, y2, y3, y4, y5, y6] T := h5.set 6 y6
  exact h6
theorem below7 {B : Nat} {w Z : World} {d : Nat} (h : Below B w Z) (hd : B ≤ d) (y0 y1 y2 y3 y4 y5 y6 : Value) : Below B w (((((((Z.setCell ⟨d, 0, none⟩ y0).setCell ⟨d, 1, none⟩ y1).setCell ⟨d, 2, none⟩ y2).setCell ⟨d, 3, none⟩ y3).setCell ⟨d, 4, none⟩ y4).setCell ⟨d, 5, none⟩ y5).setCell ⟨d, 6, none⟩ y6) :=
  (((((((h.setCell (p := ⟨d, 0, none⟩) hd y0).setCell (p := ⟨d, 1, none⟩) hd y1).setCell (p := ⟨d, 2, none⟩) hd y2).setCell (p := ⟨d, 3, none⟩) hd y3).setCell (p := ⟨d, 4, none⟩) hd y4).setCell (p := ⟨d, 5, none⟩) hd y5).setCell (p := ⟨d, 6, none⟩) hd y6)
theorem rowsG7 {α : Type} {n : Nat} {g : α → List Value} {Z : World} {a : Option Addr} {L : List α} {d : Nat} (h : RowsG n g Z a L) (hd : ∀ ad, a = some ad → ad.block ≠ d) (y0 y1 y2 y3 y4 y5 y6 : Value) : RowsG n g (((((((Z.setCell ⟨d, 0, none⟩ y0).setCell ⟨d, 1, none⟩ y1).setCell ⟨d, 2, none⟩ y2).setCell ⟨d, 3, none⟩ y3).setCell ⟨d, 4, none⟩ y4).setCell ⟨d, 5, none⟩ y5).setCell ⟨d, 6, none⟩ y6) a L :=
  (((((((h.set (p := ⟨d, 0, none⟩) hd y0).set (p := ⟨d, 1, none⟩) hd y1).set (p := ⟨d, 2, none⟩) hd y2).set (p := ⟨d, 3, none⟩) hd y3).set (p := ⟨d, 4, none⟩) hd y4).set (p := ⟨d, 5, none⟩) hd y5).set (p := ⟨d, 6, none⟩) hd y6)
set_option maxRecDepth 100000 in
set_option maxHeartbeats 2000000 in
theorem copyRun_any (x : Run) (a : Option Addr) (n c : Nat) (w : World) (hn : n = x.cols.length) (hX : RowsG 1 tx w a x.cols) (hl : x.cols.length ≤ 1000000) (hd : a = none → c = 0) :
    Calls Try.prog 20 #[.agg #[.string x.job, .int .i64 x.day, .int .i64 x.wanted, .int .i64 x.given, .slice a n c, .int .i64 x.ready, .int .i64 x.hour]] w (CopyRPost x n w) := by
  have HC := Lib.hid (fun W (h : RowsG 1 tx W a x.cols) => copyTexts_any a x.cols n c W hn h hl hd)
  unfold CopyRPost
  obtain ⟨job, day, wanted, given, cols, ready, hour⟩ := x
  dsimp only at HC hX ⊢
  have hb0 := ((Below.refl w.heap.size w).alloc (Nat.le_refl _) (.cells #[.string job, .int .i64 day, .int .i64 wanted, .int .i64 given, .slice a n c, .int .i64 ready, .int .i64 hour] 24)).alloc (by simp) (.cells #[.string ⟨#[]⟩, .int .i64 0, .int .i64 0, .int .i64 0, .slice none 0 0, .int .i64 0, .int .i64 0] 24)
  have bx := (BoxAt.new w #[.string job, .int .i64 day, .int .i64 wanted, .int .i64 given, .slice a n c, .int .i64 ready, .int .i64 hour] 24).alloc (.cells #[.string ⟨#[]⟩, .int .i64 0, .int .i64 0, .int .i64 0, .slice none 0 0, .int .i64 0, .int .i64 0] 24)
  have bz := BoxAt.new (w.alloc (.cells #[.string job, .int .i64 day, .int .i64 wanted, .int .i64 given, .slice a n c, .int .i64 ready, .int .i64 hour] 24)) #[.string ⟨#[]⟩, .int .i64 0, .int .i64 0, .int .i64 0, .slice none 0 0, .int .i64 0, .int .i64 0] 24
  rw [World.size_alloc] at bz
  have HX := Lib.hid ((hX.alloc (.cells #[.string job, .int .i64 day, .int .i64 wanted, .int .i64 given, .slice a n c, .int .i64 ready, .int .i64 hour] 24)).alloc (.cells #[.string ⟨#[]⟩, .int .i64 0, .int .i64 0, .int .i64 0, .slice none 0 0, .int .i64 0, .int .i64 0] 24))
  clear hX hn hl hd
  go_enter Try.func20, Try.ntmps20
  go_wp2_with (go_at_call 84; refine (HC.out _ HX.out).mono ?_; rintro e w1 ⟨a1, c1, rfl, hr1, hlo1, hnil1, hb1⟩; have BX := bx.below hb1; have BZ := bz.below hb1; have HB := Lib.hid (hb0.trans (hb1.mono hb0.size)); have HR := Lib.hid hr1; have HBZ := Lib.hid BZ; have HBX := Lib.hid BX; have k0 := BX.cell 0; have k1 := BX.cell 1; have k2 := BX.cell 2; have k3 := BX.cell 3; have k4 := BX.cell 4; have k5 := BX.cell 5; have k6 := BX.cell 6; have z4 : w1.frozen? ⟨w.heap.size, 4, none⟩ = false := BX.free 4; have l1 := BX.lt; have m0 := BZ.cell 0; have m1 := BZ.cell 1; have m2 := BZ.cell 2; have m3 := BZ.cell 3; have m4 := BZ.cell 4; have m5 := BZ.cell 5; have m6 := BZ.cell 6; have y0 := BZ.free 0; have y1 := BZ.free 1; have y2 := BZ.free 2; have y3 := BZ.free 3; have y4 := BZ.free 4; have y5 := BZ.free 5; have y6 := BZ.free 6; have l2 := BZ.lt; simp only [List.getElem?_toArray, List.getElem?_cons_zero, List.getElem?_cons_succ] at k0 k1 k2 k3 k4 k5 k6 m0 m1 m2 m3 m4 m5 m6; clear hb1 hr1 bx bz hb0 BX BZ)
  obtain ⟨Y, hY⟩ : ∃ Y, Y = ((((((((w1.setCell ⟨w.heap.size, 4, none⟩ (.slice a1 n c1)).setCell ⟨w.heap.size + 1, 0, none⟩ (.string job)).setCell ⟨w.heap.size + 1, 1, none⟩ (.int .i64 day)).setCell ⟨w.heap.size + 1, 2, none⟩ (.int .i64 wanted)).setCell ⟨w.heap.size + 1, 3, none⟩ (.int .i64 given)).setCell ⟨w.heap.size + 1, 4, none⟩ (.slice a1 n c1)).setCell ⟨w.heap.size + 1, 5, none⟩ (.int .i64 ready)).setCell ⟨w.heap.size + 1, 6, none⟩ (.int .i64 hour)) := ⟨_, rfl⟩
  have bY : BoxAt Y (w.heap.size + 1) #[.string job, .int .i64 day, .int .i64 wanted, .int .i64 given, .slice a1 n c1, .int .i64 ready, .int .i64 hour] 24 := by rw [hY]; exact box7 (HBZ.out.set_other (by show w.heap.size + 1 ≠ w.heap.size; omega) _) _ _ _ _ _ _ _
  have hlow : ∀ ad, a1 = some ad → w.heap.size + 2 ≤ ad.block := fun ad e => by have := hlo1 ad e; simpa using this
  have hR9 : RowsG 1 tx Y a1 cols := by
    rw [hY]
    exact rowsG7 (HR.out.set (p := ⟨w.heap.size, 4, none⟩) (fun ad e => by have h9 := hlow ad e; show ad.block ≠ w.heap.size; omega) _) (fun ad e => by have h9 := hlow ad e; omega) _ _ _ _ _ _ _
  have hB9 : Below w.heap.size w Y := by
    rw [hY]
    exact below7 (HB.out.setCell (p := ⟨w.heap.size, 4, none⟩) (Nat.le_refl _) _) (by omega) _ _ _ _ _ _ _
  rw [← hY]
  exact bodyPost_ret (res_run rfl rfl bY) rfl ⟨a1, c1, rfl, hR9, hnil1, hB9⟩
end Go.Proofs.Ytpplcbpnojggcaa
