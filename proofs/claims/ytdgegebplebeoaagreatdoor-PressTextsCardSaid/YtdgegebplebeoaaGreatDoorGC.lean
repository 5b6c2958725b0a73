/-
  Package press: BestOrder, when grow does what is wanted of it.
-/
import Derived.Test.YtdgegebplebeoaaGreatDoorGB
namespace Go.Proofs.YtdgegebplebeoaaGreatDoor
open Go.RowKit Go.Maps Go.Shelf

/-- What BestOrder returns: the order, what it takes, the error. -/
def bestOf (x : Cols) (c : Nat) : List Int × Int × Int := lstF (minsE x) (ordsL x.m.length c)
def BestPost (x : Cols) (c : Nat) (w : World) (e : Ending) (w' : World) : Prop :=
  (colsErr x ≠ 0 ∧ e = .returned (.tuple #[.slice none 0 0, .int .i64 0, .slice none 0 0, .int .i64 (colsErr x)]) ∧ Below w.heap.size w w') ∨
  (colsErr x = 0 ∧ ∃ v nv, e = .returned (.tuple #[v, .int .i64 (bestOf x c).2.1, nv, .int .i64 (bestOf x c).2.2]) ∧ OwnR 1 3 intL w' w.heap.size v (bestOf x c).1 ∧ Below w.heap.size w w')
theorem left_nil (n : Nat) : (leftK [] n).length = n := by
  induction n with
  | zero => rfl
  | succ n ih => unfold leftK; simp [ih]
set_option maxRecDepth 100000 in
set_option maxHeartbeats 4000000 in
theorem bestOrder_any (hG : GrowSays) (x : Cols) (c : Nat) (w : World) (hx : ColsAt w x) (hm : x.m.length ≤ maxLen) (hT : x.T.length ≤ maxLen) (hE : x.m.length ≤ 6 → OrdsEnd x.m.length c) :
    Calls Tryz.prog 16 #[x.v] w (BestPost x c w) := by
  have hb0 := (Below.refl w.heap.size w).alloc (Nat.le_refl _) (.cells #[.slice x.ma x.m.length x.mc, .slice x.da x.T.length x.dc] 55)
  have bx := BoxAt.new w #[.slice x.ma x.m.length x.mc, .slice x.da x.T.length x.dc] 55
  have HCC := Lib.hid (checkColours_any x (w.alloc (.cells #[.slice x.ma x.m.length x.mc, .slice x.da x.T.length x.dc] 55)) (hx.below hb0) hm hT)
  have HG := Lib.hid hG; have HX := Lib.hid hx; have HE := Lib.hid hE
  obtain ⟨ma, m, mc, da, T, dc⟩ := x
  unfold Cols.v at HCC ⊢
  dsimp only at HCC bx hb0 ⊢
  have HBX := Lib.hid bx; have HB0 := Lib.hid hb0
  clear hG hx hm hT hE bx hb0
  go_enter Tryz.func16, Tryz.ntmps16
  by_cases h0 : colsErr ⟨ma, m, mc, da, T, dc⟩ = 0
  · have H0 := Lib.hid h0
    have HOK := Lib.hid (cols_right h0)
    clear h0
    go_wp2_with (first | (go_at_call 42; refine HCC.out.mono ?_; rintro e w1 ⟨rfl, hb1⟩; rw [H0.out]; have b0 := (HBX.out.below hb1).cell 0; have b1 := (HBX.out.below hb1).cell 1; have hbl := (HBX.out.below hb1).lt; simp at b0 b1; have HB1 := Lib.hid (HB0.out.trans (hb1.mono HB0.out.size)); have HX1 := Lib.hid (HBX.out.below hb1); clear hb1))
    have hm6 : m.length ≤ 6 := HOK.out.le
    have HXW : Hid (∀ W, Below w1.heap.size w1 W → ColsAt W ⟨ma, m, mc, da, T, dc⟩) := Lib.hid (fun W hW => HX.out.below (HB1.out.trans (hW.mono HB1.out.size)))
    refine (leastOrder_any m.length c (minsE ⟨ma, m, mc, da, T, dc⟩) (.pointer (some ⟨w.heap.size, 0, none⟩)) w1 (HE.out hm6) (by omega) (fun O v B W hB hO hlen hin => best1_any ⟨ma, m, mc, da, T, dc⟩ w.heap.size B O v W (HX1.out.below hB) (HXW.out W hB) HOK.out hO (by omega) hin)).mono ?_
    rintro e w2 ⟨v, rfl, hO2, hb2⟩
    have HBE := Lib.hid (show bestOf ⟨ma, m, mc, da, T, dc⟩ c = lstF (minsE ⟨ma, m, mc, da, T, dc⟩) (ordsL m.length c) from rfl)
    obtain ⟨st, hst⟩ : ∃ st, st = lstF (minsE ⟨ma, m, mc, da, T, dc⟩) (ordsL m.length c) := ⟨_, rfl⟩
    rw [← hst] at hO2 HBE ⊢
    clear hst
    obtain ⟨F, le, er⟩ := st
    dsimp only at hO2 ⊢
    obtain ⟨va, vc, ev, -⟩ := hO2.rows int_l
    subst ev
    have hX2 := HX1.out.below hb2
    have d0 : w2.cell? ⟨w.heap.size, 0, none⟩ = some (.slice ma m.length mc) := hX2.cell 0
    have d1 : w2.cell? ⟨w.heap.size, 1, none⟩ = some (.slice da T.length dc) := hX2.cell 1
    have dl := hX2.lt
    have HO2 := Lib.hid hO2; have HB2 := Lib.hid hb2; have HC2 := Lib.hid (HXW.out w2 hb2)
    clear hO2 hb2 hX2 b0 b1 hbl
    have HTS := Lib.hid (fun (bnd : Int) => (⟨BoxAt.new w2 #[.slice ma m.length mc, .slice da T.length dc, .int .i64 bnd, .slice none 0 0, .slice none 0 0] 91, OwnR.nil _ _, World.ownsRow_nil _ _ _ _, (Below.refl w2.heap.size w2).alloc (Nat.le_refl _) _, Nat.le_refl _⟩ : TS w2 (w2.alloc (.cells #[.slice ma m.length mc, .slice da T.length dc, .int .i64 bnd, .slice none 0 0, .slice none 0 0] 91)) w2.heap.size ⟨ma, m, mc, da, T, dc⟩ bnd [] 0 (.slice none 0 0) (.slice none 0 0) []))
    have hcn := cnt_le m.length hm6
    have HGR := Lib.hid (fun (bnd : Int) => HG.out w2 _ w2.heap.size ⟨ma, m, mc, da, T, dc⟩ bnd [] 0 (.slice none 0 0) (.slice none 0 0) [] (HTS.out bnd) HC2.out HOK.out (by rw [left_nil]; simp; exact hm6) (by simp) (by rw [left_nil]; show 0 + cntN m.length ≤ 1000000; omega))
    have HFIN := Lib.hid (show ∀ (bnd : Int) (W' : World) nv' ov' xs' m', TS w2 W' w2.heap.size ⟨ma, m, mc, da, T, dc⟩ bnd [] m' nv' ov' xs' → ∀ nq, BestPost ⟨ma, m, mc, da, T, dc⟩ c w (.returned (.tuple #[.slice va F.length vc, .int .i64 le, nv', .int .i64 er])) (W'.drewN nq) from fun bnd W' nv' ov' xs' m' ht nq => by
      refine Or.inr ⟨H0.out, .slice va F.length vc, nv', by rw [HBE.out], ?_, ?_⟩
      · rw [HBE.out]
        exact ((HO2.out.below ht.low).drewN nq).mono HB1.out.size
      · exact below_drewN ((HB1.out.trans (HB2.out.mono HB1.out.size)).trans (ht.low.mono (Nat.le_trans HB1.out.size HB2.out.size))) nq)
    by_cases he : er = 0
    · have he' : (er == 0) = true := by simpa using he
      clear he hcn
      go_wp2_with (go_at_call 46; refine (HGR.out le).mono ?_; rintro e w3 ⟨⟨r, rfl⟩, nv', ov', xs', m', ht3, -⟩; have g3 : w3.cell? ⟨w2.heap.size, 3, none⟩ = some nv' := ht3.box.cell 3; have gl := ht3.box.lt; have HT3 := Lib.hid ht3; clear ht3)
      go_quiet (fail)
      go_wp2
      (try simp only [Exit.inBlock, Exit.then]); refine bodyPost_ret (results_tmp4 rfl _ _ _) rfl ?_
      exact HFIN.out _ _ _ _ _ _ HT3.out _
    · have he' : (er == 0) = false := by simpa using he
      clear he hcn
      go_wp2_with (go_at_call 46; refine (HGR.out 1000000).mono ?_; rintro e w3 ⟨⟨r, rfl⟩, nv', ov', xs', m', ht3, -⟩; have g3 : w3.cell? ⟨w2.heap.size, 3, none⟩ = some nv' := ht3.box.cell 3; have gl := ht3.box.lt; have HT3 := Lib.hid ht3; clear ht3)
      go_quiet (fail)
      go_wp2
      (try simp only [Exit.inBlock, Exit.then]); refine bodyPost_ret (results_tmp4 rfl _ _ _) rfl ?_
      exact HFIN.out _ _ _ _ _ _ HT3.out _
  · have HJ := Lib.hid h0
    have h0' : (colsErr ⟨ma, m, mc, da, T, dc⟩ == 0) = false := by simpa using h0
    clear h0
    go_wp2_with (go_at_call 42; refine HCC.out.mono ?_; rintro e w1 ⟨rfl, hb1⟩)
    (try simp only [Exit.inBlock, Exit.then]); refine bodyPost_ret (results_tmp4 rfl _ _ _) rfl ?_
    exact Or.inl ⟨HJ.out, rfl, HB0.out.trans (hb1.mono HB0.out.size)⟩
end Go.Proofs.YtdgegebplebeoaaGreatDoor
