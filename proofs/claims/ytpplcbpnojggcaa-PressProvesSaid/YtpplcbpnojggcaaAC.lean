/-
  Package press: a copy of colours, their check by the reference, OrderMinutes, few colours.
-/
import Derived.Test.YtpplcbpnojggcaaAA
import Derived.Test.YtpplcbpnojggcaaAB
import Derived.Test.YtpplcbpnojggcaaGC
import Derived.Laws.Rows
namespace Go.Proofs.Ytpplcbpnojggcaa
open Go.RowKit Go.Maps Go.Shelf

theorem info_cols : (Try.prog.info? 78).map (·.size) = some 2 := by kernel_rfl
theorem res_cols {fn : Func} {p : Tmp} {tmps : Array Value} {Y : World} {d : Nat} {T : TypeId} {x0 x1 : Value} (hf : fn.results = #[.cell p 78]) (hp : tmps.getD p undef = .pointer (some ⟨d, 0, none⟩)) (h : BoxAt Y d #[x0, x1] T) :
    (results fn tmps).run Try.prog Y = .ok (.agg #[x0, x1]) Y := by
  have hl : (loadVar 78 ⟨d, 0, none⟩).run Try.prog Y = .ok (.agg #[x0, x1]) Y := run_loadVar_row (P := Try.prog) Y d T 78 _ (0, 0) _ h Try.underlying78 rfl info_cols
  have hp' : tmps[p]?.getD undef = .pointer (some ⟨d, 0, none⟩) := by simpa using hp
  simp only [results, hf]
  simp [hp', asAddr, hl]
/-- Colours that read the same. -/
structure SameC (x y : Cols) : Prop where
  m : y.m = x.m
  t : y.T.map (·.l) = x.T.map (·.l)
theorem tab_getD {T : List PR} (e : Nat) : (T.getD e noPR).l = (T.map (·.l)).getD e [] := by
  rw [List.getD_eq_getElem?_getD, List.getD_eq_getElem?_getD, List.getElem?_map]
  cases T[e]? <;> rfl
theorem SameC.len {x y : Cols} (h : SameC x y) : y.T.length = x.T.length := by
  have := congrArg List.length h.t; simpa using this
theorem SameC.dry {x y : Cols} (h : SameC x y) (e c : Nat) : dryI y e c = dryI x e c := by
  unfold dryI; rw [tab_getD, tab_getD, h.t]
theorem SameC.beg {x y : Cols} (h : SameC x y) (O E : List Int) (c : Nat) (e0 : Int) : ∀ k, begK y O E c e0 k = begK x O E c e0 k
  | 0 => rfl
  | k + 1 => by unfold begK; rw [h.beg O E c e0 k, h.dry]
theorem SameC.clashK {x y : Cols} (h : SameC x y) (O : List Int) (c : Nat) : ∀ k, clashK y O c k = clashK x O c k
  | 0 => rfl
  | k + 1 => by unfold Proofs.Ytpplcbpnojggcaa.clashK; rw [h.clashK O c k, h.dry]
theorem SameC.ord {x y : Cols} (h : SameC x y) (O : List Int) : ∀ k, ordK y O k = ordK x O k
  | 0 => rfl
  | k + 1 => by unfold ordK; rw [h.ord O k, h.beg, h.m]
theorem SameC.clashO {x y : Cols} (h : SameC x y) (O : List Int) : ∀ k, clashO y O k = clashO x O k
  | 0 => rfl
  | k + 1 => by unfold Proofs.Ytpplcbpnojggcaa.clashO; rw [h.clashO O k, h.clashK]
theorem SameC.mins {x y : Cols} (h : SameC x y) (O : List Int) : minsE y O = minsE x O := by
  unfold minsE; rw [h.clashO, h.ord]
theorem rowsE_map {n : Nat} {least : Int} : ∀ {T T' : List PR}, T'.map (·.l) = T.map (·.l) → rowsE n least T' = rowsE n least T
  | [], [], _ => rfl
  | [], _ :: _, h => by cases h
  | _ :: _, [], h => by cases h
  | x :: T, y :: T', h => by
    have h1 : y.l = x.l := by simpa using (List.cons.inj h).1
    have h2 : T'.map (·.l) = T.map (·.l) := (List.cons.inj h).2
    unfold rowsE
    rw [h1, rowsE_map h2]
theorem SameC.err {x y : Cols} (h : SameC x y) : colsErr y = colsErr x := by
  unfold colsErr; rw [h.m, h.len, rowsE_map h.t]
def CCPost (x : Cols) (w : World) (e : Ending) (w' : World) : Prop := ∃ y : Cols, e = .returned y.v ∧ SameC x y ∧ ColsAt w' y ∧ Below w.heap.size w w'
set_option maxRecDepth 100000 in
set_option maxHeartbeats 4000000 in
theorem copyColours_any (x : Cols) (w : World) (hx : ColsAt w x) (hm : x.m.length ≤ 1000000) (hT : x.T.length ≤ 1000) (hmn : x.ma = none → x.mc = 0) (hsz : ∀ r ∈ x.T, r.l.length ≤ 1000000) (hd : ∀ r ∈ x.T, r.a = none → r.c = 0) :
    Calls Try.prog 46 #[x.v] w (CCPost x w) := by
  have HCI := Lib.hid (fun W (h : RowsAt 1 intL W x.ma x.m) => copyInts_any x.ma x.m x.m.length x.mc W rfl h hm hmn)
  have HCL := Lib.hid (fun W (h : TabAt W x.da x.T) => copyLists_any x.da x.T x.T.length x.dc W rfl h hT hsz hd)
  obtain ⟨x, ex⟩ : ∃ x', x' = x := ⟨x, rfl⟩
  obtain ⟨ma, m, mc, da, T, dc⟩ := x
  rw [← ex] at HCI HCL hx ⊢
  clear ex hm hT hmn hsz hd
  unfold Cols.v
  dsimp only at HCI HCL ⊢
  have hb0 := ((Below.refl w.heap.size w).alloc (Nat.le_refl _) (.cells #[.slice ma m.length mc, .slice da T.length dc] 78)).alloc (by simp) (.cells #[.slice none 0 0, .slice none 0 0] 78)
  have bx := (BoxAt.new w #[.slice ma m.length mc, .slice da T.length dc] 78).alloc (.cells #[.slice none 0 0, .slice none 0 0] 78)
  have bz := BoxAt.new (w.alloc (.cells #[.slice ma m.length mc, .slice da T.length dc] 78)) #[.slice none 0 0, .slice none 0 0] 78
  rw [World.size_alloc] at bz
  have HX := Lib.hid (hx.below hb0)
  clear hx
  go_enter Try.func46, Try.ntmps46
  go_wp2_with fail
  obtain ⟨w0, hw0⟩ : ∃ w0, w0 = (w.alloc (.cells #[.slice ma m.length mc, .slice da T.length dc] 78)).alloc (.cells #[.slice none 0 0, .slice none 0 0] 78) := ⟨_, rfl⟩
  rw [← hw0] at hb0 bx bz HX ⊢
  clear hw0
  have k0 : w0.cell? ⟨w.heap.size, 0, none⟩ = some (.slice ma m.length mc) := bx.cell 0
  have k1 : w0.cell? ⟨w.heap.size, 1, none⟩ = some (.slice da T.length dc) := bx.cell 1
  have lx := bx.lt
  have lz := bz.lt
  have HBX := Lib.hid bx; have HBZ := Lib.hid bz; have HB0 := Lib.hid hb0
  clear bx bz hb0
  go_region_held3 (fun w' => w'.cell? ⟨w.heap.size, 0, none⟩ = some (.slice ma m.length mc) ∧ w'.cell? ⟨w.heap.size, 1, none⟩ = some (.slice da T.length dc)) (go_keep)
    ((first | (go_at_call 47; refine (HCI.out _ HX.out.mins.drew).mono ?_; rintro e w1 ⟨v1, rfl, hO1, hb1⟩; obtain ⟨a1, c1, e1, -⟩ := hO1.rows int_l; subst e1; have k0 : w1.cell? ⟨w.heap.size, 0, none⟩ = some (.slice ma m.length mc) := (HBX.out.drew.below hb1).cell 0; have k1 : w1.cell? ⟨w.heap.size, 1, none⟩ = some (.slice da T.length dc) := (HBX.out.drew.below hb1).cell 1; skip) | (go_at_call 71; refine (HCL.out _ (HX.out.tab.drew.below hb1)).mono ?_; rintro e w2 ⟨a2, c2, T2, rfl, hT2, hA2, hn2, hN2, hG2, hb2⟩; have k0 : w2.cell? ⟨w.heap.size, 0, none⟩ = some (.slice ma m.length mc) := ((HBX.out.drew.below hb1).below hb2).cell 0; have k1 : w2.cell? ⟨w.heap.size, 1, none⟩ = some (.slice da T.length dc) := ((HBX.out.drew.below hb1).below hb2).cell 1; have BZ2 := (HBZ.out.drew.below hb1).below hb2; have f0 : w2.frozen? ⟨w.heap.size + 1, 0, none⟩ = false := BZ2.free 0; have f1 : w2.frozen? ⟨w.heap.size + 1, 1, none⟩ = false := BZ2.free 1; have g0 : w2.cell? ⟨w.heap.size + 1, 0, none⟩ = some (.slice none 0 0) := BZ2.cell 0; have g1 : w2.cell? ⟨w.heap.size + 1, 1, none⟩ = some (.slice none 0 0) := BZ2.cell 1; have l2 := BZ2.lt; skip)))
  obtain ⟨Y, hY⟩ : ∃ Y, Y = ((w2.setCell ⟨w.heap.size + 1, 0, none⟩ (.slice a1 m.length c1)).setCell ⟨w.heap.size + 1, 1, none⟩ (.slice a2 T2.length c2)) := ⟨_, rfl⟩
  have bY : BoxAt Y (w.heap.size + 1) #[.slice a1 m.length c1, .slice a2 T2.length c2] 78 := by rw [hY]; exact (BZ2.set 0 (.slice a1 m.length c1)).set 1 (.slice a2 T2.length c2)
  have hz0 : w0.drew.heap.size = w0.heap.size := rfl
  have hz1 := hb1.size
  have hO2 := hO1.below hb2
  have hne : (Value.slice a1 m.length c1).ownBlock ≠ some (w.heap.size + 1) := fun e => by have := (hO1.lt _ e).1; omega
  have hOY : OwnR 1 3 intL Y w0.drew.heap.size (.slice a1 m.length c1) m := by rw [hY]; exact (hO2.set (p := ⟨w.heap.size + 1, 0, none⟩) hne _).set (p := ⟨w.heap.size + 1, 1, none⟩) hne _
  have hTY : TabAt Y a2 T2 := by rw [hY]; exact (hA2.set hG2 (p := ⟨w.heap.size + 1, 0, none⟩) (by show w.heap.size + 1 < w1.heap.size; omega) _).set hG2 (p := ⟨w.heap.size + 1, 1, none⟩) (by show w.heap.size + 1 < w1.heap.size; omega) _
  have hBY : Below w.heap.size w Y := by
    rw [hY]
    exact (((HB0.out.drew.trans (hb1.mono (by omega))).trans (hb2.mono (by omega))).setCell (p := ⟨w.heap.size + 1, 0, none⟩) (by show w.heap.size ≤ w.heap.size + 1; omega) _).setCell (p := ⟨w.heap.size + 1, 1, none⟩) (by show w.heap.size ≤ w.heap.size + 1; omega) _
  rw [← hY]
  obtain ⟨a3, c3, e3, hr3, -⟩ := hOY.rows int_l
  injection e3 with e4 _ e5
  subst e4; subst e5
  have HF := Lib.hid (show CCPost ⟨ma, m, mc, da, T, dc⟩ w (.returned (.agg #[.slice a1 m.length c1, .slice a2 T2.length c2])) Y from ⟨⟨a1, m, c1, a2, T2, c2⟩, rfl, ⟨rfl, hT2⟩, ⟨hr3, hTY⟩, hBY⟩)
  clear hY hz0 hz1 hO2 hne hOY hTY hBY hr3 hT2 hA2 hn2 hN2 hG2 hb2 BZ2 hO1 hb1
  go_wp2
  (try simp only [Exit.inBlock, Exit.then]); refine bodyPost_ret (res_cols rfl rfl bY) rfl HF.out
set_option maxRecDepth 100000 in
set_option maxHeartbeats 4000000 in
theorem refCheckColours_any (x : Cols) (w : World) (hx : ColsAt w x) (hm : x.m.length ≤ maxLen) (hT : x.T.length ≤ maxLen) (hsz : ∀ r ∈ x.T, r.l.length ≤ maxLen) :
    Calls Try.prog 48 #[x.v] w (CheckPost (colsErr x) w) := by
  obtain ⟨ma, m, mc, da, T, dc⟩ := x
  have hm : m.length ≤ maxLen := hm
  have hT : T.length ≤ maxLen := hT
  have HSZ := Lib.hid (show ∀ r ∈ T, r.l.length ≤ maxLen from hsz)
  unfold maxLen at hm hT
  show Calls _ _ #[.agg #[.slice ma m.length mc, .slice da T.length dc]] _ _
  have bx := BoxAt.new w #[.slice ma m.length mc, .slice da T.length dc] 78
  have hb := (Below.refl w.heap.size w).alloc (Nat.le_refl _) (.cells #[.slice ma m.length mc, .slice da T.length dc] 78)
  have hx2 := hx.below hb
  have HM := Lib.hid hx2.mins; have HT := Lib.hid hx2.tab
  have HDEF := Lib.hid (show colsErr ⟨ma, m, mc, da, T, dc⟩ = if 6 < m.length then 8 else if m.all (fun y => inB y 0 10000) = false then 2 else if T.length ≠ m.length then 10 else rowsE T.length (-1) T from rfl)
  obtain ⟨ce, hce⟩ : ∃ ce, ce = colsErr ⟨ma, m, mc, da, T, dc⟩ := ⟨_, rfl⟩
  rw [← hce] at HDEF ⊢
  clear hx hx2 hce hsz
  go_enter Try.func48, Try.ntmps48
  by_cases h1 : 6 < m.length
  · have HE := Lib.hid (show ce = 8 by rw [HDEF.out, if_pos h1])
    have h1' : (6 : Int) < (m.length : Int) := by omega
    clear h1
    go_wp2_with fail
    go_ret
    exact ⟨ret_int HE.out.symm, hb⟩
  have h1' : ¬ (6 : Int) < (m.length : Int) := by omega
  have HDEF1 := Lib.hid (show ce = if m.all (fun y => inB y 0 10000) = false then 2 else if T.length ≠ m.length then 10 else rowsE T.length (-1) T by rw [HDEF.out, if_neg h1])
  go_wp2_with fail
  clear h1'
  obtain ⟨w0, hw0⟩ : ∃ w0, w0 = w.alloc (.cells #[.slice ma m.length mc, .slice da T.length dc] 78) := ⟨_, rfl⟩
  rw [← hw0] at bx hb HM HT ⊢
  clear hw0
  have k0 : w0.cell? ⟨w.heap.size, 0, none⟩ = some (.slice ma m.length mc) := bx.cell 0
  have k1 : w0.cell? ⟨w.heap.size, 1, none⟩ = some (.slice da T.length dc) := bx.cell 1
  have lx := bx.lt
  have HB := Lib.hid hb
  clear bx hb
  go_loop [4] (fun i => ∃ k : Nat, k ≤ m.length ∧ i = .int .i64 k ∧ Hid (m.all (fun x => inB x 0 10000) = (m.drop k).all (fun x => inB x 0 10000))) (fun i => m.length - (intOf i).toNat)
  case atStart => exact ⟨0, Nat.zero_le _, rfl, Lib.hid rfl⟩
  case round =>
    obtain ⟨k, hk, rfl, HR⟩ := hrel
    by_cases hlt : k < m.length
    · obtain ⟨ad, rfl, had, s0⟩ := HM.out.int hlt
      have HAL := Lib.hid (all_step (α := Int) (p := fun x => inB x 0 10000) hlt)
      obtain ⟨y, ey⟩ : ∃ y, y = m[k] := ⟨_, rfl⟩
      rw [← ey] at s0 HAL
      have hkl : (k : Int) < (m.length : Int) := by omega
      clear ey
      cases hin : inB y 0 10000
      · have HE := Lib.hid (show ce = 2 by rw [HDEF1.out, if_pos (by rw [HR.out, HAL.out, hin]; rfl)])
        go_wp2_with (go_at_call 30; refine (within_any _ _ _ _).mono ?_; rintro e w' ⟨rfl, rfl⟩)
        go_ret
        exact ⟨ret_int HE.out.symm, HB.out⟩
      · have HIN := Lib.hid hin
        go_wp2_with (go_at_call 30; refine (within_any _ _ _ _).mono ?_; rintro e w' ⟨rfl, rfl⟩; rw [HIN.out])
        go_round
        case rel => exact ⟨k + 1, by omega, by go_num, Lib.hid (by rw [HR.out, HAL.out, HIN.out]; rfl)⟩
        case measure => simp [intOf]; omega
    · have HALL := Lib.hid (show m.all (fun x => inB x 0 10000) = true by rw [HR.out]; exact all_stop hlt)
      have HDEF2 := Lib.hid (show ce = if T.length ≠ m.length then 10 else rowsE T.length (-1) T by rw [HDEF1.out, if_neg (by rw [HALL.out]; decide)])
      obtain rfl : k = m.length := by omega
      by_cases h3 : T.length = m.length
      · have HDEF3 := Lib.hid (show ce = rowsE T.length (-1) T by rw [HDEF2.out, if_neg (by simp [h3])])
        have h3' : ((T.length : Int) != (m.length : Int)) = false := by simp [h3]
        have H3 := Lib.hid h3
        clear h3
        go_wp2_with fail
        clear h3'
        go_loop [5] (fun i => ∃ k : Nat, k ≤ m.length ∧ i = .int .i64 k ∧ Hid (rowsE T.length (-1) T = rowsE T.length (-1) (T.drop k))) (fun i => m.length - (intOf i).toNat)
        case atStart => exact ⟨0, Nat.zero_le _, rfl, Lib.hid rfl⟩
        case round =>
          obtain ⟨k, hk, rfl, HR⟩ := hrel
          by_cases hlt2 : k < m.length
          · have hlt : k < T.length := by have := H3.out; omega
            have hkT : (k : Int) < (T.length : Int) := by omega
            obtain ⟨ad, ra, rl, rc, rfl, had, s0, hrow, hrr⟩ := HT.out.pick hlt
            have HST := Lib.hid (fun h => rowsE_stop (n := T.length) (least := -1) hlt h)
            have HGO := Lib.hid (fun h => rowsE_go (n := T.length) (least := -1) hlt h)
            have hrz : rl.length ≤ maxLen := by have := HSZ.out _ (List.getElem_mem hlt); rw [hrr] at this; exact this
            rw [hrr] at HST HGO
            dsimp only at HST HGO
            have HRW := Lib.hid hrow
            unfold maxLen at hrz
            clear hrr hrow
            by_cases hx : rl.length = m.length
            · have hx' : ((rl.length : Int) != (m.length : Int)) = false := by simp [hx]
              have HX := Lib.hid hx
              clear hx
              go_wp2_with fail
              clear hx'
              go_loop [6] (fun i => ∃ j : Nat, j ≤ m.length ∧ i = .int .i64 j ∧ Hid (rl.all (fun x => inB x (-1) 10000) = (rl.drop j).all (fun x => inB x (-1) 10000))) (fun i => m.length - (intOf i).toNat)
              case atStart => exact ⟨0, Nat.zero_le _, rfl, Lib.hid rfl⟩
              case round =>
                obtain ⟨j, hj, rfl, HJ⟩ := hrel
                by_cases hjm : j < m.length
                · have hjl : j < rl.length := by have := HX.out; omega
                  have hjl' : (j : Int) < (rl.length : Int) := by omega
                  obtain ⟨ad2, rfl, had2, s2⟩ := HRW.out.int hjl
                  have HAL := Lib.hid (all_step (α := Int) (p := fun x => inB x (-1) 10000) hjl)
                  obtain ⟨y, ey⟩ : ∃ y, y = rl[j] := ⟨_, rfl⟩
                  rw [← ey] at s2 HAL
                  clear ey
                  cases hin : inB y (-1) 10000
                  · have HE := Lib.hid (show ce = 2 by
                      have h1 : rowErr T.length (-1) rl = 2 := by unfold rowErr; rw [if_neg (by have := HX.out; have := H3.out; omega), if_neg (by rw [HJ.out, HAL.out, hin]; simp)]
                      rw [HDEF3.out, HR.out, HST.out (by rw [h1]; decide), h1])
                    go_wp2_with (go_at_call 30; refine (within_any _ _ _ _).mono ?_; rintro e w' ⟨rfl, rfl⟩)
                    go_ret
                    exact ⟨ret_int HE.out.symm, HB.out⟩
                  · have HIN := Lib.hid hin
                    go_wp2_with (go_at_call 30; refine (within_any _ _ _ _).mono ?_; rintro e w' ⟨rfl, rfl⟩; rw [HIN.out])
                    go_round
                    case rel => exact ⟨j + 1, by omega, by go_num, Lib.hid (by rw [HJ.out, HAL.out, HIN.out]; rfl)⟩
                    case measure => simp [intOf]; omega
                · have HE := Lib.hid (show rowErr T.length (-1) rl = 0 by unfold rowErr; rw [if_neg (by have := HX.out; have := H3.out; omega), if_pos (by rw [HJ.out]; exact all_stop (by have := HX.out; omega))])
                  go_wp2
                  go_round
                  case rel => exact ⟨k + 1, by omega, by go_num, Lib.hid (by rw [HR.out, HGO.out HE.out])⟩
                  case measure => simp [intOf]; omega
            · have hx' : ((rl.length : Int) != (m.length : Int)) = true := by simp; omega
              have HE := Lib.hid (show ce = 10 by
                have h1 : rowErr T.length (-1) rl = 10 := by unfold rowErr; rw [if_pos (by have := H3.out; omega)]
                rw [HDEF3.out, HR.out, HST.out (by rw [h1]; decide), h1])
              clear hx
              go_wp2
              go_ret
              exact ⟨ret_int HE.out.symm, HB.out⟩
          · have HE := Lib.hid (show ce = 0 by rw [HDEF3.out, HR.out, List.drop_of_length_le (by have := H3.out; omega)]; rfl)
            go_wp2
            go_ret
            exact ⟨ret_int HE.out.symm, HB.out⟩
      · have HE := Lib.hid (show ce = 10 by rw [HDEF2.out, if_pos h3])
        have h3' : ((T.length : Int) != (m.length : Int)) = true := by simp; omega
        clear h3
        go_wp2_with fail
        go_ret
        exact ⟨ret_int HE.out.symm, HB.out⟩
end Go.Proofs.Ytpplcbpnojggcaa
