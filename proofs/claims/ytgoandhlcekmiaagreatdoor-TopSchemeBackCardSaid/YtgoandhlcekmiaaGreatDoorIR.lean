/-
  Package impose: SchemeOf.
-/
import Derived.Test.YtgoandhlcekmiaaGreatDoorKE
namespace Go.Proofs.YtgoandhlcekmiaaGreatDoor
open Go.RowKit

def schemeC (C R : Int) (L : List Fold) : List Cell := if (checkFo C R L).2 = 0 then schemeP C R L else []
def schemeD (C R : Int) (L : List Fold) : Int × Int := if (checkFo C R L).2 = 0 then (C, R) else (0, 0)
def SchemePost (w : World) (C R : Int) (L : List Fold) (e : Ending) (w' : World) : Prop :=
  ∃ (a : Option Addr) (n c : Nat), e = .returned (.tuple #[.agg #[.int .i64 (schemeD C R L).1, .int .i64 (schemeD C R L).2, .slice a n c], .int .i64 (checkFo C R L).2]) ∧ n = (schemeC C R L).length ∧ RowsAt 4 Cell.l w' a (schemeC C R L) ∧ (a = none → c = 0) ∧ Below w.heap.size w w'
theorem scheme_ret {a : Option Addr} {n c : Nat} {C R E : Int} {D : Int × Int} {F : Int} (h : D = (C, R)) (h2 : F = E) : Ending.returned (.tuple #[.agg #[.int .i64 C, .int .i64 R, .slice a n c], .int .i64 E]) = .returned (.tuple #[.agg #[.int .i64 D.1, .int .i64 D.2, .slice a n c], .int .i64 F]) := by rw [h, h2]
set_option maxRecDepth 100000 in
set_option maxHeartbeats 4000000 in
theorem schemeOf_any (C R : Int) (a : Option Addr) (L : List Fold) (c : Nat) (w : World) (hL : RowsAt 2 Fold.l w a L) (hl : L.length ≤ maxLen) (hI : ∀ x ∈ L, OkI x.c) :
    Calls Tryz.prog 6 #[.agg #[.int .i64 C, .int .i64 R], .slice a L.length c] w (SchemePost w C R L) := by
  by_cases h1 : (checkFo C R L).2 = 0
  · have HE := Lib.hid (show schemeC C R L = schemeP C R L ∧ pileE C R L = pileP C R L ∧ schemeD C R L = (C, R) by unfold schemeC pileE schemeD; rw [if_pos h1, if_pos h1, if_pos h1]; exact ⟨rfl, rfl, rfl⟩)
    obtain ⟨hs, hl12, hfe⟩ := checkFo_ok h1
    obtain ⟨sC, sR, sm⟩ := side_ok hs
    have hpl := pileP_len h1
    have hpi := pileP_in (L := L) sC.1 sR.1
    obtain ⟨cn, rfl⟩ : ∃ n : Nat, C = n := ⟨C.toNat, by omega⟩
    obtain ⟨rn, rfl⟩ : ∃ n : Nat, R = n := ⟨R.toNat, by omega⟩
    have hC8 : 1 ≤ cn ∧ cn ≤ 8 := by omega
    have hR8 : 1 ≤ rn ∧ rn ≤ 8 := by omega
    rw [Int.toNat_natCast, Int.toNat_natCast] at hpl
    have H1 := Lib.hid h1; have HC8 := Lib.hid hC8; have HR8 := Lib.hid hR8
    have hpp := fun W hW => pile_any (cn : Int) (rn : Int) a L c W hW hl hI
    obtain ⟨l, hle⟩ : ∃ l, l = pileP cn rn L := ⟨_, rfl⟩
    have HL := Lib.hid hle
    rw [← hle] at hpl hpi
    obtain ⟨N, hN⟩ : ∃ N : Nat, cn * rn = N := ⟨_, rfl⟩
    have hN64 : N ≤ 64 := by rw [← hN]; exact Nat.mul_le_mul hC8.2 hR8.2
    rw [hN] at hpl
    have hmk := fun W => run_make_rowX (t := 27) Tryz.underlying27 info_cell .i64 .i64 N (by omega) (by omega) W
    have hz4 : (Value.agg #[.int .i64 0, .int .i64 0, .int .i64 0, .int .i64 0]).cells = #[.int .i64 0, .int .i64 0, .int .i64 0, .int .i64 0] := rfl
    rw [hz4] at hmk
    have HN := Lib.hid hN; have HPL := Lib.hid hpl; have HPI := Lib.hid hpi; have HPP := Lib.hid hpp
    have HSC : Hid (schemeC cn rn L = cellsP cn N l l.length) := Lib.hid (by rw [HE.out.1, HL.out]; unfold schemeP; rw [Int.toNat_natCast, Int.toNat_natCast, hN])
    clear h1 hfe sC sR sm hC8 hR8 hs hpl hpi hle hpp hN hz4 hI
    go_enter Tryz.func6, Tryz.ntmps6
    go_wp2_with fail
    refine (HPP.out _ ((hL.alloc _).alloc _)).mono ?_
    rintro e w1 ⟨a1, n1, c1, rfl, hn1, hr1, hnil1, hb1⟩
    have hB1 := (((Below.refl w.heap.size w).alloc (Nat.le_refl _) (.cells #[.int .i64 cn, .int .i64 rn] 22)).alloc (by simp) (.cells #[.int .i64 0, .int .i64 0, .slice none 0 0] 29)).trans (hb1.mono (B' := w.heap.size) (by simp; omega))
    have br1 := (BoxAt.new (w.alloc (.cells #[.int .i64 cn, .int .i64 rn] 22)) #[.int .i64 0, .int .i64 0, .slice none 0 0] 29).below hb1
    have bx1 := ((BoxAt.new w #[.int .i64 cn, .int .i64 rn] 22).alloc (.cells #[.int .i64 0, .int .i64 0, .slice none 0 0] 29)).below hb1
    simp at br1
    have hle1 : pileE cn rn L = l := by rw [HE.out.2.1, HL.out]
    rw [hle1] at hn1 hr1
    have hne1 : Hid (n1 = l.length) := hn1
    have hlbr := br1.lt
    have c0 := bx1.cell 0; have c1' := bx1.cell 1
    have hbl := bx1.lt
    simp at c0 c1'
    rw [H1.out]
    clear hb1 hn1 hle1 hL
    go_wp2_with fail
    refine (sizeOf_any _ _ _).mono ?_
    rintro e w2 ⟨rfl, hb2⟩
    have hsz2 := hb2.size
    obtain ⟨bs, hbs⟩ : ∃ bs, w2.heap.size = bs := ⟨_, rfl⟩
    rw [hbs] at hsz2
    go_wp2_with fail
    refine (cells_any (cn : Int) (rn : Int) (N : Int) _ (by rw [← HN.out, Int.natCast_mul]) (by have := HN.out; rw [← Int.natCast_mul]; omega) (by have := HN.out; rw [← Int.natCast_mul]; omega)).mono ?_
    rintro e w3 ⟨rfl, hb3⟩
    have bs3 := (BoxAt.new w2 #[.int .i64 cn, .int .i64 rn] 73).below hb3
    have hb13 := (hb2.alloc hb2.size (.cells #[.int .i64 cn, .int .i64 rn] 73)).trans (hb3.mono (B' := w1.heap.size) (by simp; omega))
    rw [hbs] at bs3
    have hsz3 := bs3.lt
    obtain ⟨g, hg⟩ : ∃ g, w3.heap.size = g := ⟨_, rfl⟩
    rw [hg] at hsz3
    clear c0 c1' hbl hb2 hb3 bx1
    go_wp2_with fail
    have O0 : OwnR 4 57 Cell.l (w3.alloc (.cells (madeCells #[.int .i64 0, .int .i64 0, .int .i64 0, .int .i64 0] (N * 4)) 57)) g (.slice (some ⟨g, 0, none⟩) N N) (cellsP cn N l 0) := by
      have := OwnR.made4 (E := 57) cell_l w3 ⟨0, 0, 0, 0⟩ rfl N (by omega)
      rw [hg] at this; exact this
    have bs4 := bs3.alloc (.cells (madeCells #[.int .i64 0, .int .i64 0, .int .i64 0, .int .i64 0] (N * 4)) 57)
    have hb14 := hb13.alloc hb13.size (.cells (madeCells #[.int .i64 0, .int .i64 0, .int .i64 0, .int .i64 0] (N * 4)) 57)
    have HBS := Lib.hid hbs; have HG := Lib.hid hg
    have hw1g : w1.heap.size ≤ g := by omega
    have hl64 : l.length ≤ 64 := by rw [HPL.out]; exact hN64
    clear hbs hg
    go_loopw [31] (fun i wr => ∃ k : Nat, k ≤ l.length ∧ i = .int .i64 k ∧ OwnR 4 57 Cell.l wr g (.slice (some ⟨g, 0, none⟩) N N) (cellsP cn N l k) ∧ BoxAt wr bs #[.int .i64 cn, .int .i64 rn] 73 ∧ Below w1.heap.size w1 wr) (fun i _ => l.length - (intOf i).toNat)
    case atStart => exact ⟨0, Nat.zero_le _, rfl, O0, bs4, hb14⟩
    case round =>
      obtain ⟨k, hk, rfl, hO, bx, hB⟩ := hrel
      clear O0 bs4 hb14 hb13 bs3
      by_cases hlt : k < l.length
      · obtain ⟨ad, rfl, had, s0, s1, s2, s3⟩ := (hr1.below hB).leaf hlt
        obtain ⟨x, ex⟩ : ∃ x, x = l[k] := ⟨_, rfl⟩
        have hxi := HPI.out l[k] (List.getElem_mem hlt)
        rw [← ex] at s0 s1 s2 s3 hxi
        have EX := Lib.hid ex; have HXI := Lib.hid hxi; clear ex hxi
        have hnk : (k : Int) < (n1 : Int) := by rw [hne1.out]; omega
        have hks : k < 64 := by omega
        obtain ⟨j, hj⟩ : ∃ j : Nat, x.r * (cn : Int) + x.c = (j : Int) := ⟨(x.r * (cn : Int) + x.c).toNat, by
          have h1 := HXI.out
          have h2 : 0 ≤ x.r * (cn : Int) := Int.mul_nonneg h1.2.1.1 (by omega)
          have h3 := h1.1.1
          omega⟩
        have hjN : j < N := by
          have h1 := HXI.out
          have h2 := h1.2.1.2
          have h4 := h1.2.1.1
          have h5 := h1.1.2
          have h3 : (x.r + 1) * (cn : Int) ≤ (rn : Int) * (cn : Int) := Int.mul_le_mul_of_nonneg_right (by omega) (by omega)
          have h6 : (x.r + 1) * (cn : Int) = x.r * (cn : Int) + (cn : Int) := by rw [Int.add_mul, Int.one_mul]
          have h7 : (rn : Int) * (cn : Int) = (N : Int) := by rw [← HN.out, Int.natCast_mul, Int.mul_comm]
          omega
        have hjb : 0 ≤ x.r * (cn : Int) ∧ x.r * (cn : Int) ≤ 1000 ∧ 0 ≤ x.c ∧ x.c ≤ 1000 := by
          have h1 := HXI.out
          have h2 : 0 ≤ x.r * (cn : Int) := Int.mul_nonneg h1.2.1.1 (by omega)
          have h3 := h1.1.1
          have h5 := h1.1.2
          have h8 := HC8.out
          omega
        have HJ := Lib.hid hj; have HJB := Lib.hid hjb
        clear hj hjb
        have hjI : (0 : Int) ≤ (j : Int) := by omega
        have hjI2 : (j : Int) < (N : Int) := by omega
        have hgl : g < wr.heap.size := (hO.lt g rfl).2
        have n1a : ¬ bs = g := by omega
        have n1b : ¬ g = bs := by omega
        have n2a : ¬ wr.heap.size = g := by omega
        have n2b : ¬ g = wr.heap.size := by omega
        have n3a : ¬ wr.heap.size + 1 = g := by omega
        have n3b : ¬ g = wr.heap.size + 1 := by omega
        have n4a : ¬ wr.heap.size + 1 + 1 = g := by omega
        have n4b : ¬ g = wr.heap.size + 1 + 1 := by omega
        by_cases ho : x.o = 1
        · have ho' : (x.o == 1) = true := by simpa using ho
          have HCL := Lib.hid (show cellP k x = ⟨2 * (k : Int) + 2, x.t, 2 * (k : Int) + 1, x.t⟩ by unfold cellP; rw [if_pos ho])
          clear ho
          go_wp2
          obtain ⟨w4, e4⟩ : ∃ w4, w4 = ((wr.alloc (.cells #[.int .i64 x.c, .int .i64 x.r, .int .i64 x.o, .int .i64 x.t] 77)).alloc (.cells #[.int .i64 (2 * (k : Int) + 2), .int .i64 x.t] 79)).alloc (.cells #[.int .i64 (2 * (k : Int) + 1), .int .i64 x.t] 79) := ⟨_, rfl⟩
          rw [← e4]
          have hA : Below wr.heap.size wr w4 := by
            rw [e4]; exact (((Below.refl wr.heap.size wr).alloc (Nat.le_refl _) _).alloc (by simp) _).alloc (by simp; omega) _
          have bl4 : BoxAt w4 wr.heap.size #[.int .i64 x.c, .int .i64 x.r, .int .i64 x.o, .int .i64 x.t] 77 := by
            rw [e4]; exact ((BoxAt.new wr _ _).alloc _).alloc _
          have bu4 : BoxAt w4 (wr.heap.size + 1) #[.int .i64 (2 * (k : Int) + 2), .int .i64 x.t] 79 := by
            rw [e4]; have := (BoxAt.new (wr.alloc (.cells #[.int .i64 x.c, .int .i64 x.r, .int .i64 x.o, .int .i64 x.t] 77)) #[.int .i64 (2 * (k : Int) + 2), .int .i64 x.t] 79).alloc (.cells #[.int .i64 (2 * (k : Int) + 1), .int .i64 x.t] 79)
            simpa using this
          have bb4 : BoxAt w4 (wr.heap.size + 1 + 1) #[.int .i64 (2 * (k : Int) + 1), .int .i64 x.t] 79 := by
            rw [e4]; have := (BoxAt.new ((wr.alloc (.cells #[.int .i64 x.c, .int .i64 x.r, .int .i64 x.o, .int .i64 x.t] 77)).alloc (.cells #[.int .i64 (2 * (k : Int) + 2), .int .i64 x.t] 79)) #[.int .i64 (2 * (k : Int) + 1), .int .i64 x.t] 79)
            simpa using this
          have bx4 := bx.below hA
          have hO4 := hO.below hA
          clear e4
          have c0 := bx4.cell 0; have c1 := bx4.cell 1; have l0 := bl4.cell 0; have l1 := bl4.cell 1; have u0 := bu4.cell 0; have u1 := bu4.cell 1; have b0 := bb4.cell 0; have b1 := bb4.cell 1
          have lc := bx4.lt; have ll := bl4.lt; have lu := bu4.lt; have lb := bb4.lt
          simp at c0 c1 l0 l1 u0 u1 b0 b1
          go_region_held3 (fun w' => w'.cell? ⟨bs, 0, none⟩ = some (.int .i64 cn) ∧ w'.cell? ⟨bs, 1, none⟩ = some (.int .i64 rn) ∧ w'.cell? ⟨wr.heap.size, 0, none⟩ = some (.int .i64 x.c) ∧ w'.cell? ⟨wr.heap.size, 1, none⟩ = some (.int .i64 x.r) ∧ w'.cell? ⟨wr.heap.size + 1, 0, none⟩ = some (.int .i64 (2 * (k : Int) + 2)) ∧ w'.cell? ⟨wr.heap.size + 1, 1, none⟩ = some (.int .i64 x.t) ∧ w'.cell? ⟨wr.heap.size + 1 + 1, 0, none⟩ = some (.int .i64 (2 * (k : Int) + 1)) ∧ w'.cell? ⟨wr.heap.size + 1 + 1, 1, none⟩ = some (.int .i64 x.t)) (go_keep)
            (first
              | (go_at_call 27; refine (at_any (cn : Int) (rn : Int) x.c x.r (j : Int) _ HJ.out (by have := HJB.out; omega) (by have := HJB.out; omega) (by have := HJB.out; omega) (by have := HJB.out; omega)).mono ?_; rintro e w5 ⟨rfl, hb5⟩; have k0 := (hb5.cell (p := ⟨bs, 0, none⟩) lc).trans c0; have k1 := (hb5.cell (p := ⟨bs, 1, none⟩) lc).trans c1; have k2 := (hb5.cell (p := ⟨wr.heap.size, 0, none⟩) ll).trans l0; have k3 := (hb5.cell (p := ⟨wr.heap.size, 1, none⟩) ll).trans l1; have k4 := (hb5.cell (p := ⟨wr.heap.size + 1, 0, none⟩) lu).trans u0; have k5 := (hb5.cell (p := ⟨wr.heap.size + 1, 1, none⟩) lu).trans u1; have k6 := (hb5.cell (p := ⟨wr.heap.size + 1 + 1, 0, none⟩) lb).trans b0; have k7 := (hb5.cell (p := ⟨wr.heap.size + 1 + 1, 1, none⟩) lb).trans b1)
              | (go_at_call 26; refine (cellOf_any ⟨2 * (k : Int) + 2, x.t⟩ ⟨2 * (k : Int) + 1, x.t⟩ _).mono ?_; rintro e w6 ⟨rfl, hb6⟩; have j0 := (hb6.cell (p := ⟨bs, 0, none⟩) (Nat.lt_of_lt_of_le lc hb5.size)).trans k0; have j1 := (hb6.cell (p := ⟨bs, 1, none⟩) (Nat.lt_of_lt_of_le lc hb5.size)).trans k1; have j2 := (hb6.cell (p := ⟨wr.heap.size, 0, none⟩) (Nat.lt_of_lt_of_le ll hb5.size)).trans k2; have j3 := (hb6.cell (p := ⟨wr.heap.size, 1, none⟩) (Nat.lt_of_lt_of_le ll hb5.size)).trans k3; have j4 := (hb6.cell (p := ⟨wr.heap.size + 1, 0, none⟩) (Nat.lt_of_lt_of_le lu hb5.size)).trans k4; have j5 := (hb6.cell (p := ⟨wr.heap.size + 1, 1, none⟩) (Nat.lt_of_lt_of_le lu hb5.size)).trans k5; have j6 := (hb6.cell (p := ⟨wr.heap.size + 1 + 1, 0, none⟩) (Nat.lt_of_lt_of_le lb hb5.size)).trans k6; have j7 := (hb6.cell (p := ⟨wr.heap.size + 1 + 1, 1, none⟩) (Nat.lt_of_lt_of_le lb hb5.size)).trans k7; have hO6 := ((hO4.drew).below hb5).below hb6; obtain ⟨og, oc, oe1, orow, -, -, -, -⟩ := hO6.rows cell_l; injection oe1 with oe1 oe2 oe3; clear oe2; subst oe1 oe3; obtain ⟨_, oe1, oh1, x0, x1, x2, x3⟩ := orow.cell (k := j) (by rw [cellsP_len]; exact hjN); cases oe1; rw [add0] at x0 x1 x2 x3; have z := fun q => hO6.free q))
          have hset : (cellsP cn N l k).set j ⟨2 * (k : Int) + 2, x.t, 2 * (k : Int) + 1, x.t⟩ = cellsP cn N l (k + 1) := by
            show _ = (cellsP cn N l k).set (((l.getD k default).r * (cn : Int) + (l.getD k default).c).toNat) (cellP k (l.getD k default))
            rw [getD_in default hlt, ← EX.out, HJ.out, Int.toNat_natCast, HCL.out]
          have hO7 := hO6.put4c (by rw [cellsP_len]) (k := j) (by rw [cellsP_len]; exact hjN) ⟨2 * (k : Int) + 2, x.t, 2 * (k : Int) + 1, x.t⟩
          rw [hset] at hO7
          have hb46 : Below w4.heap.size w4 w6 := ((Below.refl _ w4).drew.trans hb5).trans (hb6.mono (B' := w4.heap.size) hb5.size)
          have hB6 := (hB.trans (hA.mono (B' := w1.heap.size) hB.size)).trans (hb46.mono (B' := w1.heap.size) (Nat.le_trans hB.size hA.size))
          have bx6 := bx4.below hb46
          have HSET := Lib.hid hset
          clear hset
          go_wp2
          go_roundw
          case rel =>
            refine ⟨k + 1, by omega, by go_num, hO7, ?_, ?_⟩
            · exact (((bx6.set_other (p := ⟨g, j * 4, none⟩) n1a _).set_other (p := ⟨g, j * 4 + 1, none⟩) n1a _).set_other (p := ⟨g, j * 4 + 2, none⟩) n1a _).set_other (p := ⟨g, j * 4 + 3, none⟩) n1a _
            · exact (((hB6.setCell (p := ⟨g, j * 4, none⟩) hw1g _).setCell (p := ⟨g, j * 4 + 1, none⟩) hw1g _).setCell (p := ⟨g, j * 4 + 2, none⟩) hw1g _).setCell (p := ⟨g, j * 4 + 3, none⟩) hw1g _
          case measure => simp [intOf]; omega
        · have ho' : (x.o == 1) = false := by simpa using ho
          have HCL := Lib.hid (show cellP k x = ⟨2 * (k : Int) + 1, x.t, 2 * (k : Int) + 2, x.t⟩ by unfold cellP; rw [if_neg ho])
          clear ho
          go_wp2
          obtain ⟨w4, e4⟩ : ∃ w4, w4 = ((wr.alloc (.cells #[.int .i64 x.c, .int .i64 x.r, .int .i64 x.o, .int .i64 x.t] 77)).alloc (.cells #[.int .i64 (2 * (k : Int) + 1), .int .i64 x.t] 79)).alloc (.cells #[.int .i64 (2 * (k : Int) + 2), .int .i64 x.t] 79) := ⟨_, rfl⟩
          rw [← e4]
          have hA : Below wr.heap.size wr w4 := by
            rw [e4]; exact (((Below.refl wr.heap.size wr).alloc (Nat.le_refl _) _).alloc (by simp) _).alloc (by simp; omega) _
          have bl4 : BoxAt w4 wr.heap.size #[.int .i64 x.c, .int .i64 x.r, .int .i64 x.o, .int .i64 x.t] 77 := by
            rw [e4]; exact ((BoxAt.new wr _ _).alloc _).alloc _
          have bu4 : BoxAt w4 (wr.heap.size + 1) #[.int .i64 (2 * (k : Int) + 1), .int .i64 x.t] 79 := by
            rw [e4]; have := (BoxAt.new (wr.alloc (.cells #[.int .i64 x.c, .int .i64 x.r, .int .i64 x.o, .int .i64 x.t] 77)) #[.int .i64 (2 * (k : Int) + 1), .int .i64 x.t] 79).alloc (.cells #[.int .i64 (2 * (k : Int) + 2), .int .i64 x.t] 79)
            simpa using this
          have bb4 : BoxAt w4 (wr.heap.size + 1 + 1) #[.int .i64 (2 * (k : Int) + 2), .int .i64 x.t] 79 := by
            rw [e4]; have := (BoxAt.new ((wr.alloc (.cells #[.int .i64 x.c, .int .i64 x.r, .int .i64 x.o, .int .i64 x.t] 77)).alloc (.cells #[.int .i64 (2 * (k : Int) + 1), .int .i64 x.t] 79)) #[.int .i64 (2 * (k : Int) + 2), .int .i64 x.t] 79)
            simpa using this
          have bx4 := bx.below hA
          have hO4 := hO.below hA
          clear e4
          have c0 := bx4.cell 0; have c1 := bx4.cell 1; have l0 := bl4.cell 0; have l1 := bl4.cell 1; have u0 := bu4.cell 0; have u1 := bu4.cell 1; have b0 := bb4.cell 0; have b1 := bb4.cell 1
          have lc := bx4.lt; have ll := bl4.lt; have lu := bu4.lt; have lb := bb4.lt
          simp at c0 c1 l0 l1 u0 u1 b0 b1
          go_region_held3 (fun w' => w'.cell? ⟨bs, 0, none⟩ = some (.int .i64 cn) ∧ w'.cell? ⟨bs, 1, none⟩ = some (.int .i64 rn) ∧ w'.cell? ⟨wr.heap.size, 0, none⟩ = some (.int .i64 x.c) ∧ w'.cell? ⟨wr.heap.size, 1, none⟩ = some (.int .i64 x.r) ∧ w'.cell? ⟨wr.heap.size + 1, 0, none⟩ = some (.int .i64 (2 * (k : Int) + 1)) ∧ w'.cell? ⟨wr.heap.size + 1, 1, none⟩ = some (.int .i64 x.t) ∧ w'.cell? ⟨wr.heap.size + 1 + 1, 0, none⟩ = some (.int .i64 (2 * (k : Int) + 2)) ∧ w'.cell? ⟨wr.heap.size + 1 + 1, 1, none⟩ = some (.int .i64 x.t)) (go_keep)
            (first
              | (go_at_call 27; refine (at_any (cn : Int) (rn : Int) x.c x.r (j : Int) _ HJ.out (by have := HJB.out; omega) (by have := HJB.out; omega) (by have := HJB.out; omega) (by have := HJB.out; omega)).mono ?_; rintro e w5 ⟨rfl, hb5⟩; have k0 := (hb5.cell (p := ⟨bs, 0, none⟩) lc).trans c0; have k1 := (hb5.cell (p := ⟨bs, 1, none⟩) lc).trans c1; have k2 := (hb5.cell (p := ⟨wr.heap.size, 0, none⟩) ll).trans l0; have k3 := (hb5.cell (p := ⟨wr.heap.size, 1, none⟩) ll).trans l1; have k4 := (hb5.cell (p := ⟨wr.heap.size + 1, 0, none⟩) lu).trans u0; have k5 := (hb5.cell (p := ⟨wr.heap.size + 1, 1, none⟩) lu).trans u1; have k6 := (hb5.cell (p := ⟨wr.heap.size + 1 + 1, 0, none⟩) lb).trans b0; have k7 := (hb5.cell (p := ⟨wr.heap.size + 1 + 1, 1, none⟩) lb).trans b1)
              | (go_at_call 26; refine (cellOf_any ⟨2 * (k : Int) + 1, x.t⟩ ⟨2 * (k : Int) + 2, x.t⟩ _).mono ?_; rintro e w6 ⟨rfl, hb6⟩; have j0 := (hb6.cell (p := ⟨bs, 0, none⟩) (Nat.lt_of_lt_of_le lc hb5.size)).trans k0; have j1 := (hb6.cell (p := ⟨bs, 1, none⟩) (Nat.lt_of_lt_of_le lc hb5.size)).trans k1; have j2 := (hb6.cell (p := ⟨wr.heap.size, 0, none⟩) (Nat.lt_of_lt_of_le ll hb5.size)).trans k2; have j3 := (hb6.cell (p := ⟨wr.heap.size, 1, none⟩) (Nat.lt_of_lt_of_le ll hb5.size)).trans k3; have j4 := (hb6.cell (p := ⟨wr.heap.size + 1, 0, none⟩) (Nat.lt_of_lt_of_le lu hb5.size)).trans k4; have j5 := (hb6.cell (p := ⟨wr.heap.size + 1, 1, none⟩) (Nat.lt_of_lt_of_le lu hb5.size)).trans k5; have j6 := (hb6.cell (p := ⟨wr.heap.size + 1 + 1, 0, none⟩) (Nat.lt_of_lt_of_le lb hb5.size)).trans k6; have j7 := (hb6.cell (p := ⟨wr.heap.size + 1 + 1, 1, none⟩) (Nat.lt_of_lt_of_le lb hb5.size)).trans k7; have hO6 := ((hO4.drew).below hb5).below hb6; obtain ⟨og, oc, oe1, orow, -, -, -, -⟩ := hO6.rows cell_l; injection oe1 with oe1 oe2 oe3; clear oe2; subst oe1 oe3; obtain ⟨_, oe1, oh1, x0, x1, x2, x3⟩ := orow.cell (k := j) (by rw [cellsP_len]; exact hjN); cases oe1; rw [add0] at x0 x1 x2 x3; have z := fun q => hO6.free q))
          have hset : (cellsP cn N l k).set j ⟨2 * (k : Int) + 1, x.t, 2 * (k : Int) + 2, x.t⟩ = cellsP cn N l (k + 1) := by
            show _ = (cellsP cn N l k).set (((l.getD k default).r * (cn : Int) + (l.getD k default).c).toNat) (cellP k (l.getD k default))
            rw [getD_in default hlt, ← EX.out, HJ.out, Int.toNat_natCast, HCL.out]
          have hO7 := hO6.put4c (by rw [cellsP_len]) (k := j) (by rw [cellsP_len]; exact hjN) ⟨2 * (k : Int) + 1, x.t, 2 * (k : Int) + 2, x.t⟩
          rw [hset] at hO7
          have hb46 : Below w4.heap.size w4 w6 := ((Below.refl _ w4).drew.trans hb5).trans (hb6.mono (B' := w4.heap.size) hb5.size)
          have hB6 := (hB.trans (hA.mono (B' := w1.heap.size) hB.size)).trans (hb46.mono (B' := w1.heap.size) (Nat.le_trans hB.size hA.size))
          have bx6 := bx4.below hb46
          have HSET := Lib.hid hset
          clear hset
          go_wp2
          go_roundw
          case rel =>
            refine ⟨k + 1, by omega, by go_num, hO7, ?_, ?_⟩
            · exact (((bx6.set_other (p := ⟨g, j * 4, none⟩) n1a _).set_other (p := ⟨g, j * 4 + 1, none⟩) n1a _).set_other (p := ⟨g, j * 4 + 2, none⟩) n1a _).set_other (p := ⟨g, j * 4 + 3, none⟩) n1a _
            · exact (((hB6.setCell (p := ⟨g, j * 4, none⟩) hw1g _).setCell (p := ⟨g, j * 4 + 1, none⟩) hw1g _).setCell (p := ⟨g, j * 4 + 2, none⟩) hw1g _).setCell (p := ⟨g, j * 4 + 3, none⟩) hw1g _
          case measure => simp [intOf]; omega
      · have hkl : k = l.length := by omega
        have br := br1.below hB
        have c0 := bx.cell 0; have c1 := bx.cell 1
        have r0 := br.cell 0; have r1 := br.cell 1; have r2 := br.cell 2
        have z := fun j => br.free j
        have hbl := br.lt
        have hxl := bx.lt
        simp at r0 r1 r2 c0 c1
        rw [hkl, ← HSC.out] at hO
        have hlen : Hid (N = (schemeC cn rn L).length) := Lib.hid (by rw [HSC.out, cellsP_len])
        have hnk : ¬ ((k : Int) < (n1 : Int)) := by rw [hne1.out]; omega
        have hne2 : bs ≠ w.heap.size + 1 := by omega
        have hgw : w.heap.size + 1 < g := by omega
        have HO := Lib.hid hO
        clear hkl hO
        go_wp2
        refine bodyPost_ret (v := .tuple #[.agg #[.int .i64 cn, .int .i64 rn, .slice (some ⟨g, 0, none⟩) N N], .int .i64 0]) ?_ rfl ?_
        · simp [results, Tryz.results6, go_sem, r0, r1, r2]
        · obtain ⟨a', c', e1, hrow, -, -, hnil, -⟩ := HO.out.rows cell_l
          injection e1 with e1 e2 e3
          subst e1 e3
          refine ⟨_, N, N, scheme_ret HE.out.2.2 H1.out, hlen.out, ?_, hnil, ?_⟩
          · exact ((hrow.set (p := ⟨w.heap.size + 1, 0, none⟩) (fun ad e => by cases e; show g ≠ w.heap.size + 1; omega) _).set (p := ⟨w.heap.size + 1, 1, none⟩) (fun ad e => by cases e; show g ≠ w.heap.size + 1; omega) _).set (p := ⟨w.heap.size + 1, 2, none⟩) (fun ad e => by cases e; show g ≠ w.heap.size + 1; omega) _
          · exact (((hB1.trans (hB.mono (B' := w.heap.size) hB1.size)).setCell (p := ⟨w.heap.size + 1, 0, none⟩) (by show w.heap.size ≤ w.heap.size + 1; omega) _).setCell (p := ⟨w.heap.size + 1, 1, none⟩) (by show w.heap.size ≤ w.heap.size + 1; omega) _).setCell (p := ⟨w.heap.size + 1, 2, none⟩) (by show w.heap.size ≤ w.heap.size + 1; omega) _
  · have HE := Lib.hid (show schemeC C R L = [] ∧ pileE C R L = [] ∧ schemeD C R L = (0, 0) by unfold schemeC pileE schemeD; rw [if_neg h1, if_neg h1, if_neg h1]; exact ⟨rfl, rfl, rfl⟩)
    have heb : ((checkFo C R L).2 != 0) = true := by simpa using h1
    clear h1
    go_enter Tryz.func6, Tryz.ntmps6
    go_wp2_with fail
    refine (pile_any C R a L c _ ((hL.alloc _).alloc _) hl hI).mono ?_
    rintro e w1 ⟨a1, n1, c1, rfl, -, -, -, hb1⟩
    have hB1 := (((Below.refl w.heap.size w).alloc (Nat.le_refl _) (.cells #[.int .i64 C, .int .i64 R] 22)).alloc (by simp) (.cells #[.int .i64 0, .int .i64 0, .slice none 0 0] 29)).trans (hb1.mono (B' := w.heap.size) (by simp; omega))
    have br1 := (BoxAt.new (w.alloc (.cells #[.int .i64 C, .int .i64 R] 22)) #[.int .i64 0, .int .i64 0, .slice none 0 0] 29).below hb1
    simp at br1
    have r0 := br1.cell 0; have r1 := br1.cell 1; have r2 := br1.cell 2
    have z := fun j => br1.free j
    have hbl := br1.lt
    simp at r0 r1 r2
    go_wp2_with fail
    refine bodyPost_ret (v := .tuple #[.agg #[.int .i64 0, .int .i64 0, .slice none 0 0], .int .i64 (checkFo C R L).2]) ?_ rfl ?_
    · simp [results, Tryz.results6, go_sem, r0, r1, r2]
    · exact ⟨none, 0, 0, scheme_ret HE.out.2.2 rfl, by rw [HE.out.1]; rfl, by rw [HE.out.1]; exact RowsAt.nil _ _, fun _ => rfl, ((hB1.setCell (p := ⟨w.heap.size + 1, 0, none⟩) (by show w.heap.size ≤ w.heap.size + 1; omega) _).setCell (p := ⟨w.heap.size + 1, 1, none⟩) (by show w.heap.size ≤ w.heap.size + 1; omega) _).setCell (p := ⟨w.heap.size + 1, 2, none⟩) (by show w.heap.size ≤ w.heap.size + 1; omega) _⟩
end Go.Proofs.YtgoandhlcekmiaaGreatDoor
