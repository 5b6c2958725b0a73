/-
  Package impose: a sheet printed twice from one forme.
-/
import Derived.Test.YtjkjfmahcjcniaaY4
import Derived.Deep.CutRange
namespace Go.Proofs.Ytjkjfmahcjcniaa
open Go.RowKit

def roundB (b : Bool) : Int := if b = true then 1 else 0
theorem roundIf2 (b : Bool) (w : World) : Calls Try.prog 98 #[.bool b] w fun e w' => e = .returned (.int .i64 (roundB b)) ∧ w = w' := roundIf_any b w
theorem roundB_bit (b : Bool) : Bit (roundB b) := by unfold roundB Bit; split <;> omega
theorem cell_set2 {w : World} {al : Nat} {A B : Value} {p : Addr} {v : Value} (h : w.cell? p = some v) (hp : p.block ≠ al) : ((w.setCell ⟨al, 0, none⟩ A).setCell ⟨al, 1, none⟩ B).cell? p = some v := by
  rw [World.cell?_setCell_other _ _ _ _ (fun e => hp (congrArg Addr.block e).symm), World.cell?_setCell_other _ _ _ _ (fun e => hp (congrArg Addr.block e).symm), h]
def twErr (C R : Int) (L : List Page) : Int := if cellsErr C R L.length ≠ 0 then cellsErr C R L.length else if L.all (pageB 4000) = true then 0 else 2
def twCell (C R : Nat) (L : List Page) (b : Bool) (k : Nat) : Cell := ⟨(L.getD k default).p, (L.getD k default).t, (L.getD (oppN C R k b) default).p, xr (L.getD (oppN C R k b) default).t (roundB b)⟩
/-- The cells, the first k of them set. -/
def twTo (C R : Nat) (L : List Page) (b : Bool) (k : Nat) : List Cell := (List.range k).map (twCell C R L b) ++ List.replicate (L.length - k) ⟨0, 0, 0, 0⟩
theorem twTo_len {C R : Nat} {L : List Page} {b : Bool} {k : Nat} (hk : k ≤ L.length) : (twTo C R L b k).length = L.length := by simp [twTo]; omega
theorem twTo_set {C R : Nat} {L : List Page} {b : Bool} {k : Nat} (hk : k < L.length) : (twTo C R L b k).set k (twCell C R L b k) = twTo C R L b (k + 1) := by
  unfold twTo
  rw [List.set_append_right _ _ (by simp), List.length_map, List.length_range, Nat.sub_self]
  obtain ⟨m, hm⟩ : ∃ m, L.length - k = m + 1 := ⟨L.length - k - 1, by omega⟩
  rw [hm, List.replicate_succ, List.set_cons_zero, show L.length - (k + 1) = m by omega, List.range_succ, List.map_append, List.append_assoc]; rfl
theorem page_ok {m : Int} {L : List Page} (h : L.all (pageB m) = true) : ∀ x ∈ L, Bit x.t := by
  intro x hx
  have := List.all_eq_true.1 h x hx
  unfold pageB at this
  simp only [Bool.and_eq_true] at this
  have := inB_iff.1 this.2
  unfold Bit; omega
theorem cells_ok {C R n : Int} (h : cellsErr C R n = 0) : sideErr C R = 0 ∧ n = C * R := by
  unfold cellsErr at h
  by_cases h1 : sideErr C R = 0
  · rw [if_neg (by simp [h1])] at h
    refine ⟨h1, ?_⟩
    by_cases h2 : n = C * R
    · exact h2
    · rw [if_pos h2] at h; exact absurd h (by decide)
  · rw [if_pos h1] at h; exact absurd h h1
def twD (C R : Int) (L : List Page) : Int × Int := if twErr C R L = 0 then (C, R) else (0, 0)
def twL (C R : Int) (L : List Page) (b : Bool) : List Cell := if twErr C R L = 0 then twTo C.toNat R.toNat L b L.length else []
def TwPost (w : World) (C R : Int) (L : List Page) (b : Bool) (e : Ending) (w' : World) : Prop :=
  ∃ (a : Option Addr) (n c : Nat), e = .returned (.tuple #[.agg #[.int .i64 (twD C R L).1, .int .i64 (twD C R L).2, .slice a n c], .int .i64 (twErr C R L)]) ∧ n = (twL C R L b).length ∧ RowsAt 4 Cell.l w' a (twL C R L b) ∧ (a = none → c = 0) ∧ Below w.heap.size w w'
set_option maxRecDepth 100000 in
set_option maxHeartbeats 4000000 in
theorem printedTwice_any (C R : Int) (a : Option Addr) (L : List Page) (c : Nat) (b : Bool) (w : World) (hL : RowsAt 2 Page.l w a L) (hl : L.length ≤ 1000000) :
    Calls Try.prog 50 #[.agg #[.int .i64 C, .int .i64 R, .slice a L.length c], .bool b] w (TwPost w C R L b) := by
  obtain ⟨w3, hw3⟩ : ∃ w3, w3 = ((w.alloc (.cells #[.int .i64 C, .int .i64 R, .slice a L.length c] 56)).alloc (.cells #[.int .i64 0, .int .i64 0, .slice none 0 0] 43)).alloc (.cells #[.int .i64 C, .int .i64 R] 122) := ⟨_, rfl⟩
  have bx0 : BoxAt w3 w.heap.size #[.int .i64 C, .int .i64 R, .slice a L.length c] 56 := by rw [hw3]; exact ((BoxAt.new w _ _).alloc _).alloc _
  have br0 : BoxAt w3 (w.heap.size + 1) #[.int .i64 0, .int .i64 0, .slice none 0 0] 43 := by
    rw [hw3]
    have := (BoxAt.new (w.alloc (.cells #[.int .i64 C, .int .i64 R, .slice a L.length c] 56)) #[.int .i64 0, .int .i64 0, .slice none 0 0] 43).alloc (.cells #[.int .i64 C, .int .i64 R] 122)
    simpa using this
  have bz0 : BoxAt w3 (w.heap.size + 1 + 1) #[.int .i64 C, .int .i64 R] 122 := by
    rw [hw3]
    have := BoxAt.new ((w.alloc (.cells #[.int .i64 C, .int .i64 R, .slice a L.length c] 56)).alloc (.cells #[.int .i64 0, .int .i64 0, .slice none 0 0] 43)) #[.int .i64 C, .int .i64 R] 122
    simpa using this
  have hB3 : Below w.heap.size w w3 := by rw [hw3]; exact (((Below.refl w.heap.size w).alloc (Nat.le_refl _) _).alloc (by simp) _).alloc (by simp; omega) _
  have W3 := Lib.hid hw3
  clear hw3
  go_enter Try.func50, Try.ntmps50
  go_wp2_with fail
  rw [← W3.out]
  refine (errorOfCells_any _ _ _ _).mono ?_
  rintro e w4 ⟨rfl, hb4⟩
  have bx4 := bx0.below hb4; have br4 := br0.below hb4; have bz4 := bz0.below hb4
  have hB4 := hB3.trans (hb4.mono (B' := w.heap.size) hB3.size)
  clear hb4 bx0 br0 bz0 hB3
  have c2 := bx4.cell 2
  have r0 := br4.cell 0; have r1 := br4.cell 1; have r2 := br4.cell 2
  have z := fun j => br4.free j
  have hrl := br4.lt
  simp at c2 r0 r1 r2
  by_cases h1 : cellsErr C R L.length = 0
  · have HC0 := Lib.hid h1
    rw [h1]
    clear h1
    go_wp2_with fail
    refine (arePages_any 4000 a L c _ (hL.below hB4) (by unfold maxLen; omega)).mono ?_
    rintro e w5 ⟨rfl, hb5⟩
    have bx5 := bx4.below hb5; have br5 := br4.below hb5; have bz5 := bz4.below hb5
    have hB5 := hB4.trans (hb5.mono (B' := w.heap.size) hB4.size)
    clear hb5 bx4 br4 bz4 hB4 c2 r0 r1 r2 z hrl
    cases hall : L.all (pageB 4000)
    · have HE : Hid (twErr C R L = 2) := Lib.hid (by unfold twErr; rw [if_neg (by simp [HC0.out]), if_neg (by simp [hall])])
      have HD : Hid (twD C R L = (0, 0) ∧ twL C R L b = []) := Lib.hid (by unfold twD twL; rw [HE.out]; exact ⟨rfl, rfl⟩)
      have r0 := br5.cell 0; have r1 := br5.cell 1; have r2 := br5.cell 2
      have z := fun j => br5.free j
      have hrl := br5.lt
      simp at r0 r1 r2
      clear hall
      go_wp2_with fail
      refine bodyPost_ret (v := .tuple #[.agg #[.int .i64 0, .int .i64 0, .slice none 0 0], .int .i64 2]) ?_ rfl ?_
      · simp [results, Try.results50, go_sem, r0, r1, r2]
      · exact ⟨none, 0, 0, scheme_ret HD.out.1 HE.out, by rw [HD.out.2]; rfl, by rw [HD.out.2]; exact RowsAt.nil _ _, fun _ => rfl, (((hB5.setCell (p := ⟨w.heap.size + 1, 0, none⟩) (by show w.heap.size ≤ w.heap.size + 1; omega) _).setCell (p := ⟨w.heap.size + 1, 1, none⟩) (by show w.heap.size ≤ w.heap.size + 1; omega) _).setCell (p := ⟨w.heap.size + 1, 2, none⟩) (by show w.heap.size ≤ w.heap.size + 1; omega) _)⟩
    · have HALL := Lib.hid hall
      clear hall
      have d0 := bz5.cell 0; have d1 := bz5.cell 1
      simp at d0 d1
      obtain ⟨hs, hn⟩ := cells_ok HC0.out
      obtain ⟨sC, sR, sm⟩ := side_ok hs
      obtain ⟨cn, rfl⟩ : ∃ n : Nat, C = n := ⟨C.toNat, by omega⟩
      obtain ⟨rn, rfl⟩ : ∃ n : Nat, R = n := ⟨R.toNat, by omega⟩
      have HCR : Hid ((1 ≤ cn ∧ cn ≤ 8) ∧ (1 ≤ rn ∧ rn ≤ 8)) := Lib.hid (by omega)
      have HN : Hid (L.length = cn * rn) := Lib.hid (by have : (L.length : Int) = ((cn * rn : Nat) : Int) := by rw [hn, Int.natCast_mul]
                                                        omega)
      have hN64 : L.length ≤ 64 := by rw [HN.out]; exact Nat.mul_le_mul (show cn ≤ 8 by omega) (show rn ≤ 8 by omega)
      have HP : Hid (-1000000 ≤ (cn : Int) * rn ∧ (cn : Int) * rn ≤ 1000000) := Lib.hid (by omega)
      have HNI : Hid ((cn : Int) * rn = (L.length : Int)) := Lib.hid hn.symm
      have hmk := fun W => run_make_rowX (t := 41) Try.underlying41 info_cell .i64 .i64 L.length (by omega) (by omega) W
      have hz4 : (Value.agg #[.int .i64 0, .int .i64 0, .int .i64 0, .int .i64 0]).cells = #[.int .i64 0, .int .i64 0, .int .i64 0, .int .i64 0] := rfl
      rw [hz4] at hmk
      clear hs hn sC sR sm hz4 hl
      go_wp2_with fail
      refine (cells_any (cn : Int) (rn : Int) (L.length : Int) _ HNI.out HP.out.1 HP.out.2).mono ?_
      rintro e w6 ⟨rfl, hb6⟩
      have bx6 := bx5.below hb6; have br6 := br5.below hb6; have bz6 := bz5.below hb6
      have hB6 := hB5.trans (hb6.mono (B' := w.heap.size) hB5.size)
      clear hb6 bx5 br5 bz5 hB5 d0 d1
      have c2 := bx6.cell 2
      simp at c2
      have hxl := bx6.lt
      have q1 : ¬ w.heap.size = w6.heap.size := by omega
      have q2 : ¬ w6.heap.size = w.heap.size := by omega
      go_wp2_with fail
      obtain ⟨g, hg⟩ : ∃ g, w6.heap.size = g := ⟨_, rfl⟩
      rw [hg]
      have hzl : w.heap.size + 1 + 1 < g := by rw [← hg]; exact bz6.lt
      have O0 : OwnR 4 91 Cell.l (w6.alloc (.cells (madeCells #[.int .i64 0, .int .i64 0, .int .i64 0, .int .i64 0] (L.length * 4)) 91)) g (.slice (some ⟨g, 0, none⟩) L.length L.length) (twTo cn rn L b 0) := by
        have := OwnR.made4 (E := 91) cell_l w6 ⟨0, 0, 0, 0⟩ rfl L.length (by omega)
        rw [hg] at this; exact this
      have bx7 := bx6.alloc (.cells (madeCells #[.int .i64 0, .int .i64 0, .int .i64 0, .int .i64 0] (L.length * 4)) 91)
      have br7 := br6.alloc (.cells (madeCells #[.int .i64 0, .int .i64 0, .int .i64 0, .int .i64 0] (L.length * 4)) 91)
      have bz7 := bz6.alloc (.cells (madeCells #[.int .i64 0, .int .i64 0, .int .i64 0, .int .i64 0] (L.length * 4)) 91)
      have hB7 := hB6.alloc hB6.size (.cells (madeCells #[.int .i64 0, .int .i64 0, .int .i64 0, .int .i64 0] (L.length * 4)) 91)
      clear hmk hg q1 q2
      go_loopw [37] (fun i wr => ∃ k : Nat, k ≤ L.length ∧ i = .int .i64 k ∧ OwnR 4 91 Cell.l wr g (.slice (some ⟨g, 0, none⟩) L.length L.length) (twTo cn rn L b k) ∧ BoxAt wr w.heap.size #[.int .i64 cn, .int .i64 rn, .slice a L.length c] 56 ∧ BoxAt wr (w.heap.size + 1) #[.int .i64 0, .int .i64 0, .slice none 0 0] 43 ∧ BoxAt wr (w.heap.size + 1 + 1) #[.int .i64 cn, .int .i64 rn] 122 ∧ Below w.heap.size w wr) (fun i _ => L.length - (intOf i).toNat)
      case atStart => exact ⟨0, Nat.zero_le _, rfl, O0, bx7, br7, bz7, hB7⟩
      case round =>
        obtain ⟨k, hk, rfl, hO, bx, br, bz, hB⟩ := hrel
        clear O0 bx7 br7 bz7 hB7 bx6 br6 bz6 hB6 c2 hxl
        by_cases hkl : k < L.length
        · have hkI : (k : Int) < (L.length : Int) := by omega
          obtain ⟨ad, rfl, had, s0, s1⟩ := (hL.below hB).page hkl
          obtain ⟨x, ex⟩ : ∃ x, x = L[k] := ⟨_, rfl⟩
          have HOP := Lib.hid (fun W => opposite_any cn rn k b W HCR.out.1 HCR.out.2 (by rw [← HN.out]; exact hkl))
          have hol : oppN cn rn k b < L.length := by rw [HN.out]; exact oppN_lt b HCR.out.1.1 (by rw [← HN.out]; exact hkl)
          obtain ⟨o, ho⟩ : ∃ o, o = oppN cn rn k b := ⟨_, rfl⟩
          rw [← ho] at HOP hol
          obtain ⟨_, e2, -, t0, t1⟩ := (hL.below hB).page hol
          cases e2
          obtain ⟨y, ey⟩ : ∃ y, y = L[o] := ⟨_, rfl⟩
          have HYB : Hid (Bit y.t) := Lib.hid (by rw [ey]; exact page_ok HALL.out _ (List.getElem_mem hol))
          rw [← ex] at s0 s1
          rw [← ey] at t0 t1
          have HST : Hid ((twTo cn rn L b k).set k ⟨x.p, x.t, y.p, xr y.t (roundB b)⟩ = twTo cn rn L b (k + 1)) := Lib.hid (by
            rw [← twTo_set hkl]; unfold twCell; rw [← ho, getD_in default hkl, getD_in default hol, ← ex, ← ey])
          have hoI : (o : Int) < (L.length : Int) := by omega
          have EX := Lib.hid ex; have EY := Lib.hid ey
          clear ex ey ho
          have c2 := bx.cell 2; have d0 := bz.cell 0; have d1 := bz.cell 1
          have hxl := bx.lt; have hzl2 := bz.lt
          simp at c2 d0 d1
          obtain ⟨w4, e4⟩ : ∃ w4, w4 = wr.alloc (.cells #[.int .i64 x.p, .int .i64 x.t] 119) := ⟨_, rfl⟩
          have hA : Below wr.heap.size wr w4 := by rw [e4]; exact (Below.refl wr.heap.size wr).alloc (Nat.le_refl _) _
          have bp4 : BoxAt w4 wr.heap.size #[.int .i64 x.p, .int .i64 x.t] 119 := by rw [e4]; exact BoxAt.new wr _ _
          go_wp2_with fail
          rw [← e4]
          have bx4 := bx.below hA; have bz4 := bz.below hA; have br4 := br.below hA; have hO4 := hO.below hA
          have hB4 := hB.trans (hA.mono (B' := w.heap.size) hB.size)
          obtain ⟨_, e2, had, t0, t1⟩ := (hL.below hB4).page hol
          cases e2
          rw [← EY.out] at t0 t1
          clear c2 d0 d1 hxl hzl2 e4
          have c2 := bx4.cell 2; have d0 := bz4.cell 0; have d1 := bz4.cell 1
          have hxl := bx4.lt; have hzl2 := bz4.lt
          simp at c2 d0 d1
          have had4 : (ad.add (o * 2)).block < w4.heap.size := by rw [add_block]; exact had
          have had5 : (⟨(ad.add (o * 2)).block, (ad.add (o * 2)).off + 1, none⟩ : Addr).block < w4.heap.size := had4
          have v0 := World.new_ne w4 _ c2; have v1 := World.new_ne w4 _ d0; have v2 := World.new_ne w4 _ d1; have v3 := World.new_ne w4 _ t0; have v4 := World.new_ne w4 _ t1
          go_cut [11] from 42 to 53 (fun v wx => ∃ al, v = .pointer (some ⟨al, 0, none⟩) ∧ BoxAt wx al #[.int .i64 y.p, .int .i64 (xr y.t (roundB b))] 119 ∧ w4.heap.size ≤ al ∧ Below w4.heap.size w4 wx)
          case first =>
            rename_i J9 K9 hR9 hM9
            go_region_held3 (fun w' => w'.cell? ⟨w.heap.size, 2, none⟩ = some (.slice (some ad) L.length c) ∧ w'.cell? ⟨w.heap.size + 1 + 1, 0, none⟩ = some (.int .i64 cn) ∧ w'.cell? ⟨w.heap.size + 1 + 1, 1, none⟩ = some (.int .i64 rn) ∧ w'.cell? (ad.add (o * 2)) = some (.int .i64 y.p) ∧ w'.cell? ⟨(ad.add (o * 2)).block, (ad.add (o * 2)).off + 1, none⟩ = some (.int .i64 y.t)) (first | exact ⟨u0 _ _, u1 _ _, u2 _ _, u3 _ _, u4 _ _⟩ | exact ⟨j0, j1, j2, j3, j4⟩ | exact ⟨k0, k1, k2, k3, k4⟩ | go_keep)
              (first
                | (go_at_call 98; refine (roundIf2 b _).mono ?_; rintro e w' ⟨rfl, rfl⟩)
                | (go_at_call 90; refine (HOP.out w4.drew).mono ?_; rintro e w7 ⟨rfl, hb7⟩; have hq7 : Below w4.heap.size w4 w7 := (Below.refl _ w4).drew.trans hb7; have k0 := (hq7.cell (p := ⟨w.heap.size, 2, none⟩) hxl).trans c2; have k1 := (hq7.cell (p := ⟨w.heap.size + 1 + 1, 0, none⟩) hzl2).trans d0; have k2 := (hq7.cell (p := ⟨w.heap.size + 1 + 1, 1, none⟩) hzl2).trans d1; have k3 := (hq7.cell (p := ad.add (o * 2)) had4).trans t0; have k4 := (hq7.cell (p := ⟨(ad.add (o * 2)).block, (ad.add (o * 2)).off + 1, none⟩) had5).trans t1; have kn0 := World.new_ne w7 _ k0; have kn1 := World.new_ne w7 _ k1; have kn2 := World.new_ne w7 _ k2; have kn3 := World.new_ne w7 _ k3; have kn4 := World.new_ne w7 _ k4)
                | (go_at_call 90; refine (HOP.out _).mono ?_; rintro e w7 ⟨rfl, hb7⟩; have bal7 : BoxAt w7 w4.heap.size #[.int .i64 0, .int .i64 0] 119 := (BoxAt.new w4.drew #[.int .i64 0, .int .i64 0] 119).below hb7; have hq7 : Below w4.heap.size w4 w7 := ((Below.refl _ w4).drew.alloc (Nat.le_refl _) _).trans (hb7.mono (B' := w4.heap.size) (by simp)); have k0 := (hq7.cell (p := ⟨w.heap.size, 2, none⟩) hxl).trans c2; have k1 := (hq7.cell (p := ⟨w.heap.size + 1 + 1, 0, none⟩) hzl2).trans d0; have k2 := (hq7.cell (p := ⟨w.heap.size + 1 + 1, 1, none⟩) hzl2).trans d1; have k3 := (hq7.cell (p := ad.add (o * 2)) had4).trans t0; have k4 := (hq7.cell (p := ⟨(ad.add (o * 2)).block, (ad.add (o * 2)).off + 1, none⟩) had5).trans t1; have kn0 := World.new_ne w7 _ k0; have kn1 := World.new_ne w7 _ k1; have kn2 := World.new_ne w7 _ k2; have kn3 := World.new_ne w7 _ k3; have kn4 := World.new_ne w7 _ k4)
                | (go_at_call 97; refine (turned_any y (roundB b) w7 HYB.out (roundB_bit b)).mono ?_; rintro e w8 ⟨rfl, hb8⟩; have bal8 := bal7.below hb8; have hq8 := hq7.trans (hb8.mono (B' := w4.heap.size) hq7.size); have j0 := (hq8.cell (p := ⟨w.heap.size, 2, none⟩) hxl).trans c2; have j1 := (hq8.cell (p := ⟨w.heap.size + 1 + 1, 0, none⟩) hzl2).trans d0; have j2 := (hq8.cell (p := ⟨w.heap.size + 1 + 1, 1, none⟩) hzl2).trans d1; have j3 := (hq8.cell (p := ad.add (o * 2)) had4).trans t0; have j4 := (hq8.cell (p := ⟨(ad.add (o * 2)).block, (ad.add (o * 2)).off + 1, none⟩) had5).trans t1; have u0 := fun A B => cell_set2 (al := w4.heap.size) (A := A) (B := B) j0 (Nat.ne_of_lt hxl); have u1 := fun A B => cell_set2 (al := w4.heap.size) (A := A) (B := B) j1 (Nat.ne_of_lt hzl2); have u2 := fun A B => cell_set2 (al := w4.heap.size) (A := A) (B := B) j2 (Nat.ne_of_lt hzl2); have u3 := fun A B => cell_set2 (al := w4.heap.size) (A := A) (B := B) j3 (Nat.ne_of_lt had4); have u4 := fun A B => cell_set2 (al := w4.heap.size) (A := A) (B := B) j4 (Nat.ne_of_lt had5); have fz := fun j => bal8.free j; have a0 := bal8.cell 0; have a1 := bal8.cell 1; have hll := bal8.lt; simp at a0 a1)
                | (go_at_call 97; refine (turned_any y (roundB b) w7 HYB.out (roundB_bit b)).mono ?_; rintro e w8 ⟨rfl, hb8⟩; have hq8 := hq7.trans (hb8.mono (B' := w4.heap.size) hq7.size); have j0 := (hq8.cell (p := ⟨w.heap.size, 2, none⟩) hxl).trans c2; have j1 := (hq8.cell (p := ⟨w.heap.size + 1 + 1, 0, none⟩) hzl2).trans d0; have j2 := (hq8.cell (p := ⟨w.heap.size + 1 + 1, 1, none⟩) hzl2).trans d1; have j3 := (hq8.cell (p := ad.add (o * 2)) had4).trans t0; have j4 := (hq8.cell (p := ⟨(ad.add (o * 2)).block, (ad.add (o * 2)).off + 1, none⟩) had5).trans t1; have jn0 := World.new_ne w8 _ j0; have jn1 := World.new_ne w8 _ j1; have jn2 := World.new_ne w8 _ j2; have jn3 := World.new_ne w8 _ j3; have jn4 := World.new_ne w8 _ j4)
                | (go_at_call 97; refine (turned_any y (roundB b) _ HYB.out (roundB_bit b)).mono ?_; rintro e w8 ⟨rfl, hb8⟩; have bal8 := (BoxAt.new w7 #[.int .i64 0, .int .i64 0] 119).below hb8; have hq8 := (hq7.alloc hq7.size _).trans (hb8.mono (B' := w4.heap.size) (by have := hq7.size; simp; omega)); have j0 := (hq8.cell (p := ⟨w.heap.size, 2, none⟩) hxl).trans c2; have j1 := (hq8.cell (p := ⟨w.heap.size + 1 + 1, 0, none⟩) hzl2).trans d0; have j2 := (hq8.cell (p := ⟨w.heap.size + 1 + 1, 1, none⟩) hzl2).trans d1; have j3 := (hq8.cell (p := ad.add (o * 2)) had4).trans t0; have j4 := (hq8.cell (p := ⟨(ad.add (o * 2)).block, (ad.add (o * 2)).off + 1, none⟩) had5).trans t1; have u0 := fun A B => cell_set2 (al := w7.heap.size) (A := A) (B := B) j0 (Nat.ne_of_lt (Nat.lt_of_lt_of_le hxl hq7.size)); have u1 := fun A B => cell_set2 (al := w7.heap.size) (A := A) (B := B) j1 (Nat.ne_of_lt (Nat.lt_of_lt_of_le hzl2 hq7.size)); have u2 := fun A B => cell_set2 (al := w7.heap.size) (A := A) (B := B) j2 (Nat.ne_of_lt (Nat.lt_of_lt_of_le hzl2 hq7.size)); have u3 := fun A B => cell_set2 (al := w7.heap.size) (A := A) (B := B) j3 (Nat.ne_of_lt (Nat.lt_of_lt_of_le had4 hq7.size)); have u4 := fun A B => cell_set2 (al := w7.heap.size) (A := A) (B := B) j4 (Nat.ne_of_lt (Nat.lt_of_lt_of_le had5 hq7.size)); have fz := fun j => bal8.free j; have a0 := bal8.cell 0; have a1 := bal8.cell 1; have hll := bal8.lt; simp at a0 a1))
            all_goals
              refine hM9 _ _ ?_
              refine Met.intro ?_
              refine hR9 _ _ ?_
              (repeat apply Exists.intro)
              refine ⟨?_, rfl⟩
            all_goals first
              | exact ⟨_, rfl, BoxAt.new _ _ _, hq8.size, hq8.alloc hq8.size _⟩
              | exact ⟨_, rfl, (bal8.set 0 _).set 1 _, hq7.size, (hq8.setCell (p := ⟨w7.heap.size, 0, none⟩) hq7.size _).setCell (p := ⟨w7.heap.size, 1, none⟩) hq7.size _⟩
              | exact ⟨_, rfl, (bal8.set 0 _).set 1 _, Nat.le_refl _, (hq8.setCell (p := ⟨w4.heap.size, 0, none⟩) (Nat.le_refl _) _).setCell (p := ⟨w4.heap.size, 1, none⟩) (Nat.le_refl _) _⟩
          case rest =>
            obtain ⟨al, rfl, bal, hal, hbx⟩ := hcut
            have bpc := bp4.below hbx; have bxc := bx4.below hbx; have brc := br4.below hbx; have bzc := bz4.below hbx; have hOc := hO4.below hbx
            have hBc := hB4.trans (hbx.mono (B' := w.heap.size) hB4.size)
            clear c2 d0 d1 hxl hzl2 had4 had5 v0 v1 v2 v3 v4 t0 t1 s0 s1 had
            have p0 := bpc.cell 0; have p1 := bpc.cell 1; have a0 := bal.cell 0; have a1 := bal.cell 1
            have hpl := bpc.lt; have hll := bal.lt
            simp at p0 p1 a0 a1
            go_wp2_with fail
            refine (cellOf_any x ⟨y.p, xr y.t (roundB b)⟩ _).mono ?_
            rintro e w9 ⟨rfl, hb9⟩
            have bx9 := bxc.below hb9; have br9 := brc.below hb9; have bz9 := bzc.below hb9; have hO9 := hOc.below hb9
            have hB9 := hBc.trans (hb9.mono (B' := w.heap.size) hBc.size)
            have hO10 := hO9.put4c (twTo_len hk).symm (k := k) (by rw [twTo_len hk]; exact hkl) ⟨x.p, x.t, y.p, xr y.t (roundB b)⟩
            rw [HST.out] at hO10
            obtain ⟨og, oc, oe1, orow, -, -, -, -⟩ := hO9.rows cell_l
            have oe1' : (⟨g, 0, none⟩ : Addr) = ⟨g, 0, none⟩ := rfl
            injection oe1 with oe1 oe2 oe3
            clear oe2 oe1'
            subst oe1 oe3
            obtain ⟨_, oe1, oh1, x0, x1, x2, x3⟩ := orow.cell (k := k) (by rw [twTo_len hk]; exact hkl)
            cases oe1
            rw [add0] at x0 x1 x2 x3
            have z := fun q => hO9.free q
            have hwg : w.heap.size ≤ g := by omega
            have m0 : w.heap.size ≠ g := by omega
            have m1 : w.heap.size + 1 ≠ g := by omega
            have m2 : w.heap.size + 1 + 1 ≠ g := by omega
            clear p0 p1 a0 a1 hpl hll
            go_wp2
            go_roundw
            case rel =>
              refine ⟨k + 1, by omega, by go_num, hO10, ?_, ?_, ?_, ?_⟩
              · exact (((bx9.set_other (p := ⟨g, k * 4, none⟩) m0 _).set_other (p := ⟨g, k * 4 + 1, none⟩) m0 _).set_other (p := ⟨g, k * 4 + 2, none⟩) m0 _).set_other (p := ⟨g, k * 4 + 3, none⟩) m0 _
              · exact (((br9.set_other (p := ⟨g, k * 4, none⟩) m1 _).set_other (p := ⟨g, k * 4 + 1, none⟩) m1 _).set_other (p := ⟨g, k * 4 + 2, none⟩) m1 _).set_other (p := ⟨g, k * 4 + 3, none⟩) m1 _
              · exact (((bz9.set_other (p := ⟨g, k * 4, none⟩) m2 _).set_other (p := ⟨g, k * 4 + 1, none⟩) m2 _).set_other (p := ⟨g, k * 4 + 2, none⟩) m2 _).set_other (p := ⟨g, k * 4 + 3, none⟩) m2 _
              · exact (((hB9.setCell (p := ⟨g, k * 4, none⟩) hwg _).setCell (p := ⟨g, k * 4 + 1, none⟩) hwg _).setCell (p := ⟨g, k * 4 + 2, none⟩) hwg _).setCell (p := ⟨g, k * 4 + 3, none⟩) hwg _
            case measure => simp [intOf]; omega
        · have hkL : k = L.length := by omega
          have HE : Hid (twErr cn rn L = 0) := Lib.hid (by unfold twErr; rw [if_neg (by simp [HC0.out]), if_pos HALL.out])
          have HD : Hid (twD cn rn L = ((cn : Int), (rn : Int)) ∧ twL cn rn L b = twTo cn rn L b L.length) := Lib.hid (by unfold twD twL; rw [HE.out]; exact ⟨rfl, rfl⟩)
          have hkI : ¬ (k : Int) < (L.length : Int) := by omega
          rw [hkL] at hO
          have HO := Lib.hid hO
          have r0 := br.cell 0; have r1 := br.cell 1; have r2 := br.cell 2
          have z := fun j => br.free j
          have hrl := br.lt
          have d0 := bz.cell 0; have d1 := bz.cell 1
          have hzl2 := bz.lt
          simp at r0 r1 r2 d0 d1
          clear hkL hO
          go_wp2_with fail
          refine bodyPost_ret (v := .tuple #[.agg #[.int .i64 cn, .int .i64 rn, .slice (some ⟨g, 0, none⟩) L.length L.length], .int .i64 0]) ?_ rfl ?_
          · simp [results, Try.results50, go_sem, r0, r1, r2]
          · obtain ⟨a', c', e1, hrow, -, -, hnil, -⟩ := HO.out.rows cell_l
            injection e1 with e1 e2 e3
            subst e1 e3
            refine ⟨_, L.length, L.length, scheme_ret HD.out.1 HE.out, by rw [HD.out.2, twTo_len (Nat.le_refl _)], ?_, hnil, (((hB.setCell (p := ⟨w.heap.size + 1, 0, none⟩) (by show w.heap.size ≤ w.heap.size + 1; omega) _).setCell (p := ⟨w.heap.size + 1, 1, none⟩) (by show w.heap.size ≤ w.heap.size + 1; omega) _).setCell (p := ⟨w.heap.size + 1, 2, none⟩) (by show w.heap.size ≤ w.heap.size + 1; omega) _)⟩
            rw [HD.out.2]
            exact ((hrow.set (p := ⟨w.heap.size + 1, 0, none⟩) (fun ad e => by cases e; show g ≠ w.heap.size + 1; omega) _).set (p := ⟨w.heap.size + 1, 1, none⟩) (fun ad e => by cases e; show g ≠ w.heap.size + 1; omega) _).set (p := ⟨w.heap.size + 1, 2, none⟩) (fun ad e => by cases e; show g ≠ w.heap.size + 1; omega) _
  · have HE : Hid (twErr C R L = cellsErr C R L.length) := Lib.hid (by unfold twErr; rw [if_pos h1])
    have HD : Hid (twD C R L = (0, 0) ∧ twL C R L b = []) := Lib.hid (by unfold twD twL; rw [HE.out, if_neg h1, if_neg h1]; exact ⟨rfl, rfl⟩)
    have heb : (cellsErr C R L.length != 0) = true := by simpa using h1
    clear h1
    go_wp2_with fail
    refine bodyPost_ret (v := .tuple #[.agg #[.int .i64 0, .int .i64 0, .slice none 0 0], .int .i64 (cellsErr C R L.length)]) ?_ rfl ?_
    · simp [results, Try.results50, go_sem, r0, r1, r2]
    · exact ⟨none, 0, 0, scheme_ret HD.out.1 HE.out, by rw [HD.out.2]; rfl, by rw [HD.out.2]; exact RowsAt.nil _ _, fun _ => rfl, (((hB4.setCell (p := ⟨w.heap.size + 1, 0, none⟩) (by show w.heap.size ≤ w.heap.size + 1; omega) _).setCell (p := ⟨w.heap.size + 1, 1, none⟩) (by show w.heap.size ≤ w.heap.size + 1; omega) _).setCell (p := ⟨w.heap.size + 1, 2, none⟩) (by show w.heap.size ≤ w.heap.size + 1; omega) _)⟩
end Go.Proofs.Ytjkjfmahcjcniaa
