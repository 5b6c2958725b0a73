/-
  Package impose: FrontView, BackView.
-/
import Derived.Test.YtdnbhjcckhbhaaaYC
namespace Go.Proofs.Ytdnbhjcckhbhaaa
open Go.RowKit

theorem own_page {E : TypeId} {w : World} {B g n c : Nat} {M : List Page} (h : OwnR 2 E Page.l w B (.slice (some ⟨g, 0, none⟩) n c) M) {k : Nat} (hk : k < M.length) : ∃ u v, w.cell? ⟨g, k * 2, none⟩ = some (.int .i64 u) ∧ w.cell? ⟨g, k * 2 + 1, none⟩ = some (.int .i64 v) ∧ ∀ j, w.frozen? ⟨g, j, none⟩ = false := by
  obtain ⟨a', c', e1, hrow, -, -, -, -⟩ := h.rows page_l
  injection e1 with e1 e2 e3
  subst e1
  obtain ⟨_, e, _, x0, x1⟩ := hrow.page hk
  cases e
  rw [add0] at x0 x1
  exact ⟨_, _, x0, x1, fun j => h.free j⟩
theorem checkSc_ok {C R : Int} {L : List Cell} (h : (checkSc C R L).2 = 0) : cellsErr C R L.length = 0 := by
  unfold checkSc at h
  by_cases h1 : cellsErr C R L.length = 0
  · exact h1
  · rw [if_pos h1] at h; exact absurd h h1
set_option maxRecDepth 100000 in
set_option maxHeartbeats 4000000 in
theorem frontView_any (C R : Int) (a : Option Addr) (L : List Cell) (c : Nat) (w : World) (hL : RowsAt 4 Cell.l w a L) (hl : L.length ≤ 1000000) :
    Calls Try.prog 33 #[.agg #[.int .i64 C, .int .i64 R, .slice a L.length c]] w (FvPost w (checkSc C R L).2 (schD C R L) (frontL C R L)) := by
  obtain ⟨w2, hw2⟩ : ∃ w2, w2 = (w.alloc (.cells #[.int .i64 C, .int .i64 R, .slice a L.length c] 43)).alloc (.cells #[.int .i64 0, .int .i64 0, .slice none 0 0] 56) := ⟨_, rfl⟩
  have bx2 : BoxAt w2 w.heap.size #[.int .i64 C, .int .i64 R, .slice a L.length c] 43 := by rw [hw2]; exact (BoxAt.new w _ _).alloc _
  have br2 : BoxAt w2 (w.heap.size + 1) #[.int .i64 0, .int .i64 0, .slice none 0 0] 56 := by
    rw [hw2]
    have := BoxAt.new (w.alloc (.cells #[.int .i64 C, .int .i64 R, .slice a L.length c] 43)) #[.int .i64 0, .int .i64 0, .slice none 0 0] 56
    simpa using this
  have hB2 : Below w.heap.size w w2 := by rw [hw2]; exact ((Below.refl w.heap.size w).alloc (Nat.le_refl _) _).alloc (by simp) _
  have W2 := Lib.hid hw2
  clear hw2
  obtain ⟨e1, he1⟩ : ∃ x, (checkSc C R L).1 = x := ⟨_, rfl⟩
  obtain ⟨e2, he2⟩ : ∃ x, (checkSc C R L).2 = x := ⟨_, rfl⟩
  have HCK := Lib.hid (fun W h => checkScheme_any C R a L c W h hl)
  rw [he1, he2] at HCK
  go_enter Try.func33, Try.ntmps33
  go_wp2_with fail
  rw [← W2.out]
  refine (HCK.out _ (hL.below hB2)).mono ?_
  rintro e w3 ⟨rfl, hb3⟩
  have bx3 := bx2.below hb3; have br3 := br2.below hb3
  have hB3 := hB2.trans (hb3.mono (B' := w.heap.size) hB2.size)
  clear hb3 bx2 br2 hB2 HCK
  by_cases h0 : e2 = 0
  · subst h0
    have HE := Lib.hid he2
    have h1 := checkSc_ok he2
    obtain ⟨hs, hn⟩ := cells_ok h1
    obtain ⟨sC, sR, sm⟩ := side_ok hs
    obtain ⟨cn, rfl⟩ : ∃ n : Nat, C = n := ⟨C.toNat, by omega⟩
    obtain ⟨rn, rfl⟩ : ∃ n : Nat, R = n := ⟨R.toNat, by omega⟩
    have HCR : Hid ((1 ≤ cn ∧ cn ≤ 8) ∧ (1 ≤ rn ∧ rn ≤ 8)) := Lib.hid (by omega)
    have HN : Hid (L.length = cn * rn) := Lib.hid (by have : (L.length : Int) = ((cn * rn : Nat) : Int) := by rw [hn, Int.natCast_mul]
                                                      omega)
    have hN64 : L.length ≤ 64 := by rw [HN.out]; exact Nat.mul_le_mul (show cn ≤ 8 by omega) (show rn ≤ 8 by omega)
    have HNI : Hid ((cn : Int) * rn = (L.length : Int)) := Lib.hid hn.symm
    have HD : Hid (schD cn rn L = ((cn : Int), (rn : Int)) ∧ frontL cn rn L = frontTo L L.length) := Lib.hid (by unfold schD frontL; rw [if_pos he2, if_pos he2]; exact ⟨rfl, rfl⟩)
    obtain ⟨n, hnn⟩ : ∃ n, L.length = n := ⟨_, rfl⟩
    have HBL := Lib.hid (fun W => blank_any (cn : Int) (rn : Int) L.length W HNI.out (by omega))
    rw [hnn] at HBL
    have HNN := Lib.hid hnn
    have c0 := bx3.cell 0; have c1 := bx3.cell 1; have c2 := bx3.cell 2
    simp at c0 c1 c2
    have hxl := bx3.lt
    clear h1 hs hn sC sR sm he1 he2 hl hnn
    go_wp2_with (first
      | (go_at_call 83; refine (sizeOfScheme_any _ _ _ ⟨_, _, _, rfl⟩ _).mono ?_; rintro e w4 ⟨rfl, hb4⟩; have bx4 := bx3.below hb4; have br4 := br3.below hb4; have br4' := br4; have hB4 := hB3.trans (hb4.mono (B' := w.heap.size) hB3.size))
      | (go_at_call 89; refine (HBL.out _).mono ?_; rintro e w5 ⟨g, rfl, hgl, hO5, hb5⟩; have bx5 := bx4.below hb5; have br5 := br4.below hb5; have hB5 := hB4.trans (hb5.mono (B' := w.heap.size) hB4.size); have d0 := bx5.cell 0; have d1 := bx5.cell 1; have d2 := bx5.cell 2; simp at d0 d1 d2; have hx5 := bx5.lt))
    clear hb4 hb5 d0 d1 d2 hx5 bx4 br4 hB4 bx3 br3 hB3 c0 c1 c2 hxl
    obtain ⟨gv, hgv⟩ : ∃ gv, w5.heap.size = gv := ⟨_, rfl⟩
    have bv6 : BoxAt (w5.alloc (.cells #[.int .i64 cn, .int .i64 rn, .slice (some ⟨g, 0, none⟩) n n] 56)) gv #[.int .i64 cn, .int .i64 rn, .slice (some ⟨g, 0, none⟩) n n] 56 := by rw [← hgv]; exact BoxAt.new w5 _ _
    have bx6 := bx5.alloc (.cells #[.int .i64 cn, .int .i64 rn, .slice (some ⟨g, 0, none⟩) n n] 56)
    have br6 := br5.alloc (.cells #[.int .i64 cn, .int .i64 rn, .slice (some ⟨g, 0, none⟩) n n] 56)
    have hB6 := hB5.alloc hB5.size (.cells #[.int .i64 cn, .int .i64 rn, .slice (some ⟨g, 0, none⟩) n n] 56)
    have hO6 := hO5.alloc (.cells #[.int .i64 cn, .int .i64 rn, .slice (some ⟨g, 0, none⟩) n n] 56)
    have hgs : w.heap.size + 1 < g ∧ g < gv := by
      have h1 := (hO5.lt g rfl).2
      have h2 := br4'.lt
      omega
    have HO6 : OwnR 2 119 Page.l (w5.alloc (.cells #[.int .i64 cn, .int .i64 rn, .slice (some ⟨g, 0, none⟩) n n] 56)) g (.slice (some ⟨g, 0, none⟩) n n) (frontMix L 0) := by
      rw [show frontMix L 0 = List.replicate L.length ⟨0, 0⟩ from by unfold frontMix frontTo; simp, HNN.out]; exact hO6
    rw [hgv]
    obtain ⟨hg1, hg2⟩ := hgs
    clear hO5 hO6 hB5 bx5 br5 hgv hgl br4'
    go_loopw [24] (fun i wr => ∃ k : Nat, k ≤ L.length ∧ i = .int .i64 k ∧ OwnR 2 119 Page.l wr g (.slice (some ⟨g, 0, none⟩) n n) (frontMix L k) ∧ BoxAt wr w.heap.size #[.int .i64 cn, .int .i64 rn, .slice a L.length c] 43 ∧ BoxAt wr (w.heap.size + 1) #[.int .i64 0, .int .i64 0, .slice none 0 0] 56 ∧ BoxAt wr gv #[.int .i64 cn, .int .i64 rn, .slice (some ⟨g, 0, none⟩) n n] 56 ∧ Below w.heap.size w wr) (fun i _ => L.length - (intOf i).toNat)
    case atStart => exact ⟨0, Nat.zero_le _, rfl, HO6, bx6, br6, bv6, hB6⟩
    case round =>
      obtain ⟨k, hk, rfl, hO, bx, br, bv, hB⟩ := hrel
      clear HO6 bx6 br6 bv6 hB6
      by_cases hkl : k < L.length
      · have hkI : (k : Int) < (L.length : Int) := by omega
        have hkn : (k : Int) < (n : Int) := by have := HNN.out; omega
        obtain ⟨ad, rfl, had, s0, s1, s2, s3⟩ := (hL.below hB).cell hkl
        obtain ⟨x, ex⟩ : ∃ x, x = L[k] := ⟨_, rfl⟩
        rw [← ex] at s0 s1 s2 s3
        have HST : Hid ((frontMix L k).set k (frontCell x) = frontMix L (k + 1)) := Lib.hid (by rw [ex]; exact frontMix_set hkl)
        have EX := Lib.hid ex
        clear ex
        obtain ⟨f, ft, b, bt⟩ := x
        simp only at s0 s1 s2 s3
        obtain ⟨al, hal⟩ : ∃ al, wr.heap.size = al := ⟨_, rfl⟩
        obtain ⟨w7, hw7⟩ : ∃ w7, w7 = wr.alloc (.cells #[.int .i64 f, .int .i64 ft, .int .i64 b, .int .i64 bt] 91) := ⟨_, rfl⟩
        have bl7 : BoxAt w7 al #[.int .i64 f, .int .i64 ft, .int .i64 b, .int .i64 bt] 91 := by rw [hw7, ← hal]; exact BoxAt.new wr _ _
        have bx7 : BoxAt w7 w.heap.size #[.int .i64 cn, .int .i64 rn, .slice (some ad) L.length c] 43 := by rw [hw7]; exact bx.alloc _
        have br7 : BoxAt w7 (w.heap.size + 1) #[.int .i64 0, .int .i64 0, .slice none 0 0] 56 := by rw [hw7]; exact br.alloc _
        have bv7 : BoxAt w7 gv #[.int .i64 cn, .int .i64 rn, .slice (some ⟨g, 0, none⟩) n n] 56 := by rw [hw7]; exact bv.alloc _
        have hO7 : OwnR 2 119 Page.l w7 g (.slice (some ⟨g, 0, none⟩) n n) (frontMix L k) := by rw [hw7]; exact hO.alloc _
        have hB7 : Below w.heap.size w w7 := by rw [hw7]; exact hB.alloc hB.size _
        have hvl : gv < al := by rw [← hal]; exact bv.lt
        have c2 := bx.cell 2
        simp at c2
        have hxl := bx.lt
        go_wp2_with fail
        rw [← hw7]
        clear s0 s1 s2 s3 bx br bv hB hO hw7 hal had c2 hxl
        have l0 := bl7.cell 0; have l1 := bl7.cell 1; have l2 := bl7.cell 2; have l3 := bl7.cell 3
        have v2 := bv7.cell 2
        have c0 := bx7.cell 0; have c1 := bx7.cell 1; have c2 := bx7.cell 2
        have hll := bl7.lt; have hvl7 := bv7.lt; have hxl := bx7.lt
        simp at l0 l1 l2 l3 v2 c0 c1 c2
        have m0 : ¬ w.heap.size = g := by omega
        have m1 : ¬ g = w.heap.size := by omega
        have m2 : ¬ gv = g := by omega
        have m3 : ¬ g = gv := by omega
        have m4 : ¬ al = g := by omega
        have m5 : ¬ g = al := by omega
        have hq : Below w7.heap.size w7 w7.drew := (Below.refl _ w7).drew
        go_region_held3 (fun w' => w'.cell? ⟨w.heap.size, 0, none⟩ = some (.int .i64 cn) ∧ w'.cell? ⟨w.heap.size, 1, none⟩ = some (.int .i64 rn) ∧ w'.cell? ⟨w.heap.size, 2, none⟩ = some (.slice (some ad) L.length c) ∧ w'.cell? ⟨gv, 2, none⟩ = some (.slice (some ⟨g, 0, none⟩) n n) ∧ w'.cell? ⟨al, 0, none⟩ = some (.int .i64 f) ∧ w'.cell? ⟨al, 1, none⟩ = some (.int .i64 ft) ∧ w'.cell? ⟨al, 2, none⟩ = some (.int .i64 b) ∧ w'.cell? ⟨al, 3, none⟩ = some (.int .i64 bt)) (first | exact ⟨j0, j1, j2, j3, j4, j5, j6, j7⟩ | go_keep)
          (first
            | (go_at_call 86; refine (frontOf_any ⟨f, ft, b, bt⟩ _).mono ?_; rintro e v ⟨rfl, hbv⟩; have hq := hq.trans (hbv.mono (B' := w7.heap.size) hq.size); have j0 := (hq.cell (p := ⟨w.heap.size, 0, none⟩) hxl).trans c0; have j1 := (hq.cell (p := ⟨w.heap.size, 1, none⟩) hxl).trans c1; have j2 := (hq.cell (p := ⟨w.heap.size, 2, none⟩) hxl).trans c2; have j3 := (hq.cell (p := ⟨gv, 2, none⟩) hvl7).trans v2; have j4 := (hq.cell (p := ⟨al, 0, none⟩) hll).trans l0; have j5 := (hq.cell (p := ⟨al, 1, none⟩) hll).trans l1; have j6 := (hq.cell (p := ⟨al, 2, none⟩) hll).trans l2; have j7 := (hq.cell (p := ⟨al, 3, none⟩) hll).trans l3; obtain ⟨y0, y1, x0, x1, z⟩ := own_page (hO7.below hq) (k := k) (by rw [frontMix_len hk]; exact hkl)))
        have bx8 := bx7.below hq; have br8 := br7.below hq; have bv8 := bv7.below hq; have hO8 := hO7.below hq
        have hB8 := hB7.trans (hq.mono (B' := w.heap.size) hB7.size)
        have hO9 := hO8.put2p (by rw [frontMix_len hk]; exact HNN.out.symm) (k := k) (by rw [frontMix_len hk]; exact hkl) (frontCell ⟨f, ft, b, bt⟩)
        rw [HST.out] at hO9
        have m6 : w.heap.size ≠ g := m0
        have m7 : w.heap.size + 1 ≠ g := by omega
        have m8 : gv ≠ g := m2
        have hwg : w.heap.size ≤ g := by omega
        go_wp2
        go_roundw
        case rel =>
          refine ⟨k + 1, by omega, by go_num, hO9, ?_, ?_, ?_, ?_⟩
          · exact (bx8.set_other (p := ⟨g, k * 2, none⟩) m6 _).set_other (p := ⟨g, k * 2 + 1, none⟩) m6 _
          · exact (br8.set_other (p := ⟨g, k * 2, none⟩) m7 _).set_other (p := ⟨g, k * 2 + 1, none⟩) m7 _
          · exact (bv8.set_other (p := ⟨g, k * 2, none⟩) m8 _).set_other (p := ⟨g, k * 2 + 1, none⟩) m8 _
          · exact (hB8.setCell (p := ⟨g, k * 2, none⟩) hwg _).setCell (p := ⟨g, k * 2 + 1, none⟩) hwg _
        case measure => simp [intOf]; omega
      · have hkL : k = L.length := by omega
        have hkI : ¬ (k : Int) < (L.length : Int) := by omega
        rw [hkL, frontMix_end] at hO
        have HOO := Lib.hid hO
        have r0 := br.cell 0; have r1 := br.cell 1; have r2 := br.cell 2
        have z := fun j => br.free j
        have hrl := br.lt
        have v0 := bv.cell 0; have v1 := bv.cell 1; have v2 := bv.cell 2
        have hvl := bv.lt
        simp at r0 r1 r2 v0 v1 v2
        clear hO hkL
        go_wp2_with fail
        refine bodyPost_ret (v := .tuple #[.agg #[.int .i64 cn, .int .i64 rn, .slice (some ⟨g, 0, none⟩) n n], .int .i64 0]) ?_ rfl ?_
        · simp [results, Try.results33, go_sem, r0, r1, r2]
        · obtain ⟨a', c', e1, hrow, -, -, hnil, -⟩ := HOO.out.rows page_l
          injection e1 with e1 e2 e3
          subst e1 e3
          refine ⟨_, n, n, scheme_ret HD.out.1 HE.out, by rw [HD.out.2, ← HNN.out, frontTo_len (Nat.le_refl _)], ?_, hnil, (((hB.setCell (p := ⟨w.heap.size + 1, 0, none⟩) (by show w.heap.size ≤ w.heap.size + 1; omega) _).setCell (p := ⟨w.heap.size + 1, 1, none⟩) (by show w.heap.size ≤ w.heap.size + 1; omega) _).setCell (p := ⟨w.heap.size + 1, 2, none⟩) (by show w.heap.size ≤ w.heap.size + 1; omega) _)⟩
          rw [HD.out.2]
          exact ((hrow.set (p := ⟨w.heap.size + 1, 0, none⟩) (fun ad e => by cases e; show g ≠ w.heap.size + 1; omega) _).set (p := ⟨w.heap.size + 1, 1, none⟩) (fun ad e => by cases e; show g ≠ w.heap.size + 1; omega) _).set (p := ⟨w.heap.size + 1, 2, none⟩) (fun ad e => by cases e; show g ≠ w.heap.size + 1; omega) _
  · have heb : (e2 != 0) = true := by simpa using h0
    have HE := Lib.hid he2
    have HD : Hid (schD C R L = (0, 0) ∧ frontL C R L = []) := Lib.hid (by unfold schD frontL; rw [if_neg (by rw [he2]; exact h0), if_neg (by rw [he2]; exact h0)]; exact ⟨rfl, rfl⟩)
    have r0 := br3.cell 0; have r1 := br3.cell 1; have r2 := br3.cell 2
    have z := fun j => br3.free j
    have hrl := br3.lt
    simp at r0 r1 r2
    clear h0 he1 he2
    go_wp2_with fail
    refine bodyPost_ret (v := .tuple #[.agg #[.int .i64 0, .int .i64 0, .slice none 0 0], .int .i64 e2]) ?_ rfl ?_
    · simp [results, Try.results33, go_sem, r0, r1, r2]
    · exact ⟨none, 0, 0, scheme_ret HD.out.1 HE.out, by rw [HD.out.2]; rfl, by rw [HD.out.2]; exact RowsAt.nil _ _, fun _ => rfl, (((hB3.setCell (p := ⟨w.heap.size + 1, 0, none⟩) (by show w.heap.size ≤ w.heap.size + 1; omega) _).setCell (p := ⟨w.heap.size + 1, 1, none⟩) (by show w.heap.size ≤ w.heap.size + 1; omega) _).setCell (p := ⟨w.heap.size + 1, 2, none⟩) (by show w.heap.size ≤ w.heap.size + 1; omega) _)⟩
set_option maxRecDepth 100000 in
set_option maxHeartbeats 4000000 in
theorem backView_any (C R : Int) (a : Option Addr) (L : List Cell) (c : Nat) (w : World) (hL : RowsAt 4 Cell.l w a L) (hl : L.length ≤ 1000000) :
    Calls Try.prog 34 #[.agg #[.int .i64 C, .int .i64 R, .slice a L.length c]] w (FvPost w (checkSc C R L).2 (schD C R L) (backL C R L)) := by
  obtain ⟨w2, hw2⟩ : ∃ w2, w2 = (w.alloc (.cells #[.int .i64 C, .int .i64 R, .slice a L.length c] 43)).alloc (.cells #[.int .i64 0, .int .i64 0, .slice none 0 0] 56) := ⟨_, rfl⟩
  have bx2 : BoxAt w2 w.heap.size #[.int .i64 C, .int .i64 R, .slice a L.length c] 43 := by rw [hw2]; exact (BoxAt.new w _ _).alloc _
  have br2 : BoxAt w2 (w.heap.size + 1) #[.int .i64 0, .int .i64 0, .slice none 0 0] 56 := by
    rw [hw2]
    have := BoxAt.new (w.alloc (.cells #[.int .i64 C, .int .i64 R, .slice a L.length c] 43)) #[.int .i64 0, .int .i64 0, .slice none 0 0] 56
    simpa using this
  have hB2 : Below w.heap.size w w2 := by rw [hw2]; exact ((Below.refl w.heap.size w).alloc (Nat.le_refl _) _).alloc (by simp) _
  have W2 := Lib.hid hw2
  clear hw2
  obtain ⟨e1, he1⟩ : ∃ x, (checkSc C R L).1 = x := ⟨_, rfl⟩
  obtain ⟨e2, he2⟩ : ∃ x, (checkSc C R L).2 = x := ⟨_, rfl⟩
  have HCK := Lib.hid (fun W h => checkScheme_any C R a L c W h hl)
  rw [he1, he2] at HCK
  go_enter Try.func34, Try.ntmps34
  go_wp2_with fail
  rw [← W2.out]
  refine (HCK.out _ (hL.below hB2)).mono ?_
  rintro e w3 ⟨rfl, hb3⟩
  have bx3 := bx2.below hb3; have br3 := br2.below hb3
  have hB3 := hB2.trans (hb3.mono (B' := w.heap.size) hB2.size)
  clear hb3 bx2 br2 hB2 HCK
  by_cases h0 : e2 = 0
  · subst h0
    have HE := Lib.hid he2
    have h1 := checkSc_ok he2
    obtain ⟨hs, hn⟩ := cells_ok h1
    obtain ⟨sC, sR, sm⟩ := side_ok hs
    obtain ⟨cn, rfl⟩ : ∃ n : Nat, C = n := ⟨C.toNat, by omega⟩
    obtain ⟨rn, rfl⟩ : ∃ n : Nat, R = n := ⟨R.toNat, by omega⟩
    have HCR : Hid ((1 ≤ cn ∧ cn ≤ 8) ∧ (1 ≤ rn ∧ rn ≤ 8)) := Lib.hid (by omega)
    have HN : Hid (L.length = cn * rn) := Lib.hid (by have : (L.length : Int) = ((cn * rn : Nat) : Int) := by rw [hn, Int.natCast_mul]
                                                      omega)
    have hN64 : L.length ≤ 64 := by rw [HN.out]; exact Nat.mul_le_mul (show cn ≤ 8 by omega) (show rn ≤ 8 by omega)
    have HNI : Hid ((cn : Int) * rn = (L.length : Int)) := Lib.hid hn.symm
    have HD : Hid (schD cn rn L = ((cn : Int), (rn : Int)) ∧ backL cn rn L = backTo cn L rn 0) := Lib.hid (by unfold schD backL; rw [if_pos he2, if_pos he2]; exact ⟨rfl, rfl⟩)
    obtain ⟨n, hnn⟩ : ∃ n, L.length = n := ⟨_, rfl⟩
    have HBL := Lib.hid (fun W => blank_any (cn : Int) (rn : Int) L.length W HNI.out (by omega))
    rw [hnn] at HBL
    have HNN := Lib.hid hnn
    have c0 := bx3.cell 0; have c1 := bx3.cell 1; have c2 := bx3.cell 2
    simp at c0 c1 c2
    have hxl := bx3.lt
    clear h1 hs hn sC sR sm he1 he2 hl hnn
    go_wp2_with (first
      | (go_at_call 83; refine (sizeOfScheme_any _ _ _ ⟨_, _, _, rfl⟩ _).mono ?_; rintro e w4 ⟨rfl, hb4⟩; have bx4 := bx3.below hb4; have br4 := br3.below hb4; have br4' := br4; have hB4 := hB3.trans (hb4.mono (B' := w.heap.size) hB3.size))
      | (go_at_call 89; refine (HBL.out _).mono ?_; rintro e w5 ⟨g, rfl, hgl, hO5, hb5⟩; have bx5 := bx4.below hb5; have br5 := br4.below hb5; have hB5 := hB4.trans (hb5.mono (B' := w.heap.size) hB4.size); have d0 := bx5.cell 0; have d1 := bx5.cell 1; have d2 := bx5.cell 2; simp at d0 d1 d2; have hx5 := bx5.lt))
    clear hb4 hb5 d0 d1 d2 hx5 bx4 br4 hB4 bx3 br3 hB3 c0 c1 c2 hxl
    obtain ⟨gv, hgv⟩ : ∃ gv, w5.heap.size = gv := ⟨_, rfl⟩
    have bv6 : BoxAt (w5.alloc (.cells #[.int .i64 cn, .int .i64 rn, .slice (some ⟨g, 0, none⟩) n n] 56)) gv #[.int .i64 cn, .int .i64 rn, .slice (some ⟨g, 0, none⟩) n n] 56 := by rw [← hgv]; exact BoxAt.new w5 _ _
    have bx6 := bx5.alloc (.cells #[.int .i64 cn, .int .i64 rn, .slice (some ⟨g, 0, none⟩) n n] 56)
    have br6 := br5.alloc (.cells #[.int .i64 cn, .int .i64 rn, .slice (some ⟨g, 0, none⟩) n n] 56)
    have hB6 := hB5.alloc hB5.size (.cells #[.int .i64 cn, .int .i64 rn, .slice (some ⟨g, 0, none⟩) n n] 56)
    have hO6 := hO5.alloc (.cells #[.int .i64 cn, .int .i64 rn, .slice (some ⟨g, 0, none⟩) n n] 56)
    have hgs : w.heap.size + 1 < g ∧ g < gv := by
      have h1 := (hO5.lt g rfl).2
      have h2 := br4'.lt
      omega
    have HO6 : OwnR 2 119 Page.l (w5.alloc (.cells #[.int .i64 cn, .int .i64 rn, .slice (some ⟨g, 0, none⟩) n n] 56)) g (.slice (some ⟨g, 0, none⟩) n n) (backMix cn rn L 0) := by
      rw [backMix_zero, HNN.out]; exact hO6
    rw [hgv]
    obtain ⟨hg1, hg2⟩ := hgs
    clear hO5 hO6 hB5 bx5 br5 hgv hgl br4'
    go_loopw [24] (fun i wr => ∃ k : Nat, k ≤ L.length ∧ i = .int .i64 k ∧ OwnR 2 119 Page.l wr g (.slice (some ⟨g, 0, none⟩) n n) (backMix cn rn L k) ∧ BoxAt wr w.heap.size #[.int .i64 cn, .int .i64 rn, .slice a L.length c] 43 ∧ BoxAt wr (w.heap.size + 1) #[.int .i64 0, .int .i64 0, .slice none 0 0] 56 ∧ BoxAt wr gv #[.int .i64 cn, .int .i64 rn, .slice (some ⟨g, 0, none⟩) n n] 56 ∧ Below w.heap.size w wr) (fun i _ => L.length - (intOf i).toNat)
    case atStart => exact ⟨0, Nat.zero_le _, rfl, HO6, bx6, br6, bv6, hB6⟩
    case round =>
      obtain ⟨k, hk, rfl, hO, bx, br, bv, hB⟩ := hrel
      clear HO6 bx6 br6 bv6 hB6
      by_cases hkl : k < L.length
      · have hkI : (k : Int) < (L.length : Int) := by omega
        have hkn : (k : Int) < (n : Int) := by have := HNN.out; omega
        obtain ⟨ad, rfl, had, s0, s1, s2, s3⟩ := (hL.below hB).cell hkl
        obtain ⟨x, ex⟩ : ∃ x, x = L[k] := ⟨_, rfl⟩
        rw [← ex] at s0 s1 s2 s3
        have HOP := Lib.hid (fun W => opposite_any cn rn k false W HCR.out.1 HCR.out.2 (by rw [← HN.out]; exact hkl))
        have hol : oppN cn rn k false < L.length := by rw [HN.out]; exact oppN_lt false HCR.out.1.1 (by rw [← HN.out]; exact hkl)
        have HST : Hid ((backMix cn rn L k).set (oppN cn rn k false) (backCell x) = backMix cn rn L (k + 1)) := Lib.hid (by rw [ex]; exact backMix_set HCR.out.1.1 HN.out hkl)
        obtain ⟨o, ho⟩ : ∃ o, o = oppN cn rn k false := ⟨_, rfl⟩
        rw [← ho] at HOP hol HST
        have hon : (o : Int) < (n : Int) := by have := HNN.out; omega
        clear ho
        have EX := Lib.hid ex
        clear ex
        obtain ⟨f, ft, b, bt⟩ := x
        simp only at s0 s1 s2 s3
        obtain ⟨al, hal⟩ : ∃ al, wr.heap.size = al := ⟨_, rfl⟩
        obtain ⟨w7, hw7⟩ : ∃ w7, w7 = wr.alloc (.cells #[.int .i64 f, .int .i64 ft, .int .i64 b, .int .i64 bt] 91) := ⟨_, rfl⟩
        have bl7 : BoxAt w7 al #[.int .i64 f, .int .i64 ft, .int .i64 b, .int .i64 bt] 91 := by rw [hw7, ← hal]; exact BoxAt.new wr _ _
        have bx7 : BoxAt w7 w.heap.size #[.int .i64 cn, .int .i64 rn, .slice (some ad) L.length c] 43 := by rw [hw7]; exact bx.alloc _
        have br7 : BoxAt w7 (w.heap.size + 1) #[.int .i64 0, .int .i64 0, .slice none 0 0] 56 := by rw [hw7]; exact br.alloc _
        have bv7 : BoxAt w7 gv #[.int .i64 cn, .int .i64 rn, .slice (some ⟨g, 0, none⟩) n n] 56 := by rw [hw7]; exact bv.alloc _
        have hO7 : OwnR 2 119 Page.l w7 g (.slice (some ⟨g, 0, none⟩) n n) (backMix cn rn L k) := by rw [hw7]; exact hO.alloc _
        have hB7 : Below w.heap.size w w7 := by rw [hw7]; exact hB.alloc hB.size _
        have hvl : gv < al := by rw [← hal]; exact bv.lt
        have c2 := bx.cell 2
        simp at c2
        have hxl := bx.lt
        go_wp2_with fail
        rw [← hw7]
        clear s0 s1 s2 s3 bx br bv hB hO hw7 hal had c2 hxl
        have l0 := bl7.cell 0; have l1 := bl7.cell 1; have l2 := bl7.cell 2; have l3 := bl7.cell 3
        have v2 := bv7.cell 2
        have c0 := bx7.cell 0; have c1 := bx7.cell 1; have c2 := bx7.cell 2
        have hll := bl7.lt; have hvl7 := bv7.lt; have hxl := bx7.lt
        simp at l0 l1 l2 l3 v2 c0 c1 c2
        have m0 : ¬ w.heap.size = g := by omega
        have m1 : ¬ g = w.heap.size := by omega
        have m2 : ¬ gv = g := by omega
        have m3 : ¬ g = gv := by omega
        have m4 : ¬ al = g := by omega
        have m5 : ¬ g = al := by omega
        have hq : Below w7.heap.size w7 w7.drew := (Below.refl _ w7).drew
        go_region_held3 (fun w' => w'.cell? ⟨w.heap.size, 0, none⟩ = some (.int .i64 cn) ∧ w'.cell? ⟨w.heap.size, 1, none⟩ = some (.int .i64 rn) ∧ w'.cell? ⟨w.heap.size, 2, none⟩ = some (.slice (some ad) L.length c) ∧ w'.cell? ⟨gv, 2, none⟩ = some (.slice (some ⟨g, 0, none⟩) n n) ∧ w'.cell? ⟨al, 0, none⟩ = some (.int .i64 f) ∧ w'.cell? ⟨al, 1, none⟩ = some (.int .i64 ft) ∧ w'.cell? ⟨al, 2, none⟩ = some (.int .i64 b) ∧ w'.cell? ⟨al, 3, none⟩ = some (.int .i64 bt)) (first | exact ⟨j0, j1, j2, j3, j4, j5, j6, j7⟩ | go_keep)
          (first
            | (go_at_call 83; refine (sizeOfScheme_any (cn : Int) (rn : Int) _ ⟨_, _, _, rfl⟩ _).mono ?_; rintro e v ⟨rfl, hbv⟩; have hq := hq.trans (hbv.mono (B' := w7.heap.size) hq.size); have j0 := (hq.cell (p := ⟨w.heap.size, 0, none⟩) hxl).trans c0; have j1 := (hq.cell (p := ⟨w.heap.size, 1, none⟩) hxl).trans c1; have j2 := (hq.cell (p := ⟨w.heap.size, 2, none⟩) hxl).trans c2; have j3 := (hq.cell (p := ⟨gv, 2, none⟩) hvl7).trans v2; have j4 := (hq.cell (p := ⟨al, 0, none⟩) hll).trans l0; have j5 := (hq.cell (p := ⟨al, 1, none⟩) hll).trans l1; have j6 := (hq.cell (p := ⟨al, 2, none⟩) hll).trans l2; have j7 := (hq.cell (p := ⟨al, 3, none⟩) hll).trans l3; obtain ⟨y0, y1, x0, x1, z⟩ := own_page (hO7.below hq) (k := o) (by rw [backMix_len]; exact hol))
            | (go_at_call 90; refine (HOP.out _).mono ?_; rintro e v ⟨rfl, hbv⟩; have hq := hq.trans (hbv.mono (B' := w7.heap.size) hq.size); have j0 := (hq.cell (p := ⟨w.heap.size, 0, none⟩) hxl).trans c0; have j1 := (hq.cell (p := ⟨w.heap.size, 1, none⟩) hxl).trans c1; have j2 := (hq.cell (p := ⟨w.heap.size, 2, none⟩) hxl).trans c2; have j3 := (hq.cell (p := ⟨gv, 2, none⟩) hvl7).trans v2; have j4 := (hq.cell (p := ⟨al, 0, none⟩) hll).trans l0; have j5 := (hq.cell (p := ⟨al, 1, none⟩) hll).trans l1; have j6 := (hq.cell (p := ⟨al, 2, none⟩) hll).trans l2; have j7 := (hq.cell (p := ⟨al, 3, none⟩) hll).trans l3; obtain ⟨y0, y1, x0, x1, z⟩ := own_page (hO7.below hq) (k := o) (by rw [backMix_len]; exact hol))
            | (go_at_call 87; refine (backOf_any ⟨f, ft, b, bt⟩ _).mono ?_; rintro e v ⟨rfl, hbv⟩; have hq := hq.trans (hbv.mono (B' := w7.heap.size) hq.size); have j0 := (hq.cell (p := ⟨w.heap.size, 0, none⟩) hxl).trans c0; have j1 := (hq.cell (p := ⟨w.heap.size, 1, none⟩) hxl).trans c1; have j2 := (hq.cell (p := ⟨w.heap.size, 2, none⟩) hxl).trans c2; have j3 := (hq.cell (p := ⟨gv, 2, none⟩) hvl7).trans v2; have j4 := (hq.cell (p := ⟨al, 0, none⟩) hll).trans l0; have j5 := (hq.cell (p := ⟨al, 1, none⟩) hll).trans l1; have j6 := (hq.cell (p := ⟨al, 2, none⟩) hll).trans l2; have j7 := (hq.cell (p := ⟨al, 3, none⟩) hll).trans l3; obtain ⟨y0, y1, x0, x1, z⟩ := own_page (hO7.below hq) (k := o) (by rw [backMix_len]; exact hol)))
        have bx8 := bx7.below hq; have br8 := br7.below hq; have bv8 := bv7.below hq; have hO8 := hO7.below hq
        have hB8 := hB7.trans (hq.mono (B' := w.heap.size) hB7.size)
        have hO9 := hO8.put2p (by rw [backMix_len]; exact HNN.out.symm) (k := o) (by rw [backMix_len]; exact hol) (backCell ⟨f, ft, b, bt⟩)
        rw [HST.out] at hO9
        have m6 : w.heap.size ≠ g := m0
        have m7 : w.heap.size + 1 ≠ g := by omega
        have m8 : gv ≠ g := m2
        have hwg : w.heap.size ≤ g := by omega
        go_wp2
        go_roundw
        case rel =>
          refine ⟨k + 1, by omega, by go_num, hO9, ?_, ?_, ?_, ?_⟩
          · exact (bx8.set_other (p := ⟨g, o * 2, none⟩) m6 _).set_other (p := ⟨g, o * 2 + 1, none⟩) m6 _
          · exact (br8.set_other (p := ⟨g, o * 2, none⟩) m7 _).set_other (p := ⟨g, o * 2 + 1, none⟩) m7 _
          · exact (bv8.set_other (p := ⟨g, o * 2, none⟩) m8 _).set_other (p := ⟨g, o * 2 + 1, none⟩) m8 _
          · exact (hB8.setCell (p := ⟨g, o * 2, none⟩) hwg _).setCell (p := ⟨g, o * 2 + 1, none⟩) hwg _
        case measure => simp [intOf]; omega
      · have hkL : k = L.length := by omega
        have hkI : ¬ (k : Int) < (L.length : Int) := by omega
        rw [hkL, backMix_end HCR.out.1.1 HN.out] at hO
        have HOO := Lib.hid hO
        have r0 := br.cell 0; have r1 := br.cell 1; have r2 := br.cell 2
        have z := fun j => br.free j
        have hrl := br.lt
        have v0 := bv.cell 0; have v1 := bv.cell 1; have v2 := bv.cell 2
        have hvl := bv.lt
        simp at r0 r1 r2 v0 v1 v2
        clear hO hkL
        go_wp2_with fail
        refine bodyPost_ret (v := .tuple #[.agg #[.int .i64 cn, .int .i64 rn, .slice (some ⟨g, 0, none⟩) n n], .int .i64 0]) ?_ rfl ?_
        · simp [results, Try.results34, go_sem, r0, r1, r2]
        · obtain ⟨a', c', e1, hrow, -, -, hnil, -⟩ := HOO.out.rows page_l
          injection e1 with e1 e2 e3
          subst e1 e3
          refine ⟨_, n, n, scheme_ret HD.out.1 HE.out, by rw [HD.out.2, ← HNN.out, backTo_len, Nat.add_zero, HN.out, Nat.mul_comm], ?_, hnil, (((hB.setCell (p := ⟨w.heap.size + 1, 0, none⟩) (by show w.heap.size ≤ w.heap.size + 1; omega) _).setCell (p := ⟨w.heap.size + 1, 1, none⟩) (by show w.heap.size ≤ w.heap.size + 1; omega) _).setCell (p := ⟨w.heap.size + 1, 2, none⟩) (by show w.heap.size ≤ w.heap.size + 1; omega) _)⟩
          rw [HD.out.2]
          exact ((hrow.set (p := ⟨w.heap.size + 1, 0, none⟩) (fun ad e => by cases e; show g ≠ w.heap.size + 1; omega) _).set (p := ⟨w.heap.size + 1, 1, none⟩) (fun ad e => by cases e; show g ≠ w.heap.size + 1; omega) _).set (p := ⟨w.heap.size + 1, 2, none⟩) (fun ad e => by cases e; show g ≠ w.heap.size + 1; omega) _
  · have heb : (e2 != 0) = true := by simpa using h0
    have HE := Lib.hid he2
    have HD : Hid (schD C R L = (0, 0) ∧ backL C R L = []) := Lib.hid (by unfold schD backL; rw [if_neg (by rw [he2]; exact h0), if_neg (by rw [he2]; exact h0)]; exact ⟨rfl, rfl⟩)
    have r0 := br3.cell 0; have r1 := br3.cell 1; have r2 := br3.cell 2
    have z := fun j => br3.free j
    have hrl := br3.lt
    simp at r0 r1 r2
    clear h0 he1 he2
    go_wp2_with fail
    refine bodyPost_ret (v := .tuple #[.agg #[.int .i64 0, .int .i64 0, .slice none 0 0], .int .i64 e2]) ?_ rfl ?_
    · simp [results, Try.results34, go_sem, r0, r1, r2]
    · exact ⟨none, 0, 0, scheme_ret HD.out.1 HE.out, by rw [HD.out.2]; rfl, by rw [HD.out.2]; exact RowsAt.nil _ _, fun _ => rfl, (((hB3.setCell (p := ⟨w.heap.size + 1, 0, none⟩) (by show w.heap.size ≤ w.heap.size + 1; omega) _).setCell (p := ⟨w.heap.size + 1, 1, none⟩) (by show w.heap.size ≤ w.heap.size + 1; omega) _).setCell (p := ⟨w.heap.size + 1, 2, none⟩) (by show w.heap.size ≤ w.heap.size + 1; omega) _)⟩
end Go.Proofs.Ytdnbhjcckhbhaaa
