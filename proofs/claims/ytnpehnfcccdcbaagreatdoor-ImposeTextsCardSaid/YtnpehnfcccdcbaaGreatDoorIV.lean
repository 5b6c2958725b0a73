/-
  Package impose: CheckBook and Signatures.
-/
import Derived.Test.YtnpehnfcccdcbaaGreatDoorIU
namespace Go.Proofs.YtnpehnfcccdcbaaGreatDoor
open Go.RowKit

def bookE (P S : Int) (pl cl : List Int) : Int × Int :=
  if inB P 1 4000 = true ∧ inB S 2 64 = true then (if S % 2 ≠ 0 then (0, 3) else if (placesE 0 P 0 pl).2 ≠ 0 then placesE 0 P 0 pl else placesE 1 P 1 cl) else (0, 2)
set_option maxRecDepth 100000 in
set_option maxHeartbeats 2000000 in
theorem checkBook_any (P S : Int) (pa : Option Addr) (pl : List Int) (pc : Nat) (ca : Option Addr) (cl : List Int) (cc : Nat) (w : World) (hp : RowsAt 1 intL w pa pl) (hpl : pl.length ≤ maxLen) (hc : RowsAt 1 intL w ca cl) (hcl : cl.length ≤ maxLen) :
    Calls Tryz.prog 38 #[.agg #[.int .i64 P, .int .i64 S, .slice pa pl.length pc, .slice ca cl.length cc]] w fun e w' => e = .returned (.tuple #[.int .i64 (bookE P S pl cl).1, .int .i64 (bookE P S pl cl).2]) ∧ Below w.heap.size w w' := by
  have hb := (Below.refl w.heap.size w).alloc (Nat.le_refl _) (.cells #[.int .i64 P, .int .i64 S, .slice pa pl.length pc, .slice ca cl.length cc] 52)
  cases h1 : inB P 1 4000
  · have HE := Lib.hid (show bookE P S pl cl = (0, 2) by unfold bookE; rw [if_neg (by simp [h1])])
    go_enter Tryz.func38, Tryz.ntmps38
    go_wp2_with (go_at_call 37; refine (isFrom_any _ _ _ _).mono ?_; rintro e w' ⟨rfl, rfl⟩)
    go_ret2
    exact ⟨two_to HE.out, hb⟩
  cases h2 : inB S 2 64
  · have HE := Lib.hid (show bookE P S pl cl = (0, 2) by unfold bookE; rw [if_neg (by simp [h2])])
    go_enter Tryz.func38, Tryz.ntmps38
    go_wp2_with (go_at_call 37; refine (isFrom_any _ _ _ _).mono ?_; rintro e w' ⟨rfl, rfl⟩)
    go_ret2
    exact ⟨two_to HE.out, hb⟩
  obtain ⟨g1, g2⟩ := inB_iff.1 h1
  obtain ⟨g3, g4⟩ := inB_iff.1 h2
  have HE0 := Lib.hid (show bookE P S pl cl = if S % 2 ≠ 0 then (0, 3) else if (placesE 0 P 0 pl).2 ≠ 0 then placesE 0 P 0 pl else placesE 1 P 1 cl by unfold bookE; rw [if_pos ⟨h1, h2⟩])
  by_cases h3 : S % 2 = 0
  · have h3' : (S % 2 != 0) = false := by simpa using h3
    have HE1 := Lib.hid (show bookE P S pl cl = if (placesE 0 P 0 pl).2 ≠ 0 then placesE 0 P 0 pl else placesE 1 P 1 cl by rw [HE0.out, if_neg (by simp [h3])])
    clear h3
    by_cases h4 : (placesE 0 P 0 pl).2 = 0
    · have HE := Lib.hid (show bookE P S pl cl = placesE 1 P 1 cl by rw [HE1.out, if_neg (by simp [h4])])
      have H4 := Lib.hid h4
      clear h4
      go_enter Tryz.func38, Tryz.ntmps38
      go_wp2_with (go_at_call 37; refine (isFrom_any _ _ _ _).mono ?_; rintro e w' ⟨rfl, rfl⟩)
      refine (errorOfPlaces_any pa pl pc 0 P 0 _ (hp.alloc _) hpl (by omega) (by omega) (by omega) (by omega)).mono ?_
      rintro e w' ⟨rfl, rfl⟩
      rw [H4.out]
      go_wp2_with fail
      refine (errorOfPlaces_any ca cl cc 1 P 1 _ (hc.alloc _) hcl (by omega) (by omega) (by omega) (by omega)).mono ?_
      rintro e w' ⟨rfl, rfl⟩
      go_wp2_with fail
      go_ret2
      exact ⟨two_int HE.out.symm, hb⟩
    · have HE := Lib.hid (show bookE P S pl cl = placesE 0 P 0 pl by rw [HE1.out, if_pos h4])
      have h4' : ((placesE 0 P 0 pl).2 != 0) = true := by simpa using h4
      clear h4
      go_enter Tryz.func38, Tryz.ntmps38
      go_wp2_with (go_at_call 37; refine (isFrom_any _ _ _ _).mono ?_; rintro e w' ⟨rfl, rfl⟩)
      refine (errorOfPlaces_any pa pl pc 0 P 0 _ (hp.alloc _) hpl (by omega) (by omega) (by omega) (by omega)).mono ?_
      rintro e w' ⟨rfl, rfl⟩
      go_wp2_with fail
      go_ret2
      exact ⟨two_int HE.out.symm, hb⟩
  · have h3' : (S % 2 != 0) = true := by simpa using h3
    have HE := Lib.hid (show bookE P S pl cl = (0, 3) by rw [HE0.out, if_pos h3])
    clear h3
    go_enter Tryz.func38, Tryz.ntmps38
    go_wp2_with (go_at_call 37; refine (isFrom_any _ _ _ _).mono ?_; rintro e w' ⟨rfl, rfl⟩)
    go_ret2
    exact ⟨two_to HE.out, hb⟩
/-- The first n signatures. -/
def sigTo (P S : Int) (n : Nat) : List Rng := (List.range n).map fun (i : Nat) => ⟨(i : Int) * S + 1, min ((i : Int) * S + S) P⟩
theorem sigTo_len (P S : Int) (n : Nat) : (sigTo P S n).length = n := by simp [sigTo]
theorem sigTo_succ (P S : Int) (n : Nat) : sigTo P S (n + 1) = sigTo P S n ++ [⟨(n : Int) * S + 1, min ((n : Int) * S + S) P⟩] := by unfold sigTo; rw [List.range_succ, List.map_append]; rfl
/-- How many signatures there are. -/
def sigN (P S : Int) : Nat := ((P + S - 1) / S).toNat
theorem sigN_eq {P S : Int} {n : Nat} (hS : 2 ≤ S) (h1 : P ≤ n * S) (h2 : (n : Int) * S < P + S) : sigN P S = n := by
  unfold sigN
  have h3 : (P + S - 1) / S = (n : Int) := by
    apply Int.le_antisymm
    · have := Int.ediv_lt_of_lt_mul (a := P + S - 1) (b := (n : Int) + 1) (c := S) (by omega) (by rw [Int.add_mul, Int.one_mul]; omega)
      omega
    · exact Int.le_ediv_of_mul_le (by omega) (by omega)
  rw [h3, Int.toNat_natCast]
def SigPost (w : World) (P S : Int) (pl cl : List Int) (e : Ending) (w' : World) : Prop :=
  Below w.heap.size w w' ∧
  (((bookE P S pl cl).2 ≠ 0 ∧ e = .returned (.tuple #[.slice none 0 0, .int .i64 0, .int .i64 (bookE P S pl cl).2])) ∨
   ((bookE P S pl cl).2 = 0 ∧ ∃ (a : Option Addr) (n c : Nat), e = .returned (.tuple #[.slice a n c, .int .i64 ((sigN P S : Nat) * S - P), .int .i64 0]) ∧ n = (sigTo P S (sigN P S)).length ∧ RowsAt 2 Rng.l w' a (sigTo P S (sigN P S))))
theorem book_ok {P S : Int} {pl cl : List Int} (h : (bookE P S pl cl).2 = 0) : (1 ≤ P ∧ P ≤ 4000) ∧ (2 ≤ S ∧ S ≤ 64) ∧ S % 2 = 0 := by
  unfold bookE at h
  by_cases h1 : inB P 1 4000 = true ∧ inB S 2 64 = true
  · rw [if_pos h1] at h
    refine ⟨inB_iff.1 h1.1, inB_iff.1 h1.2, ?_⟩
    by_cases h2 : S % 2 = 0
    · exact h2
    · rw [if_pos h2] at h; simp at h
  · rw [if_neg h1] at h; simp at h
set_option maxRecDepth 100000 in
set_option maxHeartbeats 4000000 in
theorem signatures_any (P S : Int) (pa : Option Addr) (pl : List Int) (pc : Nat) (ca : Option Addr) (cl : List Int) (cc : Nat) (w : World) (hp : RowsAt 1 intL w pa pl) (hpl : pl.length ≤ maxLen) (hc : RowsAt 1 intL w ca cl) (hcl : cl.length ≤ maxLen) :
    Calls Tryz.prog 16 #[.agg #[.int .i64 P, .int .i64 S, .slice pa pl.length pc, .slice ca cl.length cc]] w (SigPost w P S pl cl) := by
  by_cases h1 : (bookE P S pl cl).2 = 0
  · obtain ⟨⟨g1, g2⟩, ⟨g3, g4⟩, _⟩ := book_ok h1
    have H1 := Lib.hid h1
    clear h1
    go_enter Tryz.func16, Tryz.ntmps16
    go_wp2_with fail
    refine (checkBook_any P S pa pl pc ca cl cc _ (hp.alloc _) hpl (hc.alloc _) hcl).mono ?_
    rintro e w1 ⟨rfl, hb1⟩
    have hB1 := ((Below.refl w.heap.size w).alloc (Nat.le_refl _) (.cells #[.int .i64 P, .int .i64 S, .slice pa pl.length pc, .slice ca cl.length cc] 52)).trans (hb1.mono (B' := w.heap.size) (by simp))
    have bx1 := (BoxAt.new w #[.int .i64 P, .int .i64 S, .slice pa pl.length pc, .slice ca cl.length cc] 52).below hb1
    have hbl1 := bx1.lt
    rw [H1.out]
    clear hb1
    go_wp2_with fail
    go_loopw [7, 8] (fun v e wr => ∃ (n : Nat) (E : Int), e = .int .i64 E ∧ Hid (E = n * S) ∧ 0 ≤ E ∧ E < P + S ∧ OwnR 2 57 Rng.l wr (w.heap.size + 1) v (sigTo P S n) ∧ BoxAt wr w.heap.size #[.int .i64 P, .int .i64 S, .slice pa pl.length pc, .slice ca cl.length cc] 52 ∧ Below w.heap.size w wr) (fun _ e _ => (P - intOf e).toNat)
    case atStart => exact ⟨0, 0, rfl, Lib.hid (by simp), by omega, by omega, OwnR.nil _ _, bx1, hB1⟩
    case round =>
      obtain ⟨n, E, rfl, HE, e1, e2, hO, bx, hB⟩ := hrel
      clear bx1 hB1 hbl1
      have c0 := bx.cell 0; have c1 := bx.cell 1
      have hbl := bx.lt
      simp at c0 c1
      have hnn : n ≤ 4100 := by
        have h1 : (n : Int) * 1 ≤ n * S := Int.mul_le_mul_of_nonneg_left (by omega) (by omega)
        have := HE.out
        omega
      obtain ⟨a7, c7, ev, -, -, -, -, -⟩ := hO.rows rng_l
      have hlen := sigTo_len P S n
      by_cases hlt : E < P
      · by_cases hm : E + S ≤ P
        · have hx : Hid (sigTo P S n ++ [⟨E + 1, E + S⟩] = sigTo P S (n + 1)) := Lib.hid (by rw [sigTo_succ, ← HE.out, Int.min_eq_left hm])
          have hx2 : Hid (E + S = ((n + 1 : Nat) : Int) * S) := Lib.hid (by rw [HE.out]; push_cast; rw [Int.add_mul, Int.one_mul])
          have HEV := Lib.hid ev; have HLEN := Lib.hid hlen; clear ev hlen
          go_wp2_with (at_builtin; refine wpList_appX tRng rng_l _ ⟨E + 1, E + S⟩ _ rfl rfl _ _ rfl (w.heap.size + 1) _ (sigTo P S n) rfl hO rfl (by rw [HLEN.out]; omega) (by omega) ?_; intro gg cg wg hOg hgg hBg)
          rw [hx.out] at hOg
          have hbx : BoxAt wg w.heap.size #[.int .i64 P, .int .i64 S, .slice pa pl.length pc, .slice ca cl.length cc] 52 := bx.grown hgg (fun e => by have := (hO.lt w.heap.size e.symm).1; omega)
          have hBw := hB.grown hgg hB.size (fun q e => by have := (hO.lt q e).1; omega)
          go_roundw
          case rel => exact ⟨n + 1, E + S, rfl, hx2, by omega, by omega, hOg, hbx, hBw⟩
          case measure => simp [intOf]; omega
        · have hx : Hid (sigTo P S n ++ [⟨E + 1, P⟩] = sigTo P S (n + 1)) := Lib.hid (by rw [sigTo_succ, ← HE.out, Int.min_eq_right (by omega)])
          have hx2 : Hid (E + S = ((n + 1 : Nat) : Int) * S) := Lib.hid (by rw [HE.out]; push_cast; rw [Int.add_mul, Int.one_mul])
          have HEV := Lib.hid ev; have HLEN := Lib.hid hlen; clear ev hlen
          go_wp2_with (at_builtin; refine wpList_appX tRng rng_l _ ⟨E + 1, P⟩ _ rfl rfl _ _ rfl (w.heap.size + 1) _ (sigTo P S n) rfl hO rfl (by rw [HLEN.out]; omega) (by omega) ?_; intro gg cg wg hOg hgg hBg)
          rw [hx.out] at hOg
          have hbx : BoxAt wg w.heap.size #[.int .i64 P, .int .i64 S, .slice pa pl.length pc, .slice ca cl.length cc] 52 := bx.grown hgg (fun e => by have := (hO.lt w.heap.size e.symm).1; omega)
          have hBw := hB.grown hgg hB.size (fun q e => by have := (hO.lt q e).1; omega)
          go_roundw
          case rel => exact ⟨n + 1, E + S, rfl, hx2, by omega, by omega, hOg, hbx, hBw⟩
          case measure => simp [intOf]; omega
      · have hN : Hid (sigN P S = n) := Lib.hid (sigN_eq g3 (by rw [← HE.out]; omega) (by rw [← HE.out]; exact e2))
        have hr := hO.rows rng_l
        obtain ⟨a8, c8, ev8, hrow, -, -, -, -⟩ := hr
        have HEV := Lib.hid ev; have HLEN := Lib.hid hlen; clear ev hlen
        subst ev8
        go_wp2_with fail
        go_quiet (fail)
        go_wp2
        go_ret3
        exact ⟨below_drewN hB _, Or.inr ⟨H1.out, a8, (sigTo P S n).length, c8, by rw [hN.out, ← HE.out]; rfl, by rw [hN.out], by rw [hN.out]; exact hrow.drewN _⟩⟩
  · have h1' : ((bookE P S pl cl).2 != 0) = true := by simpa using h1
    have H1 := Lib.hid h1
    clear h1
    go_enter Tryz.func16, Tryz.ntmps16
    go_wp2_with fail
    refine (checkBook_any P S pa pl pc ca cl cc _ (hp.alloc _) hpl (hc.alloc _) hcl).mono ?_
    rintro e w1 ⟨rfl, hb1⟩
    have hB1 := ((Below.refl w.heap.size w).alloc (Nat.le_refl _) (.cells #[.int .i64 P, .int .i64 S, .slice pa pl.length pc, .slice ca cl.length cc] 52)).trans (hb1.mono (B' := w.heap.size) (by simp))
    go_wp2_with fail
    go_ret3
    exact ⟨hB1, Or.inl ⟨H1.out, rfl⟩⟩
end Go.Proofs.YtnpehnfcccdcbaaGreatDoor
