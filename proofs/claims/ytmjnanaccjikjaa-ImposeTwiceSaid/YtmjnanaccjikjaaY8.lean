/-
  Package impose: the reference's sheet printed twice: its walk.
-/
import Derived.Test.YtmjnanaccjikjaaY7
namespace Go.Proofs.Ytmjnanaccjikjaa
open Go.RowKit

set_option maxRecDepth 100000 in
set_option maxHeartbeats 8000000 in
theorem refTwice_any (C R : Int) (a : Option Addr) (L : List Page) (c : Nat) (b : Bool) (w : World) (hL : RowsAt 2 Page.l w a L) (hl : L.length ≤ 1000000) :
    Calls Try.prog 53 #[.agg #[.int .i64 C, .int .i64 R, .slice a L.length c], .bool b] w (TwPost w C R L b) := by
  obtain ⟨w3, hw3⟩ : ∃ w3, w3 = ((w.alloc (.cells #[.int .i64 C, .int .i64 R, .slice a L.length c] 56)).alloc (.cells #[.int .i64 0, .int .i64 0, .slice none 0 0] 43)).alloc (.cells #[.int .i64 0, .int .i64 0, .slice none 0 0] 43) := ⟨_, rfl⟩
  have bx0 : BoxAt w3 w.heap.size #[.int .i64 C, .int .i64 R, .slice a L.length c] 56 := by rw [hw3]; exact ((BoxAt.new w _ _).alloc _).alloc _
  have br0 : BoxAt w3 (w.heap.size + 1) #[.int .i64 0, .int .i64 0, .slice none 0 0] 43 := by
    rw [hw3]
    have := (BoxAt.new (w.alloc (.cells #[.int .i64 C, .int .i64 R, .slice a L.length c] 56)) #[.int .i64 0, .int .i64 0, .slice none 0 0] 43).alloc (.cells #[.int .i64 0, .int .i64 0, .slice none 0 0] 43)
    simpa using this
  have bz0 : BoxAt w3 (w.heap.size + 1 + 1) #[.int .i64 0, .int .i64 0, .slice none 0 0] 43 := by
    rw [hw3]
    have := BoxAt.new ((w.alloc (.cells #[.int .i64 C, .int .i64 R, .slice a L.length c] 56)).alloc (.cells #[.int .i64 0, .int .i64 0, .slice none 0 0] 43)) #[.int .i64 0, .int .i64 0, .slice none 0 0] 43
    simpa using this
  have hB3 : Below w.heap.size w w3 := by rw [hw3]; exact (((Below.refl w.heap.size w).alloc (Nat.le_refl _) _).alloc (by simp) _).alloc (by simp; omega) _
  have hs3 : w3.heap.size = w.heap.size + 1 + 1 + 1 := by rw [hw3]; simp
  have W3 := Lib.hid hw3
  clear hw3
  go_enter Try.func53, Try.ntmps53
  go_wp2_with fail
  rw [← W3.out]
  refine (checkSheet_any _ _ _).mono ?_
  rintro e w4 ⟨rfl, rfl⟩
  have c0 := bx0.cell 0; have c1 := bx0.cell 1; have c2 := bx0.cell 2
  have r0 := br0.cell 0; have r1 := br0.cell 1; have r2 := br0.cell 2
  have y0 := bz0.cell 0; have y1 := bz0.cell 1; have y2 := bz0.cell 2
  have z := fun j => br0.free j
  have hrl := br0.lt
  simp at c0 c1 c2 r0 r1 r2 y0 y1 y2
  by_cases h1 : sideErr C R = 0
  · obtain ⟨sC, sR, sm⟩ := side_ok h1
    obtain ⟨cn, rfl⟩ : ∃ n : Nat, C = n := ⟨C.toNat, by omega⟩
    obtain ⟨rn, rfl⟩ : ∃ n : Nat, R = n := ⟨R.toNat, by omega⟩
    have HS := Lib.hid h1
    rw [h1]
    have hp0 : 0 ≤ (cn : Int) * rn := Int.mul_nonneg (by omega) (by omega)
    obtain ⟨N, hN⟩ : ∃ N : Nat, cn * rn = N := ⟨_, rfl⟩
    have hNI : (cn : Int) * (rn : Int) = (N : Int) := by rw [← hN, Int.natCast_mul]
    rw [hNI] at sm hp0
    have HCR : Hid ((1 ≤ cn ∧ cn ≤ 8) ∧ (1 ≤ rn ∧ rn ≤ 8)) := Lib.hid (by omega)
    clear h1 sC sR
    by_cases hln : L.length = N
    · have hlb : ((L.length : Int) != (N : Int)) = false := by simp [hln]
      have HN : Hid (L.length = cn * rn) := Lib.hid (by rw [hln, hN])
      have hl64 : L.length ≤ 64 := by omega
      have HC0 : Hid (cellsErr cn rn L.length = 0) := Lib.hid (by unfold cellsErr; rw [if_neg (by simp [HS.out]), if_neg (by simp [hNI, hln])])
      clear hln hN
      go_wp2_with fail
      go_loopw [8] (fun i wr => ∃ k : Nat, k ≤ L.length ∧ i = .int .i64 k ∧ Hid ((L.drop 0).all (pageB 4000) = (L.drop k).all (pageB 4000)) ∧ wr = w3) (fun i _ => L.length - (intOf i).toNat)
      case atStart => exact ⟨0, Nat.zero_le _, rfl, Lib.hid rfl, rfl⟩
      case round =>
        obtain ⟨k, hk, rfl, HR, rfl⟩ := hrel
        by_cases hkl : k < L.length
        · have hkI : (k : Int) < (L.length : Int) := by omega
          obtain ⟨ad, rfl, had, s0, s1⟩ := (hL.below hB3).page hkl
          obtain ⟨x, ex⟩ : ∃ x, x = L[k] := ⟨_, rfl⟩
          have hst := all_step (p := pageB 4000) hkl
          rw [← ex] at s0 s1 hst
          have HST := Lib.hid hst
          clear ex hst
          by_cases hx : pageB 4000 x = true
          · have HO : Hid ((L.drop 0).all (pageB 4000) = (L.drop (k + 1)).all (pageB 4000)) := Lib.hid (by rw [HR.out, HST.out, hx]; rfl)
            unfold pageB at hx
            simp only [Bool.and_eq_true] at hx
            obtain ⟨x1, x2⟩ := hx
            go_wp2_with (first | (go_at_call 101; refine (isPage_any _ _).mono ?_; rintro e w' ⟨rfl, rfl⟩) | (go_at_call 91; refine (isTurn_any _ _).mono ?_; rintro e w' ⟨rfl, rfl⟩))
            go_roundw
            case rel => exact ⟨k + 1, by omega, by go_num, HO, trivial⟩
            case measure => simp [intOf]; omega
          · have HE : Hid (twErr cn rn L = 2) := Lib.hid (by
              have h3 : L.all (pageB 4000) = false := by
                have := HR.out; rw [List.drop_zero] at this; rw [this, HST.out]; simp [hx]
              unfold twErr; rw [HC0.out, h3]; rfl)
            have HD : Hid (twD cn rn L = (0, 0) ∧ twL cn rn L b = []) := Lib.hid (by unfold twD twL; rw [HE.out]; exact ⟨rfl, rfl⟩)
            cases x1 : inB x.p 1 4000
            · clear hx
              go_wp2_with (first | (go_at_call 101; refine (isPage_any _ _).mono ?_; rintro e w' ⟨rfl, rfl⟩) | (go_at_call 91; refine (isTurn_any _ _).mono ?_; rintro e w' ⟨rfl, rfl⟩))
              refine bodyPost_ret (v := .tuple #[.agg #[.int .i64 0, .int .i64 0, .slice none 0 0], .int .i64 2]) ?_ rfl ?_
              · simp [results, Try.results53, go_sem, r0, r1, r2]
              · exact ⟨none, 0, 0, scheme_ret HD.out.1 HE.out, by rw [HD.out.2]; rfl, by rw [HD.out.2]; exact RowsAt.nil _ _, fun _ => rfl, (((hB3.setCell (p := ⟨w.heap.size + 1, 0, none⟩) (by show w.heap.size ≤ w.heap.size + 1; omega) _).setCell (p := ⟨w.heap.size + 1, 1, none⟩) (by show w.heap.size ≤ w.heap.size + 1; omega) _).setCell (p := ⟨w.heap.size + 1, 2, none⟩) (by show w.heap.size ≤ w.heap.size + 1; omega) _)⟩
            · have x2 : inB x.t 0 1 = false := by
                unfold pageB at hx; rw [x1] at hx; simpa using hx
              clear hx
              go_wp2_with (first | (go_at_call 101; refine (isPage_any _ _).mono ?_; rintro e w' ⟨rfl, rfl⟩) | (go_at_call 91; refine (isTurn_any _ _).mono ?_; rintro e w' ⟨rfl, rfl⟩))
              refine bodyPost_ret (v := .tuple #[.agg #[.int .i64 0, .int .i64 0, .slice none 0 0], .int .i64 2]) ?_ rfl ?_
              · simp [results, Try.results53, go_sem, r0, r1, r2]
              · exact ⟨none, 0, 0, scheme_ret HD.out.1 HE.out, by rw [HD.out.2]; rfl, by rw [HD.out.2]; exact RowsAt.nil _ _, fun _ => rfl, (((hB3.setCell (p := ⟨w.heap.size + 1, 0, none⟩) (by show w.heap.size ≤ w.heap.size + 1; omega) _).setCell (p := ⟨w.heap.size + 1, 1, none⟩) (by show w.heap.size ≤ w.heap.size + 1; omega) _).setCell (p := ⟨w.heap.size + 1, 2, none⟩) (by show w.heap.size ≤ w.heap.size + 1; omega) _)⟩
        · have hkI : ¬ (k : Int) < (L.length : Int) := by omega
          have HALL : Hid (L.all (pageB 4000) = true) := Lib.hid (by
            have := HR.out; rw [List.drop_zero] at this; rw [this, all_stop hkl])
          clear HR
          go_wp2_with fail
          have E0 : REnv w cn rn a L c (.slice none 0 0) (twRow cn rn L b 0 0) (wr.alloc (.cells #[.int .i64 cn, .int .i64 rn, .slice none 0 0] 43)) := by
            refine ⟨bx0.alloc _, br0.alloc _, ?_, ?_, hB3.alloc hB3.size _⟩
            · rw [← hs3]; exact BoxAt.new wr _ _
            · have : twRow cn rn L b 0 0 = [] := by simp [twRow]
              rw [this]; exact OwnR.nil _ _
          clear c0 c1 c2 r0 r1 r2 y0 y1 y2 z hrl bx0 br0 bz0 W3 hB3 hp0
          go_loopw [10] (fun i wq => ∃ (y : Nat) (v : Value), y ≤ rn ∧ i = .int .i64 y ∧ REnv w cn rn a L c v (twRow cn rn L b y 0) wq) (fun i _ => rn - (intOf i).toNat)
          case atStart => exact ⟨0, _, Nat.zero_le _, rfl, E0⟩
          case round =>
            obtain ⟨y, v, hy, rfl, E⟩ := hrel
            clear E0 hs3
            obtain ⟨⟨hc1, hc8⟩, hr1, hr8⟩ := HCR.out
            have c0 := E.bs.cell 0; have c1 := E.bs.cell 1
            simp at c0 c1
            by_cases hyl : y < rn
            · have hyI : (y : Int) < (rn : Int) := by omega
              go_wp2
              go_loopw [11] (fun i wq => ∃ (x : Nat) (v : Value), x ≤ cn ∧ i = .int .i64 x ∧ REnv w cn rn a L c v (twRow cn rn L b y x) wq) (fun i _ => cn - (intOf i).toNat)
              case atStart => exact ⟨0, v, Nat.zero_le _, rfl, E⟩
              case round =>
                obtain ⟨x, v, hx, rfl, E⟩ := hrel
                clear c0 c1
                have c0 := E.bs.cell 0; have c1 := E.bs.cell 1; have c2 := E.bs.cell 2
                have hsl := E.bs.lt
                simp at c0 c1 c2
                by_cases hxl : x < cn
                · have hxI : (x : Int) < (cn : Int) := by omega
                  obtain ⟨i, hi⟩ : ∃ i, y * cn + x = i := ⟨_, rfl⟩
                  obtain ⟨o, ho⟩ : ∃ o, y * cn + (cn - 1 - x) = o := ⟨_, rfl⟩
                  have hil : i < L.length := by rw [← hi, HN.out]; exact mul_lt hyl hxl
                  have hol : o < L.length := by rw [← ho, HN.out]; exact mul_lt hyl (by omega)
                  have hiI : (y : Int) * (cn : Int) + (x : Int) = (i : Int) := by rw [← hi, Int.natCast_add, Int.natCast_mul]
                  have hoI : (y : Int) * (cn : Int) + (cn : Int) - 1 - (x : Int) = (o : Int) := by rw [← ho, Int.natCast_add, Int.natCast_mul]; omega
                  have hyc0 : 0 ≤ (y : Int) * (cn : Int) := Int.mul_nonneg (by omega) (by omega)
                  have hyc1 : (y : Int) * (cn : Int) ≤ 64 := by have := Int.mul_le_mul (show (y : Int) ≤ 8 by omega) (show (cn : Int) ≤ 8 by omega) (by omega) (by omega); omega
                  have hi64 : (i : Int) ≤ 64 := by omega
                  have ho64 : (o : Int) ≤ 64 := by omega
                  have q1 : IntKind.i64.wrap ((y : Int) * (cn : Int)) = (y : Int) * (cn : Int) := IntWalk.i64_in _ (by omega)
                  have q2 : IntKind.i64.wrap ((y : Int) * (cn : Int) + (x : Int)) = (i : Int) := by rw [← hiI]; exact IntWalk.i64_in _ (by omega)
                  have q3 : IntKind.i64.wrap ((y : Int) * (cn : Int) + (cn : Int)) = (y : Int) * (cn : Int) + (cn : Int) := IntWalk.i64_in _ (by omega)
                  have q4 : IntKind.i64.wrap ((y : Int) * (cn : Int) + (cn : Int) - 1) = (y : Int) * (cn : Int) + (cn : Int) - 1 := IntWalk.i64_in _ (by omega)
                  have q5 : IntKind.i64.wrap ((y : Int) * (cn : Int) + (cn : Int) - 1 - (x : Int)) = (o : Int) := by rw [← hoI]; exact IntWalk.i64_in _ (by omega)
                  obtain ⟨ad, rfl, had, s0, s1⟩ := (hL.below E.low).page hil
                  obtain ⟨_, e2, -, t0, t1⟩ := (hL.below E.low).page hol
                  cases e2
                  obtain ⟨p, ep⟩ : ∃ p, p = L[i] := ⟨_, rfl⟩
                  obtain ⟨u, eu⟩ : ∃ p, p = L[o] := ⟨_, rfl⟩
                  rw [← ep] at s0 s1
                  rw [← eu] at t0 t1
                  have EP := Lib.hid ep; have EU := Lib.hid eu; have HI := Lib.hid hi; have HO := Lib.hid ho
                  clear ep eu hi ho
                  have hadi : (ad.add (i * 2)).block < wr.heap.size := by rw [add_block]; exact had
                  have hado : (ad.add (o * 2)).block < wr.heap.size := by rw [add_block]; exact had
                  have z0 := World.new_ne wr _ c0; have z2 := World.new_ne wr _ c2; have z3 := World.new_ne wr _ s0; have z4 := World.new_ne wr _ s1; have z5 := World.new_ne wr _ t0; have z6 := World.new_ne wr _ t1
                  have hiI2 : (i : Int) < (L.length : Int) := by omega
                  have hoI2 : (o : Int) < (L.length : Int) := by omega
                  clear hiI hoI hyc0 hyc1
                  have A1 := Lib.hid (show BoxAt ((wr.alloc (.cells #[.int .i64 p.p, .int .i64 p.t] 119)).alloc (.cells #[.int .i64 u.p, .int .i64 u.t] 119)) wr.heap.size #[.int .i64 p.p, .int .i64 p.t] 119 from (BoxAt.new wr _ _).alloc _)
                  have A2 := Lib.hid (show BoxAt ((wr.alloc (.cells #[.int .i64 p.p, .int .i64 p.t] 119)).alloc (.cells #[.int .i64 u.p, .int .i64 u.t] 119)) (wr.heap.size + 1) #[.int .i64 u.p, .int .i64 u.t] 119 from by
                    have := BoxAt.new (wr.alloc (.cells #[.int .i64 p.p, .int .i64 p.t] 119)) #[.int .i64 u.p, .int .i64 u.t] 119
                    simpa using this)
                  have A4 := Lib.hid (show BoxAt ((wr.alloc (.cells #[.int .i64 u.p, .int .i64 u.t] 119)).alloc (.cells #[.int .i64 p.p, .int .i64 p.t] 119)) wr.heap.size #[.int .i64 u.p, .int .i64 u.t] 119 from (BoxAt.new wr _ _).alloc _)
                  have A3 := Lib.hid (show BoxAt ((wr.alloc (.cells #[.int .i64 u.p, .int .i64 u.t] 119)).alloc (.cells #[.int .i64 p.p, .int .i64 p.t] 119)) (wr.heap.size + 1) #[.int .i64 p.p, .int .i64 p.t] 119 from by
                    have := BoxAt.new (wr.alloc (.cells #[.int .i64 u.p, .int .i64 u.t] 119)) #[.int .i64 p.p, .int .i64 p.t] 119
                    simpa using this)
                  have A5 := Lib.hid (show Below wr.heap.size wr ((wr.alloc (.cells #[.int .i64 p.p, .int .i64 p.t] 119)).alloc (.cells #[.int .i64 u.p, .int .i64 u.t] 119)) from ((Below.refl _ _).alloc (Nat.le_refl _) _).alloc (by simp) _)
                  have A6 := Lib.hid (show Below wr.heap.size wr ((wr.alloc (.cells #[.int .i64 u.p, .int .i64 u.t] 119)).alloc (.cells #[.int .i64 p.p, .int .i64 p.t] 119)) from ((Below.refl _ _).alloc (Nat.le_refl _) _).alloc (by simp) _)
                  have HBU : Hid (xr u.t (roundB false) = u.t) := Lib.hid (by
                    rcases page_ok HALL.out u (by rw [EU.out]; exact List.getElem_mem hol) with h | h <;> rw [h] <;> rfl)
                  go_wp2_with fail
                  go_cut [12, 13] from 71 to 133 (fun v12 v13 wx => ∃ b12 b13, v12 = .pointer (some ⟨b12, 0, none⟩) ∧ v13 = .pointer (some ⟨b13, 0, none⟩) ∧ BoxAt wx b12 #[.int .i64 p.p, .int .i64 p.t] 119 ∧ BoxAt wx b13 #[.int .i64 u.p, .int .i64 u.t] 119 ∧ wr.heap.size ≤ b12 ∧ wr.heap.size ≤ b13 ∧ b12 ≠ b13 ∧ Below wr.heap.size wr wx)
                  case first =>
                    rename_i J9 K9 hR9 hM9
                    go_region_held3 (fun w' => w'.cell? ⟨w.heap.size, 0, none⟩ = some (.int .i64 cn) ∧ w'.cell? ⟨w.heap.size, 2, none⟩ = some (.slice (some ad) L.length c) ∧ w'.cell? (ad.add (i * 2)) = some (.int .i64 p.p) ∧ w'.cell? ⟨(ad.add (i * 2)).block, (ad.add (i * 2)).off + 1, none⟩ = some (.int .i64 p.t) ∧ w'.cell? (ad.add (o * 2)) = some (.int .i64 u.p) ∧ w'.cell? ⟨(ad.add (o * 2)).block, (ad.add (o * 2)).off + 1, none⟩ = some (.int .i64 u.t)) (go_keep) (fail)
                    all_goals
                      refine hM9 _ _ ?_
                      refine Met.intro ?_
                      refine hR9 _ _ ?_
                      (repeat apply Exists.intro)
                      refine ⟨?_, rfl⟩
                    all_goals first
                      | exact ⟨_, _, rfl, rfl, A1.out, A2.out, Nat.le_refl _, Nat.le_succ _, Nat.ne_of_lt (Nat.lt_succ_self _), A5.out.drew⟩
                      | exact ⟨_, _, rfl, rfl, A3.out, A4.out, Nat.le_succ _, Nat.le_refl _, (Nat.ne_of_lt (Nat.lt_succ_self _)).symm, A6.out.drew⟩
                  case rest =>
                    obtain ⟨b12, b13, rfl, rfl, k12, k13, g12, g13, gne, hbx⟩ := hcut
                    have ebs := E.bs.below hbx; have ebr := E.br.below hbx; have ebv := E.bv.below hbx; have eow := E.own.below hbx
                    have elo := E.low.trans (hbx.mono (B' := w.heap.size) E.low.size)
                    clear c0 c1 c2 z0 z2 z3 z4 z5 z6 s0 s1 t0 t1 q1 q2 q3 q4 q5 hsl A1 A2 A3 A4 A5 A6
                    have hbvl := ebv.lt
                    have hevl := E.bv.lt
                    have m0 := k12.cell 0; have m1 := k12.cell 1; have n0 := k13.cell 0; have n1 := k13.cell 1
                    have v2 := ebv.cell 2
                    simp at m0 m1 n0 n1 v2
                    have HLT : Hid ((twRow cn rn L b y x).length ≤ 1000) := Lib.hid (by rw [twRow_len, HI.out]; omega)
                    have hne : ∀ q, q < w.heap.size + 1 + 1 + 1 + 1 → some q ≠ v.ownBlock := fun q hq e => by have := (E.own.lt q e.symm).1; omega
                    cases b
                    · have HX : Hid (twRow cn rn L false y x ++ [Cell.mk p.p p.t u.p u.t] = twRow cn rn L false y (x + 1)) := Lib.hid (by
                        have hc : twCell cn rn L false (y * cn + x) = Cell.mk p.p p.t u.p u.t := by
                          unfold twCell; rw [(opp_at hxl).1, HI.out, HO.out, getD_in default hil, getD_in default hol, ← EP.out, ← EU.out, HBU.out]
                        rw [← twRow_succ, hc])
                      obtain ⟨va, vc, ev, -, -, -, -, -⟩ := eow.rows cell_l
                      have HEV := Lib.hid ev; clear ev
                      go_wp2_with (at_builtin; refine wpList_appX tCell cell_l _ (Cell.mk p.p p.t u.p u.t) _ rfl rfl _ _ rfl (w.heap.size + 1 + 1 + 1 + 1) _ (twRow cn rn L false y x) rfl eow rfl (by have := HLT.out; omega) (by omega) ?_; intro gg cg wg hOg hgg hBg; have bvg := ebv.grown hgg (hne _ (by omega)); have fz := bvg.free 2; have hvg := bvg.lt; have cvg := bvg.cell 2; simp at cvg)
                      rw [HX.out] at hOg
                      have hEg : REnv w cn rn (some ad) L c (.slice (some ⟨gg, 0, none⟩) ((twRow cn rn L false y x).length + 1) cg) (twRow cn rn L false y (x + 1)) (wg.setCell ⟨w.heap.size + 1 + 1 + 1, 2, none⟩ (.slice (some ⟨gg, 0, none⟩) ((twRow cn rn L false y x).length + 1) cg)) := by
                        refine ⟨?_, ?_, bvg.set 2 _, ?_, ?_⟩
                        · exact (ebs.grown hgg (hne _ (by omega))).set_other (p := ⟨w.heap.size + 1 + 1 + 1, 2, none⟩) (by show w.heap.size ≠ w.heap.size + 1 + 1 + 1; omega) _
                        · exact (ebr.grown hgg (hne _ (by omega))).set_other (p := ⟨w.heap.size + 1 + 1 + 1, 2, none⟩) (by show w.heap.size + 1 ≠ w.heap.size + 1 + 1 + 1; omega) _
                        · exact hOg.set (p := ⟨w.heap.size + 1 + 1 + 1, 2, none⟩) (fun e => by have := (hOg.lt _ e).1; simp at this; omega) _
                        · exact (elo.trans (hBg.mono (B' := w.heap.size) (by omega))).setCell (p := ⟨w.heap.size + 1 + 1 + 1, 2, none⟩) (by show w.heap.size ≤ w.heap.size + 1 + 1 + 1; omega) _
                      go_roundw
                      case rel => exact ⟨x + 1, _, by omega, by go_num, hEg⟩
                      case measure => simp [intOf]; omega
                    · obtain ⟨o2, ho2⟩ : ∃ o2, (rn - 1 - y) * cn + x = o2 := ⟨_, rfl⟩
                      have hol2 : o2 < L.length := by rw [← ho2, HN.out]; exact mul_lt (by omega) hxl
                      have hmI : ((rn : Int) - 1 - (y : Int)) * (cn : Int) = (((rn - 1 - y) * cn : Nat) : Int) := by rw [Int.natCast_mul, Int.natCast_sub (by omega), Int.natCast_sub (by omega)]; rfl
                      have hoI2' : ((rn : Int) - 1 - (y : Int)) * (cn : Int) + (x : Int) = (o2 : Int) := by rw [hmI, ← ho2]; push_cast; rfl
                      have hm64 : (rn - 1 - y) * cn ≤ 8 * 8 := Nat.mul_le_mul (by omega) (by omega)
                      have hm0 : 0 ≤ ((rn : Int) - 1 - (y : Int)) * (cn : Int) := by rw [hmI]; omega
                      have hm1 : ((rn : Int) - 1 - (y : Int)) * (cn : Int) ≤ 64 := by rw [hmI]; omega
                      obtain ⟨_, e2, hadb, t0, t1⟩ := (hL.below elo).page hol2
                      cases e2
                      obtain ⟨u2, eu2⟩ : ∃ p, p = L[o2] := ⟨_, rfl⟩
                      rw [← eu2] at t0 t1
                      have HBI : Hid (Bit u2.t) := Lib.hid (page_ok HALL.out u2 (by rw [eu2]; exact List.getElem_mem hol2))
                      have hu0 : 0 ≤ u2.t := by rcases HBI.out with h | h <;> omega
                      have hu1 : u2.t ≤ 1 := by rcases HBI.out with h | h <;> omega
                      have HX : Hid (twRow cn rn L true y x ++ [Cell.mk p.p p.t u2.p (1 - u2.t)] = twRow cn rn L true y (x + 1)) := Lib.hid (by
                        have hxr : xr u2.t (roundB true) = 1 - u2.t := by rcases HBI.out with h | h <;> rw [h] <;> rfl
                        have hc : twCell cn rn L true (y * cn + x) = Cell.mk p.p p.t u2.p (1 - u2.t) := by
                          unfold twCell; rw [(opp_at hxl).2, HI.out, ho2, getD_in default hil, getD_in default hol2, ← EP.out, ← eu2, hxr]
                        rw [← twRow_succ, hc])
                      have c0 := ebs.cell 0; have c1 := ebs.cell 1; have c2 := ebs.cell 2
                      have hsl := ebs.lt
                      simp at c0 c1 c2
                      have hol2I : (o2 : Int) < (L.length : Int) := by omega
                      have zf := fun j => k13.free j
                      have hl13 := k13.lt
                      have k1 : ¬ w.heap.size = b13 := by omega
                      have k2 : ¬ w.heap.size + 1 + 1 + 1 = b13 := by omega
                      have k3 : ¬ b13 = w.heap.size + 1 + 1 + 1 := by omega
                      have k4 : ¬ b12 = b13 := gne
                      have k5 : ¬ b13 = b12 := fun e => gne e.symm
                      have k6 : ¬ b13 = w.heap.size := by omega
                      clear hmI hm64 ho2 eu2
                      obtain ⟨va, vc, ev, -, -, -, -, -⟩ := eow.rows cell_l
                      have HEV := Lib.hid ev; clear ev
                      have h3 : (((wc.setCell ⟨b13, 0, none⟩ (.int .i64 u2.p)).setCell ⟨b13, 1, none⟩ (.int .i64 u2.t)).setCell ⟨b13, 1, none⟩ (.int .i64 (1 - u2.t))).cell? ⟨b13, 1, none⟩ = some (.int .i64 (1 - u2.t)) := (((k13.set 0 _).set 1 _).set 1 _).cell 1
                      have hnb : v.ownBlock ≠ some b13 := fun e => by have := (E.own.lt b13 e).2; omega
                      have j0 : w.heap.size ≠ b13 := by omega
                      have j1 : w.heap.size + 1 ≠ b13 := by omega
                      have j3 : w.heap.size + 1 + 1 + 1 ≠ b13 := by omega
                      have jl : w.heap.size ≤ b13 := by omega
                      have eow3 := ((eow.set (p := ⟨b13, 0, none⟩) hnb (.int .i64 u2.p)).set (p := ⟨b13, 1, none⟩) hnb (.int .i64 u2.t)).set (p := ⟨b13, 1, none⟩) hnb (.int .i64 (1 - u2.t))
                      have ebs3 := ((ebs.set_other (p := ⟨b13, 0, none⟩) j0 (.int .i64 u2.p)).set_other (p := ⟨b13, 1, none⟩) j0 (.int .i64 u2.t)).set_other (p := ⟨b13, 1, none⟩) j0 (.int .i64 (1 - u2.t))
                      have ebr3 := ((ebr.set_other (p := ⟨b13, 0, none⟩) j1 (.int .i64 u2.p)).set_other (p := ⟨b13, 1, none⟩) j1 (.int .i64 u2.t)).set_other (p := ⟨b13, 1, none⟩) j1 (.int .i64 (1 - u2.t))
                      have ebv3 := ((ebv.set_other (p := ⟨b13, 0, none⟩) j3 (.int .i64 u2.p)).set_other (p := ⟨b13, 1, none⟩) j3 (.int .i64 u2.t)).set_other (p := ⟨b13, 1, none⟩) j3 (.int .i64 (1 - u2.t))
                      have elo3 := ((elo.setCell (p := ⟨b13, 0, none⟩) jl (.int .i64 u2.p)).setCell (p := ⟨b13, 1, none⟩) jl (.int .i64 u2.t)).setCell (p := ⟨b13, 1, none⟩) jl (.int .i64 (1 - u2.t))
                      go_wp2_with (at_builtin; refine wpList_appH tCell cell_l _ (Cell.mk p.p p.t u2.p (1 - u2.t)) _ rfl rfl _ _ rfl (w.heap.size + 1 + 1 + 1 + 1) _ (twRow cn rn L true y x) rfl eow3 _ (by simp) rfl (by have := HLT.out; omega) (by simp; omega) ?_; intro gg cg wg hOg hgg hBg; have bvg := ebv3.grown hgg (hne _ (by omega)); have fz := bvg.free 2; have hvg := bvg.lt; have cvg := bvg.cell 2; simp at cvg)
                      rw [HX.out] at hOg
                      have hEg : REnv w cn rn (some ad) L c (.slice (some ⟨gg, 0, none⟩) ((twRow cn rn L true y x).length + 1) cg) (twRow cn rn L true y (x + 1)) (wg.setCell ⟨w.heap.size + 1 + 1 + 1, 2, none⟩ (.slice (some ⟨gg, 0, none⟩) ((twRow cn rn L true y x).length + 1) cg)) := by
                        refine ⟨?_, ?_, bvg.set 2 _, ?_, ?_⟩
                        · exact (ebs3.grown hgg (hne _ (by omega))).set_other (p := ⟨w.heap.size + 1 + 1 + 1, 2, none⟩) (by show w.heap.size ≠ w.heap.size + 1 + 1 + 1; omega) _
                        · exact (ebr3.grown hgg (hne _ (by omega))).set_other (p := ⟨w.heap.size + 1 + 1 + 1, 2, none⟩) (by show w.heap.size + 1 ≠ w.heap.size + 1 + 1 + 1; omega) _
                        · exact hOg.set (p := ⟨w.heap.size + 1 + 1 + 1, 2, none⟩) (fun e => by have := (hOg.lt _ e).1; simp at this; omega) _
                        · exact (elo3.trans (hBg.mono (B' := w.heap.size) (by omega))).setCell (p := ⟨w.heap.size + 1 + 1 + 1, 2, none⟩) (by show w.heap.size ≤ w.heap.size + 1 + 1 + 1; omega) _
                      go_roundw
                      case rel => exact ⟨x + 1, _, by omega, by go_num, hEg⟩
                      case measure => simp [intOf]; omega
                · have hxC : x = cn := by omega
                  subst hxC
                  have hxI : ¬ (x : Int) < (x : Int) := by omega
                  rw [twRow_row] at E
                  go_wp2
                  go_roundw
                  case rel => exact ⟨y + 1, v, by omega, by go_num, E⟩
                  case measure => simp [intOf]; omega
            · have hyR : y = rn := by omega
              subst hyR
              have hyI : ¬ (y : Int) < (y : Int) := by omega
              have r0 := E.br.cell 0; have r1 := E.br.cell 1; have r2 := E.br.cell 2
              have z := fun j => E.br.free j
              have v0 := E.bv.cell 0; have v1 := E.bv.cell 1; have v2 := E.bv.cell 2
              have hvl := E.bv.lt; have hrl := E.br.lt
              simp at r0 r1 r2 v0 v1 v2
              have HE : Hid (twErr cn y L = 0) := Lib.hid (by unfold twErr; rw [if_neg (by simp [HC0.out]), if_pos HALL.out])
              have HD : Hid (twD cn y L = ((cn : Int), (y : Int)) ∧ twL cn y L b = twTo cn y L b L.length) := Lib.hid (by unfold twD twL; rw [HE.out]; exact ⟨rfl, rfl⟩)
              obtain ⟨va, vc, ev, hrow, -, -, hnil, hge⟩ := E.own.rows cell_l
              obtain ⟨n, hn⟩ : ∃ n, n = (twRow cn y L b y 0).length := ⟨_, rfl⟩
              rw [← hn] at ev
              subst ev
              rw [twRow_end HN.out, ← HD.out.2] at hn hrow
              have HN2 := Lib.hid hn
              clear hn
              go_wp2
              refine bodyPost_ret (v := .tuple #[.agg #[.int .i64 cn, .int .i64 y, .slice va n vc], .int .i64 0]) ?_ rfl ?_
              · simp [results, Try.results53, go_sem, r0, r1, r2]
              · refine ⟨va, n, vc, scheme_ret HD.out.1 HE.out, HN2.out, ?_, hnil, ?_⟩
                · have hap : ∀ ad, va = some ad → ad.block ≠ w.heap.size + 1 := fun ad e => by have := hge ad e; omega
                  exact ((hrow.set (p := ⟨w.heap.size + 1, 0, none⟩) hap _).set (p := ⟨w.heap.size + 1, 1, none⟩) hap _).set (p := ⟨w.heap.size + 1, 2, none⟩) hap _
                · exact ((E.low.setCell (p := ⟨w.heap.size + 1, 0, none⟩) (by show w.heap.size ≤ w.heap.size + 1; omega) _).setCell (p := ⟨w.heap.size + 1, 1, none⟩) (by show w.heap.size ≤ w.heap.size + 1; omega) _).setCell (p := ⟨w.heap.size + 1, 2, none⟩) (by show w.heap.size ≤ w.heap.size + 1; omega) _
    · have hlb : ((L.length : Int) != (N : Int)) = true := by simp; omega
      have HE : Hid (twErr cn rn L = 10) := Lib.hid (by
        have h2 : cellsErr cn rn L.length = 10 := by unfold cellsErr; rw [if_neg (by simp [HS.out]), if_pos (by rw [hNI]; omega)]
        unfold twErr; rw [h2]; rfl)
      have HD : Hid (twD cn rn L = (0, 0) ∧ twL cn rn L b = []) := Lib.hid (by unfold twD twL; rw [HE.out]; exact ⟨rfl, rfl⟩)
      clear hln hN
      go_wp2_with fail
      refine bodyPost_ret (v := .tuple #[.agg #[.int .i64 0, .int .i64 0, .slice none 0 0], .int .i64 10]) ?_ rfl ?_
      · simp [results, Try.results53, go_sem, r0, r1, r2]
      · exact ⟨none, 0, 0, scheme_ret HD.out.1 HE.out, by rw [HD.out.2]; rfl, by rw [HD.out.2]; exact RowsAt.nil _ _, fun _ => rfl, (((hB3.setCell (p := ⟨w.heap.size + 1, 0, none⟩) (by show w.heap.size ≤ w.heap.size + 1; omega) _).setCell (p := ⟨w.heap.size + 1, 1, none⟩) (by show w.heap.size ≤ w.heap.size + 1; omega) _).setCell (p := ⟨w.heap.size + 1, 2, none⟩) (by show w.heap.size ≤ w.heap.size + 1; omega) _)⟩
  · have HE : Hid (twErr C R L = sideErr C R) := Lib.hid (by unfold twErr cellsErr; rw [if_pos h1, if_pos h1])
    have HD : Hid (twD C R L = (0, 0) ∧ twL C R L b = []) := Lib.hid (by unfold twD twL; rw [HE.out, if_neg h1, if_neg h1]; exact ⟨rfl, rfl⟩)
    have heb : (sideErr C R != 0) = true := by simpa using h1
    clear h1
    go_wp2_with fail
    refine bodyPost_ret (v := .tuple #[.agg #[.int .i64 0, .int .i64 0, .slice none 0 0], .int .i64 (sideErr C R)]) ?_ rfl ?_
    · simp [results, Try.results53, go_sem, r0, r1, r2]
    · exact ⟨none, 0, 0, scheme_ret HD.out.1 HE.out, by rw [HD.out.2]; rfl, by rw [HD.out.2]; exact RowsAt.nil _ _, fun _ => rfl, (((hB3.setCell (p := ⟨w.heap.size + 1, 0, none⟩) (by show w.heap.size ≤ w.heap.size + 1; omega) _).setCell (p := ⟨w.heap.size + 1, 1, none⟩) (by show w.heap.size ≤ w.heap.size + 1; omega) _).setCell (p := ⟨w.heap.size + 1, 2, none⟩) (by show w.heap.size ≤ w.heap.size + 1; omega) _)⟩
end Go.Proofs.Ytmjnanaccjikjaa
