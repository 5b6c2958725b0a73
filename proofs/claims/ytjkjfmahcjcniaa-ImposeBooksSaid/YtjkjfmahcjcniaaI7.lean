/-
  The law on turned sheets: its walk.
-/
import Derived.Test.YtjkjfmahcjcniaaI6
import Derived.Test.YtjkjfmahcjcniaaIW
import Derived.Test.YtjkjfmahcjcniaaIP
namespace Go.Proofs.Ytjkjfmahcjcniaa
open Go.RowKit

theorem pile_n (C R : Int) (a : Option Addr) (n : Nat) (L : List Fold) (c : Nat) (w : World) (hn : n = L.length) (hL : RowsAt 2 Fold.l w a L) (hl : L.length ≤ maxLen) (hI : ∀ x ∈ L, OkI x.c) :
    Calls Try.prog 19 #[.agg #[.int .i64 C, .int .i64 R], .slice a n c] w (PilePost w C R L) := by
  subst hn; exact pile_any C R a L c w hL hl hI
theorem sameL_n (a1 a2 : Option Addr) (n1 n2 : Nat) (L : List Leaf) (c1 c2 : Nat) (w : World) (e1 : n1 = L.length) (e2 : n2 = L.length) (h1 : RowsAt 4 Leaf.l w a1 L) (h2 : RowsAt 4 Leaf.l w a2 L) (hl : L.length ≤ 64) :
    Calls Try.prog 21 #[.slice a1 n1 c1, .slice a2 n2 c2] w fun e w' => e = .returned (.bool true) ∧ Drew w w' := by
  subst e1; subst e2
  have hm : L.length ≤ maxLen := by unfold maxLen; omega
  refine (sameLeaves_any a1 L c1 a2 L c2 w h1 h2 hm hm).mono fun e w' ⟨he, hd⟩ => ⟨?_, hd⟩
  rw [he]; exact ret_bool (decide_eq_true rfl)
theorem new_fold (w : World) (x : Fold) : OwnR 2 74 Fold.l (w.alloc (.cells #[.int .i64 x.k, .int .i64 x.c] 74)) w.heap.size (.slice (some ⟨w.heap.size, 0, none⟩) 1 1) [x] :=
  ⟨rfl, Or.inr ⟨w.heap.size, 1, _, rfl, Nat.le_refl _, heap_alloc_new w _, Nat.le_refl _, by unfold maxLen; decide, rfl, rfl⟩⟩
/-- The folds of the sheet turned round, as far as they are made. -/
def roundTo (L : List Fold) (j : Nat) : List Fold := Fold.mk 6 0 :: (L.take j).map swapK
theorem roundTo_len (L : List Fold) {j : Nat} (hj : j ≤ L.length) : (roundTo L j).length = j + 1 := by unfold roundTo; simp; omega
theorem roundTo_succ {L : List Fold} {j : Nat} (hj : j < L.length) : roundTo L j ++ [swapK L[j]] = roundTo L (j + 1) := by
  unfold roundTo
  rw [List.take_succ_eq_append_getElem hj, List.map_append]; rfl
theorem roundTo_end {L : List Fold} {j : Nat} (hj : ¬ j < L.length) : roundTo L j ++ [Fold.mk 6 0] = ⟨6, 0⟩ :: L.map swapK ++ [⟨6, 0⟩] := by
  unfold roundTo
  rw [List.take_of_length_le (by omega)]
theorem roundTo_ok {L : List Fold} {j : Nat} (h : ∀ z ∈ L, OkI z.c) : ∀ z ∈ roundTo L j ++ [Fold.mk 6 0], OkI z.c := by
  have h0 : OkI 0 := (by decide : (Lit.int .i64 0).wf = true)
  intro z hz
  rcases List.mem_append.1 hz with hz | hz
  · rcases List.mem_cons.1 hz with rfl | hz
    · exact h0
    · obtain ⟨u, hu, rfl⟩ := List.mem_map.1 hz
      exact h u (List.mem_of_mem_take hu)
  · rw [List.mem_singleton.1 hz]; exact h0
theorem wpList_appH {α : Type} {n by_ : Nat} {ST E : TypeId} {z : Value} {g : α → List Int} (T : ElT n by_ ST E z) (hg : ∀ x, (g x).length = n) {ops : Array Oper} {rest : List Oper} {o : Oper} {a : Act} {Q : Exit → Act → World → Prop} (w0 : World) (x : α) (cs : Array Value) (hcs : cs = (vals (g x)).toArray) (hgd : o.guard = none) (s xo : Operand)
    (ho : o.op = .call { callee := .builtin .append, args := #[s, xo], argTypes := #[ST, ST] }) (B : Nat) (v : Value) (L : List α) (hs : a.eval s = v) (hown : OwnR n E g w0 B v L) (H : Nat) (hH : w0.heap.size = H)
    (hx : a.eval xo = .slice (some ⟨H, 0, none⟩) 1 1) (hl : L.length ≤ 1000000) (hB : B ≤ w0.heap.size)
    (h : ∀ gg c w', OwnR n E g w' B (.slice (some ⟨gg, 0, none⟩) (L.length + 1) c) (L ++ [x]) → w0.grownBy w' v.ownBlock → Below B w0 w' → wpList Try.prog ops Q rest (a.put o.dst (.slice (some ⟨gg, 0, none⟩) (L.length + 1) c)) w') :
    wpList Try.prog ops Q (o :: rest) a (w0.alloc (.cells cs E)) := by
  subst hH
  exact wpList_appX T hg w0 x cs hcs hgd s xo ho B v L hs hown hx hl hB h
set_option maxRecDepth 100000 in
set_option maxHeartbeats 8000000 in
theorem turns_walk (x y k : Int) (a : Option Addr) (L : List Fold) (c : Nat) (w : World) (hk : OkI k) (hL : RowsAt 2 Fold.l w a L) (hl : L.length ≤ maxLen) (hn : a = none → c = 0) (hI : ∀ z ∈ L, OkI z.c) (hlc : L.length ≤ c) :
    Calls Try.prog 9 #[.agg #[.int .i64 x, .int .i64 y], .slice a L.length c, .int .i64 k] w fun e w' => e = .returned (.bool true) ∧ Below w.heap.size w w' := by
  unfold maxLen at hl
  go_enter Try.func9, Try.ntmps9
  go_wp2_with fail
  refine (awake_any _).mono ?_
  rintro e w1 ⟨rfl, hb1⟩
  have hB1 := ((Below.refl w.heap.size w).alloc (Nat.le_refl _) (.cells #[.int .i64 x, .int .i64 y] 22)).trans (hb1.mono (B' := w.heap.size) (by simp))
  have bx1 := (BoxAt.new w #[.int .i64 x, .int .i64 y] 22).below hb1
  have hL1 := (hL.alloc (.cells #[.int .i64 x, .int .i64 y] 22)).below hb1
  clear hb1
  by_cases h9 : 9 < L.length
  · go_wp2_with fail
    go_ret
    exact ⟨rfl, hB1⟩
  have c0 := bx1.cell 0; have c1 := bx1.cell 1
  simp at c0 c1
  have hbl := bx1.lt
  have HI := Lib.hid hI; have HKI := Lib.hid hk
  clear hI hk
  have h9' : L.length ≤ 9 := by omega
  go_wp2_with fail
  have z0 := World.new_ne w1 ⟨w.heap.size, 0, none⟩ c0
  have z1 := World.new_ne w1 ⟨w.heap.size, 1, none⟩ c1
  go_region_held3 (fun w' => w'.cell? ⟨w.heap.size, 0, none⟩ = some (.int .i64 x) ∧ w'.cell? ⟨w.heap.size, 1, none⟩ = some (.int .i64 y)) (first | go_keep | exact ⟨(hb2.cell hbl).trans c0, (hb2.cell hbl).trans c1⟩ | exact ⟨(hb3.cell (Nat.lt_of_lt_of_le hbl hb2.size)).trans ((hb2.cell hbl).trans c0), (hb3.cell (Nat.lt_of_lt_of_le hbl hb2.size)).trans ((hb2.cell hbl).trans c1)⟩)
    (first
      | (go_at_call 18; refine (folds_any a L.length L c _ rfl hL1.drew (by omega) hn).mono ?_; rintro e w2 ⟨v2, rfl, hO2, hb2⟩; obtain ⟨a2, d2, rfl, hr2, -, -, -, -⟩ := hO2.rows fold_l)
      | (go_at_call 19; refine (pile_any x y a2 L d2 _ hr2 (by unfold maxLen; omega) HI.out).mono ?_; rintro e w3 ⟨a3, n3, d3, rfl, hn3, hr3, hnil3, hb3⟩; have HN3 := Lib.hid hn3; clear hn3))
  clear z0 z1 c0 c1
  have hB3 := (hB1.drew.trans (hb2.mono (B' := w.heap.size) hB1.size)).trans (hb3.mono (B' := w.heap.size) (Nat.le_trans hB1.size hb2.size))
  have hb13 : Below w1.heap.size w1 w3 := Below.trans (Below.trans (Below.drew (Below.refl _ _)) hb2) (hb3.mono (B' := w1.heap.size) hb2.size)
  have bx3 := bx1.below hb13
  have hL3 := hL1.below hb13
  have hL0 : a = none → L = [] := fun e => by subst e; exact hL1.drop_none
  clear hb2 hb3 hb13 bx1 hL1 hO2 hr2 hB1 hL
  by_cases he : (checkFo x y L).2 = 0
  · have hlen : (pileE x y L).length ≤ 64 := by
      obtain ⟨hs, _, _⟩ := checkFo_ok he
      obtain ⟨sC, sR, sm⟩ := side_ok hs
      unfold pileE; rw [if_pos he, pileP_len he]
      exact Nat.mul_le_mul (show x.toNat ≤ 8 by omega) (show y.toNat ≤ 8 by omega)
    have HE := Lib.hid he
    have h00 : (checkFo x y L).2 = 0 := he
    have hmod := fun W => mod_any k (L.length + 1) W (by omega) (by omega)
    have hq0 := Int.emod_nonneg k (show ((L.length + 1 : Nat) : Int) ≠ 0 by omega)
    have hq1 := Int.emod_lt_of_pos k (show (0 : Int) < ((L.length + 1 : Nat) : Int) by omega)
    obtain ⟨q, hq⟩ : ∃ q : Nat, k % ((L.length + 1 : Nat) : Int) = q := ⟨(k % ((L.length + 1 : Nat) : Int)).toNat, by omega⟩
    rw [hq] at hmod hq0 hq1
    rw [Int.natCast_add] at hmod
    have hqL : q ≤ L.length := by omega
    obtain ⟨al, cl, hsl, Rl, nl⟩ := folds_low a L c q hn hlc hqL
    obtain ⟨ah, nh, ch, enh, hsh, Rh, nhh⟩ := folds_high a L c q hn hlc hqL
    have HMOD := Lib.hid hmod; have HRL := Lib.hid Rl; have HRH := Lib.hid Rh; have HENH := Lib.hid enh; have HLEN := Lib.hid hlen
    clear hmod hq hq0 hq1 Rl Rh enh he hlen
    rw [h00]
    clear h00
    have hqc : (q : Int) ≤ (L.length : Int) := by omega
    go_wp2_with fail
    refine (HMOD.out _).mono ?_
    rintro e w4 ⟨rfl, rfl⟩
    go_wp2_with fail
    go_loopw [10] (fun i wr => ∃ m : Nat, 5 ≤ m ∧ m ≤ 7 ∧ i = .int .i64 m ∧ Below w3.heap.size w3 wr) (fun i _ => 7 - (intOf i).toNat)
    case atStart => exact ⟨5, by omega, by omega, rfl, Below.refl _ _⟩
    case round =>
      obtain ⟨m, hm5, hm7, rfl, hD⟩ := hrel
      by_cases hlt : m ≤ 6
      · have hlt' : (m : Int) ≤ 6 := by omega
        have hLr := hL3.below hD
        have HTW : Hid ((checkFo x y (L.take q ++ [Fold.mk m 0, Fold.mk m 0] ++ L.drop q)).2 = 0 ∧ pileE x y (L.take q ++ [Fold.mk m 0, Fold.mk m 0] ++ L.drop q) = pileE x y L) := Lib.hid (by
          have hst : still (Fold.mk m 0) := by
            rcases (show m = 5 ∨ m = 6 by omega) with rfl | rfl
            · exact Or.inl rfl
            · exact Or.inr rfl
          have h1 := pile_two (C := x) (R := y) (L := L.take q) (M := L.drop q) hst (by rw [List.take_append_drop]; exact HE.out) (by rw [List.take_append_drop]; exact h9')
          rw [List.take_append_drop] at h1
          rw [List.append_assoc]
          exact h1)
        have HSM : Hid ((L.take q ++ [Fold.mk m 0, Fold.mk m 0] ++ L.drop q).length ≤ maxLen ∧ ∀ z ∈ (L.take q ++ [Fold.mk m 0, Fold.mk m 0] ++ L.drop q : List Fold), OkI z.c) := Lib.hid (by
          refine ⟨by unfold maxLen; simp; omega, fun z hz => ?_⟩
          rcases List.mem_append.1 hz with hz | hz
          · rcases List.mem_append.1 hz with hz | hz
            · exact HI.out z (List.mem_of_mem_take hz)
            · have hz0 : z.c = 0 := by
                rcases List.mem_cons.1 hz with rfl | hz
                · rfl
                · rw [List.mem_singleton.1 hz]
              rw [hz0]; exact (by decide : (Lit.int .i64 0).wf = true)
          · exact HI.out z (List.mem_of_mem_drop hz))
        go_wp2_with fail
        go_region_held3 (fun _ => True) (trivial)
          (first
            | (go_at_call 18; refine (folds_any al q (L.take q) cl _ (by rw [List.length_take]; omega) (by first | exact HRL.out _ hLr | exact HRL.out _ (hLr.drew.alloc _)) (by rw [List.length_take]; omega) nl).mono ?_; rintro e w5 ⟨v5, rfl, hO5, hb5⟩)
            | (refine step_appL tFold fold_l _ (by rfl) _ _ (by rfl) wr.heap.size v5 (L.take q) (by rfl) (hO5.alloc _) (some ⟨w5.heap.size, 0, none⟩) [Fold.mk m 0, Fold.mk m 0] 2 2 rfl (by rfl) (rows_lit fold_l _ _ _ _ rfl) (fun e => by cases e) (by rw [List.length_take]; omega) (by simp) (by have h1 : wr.heap.size ≤ w5.heap.size := hb5.size; simp; omega) ?_
               intro v6 w6 hO6 hg6 hb6 ho6
               have hX : Below w3.heap.size w3 w6 := ((hD.drew.trans (hb5.mono (B' := w3.heap.size) hD.size)).alloc (hD.drew.trans (hb5.mono (B' := w3.heap.size) hD.size)).size _).trans (hb6.mono (B' := w3.heap.size) hD.size)
               have hZ : wr.heap.size ≤ w6.heap.size := by
                 have h1 : wr.heap.size ≤ w5.heap.size := hb5.size
                 have h2 := hb6.size
                 simp at h2; omega)
            | (refine step_appL tFold fold_l _ (by rfl) _ _ (by rfl) _ v5 (L.take q) (by rfl) hO5 (some ⟨wr.heap.size, 0, none⟩) [Fold.mk m 0, Fold.mk m 0] 2 2 rfl (by rfl) ((rows_lit fold_l wr.drew _ _ _ rfl).below hb5) (fun e => by cases e) (by rw [List.length_take]; omega) (by simp) hb5.size ?_
               intro v6 w6 hO6 hg6 hb6 ho6
               have hX : Below w3.heap.size w3 w6 := ((hD.drew.alloc hD.size _).trans (hb5.mono (B' := w3.heap.size) (by have h1 := hD.size; simp; omega))).trans (hb6.mono (B' := w3.heap.size) (by have h1 := hD.size; simp; omega))
               have hZ := Nat.le_trans hb5.size hb6.size)
            | (refine step_appL tFold fold_l _ (by rfl) _ _ (by rfl) _ v6 (L.take q ++ [Fold.mk m 0, Fold.mk m 0]) (by rfl) hO6 ah (L.drop q) nh ch HENH.out (by rfl) (HRH.out _ (hL3.below hX)) nhh (by simp; omega) (by rw [List.length_drop]; omega) hZ ?_
               intro v7 w7 hO7 hg7 hb7 ho7
               obtain ⟨a7, d7, e7, hr7, -, -, -, -⟩ := hO7.rows fold_l
               obtain ⟨n7, hn7⟩ : ∃ n, n = (L.take q ++ [Fold.mk m 0, Fold.mk m 0] ++ L.drop q).length := ⟨_, rfl⟩
               rw [← hn7] at e7
               subst e7
               have HN7 := Lib.hid hn7
               clear hn7
               have hY : Below w3.heap.size w3 w7 := hX.trans (hb7.mono (B' := w3.heap.size) (by have h1 := hD.size; first | exact h1 | (simp; omega)))))
        all_goals
          clear hX hZ hO5 hO6 hO7 hb5 hb6 hb7 hg6 hg7 ho6 ho7 hLr
          have bx7 := bx3.below hY
          have c0 := bx7.cell 0; have c1 := bx7.cell 1
          simp at c0 c1
          go_wp2_with fail
          refine (pile_n x y a7 n7 (L.take q ++ [Fold.mk m 0, Fold.mk m 0] ++ L.drop q) d7 _ HN7.out hr7 HSM.out.1 HSM.out.2).mono ?_
          rintro e w8 ⟨a8, n8, d8, rfl, hn8, hr8, -, hb8⟩
          rw [HTW.out.1]
          rw [HTW.out.2] at hn8 hr8
          have HN8 := Lib.hid hn8
          have hD8 := hY.trans (hb8.mono (B' := w3.heap.size) hY.size)
          have hr38 := hr3.below hD8
          clear hn8 hb8 c0 c1 bx7 hr7 hY
          go_wp2_with fail
          refine (sameL_n a3 a8 n3 n8 (pileE x y L) d3 d8 _ HN3.out HN8.out hr38 hr8 HLEN.out).mono ?_
          rintro e w9 ⟨rfl, hw9⟩
          have hD9 := hw9.below hD8
          clear hw9 hD8 hr8 hr38
          go_wp2_with fail
          go_roundw
          case rel => exact ⟨m + 1, by omega, by omega, by go_num, hD9⟩
          case measure => simp [intOf]; omega
      · have hlt' : ¬ (m : Int) ≤ 6 := by omega
        clear hsl hsh nl nhh HRL HRH HENH HMOD
        go_wp2_with fail
        obtain ⟨wz, hwz⟩ : ∃ wz, wz = wr.alloc (.cells #[.int .i64 6, .int .i64 0] 74) := ⟨_, rfl⟩
        have hO0 : OwnR 2 74 Fold.l wz wr.heap.size (.slice (some ⟨wr.heap.size, 0, none⟩) 1 1) (roundTo L 0) := by rw [hwz]; exact new_fold wr (Fold.mk 6 0)
        have hD0 : Below w3.heap.size w3 wz := by rw [hwz]; exact hD.alloc hD.size _
        have hwm : w3.heap.size ≤ wr.heap.size := hD.size
        have hwz' : wr.heap.size ≤ wz.heap.size := by rw [hwz]; simp
        rw [← hwz]
        obtain ⟨bz, hbz⟩ : ∃ bz, wr.heap.size = bz := ⟨_, rfl⟩
        rw [hbz] at hO0 hwm hwz' ⊢
        clear hwz hbz hD hlt' hlt
        go_loopw [14, 15] (fun sv i wq => ∃ j : Nat, j ≤ L.length ∧ i = .int .i64 j ∧ OwnR 2 74 Fold.l wq bz sv (roundTo L j) ∧ Below w3.heap.size w3 wq ∧ bz ≤ wq.heap.size) (fun _ i _ => L.length - (intOf i).toNat)
        case atStart => exact ⟨0, Nat.zero_le _, rfl, hO0, hD0, hwz'⟩
        case round =>
          obtain ⟨j, hj, rfl, hO, hDq, hwq⟩ := hrel
          have hRT := roundTo_len L hj
          obtain ⟨a9, d9, e9, hr9, -, -, -, -⟩ := hO.rows fold_l
          have HRT := Lib.hid hRT
          by_cases hjl : j < L.length
          · have hjl' : (j : Int) < (L.length : Int) := by omega
            obtain ⟨ad, rfl, had, s0, s1⟩ := (hL3.below hDq).fold hjl
            obtain ⟨z, ez⟩ : ∃ z, z = L[j] := ⟨_, rfl⟩
            rw [← ez] at s0 s1
            have HSU : Hid (roundTo L j ++ [swapK z] = roundTo L (j + 1)) := Lib.hid (by rw [ez]; exact roundTo_succ hjl)
            clear ez hr9 hRT
            clear e9
            by_cases hz1 : z.k = 1
            · rw [hz1] at s0
              have hx1 : Hid (roundTo L j ++ [Fold.mk 2 z.c] = roundTo L (j + 1)) := Lib.hid (by rw [← HSU.out]; simp [swapK, hz1])
              clear  hz1
              go_wp2_with (at_builtin; refine wpList_appH tFold fold_l _ (Fold.mk 2 z.c) _ rfl rfl _ _ rfl bz _ (roundTo L j) rfl (hO.alloc _) _ (by simp) rfl (by rw [HRT.out]; omega) (by simp; omega) ?_; intro gg cg wg hOg hgg hBg)
              rw [hx1.out, HRT.out] at hOg
              have hDg := (hDq.alloc hDq.size (.cells #[.int .i64 2, .int .i64 z.c] 74)).trans (hBg.mono (B' := w3.heap.size) hwm)
              have hwg : bz ≤ wg.heap.size := by have h2 := hBg.size; simp at h2; omega
              go_roundw
              case rel => exact ⟨j + 1, by omega, by go_num, by first | exact hOg | (rw [HRT.out]; exact hOg), hDg, hwg⟩
              case measure => simp [intOf]; omega
            by_cases hz2 : z.k = 2
            · rw [hz2] at s0
              have hx1 : Hid (roundTo L j ++ [Fold.mk 1 z.c] = roundTo L (j + 1)) := Lib.hid (by rw [← HSU.out]; simp [swapK, hz2])
              clear hz1 hz2
              go_wp2_with (at_builtin; refine wpList_appH tFold fold_l _ (Fold.mk 1 z.c) _ rfl rfl _ _ rfl bz _ (roundTo L j) rfl (hO.alloc _) _ (by simp) rfl (by rw [HRT.out]; omega) (by simp; omega) ?_; intro gg cg wg hOg hgg hBg)
              rw [hx1.out, HRT.out] at hOg
              have hDg := (hDq.alloc hDq.size (.cells #[.int .i64 1, .int .i64 z.c] 74)).trans (hBg.mono (B' := w3.heap.size) hwm)
              have hwg : bz ≤ wg.heap.size := by have h2 := hBg.size; simp at h2; omega
              go_roundw
              case rel => exact ⟨j + 1, by omega, by go_num, by first | exact hOg | (rw [HRT.out]; exact hOg), hDg, hwg⟩
              case measure => simp [intOf]; omega
            by_cases hz3 : z.k = 3
            · rw [hz3] at s0
              have hx1 : Hid (roundTo L j ++ [Fold.mk 4 z.c] = roundTo L (j + 1)) := Lib.hid (by rw [← HSU.out]; simp [swapK, hz3])
              clear hz1 hz2 hz3
              go_wp2_with (at_builtin; refine wpList_appH tFold fold_l _ (Fold.mk 4 z.c) _ rfl rfl _ _ rfl bz _ (roundTo L j) rfl (hO.alloc _) _ (by simp) rfl (by rw [HRT.out]; omega) (by simp; omega) ?_; intro gg cg wg hOg hgg hBg)
              rw [hx1.out, HRT.out] at hOg
              have hDg := (hDq.alloc hDq.size (.cells #[.int .i64 4, .int .i64 z.c] 74)).trans (hBg.mono (B' := w3.heap.size) hwm)
              have hwg : bz ≤ wg.heap.size := by have h2 := hBg.size; simp at h2; omega
              go_roundw
              case rel => exact ⟨j + 1, by omega, by go_num, by first | exact hOg | (rw [HRT.out]; exact hOg), hDg, hwg⟩
              case measure => simp [intOf]; omega
            by_cases hz4 : z.k = 4
            · rw [hz4] at s0
              have hx1 : Hid (roundTo L j ++ [Fold.mk 3 z.c] = roundTo L (j + 1)) := Lib.hid (by rw [← HSU.out]; simp [swapK, hz4])
              clear hz1 hz2 hz3 hz4
              go_wp2_with (at_builtin; refine wpList_appH tFold fold_l _ (Fold.mk 3 z.c) _ rfl rfl _ _ rfl bz _ (roundTo L j) rfl (hO.alloc _) _ (by simp) rfl (by rw [HRT.out]; omega) (by simp; omega) ?_; intro gg cg wg hOg hgg hBg)
              rw [hx1.out, HRT.out] at hOg
              have hDg := (hDq.alloc hDq.size (.cells #[.int .i64 3, .int .i64 z.c] 74)).trans (hBg.mono (B' := w3.heap.size) hwm)
              have hwg : bz ≤ wg.heap.size := by have h2 := hBg.size; simp at h2; omega
              go_roundw
              case rel => exact ⟨j + 1, by omega, by go_num, by first | exact hOg | (rw [HRT.out]; exact hOg), hDg, hwg⟩
              case measure => simp [intOf]; omega
            have hx1 : Hid (roundTo L j ++ [Fold.mk z.k z.c] = roundTo L (j + 1)) := Lib.hid (by rw [← HSU.out]; simp [swapK, hz1, hz2, hz3, hz4])
            have b1 : (z.k == 1) = false := by simpa using hz1
            have b2 : (z.k == 2) = false := by simpa using hz2
            have b3 : (z.k == 3) = false := by simpa using hz3
            have b4 : (z.k == 4) = false := by simpa using hz4
            go_wp2_with (at_builtin; refine wpList_appH tFold fold_l _ (Fold.mk z.k z.c) _ rfl rfl _ _ rfl bz _ (roundTo L j) rfl (hO.alloc _) _ (by simp) rfl (by rw [HRT.out]; omega) (by simp; omega) ?_; intro gg cg wg hOg hgg hBg)
            rw [hx1.out, HRT.out] at hOg
            have hDg := (hDq.alloc hDq.size (.cells #[.int .i64 z.k, .int .i64 z.c] 74)).trans (hBg.mono (B' := w3.heap.size) hwm)
            have hwg : bz ≤ wg.heap.size := by have h2 := hBg.size; simp at h2; omega
            go_roundw
            case rel => exact ⟨j + 1, by omega, by go_num, by first | exact hOg | (rw [HRT.out]; exact hOg), hDg, hwg⟩
            case measure => simp [intOf]; omega
          · have hjl' : ¬ (j : Int) < (L.length : Int) := by omega
            have bx9 := bx3.below hDq
            have c0 := bx9.cell 0; have c1 := bx9.cell 1
            simp at c0 c1
            have hbl9 := bx9.lt
            have HSW : Hid ((checkFo x y (roundTo L j ++ [Fold.mk 6 0])).2 = 0 ∧ pileE x y (roundTo L j ++ [Fold.mk 6 0]) = pileE x y L) := Lib.hid (by
              have := pile_swap HE.out h9'
              rw [← roundTo_end hjl] at this; exact this)
            have HOK := Lib.hid (roundTo_ok (j := j) HI.out)
            have HRTL : Hid ((roundTo L j ++ [Fold.mk 6 0]).length ≤ maxLen) := Lib.hid (by rw [List.length_append, HRT.out]; unfold maxLen; simp; omega)
            clear hRT hr9 e9
            have z0 := World.new_ne wr ⟨w.heap.size, 0, none⟩ c0
            have z1 := World.new_ne wr ⟨w.heap.size, 1, none⟩ c1
            go_wp2_with fail
            go_region_held3 (fun w' => w'.cell? ⟨w.heap.size, 0, none⟩ = some (.int .i64 x) ∧ w'.cell? ⟨w.heap.size, 1, none⟩ = some (.int .i64 y)) (first | go_keep | exact ⟨bx7.cell 0, bx7.cell 1⟩ | exact ⟨bx6.cell 0, bx6.cell 1⟩)
              (first
                | (refine step_appL tFold fold_l _ (by rfl) _ _ (by rfl) bz _ (roundTo L j) (by rfl) (hO.alloc _) (some ⟨wr.heap.size, 0, none⟩) [Fold.mk 6 0] 1 1 rfl (by rfl) (rows_lit fold_l _ _ _ _ rfl) (fun e => by cases e) (by rw [HRT.out]; omega) (by simp) (by simp; omega) ?_
                   intro v6 w6 hO6 hg6 hb6 ho6
                   obtain ⟨a6, d6, e6, hr6, -, -, -, -⟩ := hO6.rows fold_l
                   obtain ⟨n6, hn6⟩ : ∃ n, n = (roundTo L j ++ [Fold.mk 6 0]).length := ⟨_, rfl⟩
                   rw [← hn6] at e6
                   subst e6
                   have HN6 := Lib.hid hn6
                   have hD6 : Below w3.heap.size w3 w6 := ((hDq.drew).alloc hDq.size _).trans (hb6.mono (B' := w3.heap.size) hwm)
                   have bx6 := bx3.below hD6
                   clear hn6)
                | (go_at_call 19; refine (pile_n x y a6 n6 (roundTo L j ++ [Fold.mk 6 0]) d6 _ HN6.out hr6 HRTL.out HOK.out).mono ?_
                   rintro e w7 ⟨a7, n7, d7, rfl, hn7, hr7, -, hb7⟩
                   rw [HSW.out.2] at hn7 hr7
                   have HN7 := Lib.hid hn7
                   have hD7 := hD6.trans (hb7.mono (B' := w3.heap.size) hD6.size)
                   have bx7 := bx3.below hD7
                   clear hn7))
            rw [HSW.out.1]
            have hr37 := hr3.below hD7
            have hB7 := hB3.trans (hD7.mono (B' := w.heap.size) hB3.size)
            clear hr6 hO6 hg6 ho6 hb6 hb7 bx6 bx7 hO hDq z0 z1 c0 c1 bx9
            go_wp2_with fail
            refine (sameL_n a3 a7 n3 n7 (pileE x y L) d3 d7 _ HN3.out HN7.out hr37 hr7 HLEN.out).mono ?_
            rintro e w9 ⟨rfl, hw9⟩
            have hB9 := hw9.below hB7
            go_wp2_with fail
            go_ret
            exact ⟨rfl, hB9⟩
  · have hne : ((checkFo x y L).2 == 0) = false := by simpa using he
    have hne' : ((checkFo x y L).2 != 0) = true := by simpa using he
    have h0 : n3 = 0 := by rw [HN3.out]; unfold pileE; rw [if_neg he]; rfl
    subst h0
    clear HN3 hr3
    go_wp2_with fail
    go_ret
    exact ⟨rfl, hB3⟩
end Go.Proofs.Ytjkjfmahcjcniaa
