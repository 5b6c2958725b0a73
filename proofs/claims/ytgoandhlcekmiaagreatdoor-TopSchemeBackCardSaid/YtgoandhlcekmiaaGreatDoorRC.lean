/-
  Package tympanref06: a heap seen from the other end.
-/
import Derived.Test.YtgoandhlcekmiaaGreatDoorRA
import Derived.Deep.CutRange
namespace Go.Proofs.YtgoandhlcekmiaaGreatDoor
open Go.RowKit

/-- The place that comes to place j. -/
def mirI (cs rs : Bool) (C R j : Nat) : Nat := (if rs = true then R - 1 - j / C else j / C) * C + (if cs = true then C - 1 - j % C else j % C)
def mirP (cs rs : Bool) (C R : Nat) (P : List (List Leaf)) (s : Nat) : List (List Leaf) := (List.range s).map fun j => P.getD (mirI cs rs C R j) []
def mirS (cs rs : Bool) (C R : Nat) (Ps : List PS) (s : Nat) : List PS := (List.range s).map fun j => Ps.getD (mirI cs rs C R j) noPS
theorem mirS_len (cs rs : Bool) (C R : Nat) (Ps : List PS) (s : Nat) : (mirS cs rs C R Ps s).length = s := by simp [mirS]
theorem mirP_len (cs rs : Bool) (C R : Nat) (P : List (List Leaf)) (s : Nat) : (mirP cs rs C R P s).length = s := by simp [mirP]
theorem mirS_succ {cs rs : Bool} {C R : Nat} {Ps : List PS} {s i : Nat} (hi : mirI cs rs C R s = i) (hil : i < Ps.length) : mirS cs rs C R Ps s ++ [Ps[i]] = mirS cs rs C R Ps (s + 1) := by
  unfold mirS; rw [List.range_succ, List.map_append]
  show _ = _ ++ [Ps.getD (mirI cs rs C R s) noPS]
  rw [hi, getD_in noPS hil]
theorem mirS_map (cs rs : Bool) (C R : Nat) (Ps : List PS) (s : Nat) : (mirS cs rs C R Ps s).map (·.l) = mirP cs rs C R (Ps.map (·.l)) s := by
  unfold mirS mirP
  rw [List.map_map]
  apply List.map_congr_left
  intro j _
  show (Ps.getD _ noPS).l = _
  rw [List.getD_eq_getElem?_getD, List.getD_eq_getElem?_getD, List.getElem?_map]
  cases Ps[mirI cs rs C R j]? <;> rfl
theorem mirI_at {cs rs : Bool} {C R k r s : Nat} (hs : r * C + k = s) (hk : k < C) : mirI cs rs C R s = (if rs = true then R - 1 - r else r) * C + (if cs = true then C - 1 - k else k) := by
  have e1 : s % C = k := by rw [← hs, Nat.mul_comm, Nat.mul_add_mod, Nat.mod_eq_of_lt hk]
  have e2 : s / C = r := by rw [← hs, Nat.mul_comm, Nat.mul_add_div (by omega), Nat.div_eq_of_lt hk, Nat.add_zero]
  unfold mirI; rw [e1, e2]
theorem LRow.drew {w : World} {x : PS} (h : LRow w x) : LRow w.drew x := ⟨h.1, h.2.1, h.2.2⟩
theorem step_push {ops : Array Oper} {o : Oper} {a : Act} {K : Act → World → Prop} {Q : Exit → Act → World → Prop} {E0 : Prop} (w : World) (hgd : o.guard = none) (s xo : Operand)
    (ho : o.op = .call { callee := .builtin .append, args := #[s, xo], argTypes := #[64, 64] }) (B : Nat) (v : Value) (Ps : List PS) (x : PS) (hs : a.eval s = v) (hown : Bld B Ps v w) (hx : LRow w x)
    (ad : Addr) (hxo : a.eval xo = .slice (some ad) 1 1) (hc : w.cell? ad = some x.sl) (hl : Ps.length ≤ 1000000) (hB : B ≤ w.heap.size)
    (h : ∀ (g m c : Nat) w', Bld B (Ps ++ [x]) (.slice (some ⟨g, 0, none⟩) m c) w' → w.grownBy w' v.ownBlock → Below B w w' → K (a.put o.dst (.slice (some ⟨g, 0, none⟩) m c)) w') :
    if Region.wanted o (yielded ops a.tmps) = true then Oper.wp Tryz.prog o a w K Q else E0 := by
  have hw : Region.wanted o (yielded ops a.tmps) = true := by simp [Region.wanted, hgd]
  rw [if_pos hw]
  obtain ⟨i0, hi0, hz0, hz1, hz2⟩ := info_parts info_place
  have had : ad.add 0 = ad := by unfold Addr.add; rw [if_pos rfl]
  refine wp_append_lies w s xo 64 ho B 146 i0 _ 1 24 Tryz.underlying64 hi0 hz0 hz1 hz2 rfl (by decide) v Ps.length (Ps.map PS.sl) hs hown.row ad 1 1 [x.sl] hxo rfl (fun j u hj => ?_) (by simp [PS.sl, Value.oneCell']) (by decide) (by unfold maxLen; omega) (by omega) hB w.heap.size rfl ?_
  · cases j with
    | zero => rw [had]; have : u = x.sl := by simpa using hj.symm
              rw [this]; exact hc
    | succ j => simp at hj
  · intro g cap w' hr hg _ _
    exact h _ _ _ _ (hown.push hx hg hr) hg ((Below.refl B w).grown hg hB (fun k hk => (hown.row.lt k hk).1))
structure MEnv (w : World) (C R : Nat) (A : Option Addr) (n c : Nat) (v : Value) (Ps : List PS) (wr : World) : Prop where
  bs : BoxAt wr w.heap.size #[.int .i64 C, .int .i64 R, .slice A n c] 66
  br : BoxAt wr (w.heap.size + 1) #[.int .i64 0, .int .i64 0, .slice none 0 0] 66
  bv : BoxAt wr (w.heap.size + 1 + 1) #[.int .i64 C, .int .i64 R, v] 66
  own : Bld (w.heap.size + 1 + 1 + 1) Ps v wr
  low : Below w.heap.size w wr
theorem heap_place : (66 : TypeId) ≠ 146 := by decide
theorem heap_leaf : (66 : TypeId) ≠ 77 := by decide
set_option maxRecDepth 100000 in
set_option maxHeartbeats 8000000 in
theorem mirrored_any (C R : Nat) (A : Option Addr) (n c : Nat) (Ps : List PS) (cs rs : Bool) (w : World) (hC : 1 ≤ C ∧ C ≤ 8) (hR : 1 ≤ R ∧ R ≤ 8) (hn : n = Ps.length) (hlen : Ps.length = C * R) (hH : HeapAt w A Ps) :
    Calls Tryz.prog 74 #[.agg #[.int .i64 C, .int .i64 R, .slice A n c], .bool cs, .bool rs] w (HeapPost w C R (mirP cs rs C R (Ps.map (·.l)) (R * C))) := by
  subst hn
  have HLEN := Lib.hid hlen
  obtain ⟨w3, hw3⟩ : ∃ w3, w3 = ((w.alloc (.cells #[.int .i64 C, .int .i64 R, .slice A Ps.length c] 66)).alloc (.cells #[.int .i64 0, .int .i64 0, .slice none 0 0] 66)).alloc (.cells #[.int .i64 C, .int .i64 R, .slice none 0 0] 66) := ⟨_, rfl⟩
  have E0 : MEnv w C R A Ps.length c (.slice none 0 0) (mirS cs rs C R Ps (0 * C)) w3 := by
    rw [hw3]
    refine ⟨((BoxAt.new w _ _).alloc _).alloc _, ?_, ?_, ?_, (((Below.refl w.heap.size w).alloc (Nat.le_refl _) _).alloc (by simp) _).alloc (by simp; omega) _⟩
    · have := (BoxAt.new (w.alloc (.cells #[.int .i64 C, .int .i64 R, .slice A Ps.length c] 66)) #[.int .i64 0, .int .i64 0, .slice none 0 0] 66).alloc (.cells #[.int .i64 C, .int .i64 R, .slice none 0 0] 66)
      simpa using this
    · have := BoxAt.new ((w.alloc (.cells #[.int .i64 C, .int .i64 R, .slice A Ps.length c] 66)).alloc (.cells #[.int .i64 0, .int .i64 0, .slice none 0 0] 66)) #[.int .i64 C, .int .i64 R, .slice none 0 0] 66
      simpa using this
    · rw [Nat.zero_mul]; exact Bld.nil _ _
  have W3 := Lib.hid hw3
  clear hw3
  obtain ⟨n, hnn⟩ : ∃ n, Ps.length = n := ⟨_, rfl⟩
  rw [hnn] at E0 W3 ⊢
  have HNN := Lib.hid hnn
  clear hnn hlen
  go_enter Tryz.func74, Tryz.ntmps74
  go_wp2
  rw [← W3.out]
  go_loopw [8] (fun i wr => ∃ (y : Nat) (v : Value), y ≤ R ∧ i = .int .i64 y ∧ MEnv w C R A n c v (mirS cs rs C R Ps (y * C)) wr) (fun i _ => R - (intOf i).toNat)
  case atStart => exact ⟨0, _, Nat.zero_le _, rfl, E0⟩
  case round =>
    obtain ⟨y, v, hy, rfl, E⟩ := hrel
    clear E0
    have c0 := E.bs.cell 0; have c1 := E.bs.cell 1
    simp at c0 c1
    by_cases hyl : y < R
    · have hyI : (y : Int) < (R : Int) := by omega
      go_wp2
      obtain ⟨wo, hwo⟩ : ∃ wo : World, wo = wr := ⟨_, rfl⟩
      go_loopw [9] (fun i wr => ∃ (j : Nat) (v : Value), j ≤ C ∧ i = .int .i64 j ∧ MEnv w C R A n c v (mirS cs rs C R Ps (y * C + j)) wr) (fun i _ => C - (intOf i).toNat)
      case atStart => exact ⟨0, v, Nat.zero_le _, rfl, E⟩
      case round =>
        obtain ⟨j, v, hj, rfl, E⟩ := hrel
        clear c0 c1
        have c0 := E.bs.cell 0; have c1 := E.bs.cell 1; have c2 := E.bs.cell 2
        have v2 := E.bv.cell 2
        have hsl := E.bs.lt
        have hvl := E.bv.lt
        simp at c0 c1 c2 v2
        by_cases hjl : j < C
        · have hjI : (j : Int) < (C : Int) := by omega
          obtain ⟨xn, hxn⟩ : ∃ x, (if cs = true then C - 1 - j else j) = x := ⟨_, rfl⟩
          obtain ⟨yn, hyn⟩ : ∃ x, (if rs = true then R - 1 - y else y) = x := ⟨_, rfl⟩
          have hxl : xn < C := by rw [← hxn]; split <;> omega
          have hyl2 : yn < R := by rw [← hyn]; split <;> omega
          obtain ⟨i, hi⟩ : ∃ i, yn * C + xn = i := ⟨_, rfl⟩
          have hil : i < Ps.length := by rw [← hi, HLEN.out]; exact mul_lt hyl2 hxl
          have hidx : (yn : Int) * (C : Int) + (xn : Int) = (i : Int) := by rw [← hi, Int.natCast_add, Int.natCast_mul]
          have hyc : 0 ≤ (yn : Int) * (C : Int) ∧ (yn : Int) * (C : Int) ≤ 64 := ⟨Int.mul_nonneg (by omega) (by omega), by have := Int.mul_le_mul (show (yn : Int) ≤ 8 by omega) (show (C : Int) ≤ 8 by omega) (by omega) (by omega); omega⟩
          obtain ⟨hyc0, hyc1⟩ := hyc
          have q1 : IntKind.i64.wrap ((yn : Int) * (C : Int)) = (yn : Int) * (C : Int) := IntWalk.i64_in _ (by omega)
          have q2 : IntKind.i64.wrap (i : Int) = (i : Int) := IntWalk.i64_in _ (by omega)
          have HM : Hid (mirI cs rs C R (y * C + j) = i) := Lib.hid (by rw [mirI_at rfl hjl, hxn, hyn]; exact hi)
          have HS := Lib.hid (mirS_succ HM.out hil)
          have hHr := hH.below E.low
          obtain ⟨ad, rfl, had, hcell⟩ := hHr.1 i hil
          have hlrow := hHr.2 _ (List.getElem_mem hil)
          obtain ⟨x, ex⟩ : ∃ x, x = Ps[i] := ⟨_, rfl⟩
          rw [← ex] at hcell hlrow HS
          have HBL : Hid ((mirS cs rs C R Ps (y * C + j)).length ≤ 1000) := Lib.hid (by rw [mirS_len]; have : y * C ≤ 8 * 8 := Nat.mul_le_mul (by omega) hC.2; omega)
          have hilI : (i : Int) < (n : Int) := by have := HNN.out; omega
          obtain ⟨xa, xc, xl⟩ := x
          obtain ⟨xm, hsx⟩ : ∃ m, m = xl.length := ⟨_, rfl⟩
          have HSX : Hid ((PS.mk xa xc xl).sl = .slice xa xm xc) := Lib.hid (by rw [hsx]; rfl)
          rw [HSX.out] at hcell
          have hx1 : cs = true → (C : Int) - 1 - (j : Int) = (xn : Int) := fun h => by rw [if_pos h] at hxn; omega
          have hx2 : cs = false → j = xn := fun h => by rw [h] at hxn; simpa using hxn
          have hy1 : rs = true → (R : Int) - 1 - (y : Int) = (yn : Int) := fun h => by rw [if_pos h] at hyn; omega
          have hy2 : rs = false → y = yn := fun h => by rw [h] at hyn; simpa using hyn
          have HX1 := Lib.hid hx1; have HX2 := Lib.hid hx2; have HY1 := Lib.hid hy1; have HY2 := Lib.hid hy2
          clear ex hi hwo hsx hxn hyn hx1 hx2 hy1 hy2
          obtain ⟨va, vc, ev, -⟩ := E.own.form
          have HEV := Lib.hid ev; clear ev
          have hsb : ad.block < w.heap.size := by
            obtain ⟨_, e, h, _⟩ := hH.1 i hil
            cases e; exact h
          have hwr : w.heap.size + 1 + 1 + 1 ≤ wr.heap.size := E.bv.lt
          have m1 : ¬ w.heap.size + 1 + 1 = wr.heap.size := by omega
          have m2 : ¬ wr.heap.size = w.heap.size + 1 + 1 := by omega
          have n0 := World.new_ne wr _ c2; have n1 := World.new_ne wr _ v2; have n2 := World.new_ne wr _ c0; have n3 := World.new_ne wr _ hcell
          obtain ⟨M6, hM6⟩ : ∃ M, mirS cs rs C R Ps (y * C + j + 1) = M := ⟨_, rfl⟩
          rw [hM6] at HS
          have HM6 := Lib.hid hM6
          clear hM6
          go_upto_if 31 with fail
          go_cut [10] from 23 to 57 (fun v10 wx => v10 = .int .i64 xn ∧ wx = wr)
          case first =>
            cases cs
            · have ax := HX2.out rfl
              subst ax
              go_wp2
              go_meet
              exact ⟨rfl, rfl⟩
            · have ax := HX1.out rfl
              go_wp2
              go_meet
              exact ⟨rfl, rfl⟩
          case rest =>
          obtain ⟨rfl, ecut⟩ := hcut
          rw [ecut]
          clear ecut
          go_upto_if 37 with fail
          go_cut [11] from 23 to 57 (fun v11 wx => v11 = .int .i64 yn ∧ wx = wr)
          case first =>
            cases rs
            · have ay := HY2.out rfl
              subst ay
              go_wp2
              go_meet
              exact ⟨rfl, rfl⟩
            · have ay := HY1.out rfl
              go_wp2
              go_meet
              exact ⟨rfl, rfl⟩
          case rest =>
          obtain ⟨rfl, ecut⟩ := hcut
          rw [ecut]
          clear ecut
          have m4 : (wr.alloc (.cells #[.slice xa xm xc] 146)).cell? ⟨w.heap.size + 1 + 1, 2, none⟩ = some v := (E.bv.alloc _).cell 2
          go_wp2_with fail
          go_region_law ((
            refine step_push _ (by rfl) _ _ (by rfl) (w.heap.size + 1 + 1 + 1) v _ ⟨xa, xc, xl⟩ (by rfl) (E.own.drew.alloc _) (hlrow.drew.alloc _) ⟨wr.heap.size, 0, none⟩ (by rfl) (by rw [HSX.out]; exact (BoxAt.new wr.drew _ _).cell 0) (by have := HBL.out; omega) (by simp; omega) ?_
            intro g6 m6 c6 w6 hO6 hg6 hb6
            have bsg := (E.bs.drew.alloc (.cells #[.slice xa xm xc] 146)).grow (E.own.drew.alloc (.cells #[.slice xa xm xc] 146)).row (Ne.symm heap_place) hg6
            have brg := (E.br.drew.alloc (.cells #[.slice xa xm xc] 146)).grow (E.own.drew.alloc (.cells #[.slice xa xm xc] 146)).row (Ne.symm heap_place) hg6
            have bvg := (E.bv.drew.alloc (.cells #[.slice xa xm xc] 146)).grow (E.own.drew.alloc (.cells #[.slice xa xm xc] 146)).row (Ne.symm heap_place) hg6
            have lowg : Below w.heap.size w w6 := ((E.low.drew).alloc E.low.size _).trans (hb6.mono (B' := w.heap.size) (by omega))
            have fz := bvg.free 2
            have hvg := bvg.lt
            have g1 := bvg.cell 2
            simp at g1))
          all_goals
            rw [HS.out] at hO6
            have hEg : MEnv w C R (some ad) n c (.slice (some ⟨g6, 0, none⟩) m6 c6) M6 (w6.setCell ⟨w.heap.size + 1 + 1, 2, none⟩ (.slice (some ⟨g6, 0, none⟩) m6 c6)) := by
              refine ⟨?_, ?_, bvg.set 2 _, ?_, ?_⟩
              · exact bsg.set_other (p := ⟨w.heap.size + 1 + 1, 2, none⟩) (by show w.heap.size ≠ w.heap.size + 1 + 1; omega) _
              · exact brg.set_other (p := ⟨w.heap.size + 1 + 1, 2, none⟩) (by show w.heap.size + 1 ≠ w.heap.size + 1 + 1; omega) _
              · exact hO6.set bvg heap_place heap_leaf 2 _
              · exact lowg.setCell (p := ⟨w.heap.size + 1 + 1, 2, none⟩) (by show w.heap.size ≤ w.heap.size + 1 + 1; omega) _
            clear n0 n1 n2 n3 v2 c2 hcell
            rw [← HM6.out] at hEg
            go_wp2
            go_roundw
            case rel => exact ⟨j + 1, _, by omega, by go_num, hEg⟩
            case measure => simp [intOf]; omega
        · have hjC : j = C := by omega
          have hjI : ¬ (j : Int) < (C : Int) := by omega
          have hys : y * C + j = (y + 1) * C := by rw [hjC, Nat.succ_mul]
          rw [hys] at E
          clear hwo hys hjC
          go_wp2
          go_roundw
          case rel => exact ⟨y + 1, v, by omega, by go_num, E⟩
          case measure => simp [intOf]; omega
    · have hyR : y = R := by omega
      subst hyR
      have r0 := E.br.cell 0; have r1 := E.br.cell 1; have r2 := E.br.cell 2
      have z := fun j => E.br.free j
      have v0 := E.bv.cell 0; have v1 := E.bv.cell 1; have v2 := E.bv.cell 2
      have hvl := E.bv.lt; have hrl := E.br.lt
      simp at r0 r1 r2 v0 v1 v2
      obtain ⟨va, vc, ev, -⟩ := E.own.form
      obtain ⟨vm, hvm⟩ : ∃ m, (mirS cs rs C y Ps (y * C)).length = m := ⟨_, rfl⟩
      rw [hvm] at ev
      subst ev
      clear hvm
      go_wp2
      refine bodyPost_ret (v := .agg #[.int .i64 C, .int .i64 y, .slice va vm vc]) (by simp [results, Tryz.results74, go_sem, r0, r1, r2]) rfl ?_
      have b1 := ((E.own.mono (B' := w.heap.size) (by omega)).set E.br heap_place heap_leaf 0 (.int .i64 C))
      have b2 := b1.set (E.br.set 0 _) heap_place heap_leaf 1 (.int .i64 y)
      have b3 := b2.set ((E.br.set 0 _).set 1 _) heap_place heap_leaf 2 (.slice va vm vc)
      exact ⟨_, _, _, _, rfl, b3, mirS_map _ _ _ _ _ _, ((E.low.setCell (p := ⟨w.heap.size + 1, 0, none⟩) (by show w.heap.size ≤ w.heap.size + 1; omega) _).setCell (p := ⟨w.heap.size + 1, 1, none⟩) (by show w.heap.size ≤ w.heap.size + 1; omega) _).setCell (p := ⟨w.heap.size + 1, 2, none⟩) (by show w.heap.size ≤ w.heap.size + 1; omega) _⟩
end Go.Proofs.YtgoandhlcekmiaaGreatDoor
