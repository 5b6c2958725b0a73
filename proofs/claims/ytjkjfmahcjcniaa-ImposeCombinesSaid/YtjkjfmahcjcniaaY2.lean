/-
  Package impose: the reference's view of a sheet's back.
-/
import Derived.Test.YtjkjfmahcjcniaaY1
namespace Go.Proofs.Ytjkjfmahcjcniaa
open Go.RowKit

def backCell (x : Cell) : Page := ⟨x.b, x.bt⟩
/-- The pages of the back, as far as y rows and j more. -/
def backTo (C : Nat) (L : List Cell) (y j : Nat) : List Page := (List.range (y * C + j)).map fun i => backCell (L.getD (i / C * C + (C - 1 - i % C)) default)
theorem backTo_len (C : Nat) (L : List Cell) (y j : Nat) : (backTo C L y j).length = y * C + j := by simp [backTo]
theorem backTo_row (C : Nat) (L : List Cell) (y : Nat) : backTo C L y C = backTo C L (y + 1) 0 := by unfold backTo; rw [Nat.succ_mul, Nat.add_zero]
theorem backTo_succ {C : Nat} {L : List Cell} {y j i : Nat} (hj : j < C) (hi : y * C + (C - 1 - j) = i) (hil : i < L.length) : backTo C L y j ++ [backCell L[i]] = backTo C L y (j + 1) := by
  unfold backTo
  rw [← Nat.add_assoc, List.range_succ, List.map_append]
  congr 1
  have e1 : (y * C + j) / C = y := by rw [Nat.mul_comm, Nat.mul_add_div (by omega), Nat.div_eq_of_lt hj, Nat.add_zero]
  have e2 : (y * C + j) % C = j := by rw [Nat.mul_comm, Nat.mul_add_mod, Nat.mod_eq_of_lt hj]
  show _ = [backCell (L.getD ((y * C + j) / C * C + (C - 1 - (y * C + j) % C)) default)]
  rw [e1, e2, hi, getD_in default hil]
structure BEnv (w : World) (C R : Nat) (a : Option Addr) (L : List Cell) (c : Nat) (v : Value) (M : List Page) (wr : World) : Prop where
  bs : BoxAt wr w.heap.size #[.int .i64 C, .int .i64 R, .slice a L.length c] 43
  br : BoxAt wr (w.heap.size + 1) #[.int .i64 0, .int .i64 0, .slice none 0 0] 56
  bv : BoxAt wr (w.heap.size + 1 + 1) #[.int .i64 C, .int .i64 R, v] 56
  own : OwnR 2 119 Page.l wr (w.heap.size + 1 + 1 + 1) v M
  low : Below w.heap.size w wr
def BackPost (C R : Int) (M : List Page) (w : World) (e : Ending) (w' : World) : Prop :=
  ∃ (a : Option Addr) (n c : Nat), e = .returned (.agg #[.int .i64 C, .int .i64 R, .slice a n c]) ∧ n = M.length ∧ RowsAt 2 Page.l w' a M ∧ (a = none → c = 0) ∧ Below w.heap.size w w'
set_option maxRecDepth 100000 in
set_option maxHeartbeats 4000000 in
theorem refBack_any (C R : Nat) (a : Option Addr) (L : List Cell) (c : Nat) (w : World) (hC : 1 ≤ C ∧ C ≤ 8) (hR : 1 ≤ R ∧ R ≤ 8) (hlen : L.length = C * R) (hL : RowsAt 4 Cell.l w a L) :
    Calls Try.prog 39 #[.agg #[.int .i64 C, .int .i64 R, .slice a L.length c]] w (BackPost C R (backTo C L R 0) w) := by
  have HLEN := Lib.hid hlen
  have E0 : BEnv w C R a L c (.slice none 0 0) (backTo C L 0 0) (((w.alloc (.cells #[.int .i64 C, .int .i64 R, .slice a L.length c] 43)).alloc (.cells #[.int .i64 0, .int .i64 0, .slice none 0 0] 56)).alloc (.cells #[.int .i64 C, .int .i64 R, .slice none 0 0] 56)) := by
    refine ⟨((BoxAt.new w _ _).alloc _).alloc _, ?_, ?_, ?_, (((Below.refl w.heap.size w).alloc (Nat.le_refl _) _).alloc (by simp) _).alloc (by simp; omega) _⟩
    · have := (BoxAt.new (w.alloc (.cells #[.int .i64 C, .int .i64 R, .slice a L.length c] 43)) #[.int .i64 0, .int .i64 0, .slice none 0 0] 56).alloc (.cells #[.int .i64 C, .int .i64 R, .slice none 0 0] 56)
      simpa using this
    · have := BoxAt.new ((w.alloc (.cells #[.int .i64 C, .int .i64 R, .slice a L.length c] 43)).alloc (.cells #[.int .i64 0, .int .i64 0, .slice none 0 0] 56)) #[.int .i64 C, .int .i64 R, .slice none 0 0] 56
      simpa using this
    · have : backTo C L 0 0 = [] := by simp [backTo]
      rw [this]; exact OwnR.nil _ _
  clear hlen
  go_enter Try.func39, Try.ntmps39
  go_wp2
  go_loopw [4] (fun i wr => ∃ (y : Nat) (v : Value), y ≤ R ∧ i = .int .i64 y ∧ BEnv w C R a L c v (backTo C L y 0) wr) (fun i _ => R - (intOf i).toNat)
  case atStart => exact ⟨0, _, Nat.zero_le _, rfl, E0⟩
  case round =>
    obtain ⟨y, v, hy, rfl, E⟩ := hrel
    clear E0
    have c0 := E.bs.cell 0; have c1 := E.bs.cell 1
    simp at c0 c1
    by_cases hyl : y < R
    · have hyI : (y : Int) < (R : Int) := by omega
      go_wp2
      obtain ⟨wo, hwo⟩ : ∃ wo : World, wo = wr := ⟨_, rfl⟩
      go_loopw [5] (fun i wr => ∃ (j : Nat) (v : Value), j ≤ C ∧ i = .int .i64 ((C : Int) - 1 - j) ∧ BEnv w C R a L c v (backTo C L y j) wr) (fun i _ => (intOf i + 1).toNat)
      case atStart => exact ⟨0, v, Nat.zero_le _, by simp, E⟩
      case round =>
        obtain ⟨j, v, hj, rfl, E⟩ := hrel
        clear c0 c1
        have c0 := E.bs.cell 0; have c1 := E.bs.cell 1; have c2 := E.bs.cell 2
        have v2 := E.bv.cell 2
        have hsl := E.bs.lt
        have hvl := E.bv.lt
        simp at c0 c1 c2 v2
        by_cases hjl : j < C
        · have hjI : 0 ≤ (C : Int) - 1 - j := by omega
          obtain ⟨i, hi⟩ : ∃ i, y * C + (C - 1 - j) = i := ⟨_, rfl⟩
          have hil : i < L.length := by rw [← hi, HLEN.out]; exact mul_lt hyl (by omega)
          have hidx : (y : Int) * (C : Int) + ((C : Int) - 1 - j) = (i : Int) := by rw [← hi, Int.natCast_add, Int.natCast_mul]; omega
          have hyc : 0 ≤ (y : Int) * (C : Int) ∧ (y : Int) * (C : Int) ≤ 64 := ⟨Int.mul_nonneg (by omega) (by omega), by have := Int.mul_le_mul (show (y : Int) ≤ 8 by omega) (show (C : Int) ≤ 8 by omega) (by omega) (by omega); omega⟩
          obtain ⟨hyc0, hyc1⟩ := hyc
          obtain ⟨ad, rfl, had, s0, s1, s2, s3⟩ := (hL.below E.low).cell hil
          obtain ⟨x, ex⟩ : ∃ x, x = L[i] := ⟨_, rfl⟩
          rw [← ex] at s0 s1 s2 s3
          have HS : Hid (backTo C L y j ++ [Page.mk x.b x.bt] = backTo C L y (j + 1)) := Lib.hid (by rw [ex]; exact backTo_succ hjl hi hil)
          have HBL : Hid ((backTo C L y j).length ≤ 1000) := Lib.hid (by rw [backTo_len]; have : y * C ≤ 8 * 8 := Nat.mul_le_mul (by omega) hC.2; omega)
          have hilI : (i : Int) < (L.length : Int) := by omega
          clear ex hi hwo
          obtain ⟨va, vc, ev, -, -, -, -, -⟩ := E.own.rows page_l
          have HEV := Lib.hid ev; clear ev
          go_wp2_with (at_builtin; refine wpList_appH tPage page_l _ (Page.mk x.b x.bt) _ rfl rfl _ _ rfl (w.heap.size + 1 + 1 + 1) _ (backTo C L y j) rfl (E.own.alloc _) _ (by simp) rfl (by have := HBL.out; omega) (by simp; omega) ?_; intro gg cg wg hOg hgg hBg; have hne : ∀ b, b < w.heap.size + 1 + 1 + 1 → some b ≠ v.ownBlock := (fun b hb e => by have := (E.own.lt b e.symm).1; omega); have bvg := (E.bv.alloc (.cells #[.int .i64 x.f, .int .i64 x.ft, .int .i64 x.b, .int .i64 x.bt] 91)).grown hgg (hne _ (by omega)); have fz := bvg.free 2; have hvg := bvg.lt; have cvg := bvg.cell 2; simp at cvg)
          rw [HS.out] at hOg
          have hlw : w.heap.size ≤ wr.heap.size := E.low.size
          have hEg : BEnv w C R (some ad) L c (.slice (some ⟨gg, 0, none⟩) ((backTo C L y j).length + 1) cg) (backTo C L y (j + 1)) (wg.setCell ⟨w.heap.size + 1 + 1, 2, none⟩ (.slice (some ⟨gg, 0, none⟩) ((backTo C L y j).length + 1) cg)) := by
            refine ⟨?_, ?_, bvg.set 2 _, ?_, ?_⟩
            · exact ((E.bs.alloc _).grown hgg (hne _ (by omega))).set_other (p := ⟨w.heap.size + 1 + 1, 2, none⟩) (by show w.heap.size ≠ w.heap.size + 1 + 1; omega) _
            · exact ((E.br.alloc _).grown hgg (hne _ (by omega))).set_other (p := ⟨w.heap.size + 1 + 1, 2, none⟩) (by show w.heap.size + 1 ≠ w.heap.size + 1 + 1; omega) _
            · have h2 := hOg.set (p := ⟨w.heap.size + 1 + 1, 2, none⟩) (fun e => by have := (hOg.lt _ e).1; simp at this; omega) (.slice (some ⟨gg, 0, none⟩) ((backTo C L y j).length + 1) cg)
              exact h2
            · exact ((E.low.alloc E.low.size _).trans (hBg.mono (B' := w.heap.size) (by omega))).setCell (p := ⟨w.heap.size + 1 + 1, 2, none⟩) (by show w.heap.size ≤ w.heap.size + 1 + 1; omega) _
          go_roundw
          case rel => exact ⟨j + 1, _, by omega, by go_num, hEg⟩
          case measure => simp [intOf]; omega
        · have hjC : j = C := by omega
          subst hjC
          have hjI : ¬ 0 ≤ (j : Int) - 1 - j := by omega
          rw [backTo_row] at E
          clear hwo
          go_wp2
          go_roundw
          case rel => exact ⟨y + 1, v, by omega, by go_num, E⟩
          case measure => simp [intOf]; omega
    · have hyR : y = R := by omega
      subst hyR
      have r0 := E.br.cell 0; have r1 := E.br.cell 1; have r2 := E.br.cell 2
      have z := fun j => E.br.free j
      have v0 := E.bv.cell 0; have v1 := E.bv.cell 1; have v2 := E.bv.cell 2
      have hvl := E.bv.lt; have hrl := E.br.lt
      simp at r0 r1 r2 v0 v1 v2
      obtain ⟨va, vc, ev, hrow, -, -, hnil, hge⟩ := E.own.rows page_l
      obtain ⟨n, hn⟩ : ∃ n, n = (backTo C L y 0).length := ⟨_, rfl⟩
      rw [← hn] at ev
      subst ev
      have HN := Lib.hid hn
      clear hn
      go_wp2
      refine bodyPost_ret (v := .agg #[.int .i64 C, .int .i64 y, .slice va n vc]) ?_ rfl ?_
      · simp [results, Try.results39, go_sem, r0, r1, r2]
      · refine ⟨va, n, vc, rfl, HN.out, ?_, hnil, ?_⟩
        · have hap : ∀ ad, va = some ad → ad.block ≠ w.heap.size + 1 := fun ad e => by have := hge ad e; omega
          exact ((hrow.set (p := ⟨w.heap.size + 1, 0, none⟩) hap _).set (p := ⟨w.heap.size + 1, 1, none⟩) hap _).set (p := ⟨w.heap.size + 1, 2, none⟩) hap _
        · exact ((E.low.setCell (p := ⟨w.heap.size + 1, 0, none⟩) (by show w.heap.size ≤ w.heap.size + 1; omega) _).setCell (p := ⟨w.heap.size + 1, 1, none⟩) (by show w.heap.size ≤ w.heap.size + 1; omega) _).setCell (p := ⟨w.heap.size + 1, 2, none⟩) (by show w.heap.size ≤ w.heap.size + 1; omega) _
end Go.Proofs.Ytjkjfmahcjcniaa
