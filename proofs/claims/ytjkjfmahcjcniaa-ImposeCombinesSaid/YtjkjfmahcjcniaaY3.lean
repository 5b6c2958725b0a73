/-
  Package impose: the reference's view of a sheet's front.
-/
import Derived.Test.YtjkjfmahcjcniaaY2
namespace Go.Proofs.Ytjkjfmahcjcniaa
open Go.RowKit

def frontCell (x : Cell) : Page := ⟨x.f, x.ft⟩
def frontTo (L : List Cell) (k : Nat) : List Page := (L.take k).map frontCell
theorem frontTo_len {L : List Cell} {k : Nat} (hk : k ≤ L.length) : (frontTo L k).length = k := by simp [frontTo]; omega
theorem frontTo_succ {L : List Cell} {k : Nat} (hk : k < L.length) : frontTo L k ++ [frontCell L[k]] = frontTo L (k + 1) := by
  unfold frontTo; rw [List.take_succ_eq_append_getElem hk, List.map_append]; rfl
structure FEnv6 (w : World) (C R : Int) (a : Option Addr) (L : List Cell) (c : Nat) (v : Value) (M : List Page) (wr : World) : Prop where
  bs : BoxAt wr w.heap.size #[.int .i64 C, .int .i64 R, .slice a L.length c] 43
  br : BoxAt wr (w.heap.size + 1) #[.int .i64 0, .int .i64 0, .slice none 0 0] 56
  bv : BoxAt wr (w.heap.size + 1 + 1) #[.int .i64 C, .int .i64 R, v] 56
  own : OwnR 2 119 Page.l wr (w.heap.size + 1 + 1 + 1) v M
  low : Below w.heap.size w wr
set_option maxRecDepth 100000 in
set_option maxHeartbeats 4000000 in
theorem refFront_any (C R : Int) (a : Option Addr) (L : List Cell) (c : Nat) (w : World) (hlen : L.length ≤ 1000) (hL : RowsAt 4 Cell.l w a L) :
    Calls Try.prog 38 #[.agg #[.int .i64 C, .int .i64 R, .slice a L.length c]] w (BackPost C R (frontTo L L.length) w) := by
  have E0 : FEnv6 w C R a L c (.slice none 0 0) (frontTo L 0) (((w.alloc (.cells #[.int .i64 C, .int .i64 R, .slice a L.length c] 43)).alloc (.cells #[.int .i64 0, .int .i64 0, .slice none 0 0] 56)).alloc (.cells #[.int .i64 C, .int .i64 R, .slice none 0 0] 56)) := by
    refine ⟨((BoxAt.new w _ _).alloc _).alloc _, ?_, ?_, ?_, (((Below.refl w.heap.size w).alloc (Nat.le_refl _) _).alloc (by simp) _).alloc (by simp; omega) _⟩
    · have := (BoxAt.new (w.alloc (.cells #[.int .i64 C, .int .i64 R, .slice a L.length c] 43)) #[.int .i64 0, .int .i64 0, .slice none 0 0] 56).alloc (.cells #[.int .i64 C, .int .i64 R, .slice none 0 0] 56)
      simpa using this
    · have := BoxAt.new ((w.alloc (.cells #[.int .i64 C, .int .i64 R, .slice a L.length c] 43)).alloc (.cells #[.int .i64 0, .int .i64 0, .slice none 0 0] 56)) #[.int .i64 C, .int .i64 R, .slice none 0 0] 56
      simpa using this
    · have : frontTo L 0 = [] := by simp [frontTo]
      rw [this]; exact OwnR.nil _ _
  go_enter Try.func38, Try.ntmps38
  go_wp2
  go_loopw [4] (fun i wr => ∃ (k : Nat) (v : Value), k ≤ L.length ∧ i = .int .i64 k ∧ FEnv6 w C R a L c v (frontTo L k) wr) (fun i _ => L.length - (intOf i).toNat)
  case atStart => exact ⟨0, _, Nat.zero_le _, rfl, E0⟩
  case round =>
    obtain ⟨k, v, hk, rfl, E⟩ := hrel
    clear E0
    have c2 := E.bs.cell 2
    simp at c2
    by_cases hkl : k < L.length
    · have hkI : (k : Int) < (L.length : Int) := by omega
      obtain ⟨ad, rfl, had, s0, s1, s2, s3⟩ := (hL.below E.low).cell hkl
      obtain ⟨x, ex⟩ : ∃ x, x = L[k] := ⟨_, rfl⟩
      rw [← ex] at s0 s1 s2 s3
      have HS : Hid (frontTo L k ++ [Page.mk x.f x.ft] = frontTo L (k + 1)) := Lib.hid (by rw [ex]; exact frontTo_succ hkl)
      have HBL : Hid ((frontTo L k).length ≤ 1000) := Lib.hid (by rw [frontTo_len hk]; omega)
      have v2 := E.bv.cell 2
      simp at v2
      have EX := Lib.hid ex
      clear ex
      have n0 := World.new_ne wr _ c2; have n1 := World.new_ne wr _ v2; have n2 := World.new_ne wr _ s0; have n3 := World.new_ne wr _ s1
      have hsb : ad.block < w.heap.size := by
        obtain ⟨_, e, h, _⟩ := hL.cell hkl
        cases e; exact h
      have hwr : w.heap.size + 1 + 1 + 1 ≤ wr.heap.size := E.bv.lt
      have m1 : ¬ w.heap.size + 1 + 1 = wr.heap.size := by omega
      have m2 : ¬ wr.heap.size = w.heap.size + 1 + 1 := by omega
      have m3 : w.heap.size + 1 + 1 < wr.heap.size := by omega
      have m4 : (wr.alloc (.cells #[.int .i64 x.f, .int .i64 x.ft] 119)).cell? ⟨w.heap.size + 1 + 1, 2, none⟩ = some v := (E.bv.alloc _).cell 2
      go_wp2_with fail
      go_region_law ((
             refine step_appL tPage page_l _ (by rfl) _ _ (by rfl) (w.heap.size + 1 + 1 + 1) v (frontTo L k) (by rfl) (E.own.alloc _) (some ⟨wr.heap.size, 0, none⟩) [Page.mk x.f x.ft] 1 1 rfl (by rfl) (rows_lit page_l _ _ _ _ rfl) (fun e => by cases e) (by have := HBL.out; omega) (by simp) (by simp; omega) ?_
             intro v6 w6 hO6 hg6 hb6 ho6
             have hne : ∀ b, b < w.heap.size + 1 + 1 + 1 → some b ≠ v.ownBlock := fun b hb e => by have := (E.own.lt b e.symm).1; omega
             have bsg := (E.bs.drew.alloc (.cells #[.int .i64 x.f, .int .i64 x.ft] 119)).grown hg6 (hne _ (by omega))
             have brg := (E.br.drew.alloc (.cells #[.int .i64 x.f, .int .i64 x.ft] 119)).grown hg6 (hne _ (by omega))
             have bvg := (E.bv.drew.alloc (.cells #[.int .i64 x.f, .int .i64 x.ft] 119)).grown hg6 (hne _ (by omega))
             have lowg : Below w.heap.size w w6 := ((E.low.drew).alloc E.low.size _).trans (hb6.mono (B' := w.heap.size) (by omega))
             have g0 := bsg.cell 2; have g1 := bvg.cell 2; have fz := bvg.free 2; have hvg := bvg.lt
             obtain ⟨_, e7, _, g2, g3, _, _⟩ := (hL.below lowg).cell hkl
             cases e7
             rw [← EX.out] at g2 g3
             simp at g0 g1
             obtain ⟨a6, d6, e6, -, -, -, -, -⟩ := hO6.rows page_l
             obtain ⟨m6, hm6⟩ : ∃ n, n = (frontTo L k ++ [Page.mk x.f x.ft]).length := ⟨_, rfl⟩
             rw [← hm6] at e6
             subst e6
             have HM6 := Lib.hid hm6
             have q0 := (World.cell?_setCell_other w6 ⟨w.heap.size + 1 + 1, 2, none⟩ ⟨w.heap.size, 2, none⟩ (.slice a6 m6 d6) (fun e => by have := congrArg Addr.block e; simp at this; try omega)).trans g0
             have q2 := (World.cell?_setCell_other w6 ⟨w.heap.size + 1 + 1, 2, none⟩ (ad.add (k * 4)) (.slice a6 m6 d6) (fun e => by have := congrArg Addr.block e; rw [add_block] at this; simp at this; try omega)).trans g2
             have q3 := (World.cell?_setCell_other w6 ⟨w.heap.size + 1 + 1, 2, none⟩ ⟨(ad.add (k * 4)).block, (ad.add (k * 4)).off + 1, none⟩ (.slice a6 m6 d6) (fun e => by have := congrArg Addr.block e; simp [add_block] at this; try omega)).trans g3
             clear hm6))
      all_goals
        rw [HS.out] at hO6
        have hEg : FEnv6 w C R (some ad) L c (.slice a6 m6 d6) (frontTo L (k + 1)) (w6.setCell ⟨w.heap.size + 1 + 1, 2, none⟩ (.slice a6 m6 d6)) := by
          refine ⟨?_, ?_, bvg.set 2 _, ?_, ?_⟩
          · exact bsg.set_other (p := ⟨w.heap.size + 1 + 1, 2, none⟩) (by show w.heap.size ≠ w.heap.size + 1 + 1; omega) _
          · exact brg.set_other (p := ⟨w.heap.size + 1 + 1, 2, none⟩) (by show w.heap.size + 1 ≠ w.heap.size + 1 + 1; omega) _
          · exact hO6.set (p := ⟨w.heap.size + 1 + 1, 2, none⟩) (fun e => by have := (hO6.lt _ e).1; simp at this; omega) (.slice a6 m6 d6)
          · exact lowg.setCell (p := ⟨w.heap.size + 1 + 1, 2, none⟩) (by show w.heap.size ≤ w.heap.size + 1 + 1; omega) _
        clear n0 n1 n2 n3 v2 c2 s0 s1 s2 s3
        go_wp2
        go_roundw
        case rel => exact ⟨k + 1, _, by omega, by go_num, hEg⟩
        case measure => simp [intOf]; omega
    · have hkL : k = L.length := by omega
      have hkI : ¬ (k : Int) < (L.length : Int) := by omega
      have r0 := E.br.cell 0; have r1 := E.br.cell 1; have r2 := E.br.cell 2
      have z := fun j => E.br.free j
      have v0 := E.bv.cell 0; have v1 := E.bv.cell 1; have v2 := E.bv.cell 2
      have hvl := E.bv.lt; have hrl := E.br.lt
      simp at r0 r1 r2 v0 v1 v2
      obtain ⟨va, vc, ev, hrow, -, -, hnil, hge⟩ := E.own.rows page_l
      obtain ⟨n, hn⟩ : ∃ n, n = (frontTo L k).length := ⟨_, rfl⟩
      rw [← hn] at ev
      subst ev
      rw [hkL] at hn hrow
      have HN := Lib.hid hn
      clear hn hkL
      go_wp2
      refine bodyPost_ret (v := .agg #[.int .i64 C, .int .i64 R, .slice va n vc]) ?_ rfl ?_
      · simp [results, Try.results38, go_sem, r0, r1, r2]
      · refine ⟨va, n, vc, rfl, HN.out, ?_, hnil, ?_⟩
        · have hap : ∀ ad, va = some ad → ad.block ≠ w.heap.size + 1 := fun ad e => by have := hge ad e; omega
          exact ((hrow.set (p := ⟨w.heap.size + 1, 0, none⟩) hap _).set (p := ⟨w.heap.size + 1, 1, none⟩) hap _).set (p := ⟨w.heap.size + 1, 2, none⟩) hap _
        · exact ((E.low.setCell (p := ⟨w.heap.size + 1, 0, none⟩) (by show w.heap.size ≤ w.heap.size + 1; omega) _).setCell (p := ⟨w.heap.size + 1, 1, none⟩) (by show w.heap.size ≤ w.heap.size + 1; omega) _).setCell (p := ⟨w.heap.size + 1, 2, none⟩) (by show w.heap.size ≤ w.heap.size + 1; omega) _
end Go.Proofs.Ytjkjfmahcjcniaa
