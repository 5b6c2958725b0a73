/-
  The reference's check of rules.
-/
import Derived.Test.YtlkkociijfdcgaaGreatDoorZ4
import Derived.Test.YtlkkociijfdcgaaGreatDoorV7
namespace Go.Proofs.YtlkkociijfdcgaaGreatDoor
open Go.RowKit Go.Maps

theorem badPat_iff (l : List ByteArray) (j : Nat) : badPat l j = !(patOf (l.getD j noTx).data.toList).isSome := by
  unfold badPat
  cases patOf (l.getD j noTx).data.toList <;> rfl
structure RKnow (w : World) (r : RU) (wr : World) : Prop where
  box : wr.heap[w.heap.size]? = some (.cells #[.slice r.ps.a r.ps.l.length r.ps.c, .slice r.es.a r.es.l.length r.es.c, .slice r.bs.a r.bs.l.length r.bs.c, .int .i64 r.left, .int .i64 r.right] 24 (0, 0))
  low : Below w.heap.size w wr
theorem RKnow.below {w : World} {r : RU} {wr wr' : World} (h : RKnow w r wr) (hb : Below wr.heap.size wr wr') : RKnow w r wr' := ⟨(hb.block _ (heap_lt h.box)).trans h.box, h.low.trans (hb.mono h.low.size)⟩
def TXSmall (l : List ByteArray) : Prop := ∀ k, k < l.length → (l.getD k noTx).size ≤ 1000

set_option maxRecDepth 100000 in
set_option maxHeartbeats 2000000 in
theorem refCheckRules_any (r : RU) (w : World) (hR : r.at_ w) (h1 : TXSmall r.ps.l) (h2 : TXSmall r.es.l) (h3 : TXSmall r.bs.l) :
    Calls Tryz.prog 22 #[.agg r.cells] w fun e w' => e = .returned (.tuple #[.int .i64 (checkR r).1, .int .i64 (checkR r).2]) ∧ Below w.heap.size w w' := by
  obtain ⟨⟨hp1, hp2, _⟩, ⟨he1, he2, _⟩, ⟨hb1, hb2, _⟩⟩ := hR
  have hK0 : RKnow w r (w.alloc (.cells #[.slice r.ps.a r.ps.l.length r.ps.c, .slice r.es.a r.es.l.length r.es.c, .slice r.bs.a r.bs.l.length r.bs.c, .int .i64 r.left, .int .i64 r.right] 24)) := ⟨heap_new _ _, (Below.refl _ _).alloc (Nat.le_refl _) _⟩
  unfold RU.cells
  unfold maxLen at hp2
  have q0 := cell_of_row _ w.heap.size 0 _ _ (0, 0) hK0.box
  by_cases hl : 60 < r.ps.l.length
  · have HE := Lib.hid (show checkR r = (0, 8) by
      have e : checkPats r.ps.l = (0, 8) := by unfold checkPats; rw [if_pos hl]
      unfold checkR
      rw [e]; rfl)
    have hl' : (60 : Int) < (r.ps.l.length : Int) := by omega
    have hlow := hK0.low
    go_enter Tryz.func22, Tryz.ntmps22
    go_wp2
    go_ret2
    exact ⟨by rw [HE.out]; rfl, hlow⟩
  · have HP := Lib.hid (show checkPats r.ps.l = (match firstAt (badPat r.ps.l) (r.ps.l.length - 0) 0 with
      | none => (0, 0)
      | some i => ((i : Int), 3)) by unfold checkPats; rw [if_neg hl]; rfl)
    have hl' : (r.ps.l.length : Int) ≤ 60 := by omega
    go_enter Tryz.func22, Tryz.ntmps22
    go_wp2_with fail
    go_loopw [4] (fun i wr => ∃ k : Nat, k ≤ r.ps.l.length ∧ i = .int .i64 k ∧ Hid (firstAt (badPat r.ps.l) (r.ps.l.length - 0) 0 = firstAt (badPat r.ps.l) (r.ps.l.length - k) k) ∧ RKnow w r wr) (fun i _ => r.ps.l.length - (intOf i).toNat)
    case atStart => exact ⟨0, Nat.zero_le _, rfl, Lib.hid rfl, hK0⟩
    case round =>
      obtain ⟨k, hk, rfl, HS, hK⟩ := hrel
      have hlow := hK.low
      have hltb := heap_lt hK.box
      clear hK0 q0
      have q0 : wr.cell? ⟨w.heap.size, 0, none⟩ = some (.slice r.ps.a r.ps.l.length r.ps.c) := cell_of_row wr _ 0 _ _ (0, 0) hK.box
      by_cases hlt : k < r.ps.l.length
      · have hkl : (k : Int) < (r.ps.l.length : Int) := by omega
        obtain ⟨p1, ep1, hp1', hc1⟩ := (hp1.below hlow) k hlt
        have hz := h1 k hlt
        have HB := Lib.hid (badPat_iff r.ps.l k)
        obtain ⟨t, et⟩ : ∃ t, t = r.ps.l.getD k noTx := ⟨_, rfl⟩
        rw [← et] at hc1 hz HB
        have HRP := Lib.hid (fun W => readPattern_any t W hz)
        rw [ep1] at q0
        clear et ep1
        cases hb : badPat r.ps.l k
        · have HT := Lib.hid (firstAt_go hlt hb)
          have HO := Lib.hid (show (patOf t.data.toList).isSome = true by have := HB.out; rw [hb] at this; simpa using this.symm)
          clear hb
          go_wp2_with fail
          refine (HRP.out _).mono ?_
          rintro e w2 ⟨hb2, I, A, m, c, rfl, -⟩
          rw [HO.out]
          have hK2 := hK.below hb2
          have hK3 := hK2.below ((Below.refl w2.heap.size w2).alloc (Nat.le_refl _) (.cells #[.string I, .slice A m c] 149))
          clear hb2 hK hK2 q0 hc1 HRP
          go_wp2
          go_roundw
          case rel => exact ⟨k + 1, by omega, by go_num, Lib.hid (HS.out.trans HT.out), hK3⟩
          case measure => simp [intOf]; omega
        · have HT := Lib.hid (firstAt_stop hlt hb)
          have HO := Lib.hid (show (patOf t.data.toList).isSome = false by have := HB.out; rw [hb] at this; simpa using this.symm)
          have HE := Lib.hid (show checkR r = ((k : Int), 3) by
            have e : checkPats r.ps.l = ((k : Int), 3) := by rw [HP.out, HS.out, HT.out]
            unfold checkR
            rw [e]; rfl)
          clear hb
          go_wp2_with fail
          refine (HRP.out _).mono ?_
          rintro e w2 ⟨hb2, I, A, m, c, rfl, -⟩
          rw [HO.out]
          have hlo := (hK.below hb2).low.alloc (hK.below hb2).low.size (.cells #[.string I, .slice A m c] 149)
          clear hb2 hK q0 hc1 HRP
          go_wp2
          go_ret2
          exact ⟨by rw [HE.out]; rfl, hlo⟩
      · have HT := Lib.hid (firstAt_end (q := badPat r.ps.l) hlt)
        have HPZ := Lib.hid (show checkPats r.ps.l = (0, 0) by rw [HP.out, HS.out, HT.out])
        have q1 : wr.cell? ⟨w.heap.size, 1, none⟩ = some (.slice r.es.a r.es.l.length r.es.c) := cell_of_row wr _ 1 _ _ (0, 0) hK.box
        have HCE := Lib.hid (fun W (h : TextsAt W r.es.a r.es.l) => checkMarked_any excS 45 true mkRel_exc r.es.a r.es.l r.es.c W h he2 h2)
        have HCB := Lib.hid (fun W (h : TextsAt W r.bs.a r.bs.l) => checkMarked_any barS 124 false mkRel_bar r.bs.a r.bs.l r.bs.c W h hb2 h3)
        clear hp1 hl HP HS HT
        go_wp2_with fail
        refine (HCE.out _ (he1.below hlow)).mono ?_
        rintro e w2 ⟨rfl, hw2⟩
        have hK2 := hK.below hw2
        have hlow2 := hK2.low
        clear hw2 hK q1 HCE
        by_cases hee : (checkE excS r.es.l).2 = 0
        · have hee' : ((checkE excS r.es.l).2 != 0) = false := by rw [hee]; rfl
          have q2 : w2.cell? ⟨w.heap.size, 2, none⟩ = some (.slice r.bs.a r.bs.l.length r.bs.c) := cell_of_row w2 _ 2 _ _ (0, 0) hK2.box
          have HEE := Lib.hid hee
          clear hee
          go_wp2_with fail
          refine (HCB.out _ (hb1.below hlow2)).mono ?_
          rintro e w3 ⟨rfl, hw3⟩
          have hK3 := hK2.below hw3
          have hlow3 := hK3.low
          clear hw3 hK2 q2 HCB
          by_cases hbb : (checkE barS r.bs.l).2 = 0
          · have hbb' : ((checkE barS r.bs.l).2 != 0) = false := by rw [hbb]; rfl
            have q3 : w3.cell? ⟨w.heap.size, 3, none⟩ = some (.int .i64 r.left) := cell_of_row w3 _ 3 _ _ (0, 0) hK3.box
            have q4 : w3.cell? ⟨w.heap.size, 4, none⟩ = some (.int .i64 r.right) := cell_of_row w3 _ 4 _ _ (0, 0) hK3.box
            have HV := Lib.hid (show checkR r = if inB r.left 1 10 = true ∧ inB r.right 1 10 = true then (0, 0) else (0, 2) by
              unfold checkR
              rw [HPZ.out, if_neg (by decide), if_neg (by rw [HEE.out]; decide), if_neg (by rw [hbb]; decide)]
              by_cases hv : r.left < 1 ∨ 10 < r.left ∨ r.right < 1 ∨ 10 < r.right
              · rw [if_pos hv, if_neg]
                rintro ⟨a, b⟩
                have a' := of_decide_eq_true a
                have b' := of_decide_eq_true b
                omega
              · rw [if_neg hv, if_pos ⟨decide_eq_true (by omega), decide_eq_true (by omega)⟩])
            clear hbb
            cases hil : inB r.left 1 10 with
            | false =>
              have HV2 := Lib.hid (show checkR r = (0, 2) by rw [HV.out, if_neg (by rw [hil]; rintro ⟨a, _⟩; cases a)])
              have HWL := Lib.hid (fun W => (within_any r.left 1 10 W).mono (fun e w' h => (⟨h.1.trans (by rw [hil]), h.2⟩ : e = .returned (.bool false) ∧ W = w')))
              clear hil
              go_wp2_with (go_at_call 76; refine (HWL.out _).mono ?_; rintro e w' ⟨rfl, rfl⟩)
              go_ret2
              exact ⟨by rw [HV2.out]; rfl, hlow3⟩
            | true =>
              have HWL := Lib.hid (fun W => (within_any r.left 1 10 W).mono (fun e w' h => (⟨h.1.trans (by rw [hil]), h.2⟩ : e = .returned (.bool true) ∧ W = w')))
              cases hir : inB r.right 1 10 with
              | false =>
                have HV2 := Lib.hid (show checkR r = (0, 2) by rw [HV.out, if_neg (by rw [hir]; rintro ⟨_, a⟩; cases a)])
                have HWR := Lib.hid (fun W => (within_any r.right 1 10 W).mono (fun e w' h => (⟨h.1.trans (by rw [hir]), h.2⟩ : e = .returned (.bool false) ∧ W = w')))
                clear hil hir
                go_wp2_with fail
                refine (HWL.out _).mono ?_
                rintro e w' ⟨rfl, rfl⟩
                go_wp2_with fail
                refine (HWR.out _).mono ?_
                rintro e w' ⟨rfl, rfl⟩
                go_wp2
                go_ret2
                exact ⟨by rw [HV2.out]; rfl, hlow3⟩
              | true =>
                have HV2 := Lib.hid (show checkR r = (0, 0) by rw [HV.out, if_pos ⟨hil, hir⟩])
                have HWR := Lib.hid (fun W => (within_any r.right 1 10 W).mono (fun e w' h => (⟨h.1.trans (by rw [hir]), h.2⟩ : e = .returned (.bool true) ∧ W = w')))
                clear hil hir
                go_wp2_with fail
                refine (HWL.out _).mono ?_
                rintro e w' ⟨rfl, rfl⟩
                go_wp2_with fail
                refine (HWR.out _).mono ?_
                rintro e w' ⟨rfl, rfl⟩
                go_wp2
                go_ret2
                exact ⟨by rw [HV2.out]; rfl, hlow3⟩
          · have hbb' : ((checkE barS r.bs.l).2 != 0) = true := by simpa using hbb
            have HV := Lib.hid (show checkR r = checkE barS r.bs.l by unfold checkR; rw [HPZ.out, if_neg (by decide), if_neg (by rw [HEE.out]; decide), if_pos hbb])
            clear hbb
            go_wp2
            go_ret2
            exact ⟨by rw [HV.out]; rfl, hlow3⟩
        · have hee' : ((checkE excS r.es.l).2 != 0) = true := by simpa using hee
          have HV := Lib.hid (show checkR r = checkE excS r.es.l by unfold checkR; rw [HPZ.out, if_neg (by decide), if_pos hee])
          clear hee
          go_wp2
          go_ret2
          exact ⟨by rw [HV.out]; rfl, hlow2⟩
set_option maxRecDepth 100000 in
theorem refErr_any (r : RU) (w : World) (hR : r.at_ w) (h1 : TXSmall r.ps.l) (h2 : TXSmall r.es.l) (h3 : TXSmall r.bs.l) :
    Calls Tryz.prog 52 #[.agg r.cells] w fun e w' => e = .returned (.int .i64 (checkR r).2) ∧ Below w.heap.size w w' := by
  have hb0 := (Below.refl w.heap.size w).alloc (Nat.le_refl _) (.cells #[.slice r.ps.a r.ps.l.length r.ps.c, .slice r.es.a r.es.l.length r.es.c, .slice r.bs.a r.bs.l.length r.bs.c, .int .i64 r.left, .int .i64 r.right] 24)
  have HC := Lib.hid (fun W (h : r.at_ W) => refCheckRules_any r W h h1 h2 h3)
  have hR0 := hR.below hb0
  unfold RU.cells at *
  go_enter Tryz.func52, Tryz.ntmps52
  go_wp2_with fail
  refine (HC.out _ hR0).mono ?_
  rintro e w2 ⟨rfl, hb2⟩
  have hlow := hb0.trans (hb2.mono hb0.size)
  clear HC hb2 hb0
  go_wp2
  go_ret
  exact ⟨rfl, hlow⟩
end Go.Proofs.YtlkkociijfdcgaaGreatDoor
