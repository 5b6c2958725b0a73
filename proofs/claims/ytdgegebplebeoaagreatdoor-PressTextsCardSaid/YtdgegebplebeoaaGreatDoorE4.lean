/-
  Package press: the next one of an order.
-/
import Derived.BigQuiet
import Derived.Test.YtdgegebplebeoaaGreatDoorE3
namespace Go.Proofs.YtdgegebplebeoaaGreatDoor
open Go.RowKit Go.Maps Go.Shelf Go.Sort

def downAt (M : List Int) : Nat → Nat
  | 0 => 0
  | k + 1 => if M.getD (k + 1) 0 < M.getD k 0 then downAt M k else k + 1
def downNx (M : List Int) (v : Int) : Nat → Nat
  | 0 => 0
  | k + 1 => if M.getD k 0 < v then downNx M v k else k + 1
def atOf (M : List Int) : Nat := downAt M (M.length - 1)
def isAdv (M : List Int) : Bool := decide (0 < atOf M)
def nxOf (M : List Int) : Nat := downNx M (M.getD (atOf M - 1) 0) M.length
def swp (M : List Int) (i j : Nat) : List Int := (M.set i (M.getD j 0)).set j (M.getD i 0)
def advM (M : List Int) : List Int := (swp M (atOf M - 1) (nxOf M - 1)).take (atOf M) ++ ((swp M (atOf M - 1) (nxOf M - 1)).drop (atOf M)).reverse
theorem downAt_le (M : List Int) : ∀ k, downAt M k ≤ k
  | 0 => Nat.le_refl _
  | k + 1 => by
    have := downAt_le M k
    unfold downAt
    split <;> omega
theorem downNx_bd (M : List Int) (v : Int) {i : Nat} (hi : ¬ M.getD i 0 < v) : ∀ k, i < k → i < downNx M v k ∧ downNx M v k ≤ k
  | 0, h => by omega
  | k + 1, h => by
    unfold downNx
    split
    · rename_i h1
      have hne : i ≠ k := fun e => hi (by rw [e]; exact h1)
      have := downNx_bd M v hi k (by omega)
      omega
    · omega
theorem swp_len (M : List Int) (i j : Nat) : (swp M i j).length = M.length := by unfold swp; simp
theorem advM_len (M : List Int) : (advM M).length = M.length := by
  unfold advM; rw [List.length_append, List.length_reverse, List.length_take, List.length_drop, swp_len]; omega
theorem putRow_other {w : World} {g q j k : Nat} {L : List Int} (hk : j ≠ g) : (putRow (Value.int .i64) (Sort.ahead w q) g k L.toArray).heap[j]? = w.heap[j]? := by
  simp [putRow, mapBlock, Sort.ahead, Array.getElem?_modify, show g ≠ j from fun e => hk e.symm]
/-- A row whose last cells are reversed. -/
theorem own_tail {w : World} {B g n c q k : Nat} {M D : List Int} (h : OwnR 1 3 intL w B (.slice (some ⟨g, 0, none⟩) n c) M) (hn : n = M.length) (hk : k ≤ M.length) (hD : D.length = M.length - k) :
    RowTurned B w (.slice (some ⟨g, 0, none⟩) n c) (.slice (some ⟨g, 0, none⟩) n c) (M.take k ++ D) (putRow (Value.int .i64) (Sort.ahead w q) g k D.toArray) := by
  subst hn
  have h1 := own_ints.1 h
  have hBg := (h.lt g rfl).1
  refine ⟨?_, ⟨rfl, rfl, rfl, by simp, fun j hj => putRow_other (by omega)⟩, fun j hj hne => putRow_other (fun e => hne (by rw [e]; rfl))⟩
  refine own_ints.2 ?_
  rcases h1.2 with ⟨e0, _⟩ | ⟨g', cap', cur, e0, hb, hg, hn2, hm, hs, ht⟩
  · cases e0
  · injection e0 with e1 _ e3
    injection e1 with e1
    injection e1 with e1
    subst e1; subst e3
    have hlen : (M.take k ++ D).length = M.length := by rw [List.length_append, List.length_take]; omega
    refine ⟨by simp, .inr ⟨g, c, putCells (Value.int .i64) k D.toArray cur, by rw [hlen], hb, ?_, by omega, hm, by simpa [putCells] using hs, ?_⟩⟩
    · simp [putRow, mapBlock, Sort.ahead, Array.getElem?_modify, hg, onCells]
    · apply List.ext_getElem?
      intro j
      have e1 : (cur.toList.take (M.length * 1))[j]? = (M.map (Value.int .i64))[j]? := by rw [ht]
      rw [List.getElem?_take, List.getElem?_map, List.getElem?_append, List.length_take, Array.getElem?_toList, hlen]
      rw [List.getElem?_take, List.getElem?_map, Array.getElem?_toList] at e1
      simp only [Nat.mul_one] at e1 ⊢
      by_cases hj : j < M.length
      · have hjc : j < cur.size := by omega
        rw [if_pos hj] at e1 ⊢
        simp only [putCells, Array.getElem?_mapIdx, Array.getElem?_eq_getElem hjc, Option.map_some]
        by_cases hjk : j < k
        · rw [if_neg (by omega), if_pos (by omega), List.getElem?_take, if_pos hjk, ← e1, Array.getElem?_eq_getElem hjc]
        · rw [if_pos (by simp; omega), if_neg (by omega)]
          have : j - min k M.length = j - k := by omega
          rw [this, List.getElem?_eq_getElem (by omega)]
          simp [getElem!_pos, show j - k < D.length by omega]
      · rw [if_neg hj, if_neg (by omega)]
        rw [List.getElem?_eq_none (by omega)]; rfl
theorem own_cells {w : World} {B g n c : Nat} {M : List Int} (h : OwnR 1 3 intL w B (.slice (some ⟨g, 0, none⟩) n c) M) {k : Nat} (hk : k < M.length) : w.cell? ⟨g, k, none⟩ = some (.int .i64 M[k]) := by
  obtain ⟨a, c', ev, hr, -⟩ := h.rows int_l
  injection ev with e1 e2 e3
  subst e1
  obtain ⟨ad, e, hlt, hc⟩ := hr.int hk
  injection e with e
  subst e
  rw [add0] at hc
  exact hc
theorem own_len {w : World} {B g n c : Nat} {M : List Int} (h : OwnR 1 3 intL w B (.slice (some ⟨g, 0, none⟩) n c) M) : M.length ≤ c := by
  obtain ⟨a, c', ev, -, hc, -⟩ := h.rows int_l
  injection ev with e1 e2 e3
  omega
def AdvPost (B : Nat) (v : Value) (M : List Int) (w : World) (e : Ending) (w' : World) : Prop := e = .returned (.bool (isAdv M)) ∧ RowTurned B w v v (if isAdv M then advM M else M) w'
set_option maxRecDepth 100000 in
set_option maxHeartbeats 8000000 in
theorem isAdvanced_any (B : Nat) (v : Value) (M : List Int) (w : World) (hO : OwnR 1 3 intL w B v M) (hl : M.length ≤ 100000) :
    Calls Tryz.prog 94 #[v] w (AdvPost B v M w) := by
  obtain ⟨a, c, ev, hRS, -⟩ := hO.rows int_l
  subst ev
  have HO := Lib.hid hO
  by_cases h0 : M.length = 0
  · have HX := Lib.hid (show isAdv M = false by unfold isAdv atOf; rw [h0]; rfl)
    rw [h0]
    go_enter Tryz.func94, Tryz.ntmps94
    go_wp2_with fail
    go_loopw [3] (fun i wr => i = .int .i64 (-2) ∧ Drew w wr) (fun _ _ => 0)
    case atStart => exact ⟨rfl, Drew.refl _⟩
    case round =>
      obtain ⟨rfl, hdr⟩ := hrel
      go_wp2_with fail
      go_quiet (fail)
      go_wp2
      go_ret
      refine ⟨by rw [HX.out]; rfl, ?_⟩
      rw [HX.out]
      have h1 := hdr.drewN nq
      obtain ⟨m, e⟩ := h1
      rw [e]
      have h2 := HO.out
      rw [h0] at h2
      exact ⟨h2.drewN _, below_drewN (Below.refl _ _) _, fun _ _ _ => rfl⟩
  · obtain ⟨g, c', ev, hBg, hg⟩ := hO.form (by omega)
    injection ev with e1 e2 e3
    subst e1; subst e3
    have HCE := Lib.hid (fun k (hk : k < M.length) => own_cells hO hk)
    clear hO hRS
    go_enter Tryz.func94, Tryz.ntmps94
    go_wp2_with fail
    go_loopw [3] (fun i wr => ∃ k : Nat, k ≤ M.length - 1 ∧ i = .int .i64 ((k : Int) - 1) ∧ Hid (downAt M (M.length - 1) = downAt M k) ∧ Drew w wr) (fun i _ => (intOf i + 1).toNat)
    case atStart => exact ⟨M.length - 1, Nat.le_refl _, by go_num, Lib.hid rfl, Drew.refl _⟩
    case round =>
      obtain ⟨k, hk, rfl, HD, hdr⟩ := hrel
      by_cases hk0 : k = 0
      · subst hk0
        go_wp2_with fail
        go_quiet (fail)
        go_wp2
        go_ret
        have HX : isAdv M = false := by unfold isAdv atOf; rw [HD.out]; rfl
        refine ⟨by rw [HX]; rfl, ?_⟩
        rw [HX]
        obtain ⟨m, e⟩ := hdr.drewN nq
        rw [e]
        exact ⟨HO.out.drewN _, below_drewN (Below.refl _ _) _, fun _ _ _ => rfl⟩
      · obtain ⟨p, rfl⟩ : ∃ p, k = p + 1 := ⟨k - 1, by omega⟩
        have hp1 : p + 1 < M.length := by omega
        have c0 : wr.cell? ⟨g, p, none⟩ = some (.int .i64 (M[p]'(by omega))) := hdr.cell (HCE.out p (by omega))
        have c1 : wr.cell? ⟨g, p + 1, none⟩ = some (.int .i64 M[p + 1]) := hdr.cell (HCE.out (p + 1) hp1)
        have HST := Lib.hid (show downAt M (p + 1) = if M[p + 1] < M[p]'(by omega) then downAt M p else p + 1 by unfold downAt; rw [getD_eqI hp1, getD_eqI (show p < M.length by omega)]; cases p <;> rfl)
        obtain ⟨x, hx⟩ : ∃ x, x = M[p]'(by omega) := ⟨_, rfl⟩
        obtain ⟨y, hy⟩ : ∃ y, y = M[p + 1] := ⟨_, rfl⟩
        rw [← hx] at c0 HST
        rw [← hy] at c1 HST
        rw [show ((p + 1 : Nat) : Int) - 1 = p by omega]
        have hpM : (p : Int) < (M.length : Int) := by omega
        have hpM' : (p : Int) + 1 < (M.length : Int) := by omega
        have HXE := Lib.hid hx
        have HYE := Lib.hid hy
        clear hx hy
        by_cases hlt : y < x
        · go_wp2_with fail
          go_quiet (fail)
          go_wp2
          go_roundw
          case rel => exact ⟨p, by omega, by go_num, Lib.hid (by rw [HD.out, HST.out, if_pos hlt]), hdr.drewN _⟩
          case measure => simp [intOf] <;> omega
        · have hlt' : decide (y < x) = false := decide_eq_false hlt
          have HPR := Lib.hid (downNx_bd M x (i := p + 1) (by rw [getD_eqI hp1, ← HYE.out]; exact hlt) M.length (by omega))
          have HAT := Lib.hid (show atOf M = p + 1 by unfold atOf; rw [HD.out, HST.out, if_neg hlt])
          go_wp2_with fail
          go_quiet (fail)
          go_wp2
          have HNX := Lib.hid (show nxOf M = downNx M x M.length by unfold nxOf; rw [HAT.out, show p + 1 - 1 = p by omega, getD_eqI (show p < M.length by omega), HXE.out])
          have hdr1 := hdr.drewN nq
          obtain ⟨w1, hw1⟩ : ∃ w1, w1 = wr.drewN nq := ⟨_, rfl⟩
          rw [← hw1] at hdr1 ⊢
          clear hw1 hdr c1 hlt hlt' c0
          go_loopw [4] (fun i wr => ∃ k : Nat, p < k ∧ k ≤ M.length ∧ i = .int .i64 ((k : Int) - 1) ∧ Hid (downNx M x M.length = downNx M x k) ∧ Drew w wr) (fun i _ => (intOf i + 1).toNat)
          case atStart => exact ⟨M.length, by omega, Nat.le_refl _, by go_num, Lib.hid rfl, hdr1⟩
          case round =>
            obtain ⟨k, hpk, hk, rfl, HD2, hdr2⟩ := hrel
            obtain ⟨r, rfl⟩ : ∃ r, k = r + 1 := ⟨k - 1, by omega⟩
            have hr1 : r < M.length := by omega
            have d0 : wr.cell? ⟨g, p, none⟩ = some (.int .i64 x) := by rw [HXE.out]; exact hdr2.cell (HCE.out p (by omega))
            have d1 : wr.cell? ⟨g, r, none⟩ = some (.int .i64 M[r]) := hdr2.cell (HCE.out r hr1)
            have HST2 := Lib.hid (show downNx M x (r + 1) = if M[r] < x then downNx M x r else r + 1 by unfold downNx; rw [getD_eqI hr1]; cases r <;> rfl)
            obtain ⟨z, hz⟩ : ∃ z, z = M[r] := ⟨_, rfl⟩
            rw [← hz] at d1 HST2
            rw [show ((r + 1 : Nat) : Int) - 1 = r by omega]
            have hrM : (r : Int) < (M.length : Int) := by omega
            have HZE := Lib.hid hz
            have hne : z < x → r ≠ p := fun h e => by subst e; rw [HZE.out, HXE.out] at h; omega
            have HNE := Lib.hid hne
            clear hz hne
            by_cases hzx : z < x
            · have hne := HNE.out hzx
              go_wp2_with fail
              go_quiet (fail)
              go_wp2
              go_roundw
              case rel => exact ⟨r, by omega, by omega, by go_num, Lib.hid (by rw [HD2.out, HST2.out, if_pos hzx]), hdr2.drewN _⟩
              case measure => simp [intOf] <;> omega
            · have hzx' : decide (z < x) = false := decide_eq_false hzx
              have HST2' := Lib.hid (show downNx M x (r + 1) = r + 1 by rw [HST2.out, if_neg hzx])
              go_wp2_with fail
              go_quiet (fail)
              go_wp2_with fail
              have hpr : p < r := by have h1 := HPR.out.1; rw [HD2.out, HST2'.out] at h1; omega
              have hn1 : ¬ p = r := by omega
              have hn2 : ¬ r = p := by omega
              obtain ⟨w2, hw2⟩ : ∃ w2, w2 = wr.drewN nq := ⟨_, rfl⟩
              have hdr3 : Drew w w2 := by rw [hw2]; exact hdr2.drewN _
              rw [← hw2]
              have d0 : w2.cell? ⟨g, p, none⟩ = some (.int .i64 x) := by rw [hw2]; exact d0
              have d1 : w2.cell? ⟨g, r, none⟩ = some (.int .i64 z) := by rw [hw2]; exact d1
              have HO3 : Hid (OwnR 1 3 intL w2 B (.slice (some ⟨g, 0, none⟩) M.length c) M) := Lib.hid (by obtain ⟨m, e⟩ := hdr3; rw [e]; exact HO.out.drewN _)
              have fz0 := HO3.out.free p
              have fz1 := HO3.out.free r
              have hgl : g < w2.heap.size := (HO3.out.lt g rfl).2
              clear hw2 hpk HPR
              go_region
              obtain ⟨S, hS⟩ : ∃ S, S = swp M p r := ⟨_, rfl⟩
              have hSe : S = (M.set p z).set r x := by rw [hS]; unfold swp; rw [getD_eqI hr1, getD_eqI (show p < M.length by omega), ← HXE.out, ← HZE.out]
              have hSl : S.length = M.length := by rw [hS]; exact swp_len _ _ _
              have hO4 : OwnR 1 3 intL (((w2.setCell ⟨g, p, none⟩ (.int .i64 z)).setCell ⟨g, r, none⟩ (.int .i64 x)).drew) B (.slice (some ⟨g, 0, none⟩) M.length c) S := by
                rw [hSe]
                have h1 := HO3.out.put int_l rfl (k := p) (j := 0) (by omega) (by decide) z z rfl
                have h2 := h1.put int_l (by simp) (k := r) (j := 0) (by simp; omega) (by decide) x x rfl
                simp only [Nat.mul_one, Nat.add_zero] at h2
                exact h2.drew
              have hbl4 : Below B w (((w2.setCell ⟨g, p, none⟩ (.int .i64 z)).setCell ⟨g, r, none⟩ (.int .i64 x)).drew) ∧ ∀ k, k ≠ g → (((w2.setCell ⟨g, p, none⟩ (.int .i64 z)).setCell ⟨g, r, none⟩ (.int .i64 x)).drew).heap[k]? = w.heap[k]? := by
                obtain ⟨m, e⟩ := hdr3
                refine ⟨(((by rw [e]; exact below_drewN (Below.refl _ _) _ : Below B w w2).setCell hBg _).setCell hBg _).drew, fun k hk => ?_⟩
                show ((w2.setCell ⟨g, p, none⟩ (.int .i64 z)).setCell ⟨g, r, none⟩ (.int .i64 x)).heap[k]? = _
                rw [Below.heap_setCell _ _ _ _ hk, Below.heap_setCell _ _ _ _ hk, e]; rfl
              obtain ⟨w4, hw4⟩ : ∃ w4, w4 = (((w2.setCell ⟨g, p, none⟩ (.int .i64 z)).setCell ⟨g, r, none⟩ (.int .i64 x)).drew) := ⟨_, rfl⟩
              rw [← hw4] at hO4 hbl4 ⊢
              have hn := own_len hO4
              have hCUT : ∀ W, (Instr.sliceAt 49 (.slice (some ⟨g, 0, none⟩) M.length c) (some (.int .i64 ((p : Int) + 1))) none none).run Tryz.prog W = .ok (.slice (some ⟨g, p + 1, none⟩) (M.length - (p + 1)) (c - (p + 1))) W := fun W => by
                have h := cut_high (P := Tryz.prog) 49 ⟨g, 0, none⟩ M.length c (p + 1) intsUnder 1 intSize (by omega) W
                rw [if_neg (by omega), Nat.mul_one, add0] at h
                exact h
              have hHd : Holds (Value.int .i64) w4 g (p + 1) (S.drop (p + 1)).toArray := fun j hj => by
                have hj' : p + 1 + j < S.length := by simp at hj; omega
                refine ⟨?_, hO4.free _⟩
                rw [own_cells hO4 hj']
                simp at hj
                rw [getElem!_pos _ _ (by simpa using hj)]
                simp
              have HRV := Lib.hid (Tryz.slices_Reverse_int g (p + 1) (c - (p + 1)) (S.drop (p + 1)) w4 hHd (by simp; omega))
              rw [List.length_drop, hSl] at HRV
              have HT := Lib.hid (fun q => own_tail (q := q) (k := p + 1) (D := (S.drop (p + 1)).reverse) hO4 hSl.symm (by omega) (by simp))
              have HX := Lib.hid (show isAdv M = true by unfold isAdv; rw [HAT.out]; simp)
              have HY := Lib.hid (show advM M = S.take (p + 1) ++ (S.drop (p + 1)).reverse by unfold advM; rw [HAT.out, HNX.out, HD2.out, HST2'.out, hS]; rfl)
              have HBL := Lib.hid hbl4
              clear hHd hw4 hbl4 hSe hS hO4 d0 d1 fz0 fz1 hdr3
              go_wp2_with (go_at_call 116; refine HRV.out.mono ?_; rintro e w5 ⟨rfl, q, rfl⟩)
              go_ret
              have hT := HT.out q
              refine ⟨by rw [HX.out]; rfl, ?_⟩
              rw [HX.out, if_pos rfl, HY.out]
              exact ⟨hT.own, HBL.out.1.trans hT.low, fun k hk hne => (hT.block k (Nat.lt_of_lt_of_le hk HBL.out.1.size) hne).trans (HBL.out.2 k (fun e => hne (by rw [e]; rfl)))⟩
end Go.Proofs.YtdgegebplebeoaaGreatDoor
