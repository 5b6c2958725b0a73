/-
  Sharing a total out in proportion to a need.
-/
import Derived.Test.YtjkcomafgkabeaaDoorS3
namespace Go.Proofs.YtjkcomafgkabeaaDoor
open Go.RowKit Go.Maps

def sumTo (fn : Nat → Int) : Nat → Int
  | 0 => 0
  | k + 1 => sumTo fn k + fn k
def quoF (need : List Int) (sum total : Int) (k : Nat) : Int := total * need.getD k 0 / sum
def remF (need : List Int) (sum total : Int) (k : Nat) : Int := total * need.getD k 0 % sum
def bump (L : List Int) (i : Int) : List Int := L.set i.toNat (L.getD i.toNat 0 + 1)
def missingOf (need : List Int) (sum total : Int) : Int := total - sumTo (quoF need sum total) need.length
def billOf (need : List Int) (sum total : Int) : List Int :=
  ((orderOf (tab need.length (remF need sum total))).take (missingOf need sum total).toNat).foldl bump (tab need.length (quoF need sum total))

theorem sumTo_add (f g : Nat → Int) : ∀ k, sumTo (fun i => f i + g i) k = sumTo f k + sumTo g k := by
  intro k
  induction k with
  | zero => rfl
  | succ k ih => show sumTo _ k + (f k + g k) = (sumTo f k + f k) + (sumTo g k + g k); rw [ih]; omega
theorem sumTo_mul (c : Int) (f : Nat → Int) : ∀ k, sumTo (fun i => c * f i) k = c * sumTo f k := by
  intro k
  induction k with
  | zero => simp [sumTo]
  | succ k ih => show sumTo _ k + c * f k = c * (sumTo f k + f k); rw [ih, Int.mul_add]
theorem sumTo_congr {f g : Nat → Int} : ∀ {k : Nat}, (∀ i, i < k → f i = g i) → sumTo f k = sumTo g k := by
  intro k
  induction k with
  | zero => intro _; rfl
  | succ k ih => intro h; show sumTo f k + f k = sumTo g k + g k; rw [ih (fun i hi => h i (by omega)), h k (by omega)]
theorem sumTo_bd {f : Nat → Int} {lo hi : Int} : ∀ {k : Nat}, (∀ i, i < k → lo ≤ f i ∧ f i ≤ hi) → (k : Int) * lo ≤ sumTo f k ∧ sumTo f k ≤ (k : Int) * hi := by
  intro k
  induction k with
  | zero => intro _; simp [sumTo]
  | succ k ih =>
    intro h
    obtain ⟨a, b⟩ := ih (fun i hi => h i (by omega))
    obtain ⟨c, d⟩ := h k (by omega)
    have e1 : ((k + 1 : Nat) : Int) * lo = (k : Int) * lo + lo := by rw [Int.natCast_add, Int.add_mul]; simp
    have e2 : ((k + 1 : Nat) : Int) * hi = (k : Int) * hi + hi := by rw [Int.natCast_add, Int.add_mul]; simp
    show _ ≤ sumTo f k + f k ∧ sumTo f k + f k ≤ _
    rw [e1, e2]; omega
/-- What is missing behind the rounding is less than the number of sorts. -/
theorem missing_bd {need : List Int} {sum total : Int} (hs : 0 < sum) (hsum : sumTo (fun k => need.getD k 0) need.length = sum) (hn : 0 < need.length) :
    0 ≤ missingOf need sum total ∧ missingOf need sum total < need.length := by
  have h1 : sumTo (fun k => sum * quoF need sum total k + remF need sum total k) need.length = sumTo (fun k => total * need.getD k 0) need.length :=
    sumTo_congr (fun i _ => by unfold quoF remF; exact Int.mul_ediv_add_emod _ _)
  rw [sumTo_add, sumTo_mul, sumTo_mul, hsum] at h1
  have h2 := sumTo_bd (f := remF need sum total) (lo := 0) (hi := sum - 1) (k := need.length) (fun i _ => by
    unfold remF
    have a := Int.emod_nonneg (total * need.getD i 0) (by omega : sum ≠ 0)
    have b := Int.emod_lt_of_pos (total * need.getD i 0) hs
    omega)
  have h3 : missingOf need sum total * sum = sumTo (remF need sum total) need.length := by
    unfold missingOf
    rw [Int.sub_mul, Int.mul_comm (sumTo _ _) sum]; omega
  constructor
  · rcases Int.lt_or_le (missingOf need sum total) 0 with h | h
    · have : missingOf need sum total * sum ≤ -1 * sum := Int.mul_le_mul_of_nonneg_right (by omega) (by omega)
      omega
    · exact h
  · rcases Int.lt_or_le (missingOf need sum total) need.length with h | h
    · exact h
    · have h4 : (need.length : Int) * sum ≤ missingOf need sum total * sum := Int.mul_le_mul_of_nonneg_right h (by omega)
      have h5 : (need.length : Int) * (sum - 1) = need.length * sum - need.length := by rw [Int.mul_sub]; omega
      omega
theorem Own.far {w : World} {g n : Nat} {fn : Nat → Int} {k : Nat} (h : Own w g n fn k) {p : Addr} (hp : g ≠ p.block) (u : Value) : Own (w.setCell p u) g n fn k := by
  obtain ⟨cs, h1, h2⟩ := h
  exact ⟨cs, (Below.heap_setCell w p u g hp).trans h1, h2⟩
theorem Own.below {w w' : World} {g n : Nat} {fn : Nat → Int} {k : Nat} (h : Own w g n fn k) (hb : Below w.heap.size w w') : Own w' g n fn k := by
  have hlt := h.lt
  obtain ⟨cs, h1, h2⟩ := h
  exact ⟨cs, (hb.block g hlt).trans h1, h2⟩
theorem RowX.far {w : World} {g : Nat} {L : List Int} (h : RowX w g L) {p : Addr} (hp : g ≠ p.block) (u : Value) : RowX (w.setCell p u) g L := (Below.heap_setCell w p u g hp).trans h
theorem RowX.lt {w : World} {g : Nat} {L : List Int} (h : RowX w g L) : g < w.heap.size := by
  unfold RowX at h
  rcases Nat.lt_or_ge g w.heap.size with hlt | hge
  · exact hlt
  · rw [Array.getElem?_eq_none hge] at h; cases h
theorem RowX.below {w w' : World} {g : Nat} {L : List Int} (h : RowX w g L) (hb : Below w.heap.size w w') : RowX w' g L := by
  have hlt : g < w.heap.size := by
    unfold RowX at h
    rcases Nat.lt_or_ge g w.heap.size with hlt | hge
    · exact hlt
    · rw [Array.getElem?_eq_none hge] at h; cases h
  exact (hb.block g hlt).trans h

theorem ins_ok {lt : Int → Int → Bool} {n : Nat} : ∀ (j : Nat) (L : List Int), j < L.length → OkIdx L n → OkIdx (ins lt j L) n := by
  intro j
  induction j with
  | zero => intro L _ h; exact h
  | succ j ih =>
    intro L hj h
    unfold ins
    split
    · exact ih _ (by rw [swp_len]; omega) (h.swp_ hj)
    · exact h
theorem insAll_ok {lt : Int → Int → Bool} {n : Nat} : ∀ (m i : Nat) (L : List Int), i + m ≤ L.length → OkIdx L n → OkIdx (insAll lt m i L) n ∧ (insAll lt m i L).length = L.length := by
  intro m
  induction m with
  | zero => intro i L _ h; exact ⟨h, rfl⟩
  | succ m ih =>
    intro i L hi h
    have := ih (i + 1) (ins lt i L) (by rw [ins_len]; omega) (ins_ok i L (by omega) h)
    rw [ins_len] at this
    exact this
theorem order_ok {V : List Int} (h : 0 < V.length) : OkIdx (orderOf V) V.length ∧ (orderOf V).length = V.length := by
  have h1 : OkIdx (tab V.length fun i => (i : Int)) V.length := fun j hj => by
    rw [tab_len] at hj
    exact ⟨j, hj, tab_at hj⟩
  have := insAll_ok (lt := gfLt V) (V.length - 1) 1 _ (by rw [tab_len]; omega) h1
  rw [tab_len] at this
  exact this
theorem bump_nat (L : List Int) (x : Nat) : bump L (x : Int) = L.set x (L.getD x 0 + 1) := rfl
theorem bump_len (L : List Int) (i : Int) : (bump L i).length = L.length := by simp [bump]
theorem bumps_len : ∀ (xs L : List Int), (xs.foldl bump L).length = L.length := by
  intro xs
  induction xs with
  | nil => intro L; rfl
  | cons x r ih => intro L; rw [List.foldl_cons, ih, bump_len]
theorem bump_bd {L : List Int} {i : Int} {B : Int} (h : ∀ j, j < L.length → 0 ≤ L.getD j 0 ∧ L.getD j 0 ≤ B) : ∀ j, j < (bump L i).length → 0 ≤ (bump L i).getD j 0 ∧ (bump L i).getD j 0 ≤ B + 1 := by
  intro j hj
  rw [bump_len] at hj
  have hj0 := h j hj
  unfold bump
  rw [List.getD_eq_getElem?_getD, List.getElem?_set]
  split
  · rename_i e
    subst e
    rw [if_pos hj]
    show 0 ≤ _ + 1 ∧ _ + 1 ≤ B + 1
    omega
  · rw [← List.getD_eq_getElem?_getD]; omega
theorem bumps_bd : ∀ (xs L : List Int) (B : Int), (∀ j, j < L.length → 0 ≤ L.getD j 0 ∧ L.getD j 0 ≤ B) → ∀ j, j < L.length → 0 ≤ (xs.foldl bump L).getD j 0 ∧ (xs.foldl bump L).getD j 0 ≤ B + xs.length := by
  intro xs
  induction xs with
  | nil => intro L B h j hj; have := h j hj; simpa using this
  | cons x r ih =>
    intro L B h j hj
    have := ih (bump L x) (B + 1) (bump_bd h) j (by rw [bump_len]; exact hj)
    rw [List.foldl_cons, List.length_cons]
    omega
theorem bump_step {order qs : List Int} {k : Nat} (hk : k < order.length) : (order.take (k + 1)).foldl bump qs = bump ((order.take k).foldl bump qs) (order.getD k 0) := by
  rw [List.take_add_one, List.foldl_append, List.getD_eq_getElem?_getD, List.getElem?_eq_getElem hk]; rfl

set_option maxRecDepth 100000 in
set_option maxHeartbeats 4000000 in
theorem shared_any (a : Addr) (need : List Int) (d : Nat) (sum total : Int) (w : World) (hX : IntsAt w (some a) need) (hn : need.length < 20) (hpos : 0 < need.length) (hv : ∀ k, k < need.length → 0 ≤ need.getD k 0 ∧ need.getD k 0 ≤ 1000000) (hs : sumTo (fun k => need.getD k 0) need.length = sum) (hs0 : 0 < sum) (ht : 0 ≤ total ∧ total ≤ 1000000) :
    Calls Tryd.prog 87 #[.slice (some a) need.length d, .int .i64 sum, .int .i64 total] w fun e w' => ∃ g, e = .returned (.slice (some ⟨g, 0, none⟩) need.length need.length) ∧ RowX w' g (billOf need sum total) ∧ Below w.heap.size w w' := by
  have hmk := fun W => run_make_row' (P := Tryd.prog) 31 3 (.int .i64 0) 8 Tryd.underlying31 info3 rfl .i64 .i64 need.length (by omega) (by omega) W
  have HS := Lib.hid hs
  have HV := Lib.hid hv
  have hmis := missing_bd (total := total) hs0 hs hpos
  clear hs hv
  go_enter Tryd.func87, Tryd.ntmps87
  go_wp2_with fail
  go_region
  · go_wp2_with fail
    go_loopw [9, 23] (fun v9 i wr => ∃ k : Nat, k ≤ need.length ∧ i = .int .i64 k ∧ v9 = .int .i64 (total - sumTo (quoF need sum total) k) ∧ Below w.heap.size w wr ∧ Own wr w.heap.size need.length (quoF need sum total) k ∧ Own wr (w.heap.size + 1) need.length (remF need sum total) k) (fun _ i _ => need.length - (intOf i).toNat)
    case atStart => exact ⟨0, Nat.zero_le _, rfl, by simp [sumTo], (((Below.refl _ _).alloc (Nat.le_refl _) _).alloc (by simp) _).drew, (((Own.made w need.length _ 0 (Nat.zero_le _) (fun j hj => by omega)).below ((Below.refl _ _).alloc (Nat.le_refl _) _)).drew), ((by simpa using Own.made (w.alloc (.cells (madeCells #[.int .i64 0] need.length) 3)) need.length (remF need sum total) 0 (Nat.zero_le _) (fun j hj => by omega) : Own _ (w.heap.size + 1) _ _ _).drew)⟩
    case round =>
      obtain ⟨k, hk, rfl, rfl, hBr, hA, hR⟩ := hrel
      by_cases hlt : k < need.length
      · obtain ⟨_, e1, hp1, hc1⟩ := (hX.below hBr).at_ hlt
        cases e1
        have hv1 := HV.out k hlt
        have hqd := Lib.hid (show quoF need sum total k = total * need.getD k 0 / sum from rfl)
        have hrd := Lib.hid (show remF need sum total k = total * need.getD k 0 % sum from rfl)
        have hst := Lib.hid (show sumTo (quoF need sum total) (k + 1) = sumTo (quoF need sum total) k + quoF need sum total k from rfl)
        have hsb := sumTo_bd (f := quoF need sum total) (lo := 0) (hi := 1000000000000) (k := k) (fun i hi => by
          have hvi := HV.out i (by omega)
          have a1 : 0 ≤ total * need.getD i 0 := Int.mul_nonneg ht.1 hvi.1
          have a2 : total * need.getD i 0 ≤ 1000000 * 1000000 := Int.mul_le_mul ht.2 hvi.2 hvi.1 (by omega)
          have a3 : total * need.getD i 0 / sum ≤ total * need.getD i 0 := Int.ediv_le_self sum a1
          have a4 : 0 ≤ total * need.getD i 0 / sum := Int.ediv_nonneg a1 (by omega)
          unfold quoF; omega)
        have hk20 : (k : Int) ≤ 20 := by omega
        obtain ⟨x, ex⟩ : ∃ x, x = need.getD k 0 := ⟨_, rfl⟩
        obtain ⟨sq, esq⟩ : ∃ x, x = sumTo (quoF need sum total) k := ⟨_, rfl⟩
        rw [← ex] at hv1 hc1 hqd hrd
        rw [← esq] at hst hsb
        rw [← esq]
        have ESQ := Lib.hid esq; clear ex esq
        have hkl : (k : Int) < (need.length : Int) := by omega
        have a1 : 0 ≤ total * x := Int.mul_nonneg ht.1 hv1.1
        have a2 : total * x ≤ 1000000 * 1000000 := Int.mul_le_mul ht.2 hv1.2 hv1.1 (by omega)
        have a3 : total * x / sum ≤ total * x := Int.ediv_le_self sum a1
        have a4 : 0 ≤ total * x / sum := Int.ediv_nonneg a1 (by omega)
        obtain ⟨va, hva⟩ := hA.some_ hlt
        obtain ⟨vb, hvb⟩ := hR.some_ hlt
        have hfa := hA.frozen k
        have hfb := hR.frozen k
        have hsz : (sum == 0) = false := by simp; omega
        go_wp2_with fail
        go_region
        go_wp2
        go_roundw
        case rel =>
          refine ⟨k + 1, by omega, by go_num, ?_, ((hBr.setCell (by simp) _).setCell (by simp) _).drew, ((hA.set_ hlt hqd.out.symm).far (by simp) _).drew, ((hR.far (by simp) _).set_ hlt hrd.out.symm).drew⟩
          have e := hst.out
          rw [hqd.out] at e
          rw [e]; congr 1; omega
        case measure => simp [intOf]; omega
      · have hk2 : k = need.length := by omega
        have hRX := (hk2 ▸ hR : Own wr (w.heap.size + 1) need.length (remF need sum total) need.length).rowX
        have hAX := (hk2 ▸ hA : Own wr w.heap.size need.length (quoF need sum total) need.length).rowX
        obtain ⟨m, hm⟩ : ∃ m : Nat, missingOf need sum total = (m : Int) := ⟨_, (Int.toNat_of_nonneg hmis.1).symm⟩
        have hm1 : total - sumTo (quoF need sum total) k = (m : Int) := by rw [hk2]; exact hm
        have hmn : m < need.length := by omega
        rw [hm1]
        have hO := order_ok (V := tab need.length (remF need sum total)) (by rw [tab_len]; exact hpos)
        have hs := greatestFirst_any ⟨(w.heap.size + 1), 0, none⟩ (tab need.length (remF need sum total)) need.length wr hRX.ints (by rw [tab_len]; exact hn) (by rw [tab_len]; exact hpos)
        rw [tab_len] at hs hO
        have hbill : billOf need sum total = ((orderOf (tab need.length (remF need sum total))).take m).foldl bump (tab need.length (quoF need sum total)) := by
          unfold billOf; rw [hm]; rfl
        have hqb : ∀ j, j < (tab need.length (quoF need sum total)).length → 0 ≤ (tab need.length (quoF need sum total)).getD j 0 ∧ (tab need.length (quoF need sum total)).getD j 0 ≤ 1000000000000 := by
          intro j hj
          rw [tab_len] at hj
          rw [tab_at hj]
          have hvi := HV.out j hj
          have a1 : 0 ≤ total * need.getD j 0 := Int.mul_nonneg ht.1 hvi.1
          have a2 : total * need.getD j 0 ≤ 1000000 * 1000000 := Int.mul_le_mul ht.2 hvi.2 hvi.1 (by omega)
          have a3 : total * need.getD j 0 / sum ≤ total * need.getD j 0 := Int.ediv_le_self sum a1
          have a4 : 0 ≤ total * need.getD j 0 / sum := Int.ediv_nonneg a1 (by omega)
          unfold quoF; omega
        have hQ := tab_len need.length (quoF need sum total)
        generalize orderOf (tab need.length (remF need sum total)) = order at hs hO hbill
        generalize tab need.length (quoF need sum total) = qs at hAX hqb hQ hbill
        have HBILL := Lib.hid hbill
        clear hbill
        have HG := Lib.hid hs
        have HO := Lib.hid hO
        have HQ := Lib.hid hqb
        have HQL := Lib.hid hQ
        clear hs hO hqb hQ hm1 hm hk2 hRX hA hR
        have hml : (m : Int) ≤ (need.length : Int) := by omega
        have hm0 : 0 ≤ (m : Int) := by omega
        go_wp2_with fail
        refine HG.out.mono ?_
        rintro e w1 ⟨g3, hg3, rfl, hO1, hB1⟩
        have hA1 : RowX w1 w.heap.size qs := hAX.below hB1
        have hBw : Below w.heap.size w w1 := hBr.trans (hB1.mono hBr.size)
        have hga : w.heap.size < wr.heap.size := hAX.lt
        go_wp2_with fail
        go_loopw [56] (fun i w2 => ∃ k2 : Nat, k2 ≤ m ∧ i = .int .i64 k2 ∧ Below w.heap.size w w2 ∧ RowX w2 w.heap.size ((order.take k2).foldl bump qs) ∧ RowX w2 g3 order) (fun i _ => m - (intOf i).toNat)
        case atStart => exact ⟨0, Nat.zero_le _, rfl, hBw, hA1, hO1⟩
        case round =>
          obtain ⟨k2, hk2, rfl, hB2, hA2, hO2⟩ := hrel
          by_cases hlt2 : k2 < m
          · obtain ⟨x, hx, hxe⟩ := HO.out.1 k2 (by rw [HO.out.2]; omega)
            have hc2 := hO2.cell (j := k2) (by rw [HO.out.2]; omega)
            rw [hxe] at hc2
            have hc3 := hA2.cell (j := x) (by rw [bumps_len, HQL.out]; exact hx)
            have hb := bumps_bd (order.take k2) qs _ HQ.out x (by rw [HQL.out]; exact hx)
            have hl20 : ((order.take k2).length : Int) ≤ 20 := by rw [List.length_take]; omega
            have hfz := hA2.frozen x
            have hset := hA2.set_ x (((order.take k2).foldl bump qs).getD x 0 + 1)
            have hst := bump_step (qs := qs) (order := order) (k := k2) (by rw [HO.out.2]; omega)
            rw [hxe] at hst
            have HST := Lib.hid hst
            have HSET := Lib.hid hset
            clear hset hst
            generalize hv : ((order.take k2).foldl bump qs).getD x 0 = v at hc3 hb HSET
            have HVV := Lib.hid hv
            clear hv
            have hkl2 : (k2 : Int) < (m : Int) := by omega
            have hxl : (x : Int) < (need.length : Int) := by omega
            go_wp2_with fail
            go_roundw
            case rel =>
              refine ⟨k2 + 1, by omega, by go_num, hB2.setCell (by simp) _, ?_, hO2.far (by show g3 ≠ w.heap.size; omega) _⟩
              rw [HST.out, bump_nat, HVV.out]
              exact HSET.out
            case measure => simp [intOf]; omega
          · have hk3 : k2 = m := by omega
            have hA3 : RowX wr w.heap.size (billOf need sum total) := by rw [HBILL.out, ← hk3]; exact hA2
            go_wp2_with fail
            go_ret
            exact ⟨_, rfl, hA3, hB2⟩
  · go_wp2_with fail
    go_loopw [9, 23] (fun v9 i wr => ∃ k : Nat, k ≤ need.length ∧ i = .int .i64 k ∧ v9 = .int .i64 (total - sumTo (quoF need sum total) k) ∧ Below w.heap.size w wr ∧ Own wr (w.heap.size + 1) need.length (quoF need sum total) k ∧ Own wr w.heap.size need.length (remF need sum total) k) (fun _ i _ => need.length - (intOf i).toNat)
    case atStart => exact ⟨0, Nat.zero_le _, rfl, by simp [sumTo], (((Below.refl _ _).alloc (Nat.le_refl _) _).alloc (by simp) _).drew, ((by simpa using Own.made (w.alloc (.cells (madeCells #[.int .i64 0] need.length) 3)) need.length (quoF need sum total) 0 (Nat.zero_le _) (fun j hj => by omega) : Own _ (w.heap.size + 1) _ _ _).drew), (((Own.made w need.length _ 0 (Nat.zero_le _) (fun j hj => by omega)).below ((Below.refl _ _).alloc (Nat.le_refl _) _)).drew)⟩
    case round =>
      obtain ⟨k, hk, rfl, rfl, hBr, hA, hR⟩ := hrel
      by_cases hlt : k < need.length
      · obtain ⟨_, e1, hp1, hc1⟩ := (hX.below hBr).at_ hlt
        cases e1
        have hv1 := HV.out k hlt
        have hqd := Lib.hid (show quoF need sum total k = total * need.getD k 0 / sum from rfl)
        have hrd := Lib.hid (show remF need sum total k = total * need.getD k 0 % sum from rfl)
        have hst := Lib.hid (show sumTo (quoF need sum total) (k + 1) = sumTo (quoF need sum total) k + quoF need sum total k from rfl)
        have hsb := sumTo_bd (f := quoF need sum total) (lo := 0) (hi := 1000000000000) (k := k) (fun i hi => by
          have hvi := HV.out i (by omega)
          have a1 : 0 ≤ total * need.getD i 0 := Int.mul_nonneg ht.1 hvi.1
          have a2 : total * need.getD i 0 ≤ 1000000 * 1000000 := Int.mul_le_mul ht.2 hvi.2 hvi.1 (by omega)
          have a3 : total * need.getD i 0 / sum ≤ total * need.getD i 0 := Int.ediv_le_self sum a1
          have a4 : 0 ≤ total * need.getD i 0 / sum := Int.ediv_nonneg a1 (by omega)
          unfold quoF; omega)
        have hk20 : (k : Int) ≤ 20 := by omega
        obtain ⟨x, ex⟩ : ∃ x, x = need.getD k 0 := ⟨_, rfl⟩
        obtain ⟨sq, esq⟩ : ∃ x, x = sumTo (quoF need sum total) k := ⟨_, rfl⟩
        rw [← ex] at hv1 hc1 hqd hrd
        rw [← esq] at hst hsb
        rw [← esq]
        have ESQ := Lib.hid esq; clear ex esq
        have hkl : (k : Int) < (need.length : Int) := by omega
        have a1 : 0 ≤ total * x := Int.mul_nonneg ht.1 hv1.1
        have a2 : total * x ≤ 1000000 * 1000000 := Int.mul_le_mul ht.2 hv1.2 hv1.1 (by omega)
        have a3 : total * x / sum ≤ total * x := Int.ediv_le_self sum a1
        have a4 : 0 ≤ total * x / sum := Int.ediv_nonneg a1 (by omega)
        obtain ⟨va, hva⟩ := hA.some_ hlt
        obtain ⟨vb, hvb⟩ := hR.some_ hlt
        have hfa := hA.frozen k
        have hfb := hR.frozen k
        have hsz : (sum == 0) = false := by simp; omega
        go_wp2_with fail
        go_region
        go_wp2
        go_roundw
        case rel =>
          refine ⟨k + 1, by omega, by go_num, ?_, ((hBr.setCell (by simp) _).setCell (by simp) _).drew, ((hA.set_ hlt hqd.out.symm).far (by simp) _).drew, ((hR.far (by simp) _).set_ hlt hrd.out.symm).drew⟩
          have e := hst.out
          rw [hqd.out] at e
          rw [e]; congr 1; omega
        case measure => simp [intOf]; omega
      · have hk2 : k = need.length := by omega
        have hRX := (hk2 ▸ hR : Own wr w.heap.size need.length (remF need sum total) need.length).rowX
        have hAX := (hk2 ▸ hA : Own wr (w.heap.size + 1) need.length (quoF need sum total) need.length).rowX
        obtain ⟨m, hm⟩ : ∃ m : Nat, missingOf need sum total = (m : Int) := ⟨_, (Int.toNat_of_nonneg hmis.1).symm⟩
        have hm1 : total - sumTo (quoF need sum total) k = (m : Int) := by rw [hk2]; exact hm
        have hmn : m < need.length := by omega
        rw [hm1]
        have hO := order_ok (V := tab need.length (remF need sum total)) (by rw [tab_len]; exact hpos)
        have hs := greatestFirst_any ⟨w.heap.size, 0, none⟩ (tab need.length (remF need sum total)) need.length wr hRX.ints (by rw [tab_len]; exact hn) (by rw [tab_len]; exact hpos)
        rw [tab_len] at hs hO
        have hbill : billOf need sum total = ((orderOf (tab need.length (remF need sum total))).take m).foldl bump (tab need.length (quoF need sum total)) := by
          unfold billOf; rw [hm]; rfl
        have hqb : ∀ j, j < (tab need.length (quoF need sum total)).length → 0 ≤ (tab need.length (quoF need sum total)).getD j 0 ∧ (tab need.length (quoF need sum total)).getD j 0 ≤ 1000000000000 := by
          intro j hj
          rw [tab_len] at hj
          rw [tab_at hj]
          have hvi := HV.out j hj
          have a1 : 0 ≤ total * need.getD j 0 := Int.mul_nonneg ht.1 hvi.1
          have a2 : total * need.getD j 0 ≤ 1000000 * 1000000 := Int.mul_le_mul ht.2 hvi.2 hvi.1 (by omega)
          have a3 : total * need.getD j 0 / sum ≤ total * need.getD j 0 := Int.ediv_le_self sum a1
          have a4 : 0 ≤ total * need.getD j 0 / sum := Int.ediv_nonneg a1 (by omega)
          unfold quoF; omega
        have hQ := tab_len need.length (quoF need sum total)
        generalize orderOf (tab need.length (remF need sum total)) = order at hs hO hbill
        generalize tab need.length (quoF need sum total) = qs at hAX hqb hQ hbill
        have HBILL := Lib.hid hbill
        clear hbill
        have HG := Lib.hid hs
        have HO := Lib.hid hO
        have HQ := Lib.hid hqb
        have HQL := Lib.hid hQ
        clear hs hO hqb hQ hm1 hm hk2 hRX hA hR
        have hml : (m : Int) ≤ (need.length : Int) := by omega
        have hm0 : 0 ≤ (m : Int) := by omega
        go_wp2_with fail
        refine HG.out.mono ?_
        rintro e w1 ⟨g3, hg3, rfl, hO1, hB1⟩
        have hA1 : RowX w1 (w.heap.size + 1) qs := hAX.below hB1
        have hBw : Below w.heap.size w w1 := hBr.trans (hB1.mono hBr.size)
        have hga : (w.heap.size + 1) < wr.heap.size := hAX.lt
        go_wp2_with fail
        go_loopw [56] (fun i w2 => ∃ k2 : Nat, k2 ≤ m ∧ i = .int .i64 k2 ∧ Below w.heap.size w w2 ∧ RowX w2 (w.heap.size + 1) ((order.take k2).foldl bump qs) ∧ RowX w2 g3 order) (fun i _ => m - (intOf i).toNat)
        case atStart => exact ⟨0, Nat.zero_le _, rfl, hBw, hA1, hO1⟩
        case round =>
          obtain ⟨k2, hk2, rfl, hB2, hA2, hO2⟩ := hrel
          by_cases hlt2 : k2 < m
          · obtain ⟨x, hx, hxe⟩ := HO.out.1 k2 (by rw [HO.out.2]; omega)
            have hc2 := hO2.cell (j := k2) (by rw [HO.out.2]; omega)
            rw [hxe] at hc2
            have hc3 := hA2.cell (j := x) (by rw [bumps_len, HQL.out]; exact hx)
            have hb := bumps_bd (order.take k2) qs _ HQ.out x (by rw [HQL.out]; exact hx)
            have hl20 : ((order.take k2).length : Int) ≤ 20 := by rw [List.length_take]; omega
            have hfz := hA2.frozen x
            have hset := hA2.set_ x (((order.take k2).foldl bump qs).getD x 0 + 1)
            have hst := bump_step (qs := qs) (order := order) (k := k2) (by rw [HO.out.2]; omega)
            rw [hxe] at hst
            have HST := Lib.hid hst
            have HSET := Lib.hid hset
            clear hset hst
            generalize hv : ((order.take k2).foldl bump qs).getD x 0 = v at hc3 hb HSET
            have HVV := Lib.hid hv
            clear hv
            have hkl2 : (k2 : Int) < (m : Int) := by omega
            have hxl : (x : Int) < (need.length : Int) := by omega
            go_wp2_with fail
            go_roundw
            case rel =>
              refine ⟨k2 + 1, by omega, by go_num, hB2.setCell (by simp) _, ?_, hO2.far (by show g3 ≠ (w.heap.size + 1); omega) _⟩
              rw [HST.out, bump_nat, HVV.out]
              exact HSET.out
            case measure => simp [intOf]; omega
          · have hk3 : k2 = m := by omega
            have hA3 : RowX wr (w.heap.size + 1) (billOf need sum total) := by rw [HBILL.out, ← hk3]; exact hA2
            go_wp2_with fail
            go_ret
            exact ⟨_, rfl, hA3, hB2⟩
end Go.Proofs.YtjkcomafgkabeaaDoor
