/-
  Package impose: what the law on turned sheets is made of: cuts of a list of folds, copies of it, what is appended at a step of a statement that draws its order.
-/
import Derived.Test.YtgoandhlcekmiaaGreatDoorKD
import Derived.Test.YtgoandhlcekmiaaGreatDoorKF
import Derived.Laws.Slices
import Derived.Test.YtgoandhlcekmiaaGreatDoorKE
namespace Go.Proofs.YtgoandhlcekmiaaGreatDoor
open Go.RowKit

/-- A number within rows, counted from the rows' beginning. -/
theorem fldj (ad : Addr) (q n r : Nat) : ad.add (q * n + r) = fld (ad.add (q * n)) r := by
  cases r with
  | zero => rfl
  | succ r =>
    show _ = (⟨(ad.add (q * n)).block, (ad.add (q * n)).off + (r + 1), none⟩ : Addr)
    unfold Addr.add
    by_cases hz : q * n = 0
    · rw [if_pos hz, if_neg (by omega), hz, Nat.zero_add]
    · rw [if_neg hz, if_neg (by omega)]
      show (⟨ad.block, ad.off + (q * n + (r + 1)), none⟩ : Addr) = ⟨ad.block, ad.off + q * n + (r + 1), none⟩
      rw [Nat.add_assoc]
/-- 'append(l, m...)' at a slice of the call's own, at a step of a region that draws. -/
theorem step_appL {α : Type} {n by_ : Nat} {ST E : TypeId} {z : Value} {g : α → List Int} (T : ElT n by_ ST E z) (hg : ∀ x, (g x).length = n) {ops : Array Oper} {o : Oper} {a : Act} {K : Act → World → Prop} {Q : Exit → Act → World → Prop} {E0 : Prop} (w : World) (hgd : o.guard = none) (s xo : Operand)
    (ho : o.op = .call { callee := .builtin .append, args := #[s, xo], argTypes := #[ST, ST] }) (B : Nat) (v : Value) (L : List α) (hs : a.eval s = v) (hown : OwnR n E g w B v L)
    (b : Option Addr) (M : List α) (m c : Nat) (hm : m = M.length) (hx : a.eval xo = .slice b m c) (hM : RowsAt n g w b M) (hbc : b = none → c = 0) (hl : L.length ≤ 1000000) (hl2 : M.length ≤ 1000000) (hB : B ≤ w.heap.size)
    (h : ∀ v' w', OwnR n E g w' B v' (L ++ M) → w.grownBy w' v.ownBlock → Below B w w' → (v'.ownBlock = v.ownBlock ∨ v'.ownBlock = some w.heap.size) → K (a.put o.dst v') w') :
    if Region.wanted o (yielded ops a.tmps) = true then Oper.wp Tryz.prog o a w K Q else E0 := by
  subst hm
  have hw : Region.wanted o (yielded ops a.tmps) = true := by simp [Region.wanted, hgd]
  rw [if_pos hw]
  obtain ⟨i0, hi0, hz0, hz1, hz2⟩ := info_parts T.info
  have hbl := T.by64
  cases b with
  | none =>
    have hM0 := hM.drop_none
    subst hM0
    have hc := hbc rfl
    subst hc
    have hrun := run_append_owned_none (P := Tryz.prog) (w := w) B ST o.type E i0 n T.sl hi0 v L.length (vals (L.flatMap g)) hown
    unfold Oper.wp
    simp [execOp, ho, resolve, invoke, builtin, hs, hx, hrun, Result.andThen]
    exact h v w (by rw [List.append_nil]; exact hown) ⟨rfl, rfl, rfl, Nat.le_refl _, fun _ _ _ => rfl⟩ (Below.refl _ _) (Or.inl rfl)
  | some ad =>
    obtain ⟨v', w', hr, h2, h3, h4, h5⟩ := run_append_own_at (P := Tryz.prog) w B ST o.type E i0 z n by_ T.sl hi0 hz0 hz1 hz2 T.zs T.pos v L.length (vals (L.flatMap g)) hown ad M.length c (vals (M.flatMap g))
      (by simp [vals, flat_len hg M]) (fun j u hj => by
        have hjl : j < M.length * n := by
          have := (List.getElem?_eq_some_iff.1 hj).1
          simpa [vals, flat_len hg M] using this
        have hn := T.pos
        have hk : j / n < M.length := Nat.div_lt_of_lt_mul (by rw [Nat.mul_comm]; exact hjl)
        have hjn : j % n < n := Nat.mod_lt _ hn
        have ej : j / n * n + j % n = j := by rw [Nat.mul_comm]; exact Nat.div_add_mod j n
        obtain ⟨ad', e, _, hs⟩ := hM (j / n) hk
        cases e
        have e1 := hs (j % n) hjn
        have e2 := flat_at hg M (j / n) (j % n) hk hjn
        rw [ej] at e2
        unfold vals at hj
        rw [List.getElem?_map, e2] at hj
        rw [← fldj, ej] at e1
        rw [e1, ← hj]; try rfl) (vals_one _) (by unfold maxLen; omega) (Nat.le_trans (Nat.mul_le_mul_left _ hbl) (by omega)) hB
    unfold Oper.wp execOp
    simp only [ho, resolve, invoke, builtin, Sem.run_bind, Sem.run_pure, Result.andThen_ok, List.map_toArray, List.map_cons, List.map_nil, hs, hx, hr]
    refine h v' w' ?_ h3 ((Below.refl B w).grown h3 hB (fun k hk => (hown.lt k hk).1)) h5
    unfold OwnR
    rw [List.flatMap_append, vals_app, List.length_append]
    exact h2
/-- The first folds of a list. -/
theorem RowsAt.take {α : Type} {n : Nat} {g : α → List Int} {w : World} {a : Option Addr} {L : List α} (h : RowsAt n g w a L) (k : Nat) : RowsAt n g w a (L.take k) := fun j hj => by
  have hj' : j < L.length := by rw [List.length_take] at hj; omega
  obtain ⟨ad, e, hlt, hs⟩ := h j hj'
  refine ⟨ad, e, hlt, fun i hi => ?_⟩
  rw [List.getElem_take]; exact hs i hi
/-- The later ones. -/
theorem RowsAt.drop {α : Type} {n : Nat} {g : α → List Int} {w : World} {ad : Addr} {L : List α} (h : RowsAt n g w (some ad) L) (k : Nat) : RowsAt n g w (some (ad.add (k * n))) (L.drop k) := fun j hj => by
  have hj' : k + j < L.length := by rw [List.length_drop] at hj; omega
  obtain ⟨ad', e, hlt, hs⟩ := h (k + j) hj'
  cases e
  refine ⟨_, rfl, by rw [add_block]; exact hlt, fun i hi => ?_⟩
  rw [List.getElem_drop]
  rw [show (ad.add (k * n)).add (j * n) = ad.add ((k + j) * n) by
    rw [Nat.add_mul]
    unfold Addr.add
    by_cases h1 : k * n = 0
    · by_cases h2 : j * n = 0
      · rw [if_pos h2, if_pos h1, if_pos (by omega)]
      · rw [if_neg h2, if_pos h1, if_neg (by omega), h1, Nat.zero_add]
    · by_cases h2 : j * n = 0
      · rw [if_pos h2, if_neg h1, if_neg (by omega), h2, Nat.add_zero]
      · rw [if_neg h2, if_neg h1, if_neg (by omega), Nat.add_assoc]]
  exact hs i hi
/-- 'l[:k]' and 'l[k:]'. -/
theorem cut_low {P : Program} (t : TypeId) (ad : Addr) (n c k : Nat) (ht : P.underlying t = some (.slice (P.elem t))) (s : Nat) (hs : ∀ W, (sizeOf (P.elem t)).run P W = .ok s W) (hk : k ≤ c) (W : World) :
    (Instr.sliceAt t (.slice (some ad) n c) none (some (.int .i64 k)) none).run P W = .ok (.slice (some ad) k c) W := by
  rw [run_sliceAt_slice W t _ _ _ _ ht, run_slice_h W t (some ad) n c ht .i64 k (by omega) (by omega), hs]
  simp [Result.andThen, sliced]
  unfold Addr.add; simp
theorem cut_high {P : Program} (t : TypeId) (ad : Addr) (n c k : Nat) (ht : P.underlying t = some (.slice (P.elem t))) (s : Nat) (hs : ∀ W, (sizeOf (P.elem t)).run P W = .ok s W) (hk : k ≤ n) (W : World) :
    (Instr.sliceAt t (.slice (some ad) n c) (some (.int .i64 k)) none none).run P W = .ok (.slice (some (if c = k then ad else ad.add (k * s))) (n - k) (c - k)) W := by
  rw [run_sliceAt_slice W t _ _ _ _ ht, run_slice_l W t (some ad) n c ht .i64 k (by omega) (by omega), hs]
  simp only [Result.andThen, sliced, Int.toNat_natCast]
  congr 3
  split <;> rfl
theorem mod_in {x : Int} {m : Nat} (hm : 0 < m) : (if x.tmod m < 0 then x.tmod m + m else x.tmod m) = x % m ∧ 0 ≤ x % m ∧ x % m < m := by
  have h1 := Int.emod_nonneg x (show (m : Int) ≠ 0 by omega)
  have h2 := Int.emod_lt_of_pos x (show (0 : Int) < m by omega)
  refine ⟨?_, h1, h2⟩
  rw [Int.tmod_eq_emod]
  split <;> split <;> simp_all <;> omega
end Go.Proofs.YtgoandhlcekmiaaGreatDoor

namespace Go.Proofs.YtgoandhlcekmiaaGreatDoor
open Go.RowKit

theorem foldsUnder : Tryz.prog.underlying 23 = some (.slice (Tryz.prog.elem 23)) := by
  rw [show Tryz.prog.elem 23 = 59 by kernel_rfl]; exact Tryz.underlying23
theorem foldSize (W : World) : (sizeOf (Tryz.prog.elem 23)).run Tryz.prog W = .ok 2 W := by
  obtain ⟨i0, hi0, hz0, hz1, hz2⟩ := info_parts tFold.info
  rw [show Tryz.prog.elem 23 = 59 by kernel_rfl]
  simp [sizeOf, typeInfo, hi0, hz1]
/-- 'l[:k]'. -/
theorem folds_low (a : Option Addr) (L : List Fold) (c q : Nat) (hn : a = none → c = 0) (hlc : L.length ≤ c) (hq : q ≤ L.length) :
    ∃ (a1 : Option Addr) (c1 : Nat), (∀ W, (Instr.sliceAt 23 (.slice a L.length c) none (some (.int .i64 q)) none).run Tryz.prog W = .ok (.slice a1 q c1) W) ∧ (∀ w, RowsAt 2 Fold.l w a L → RowsAt 2 Fold.l w a1 (L.take q)) ∧ (a1 = none → c1 = 0) := by
  cases a with
  | none =>
    have hc := hn rfl
    have h0 : L.length = 0 := by omega
    have hq0 : q = 0 := by omega
    subst hc; subst hq0
    refine ⟨none, 0, fun W => ?_, fun w h => h.take 0, fun _ => rfl⟩
    rw [run_sliceAt_slice W _ _ _ _ _ foldsUnder, run_slice_h W _ none L.length 0 foldsUnder .i64 _ (by omega) (by omega), foldSize]
    simp [Result.andThen, sliced]
  | some ad => exact ⟨some ad, c, cut_low _ ad _ _ _ foldsUnder 2 foldSize (by omega), fun w h => h.take q, fun e => by cases e⟩
/-- 'l[k:]'. -/
theorem folds_high (a : Option Addr) (L : List Fold) (c q : Nat) (hn : a = none → c = 0) (hlc : L.length ≤ c) (hq : q ≤ L.length) :
    ∃ (a1 : Option Addr) (n1 c1 : Nat), n1 = (L.drop q).length ∧ (∀ W, (Instr.sliceAt 23 (.slice a L.length c) (some (.int .i64 q)) none none).run Tryz.prog W = .ok (.slice a1 n1 c1) W) ∧ (∀ w, RowsAt 2 Fold.l w a L → RowsAt 2 Fold.l w a1 (L.drop q)) ∧ (a1 = none → c1 = 0) := by
  cases a with
  | none =>
    have hc := hn rfl
    have h0 : L.length = 0 := by omega
    have hL0 : L = [] := List.eq_nil_of_length_eq_zero h0
    have hq0 : q = 0 := by omega
    subst hc; subst hq0; subst hL0
    refine ⟨none, 0, 0, rfl, fun W => ?_, fun w h => RowsAt.nil _ _, fun _ => rfl⟩
    rw [run_sliceAt_slice W _ _ _ _ _ foldsUnder, run_slice_l W _ none _ 0 foldsUnder .i64 _ (by omega) (by simp), foldSize]
    simp [Result.andThen, sliced]
  | some ad =>
    refine ⟨_, _, _, List.length_drop.symm, cut_high _ ad _ _ _ foldsUnder 2 foldSize hq, fun w h => ?_, fun e => by cases e⟩
    by_cases hcq : c = q
    · have : L.drop q = [] := List.drop_of_length_le (by omega)
      rw [this]; exact RowsAt.nil _ _
    · rw [if_neg hcq]; exact h.drop q
end Go.Proofs.YtgoandhlcekmiaaGreatDoor

namespace Go.Proofs.YtgoandhlcekmiaaGreatDoor
open Go.RowKit

theorem pile_n (C R : Int) (a : Option Addr) (n : Nat) (L : List Fold) (c : Nat) (w : World) (hn : n = L.length) (hL : RowsAt 2 Fold.l w a L) (hl : L.length ≤ maxLen) (hI : ∀ x ∈ L, OkI x.c) :
    Calls Tryz.prog 23 #[.agg #[.int .i64 C, .int .i64 R], .slice a n c] w (PilePost w C R L) := by
  subst hn; exact pile_any C R a L c w hL hl hI
theorem new_fold (w : World) (x : Fold) : OwnR 2 59 Fold.l (w.alloc (.cells #[.int .i64 x.k, .int .i64 x.c] 59)) w.heap.size (.slice (some ⟨w.heap.size, 0, none⟩) 1 1) [x] :=
  ⟨rfl, Or.inr ⟨w.heap.size, 1, _, rfl, Nat.le_refl _, heap_alloc_new w _, Nat.le_refl _, by unfold maxLen; decide, rfl, rfl⟩⟩
/-- The folds of the sheet turned round, as far as they are made. -/
def roundTo (L : List Fold) (j : Nat) : List Fold := Fold.mk 6 0 :: (L.take j).map swapK
theorem roundTo_len (L : List Fold) {j : Nat} (hj : j ≤ L.length) : (roundTo L j).length = j + 1 := by unfold roundTo; simp; omega
theorem roundTo_succ {L : List Fold} {j : Nat} (hj : j < L.length) : roundTo L j ++ [swapK L[j]] = roundTo L (j + 1) := by
  unfold roundTo
  rw [List.take_succ_eq_append_getElem hj, List.map_append]; try rfl
theorem roundTo_end {L : List Fold} {j : Nat} (hj : ¬ j < L.length) : roundTo L j ++ [Fold.mk 6 0] = ⟨6, 0⟩ :: L.map swapK ++ [⟨6, 0⟩] := by
  unfold roundTo
  rw [List.take_of_length_le (by omega)]
theorem roundTo_ok {L : List Fold} {j : Nat} (h : ∀ z ∈ L, OkI z.c) : ∀ z ∈ roundTo L j ++ [Fold.mk 6 0], OkI z.c := by
  have h0 : OkI 0 := (by decide : (Lit.int .i64 0).wf = true)
  intro z hz
  rcases List.mem_append.1 hz with hz | hz
  · rcases List.mem_cons.1 hz with rfl | hz
    · exact h0
    · obtain ⟨u, hu, rfl⟩ := List.mem_map.1 hz
      exact h u (List.mem_of_mem_take hu)
  · rw [List.mem_singleton.1 hz]; exact h0
theorem wpList_appH {α : Type} {n by_ : Nat} {ST E : TypeId} {z : Value} {g : α → List Int} (T : ElT n by_ ST E z) (hg : ∀ x, (g x).length = n) {ops : Array Oper} {rest : List Oper} {o : Oper} {a : Act} {Q : Exit → Act → World → Prop} (w0 : World) (x : α) (cs : Array Value) (hcs : cs = (vals (g x)).toArray) (hgd : o.guard = none) (s xo : Operand)
    (ho : o.op = .call { callee := .builtin .append, args := #[s, xo], argTypes := #[ST, ST] }) (B : Nat) (v : Value) (L : List α) (hs : a.eval s = v) (hown : OwnR n E g w0 B v L) (H : Nat) (hH : w0.heap.size = H)
    (hx : a.eval xo = .slice (some ⟨H, 0, none⟩) 1 1) (hl : L.length ≤ 1000000) (hB : B ≤ w0.heap.size)
    (h : ∀ gg c w', OwnR n E g w' B (.slice (some ⟨gg, 0, none⟩) (L.length + 1) c) (L ++ [x]) → w0.grownBy w' v.ownBlock → Below B w0 w' → wpList Tryz.prog ops Q rest (a.put o.dst (.slice (some ⟨gg, 0, none⟩) (L.length + 1) c)) w') :
    wpList Tryz.prog ops Q (o :: rest) a (w0.alloc (.cells cs E)) := by
  subst hH
  exact wpList_appX T hg w0 x cs hcs hgd s xo ho B v L hs hown hx hl hB h
end Go.Proofs.YtgoandhlcekmiaaGreatDoor

namespace Go.Proofs.YtgoandhlcekmiaaGreatDoor
open Go.RowKit

def turnB (t : Int) : Bool := decide (t = 0 ∨ t = 1)
def pageB (m : Int) (x : Page) : Bool := inB x.p 1 m && inB x.t 0 1
theorem turnB_in (t : Int) : turnB t = inB t 0 1 := by rw [Bool.eq_iff_iff]; simp [turnB, inB]; omega
set_option maxHeartbeats 400000 in
theorem roundIf_any (b : Bool) (w : World) : Calls Tryz.prog 45 #[.bool b] w fun e w' => e = .returned (.int .i64 (if b = true then 1 else 0)) ∧ w = w' := by
  cases b
  all_goals
    go_enter Tryz.func45, Tryz.ntmps45
    go_wp2
    go_ret
    exact ⟨rfl, rfl⟩
set_option maxHeartbeats 1000000 in
theorem checkSheet_any (C R : Int) (w : World) : Calls Tryz.prog 21 #[.int .i64 C, .int .i64 R] w fun e w' => e = .returned (.int .i64 (sideErr C R)) ∧ w = w' := by
  cases h1 : inB C 1 8
  · have HE := Lib.hid (show sideErr C R = 2 by unfold sideErr; rw [if_neg (by simp [h1])])
    go_enter Tryz.func21, Tryz.ntmps21
    go_wp2_with (go_at_call 54; refine (within_any _ _ _ _).mono ?_; rintro e w' ⟨rfl, rfl⟩)
    go_ret
    exact ⟨ret_int HE.out.symm, rfl⟩
  · cases h2 : inB R 1 8
    · have HE := Lib.hid (show sideErr C R = 2 by unfold sideErr; rw [if_neg (by simp [h2])])
      go_enter Tryz.func21, Tryz.ntmps21
      go_wp2_with (go_at_call 54; refine (within_any _ _ _ _).mono ?_; rintro e w' ⟨rfl, rfl⟩)
      go_ret
      exact ⟨ret_int HE.out.symm, rfl⟩
    · have a1 := inB_iff.1 h1
      have a2 := inB_iff.1 h2
      have hp0 : 0 ≤ C * R := Int.mul_nonneg (by omega) (by omega)
      have hp1 : C * R ≤ 8 * 8 := Int.mul_le_mul a1.2 a2.2 (by omega) (by omega)
      by_cases h3 : 32 < C * R
      · have HE := Lib.hid (show sideErr C R = 8 by unfold sideErr; rw [if_pos ⟨h1, h2⟩, if_pos h3])
        go_enter Tryz.func21, Tryz.ntmps21
        go_wp2_with (go_at_call 54; refine (within_any _ _ _ _).mono ?_; rintro e w' ⟨rfl, rfl⟩)
        go_ret
        exact ⟨ret_int HE.out.symm, rfl⟩
      · have HE := Lib.hid (show sideErr C R = 0 by unfold sideErr; rw [if_pos ⟨h1, h2⟩, if_neg h3])
        have h4 : C * R ≤ 32 := by omega
        clear h3
        go_enter Tryz.func21, Tryz.ntmps21
        go_wp2_with (go_at_call 54; refine (within_any _ _ _ _).mono ?_; rintro e w' ⟨rfl, rfl⟩)
        go_ret
        exact ⟨ret_int HE.out.symm, rfl⟩
def cellsErr (C R n : Int) : Int := if sideErr C R ≠ 0 then sideErr C R else if n ≠ C * R then 10 else 0
set_option maxHeartbeats 1000000 in
theorem errorOfCells_any (C R n : Int) (w : World) :
    Calls Tryz.prog 47 #[.agg #[.int .i64 C, .int .i64 R], .int .i64 n] w fun e w' => e = .returned (.int .i64 (cellsErr C R n)) ∧ Below w.heap.size w w' := by
  by_cases h1 : sideErr C R = 0
  · obtain ⟨sC, sR, sm⟩ := side_ok h1
    have hp0 : 0 ≤ C * R := Int.mul_nonneg (by omega) (by omega)
    obtain ⟨N, hN⟩ : ∃ N, C * R = N := ⟨_, rfl⟩
    have HN := Lib.hid hN
    have H1 := Lib.hid h1
    have HP : Hid (-1000000 ≤ C * R ∧ C * R ≤ 1000000) := Lib.hid (by omega)
    have HC : Hid (cellsErr C R n = if n ≠ N then 10 else 0) := Lib.hid (by unfold cellsErr; rw [if_neg (by simp [h1]), hN])
    clear h1 sC sR sm hp0 hN
    go_enter Tryz.func47, Tryz.ntmps47
    go_wp2_with fail
    refine (errorOfSides_any _ _ _).mono ?_
    rintro e w1 ⟨rfl, hb1⟩
    rw [H1.out]
    have bx := (BoxAt.new w #[.int .i64 C, .int .i64 R] 73).below hb1
    have hB1 := ((Below.refl w.heap.size w).alloc (Nat.le_refl _) (.cells #[.int .i64 C, .int .i64 R] 73)).trans (hb1.mono (B' := w.heap.size) (by simp))
    have c0 := bx.cell 0; have c1 := bx.cell 1
    simp at c0 c1
    clear hb1
    go_wp2_with fail
    refine (cells_any C R N _ HN.out HP.out.1 HP.out.2).mono ?_
    rintro e w2 ⟨rfl, hb2⟩
    have hB2 := hB1.trans (hb2.mono (B' := w.heap.size) hB1.size)
    by_cases hn : n = N
    · have HE : Hid (cellsErr C R n = 0) := Lib.hid (by rw [HC.out, if_neg (by simp [hn])])
      have hnb : (n != N) = false := by simp [hn]
      clear hn
      go_wp2_with fail
      go_ret
      exact ⟨ret_int HE.out.symm, hB2⟩
    · have HE : Hid (cellsErr C R n = 10) := Lib.hid (by rw [HC.out, if_pos hn])
      have hnb : (n != N) = true := by simpa using hn
      clear hn
      go_wp2_with fail
      go_ret
      exact ⟨ret_int HE.out.symm, hB2⟩
  · have HE : Hid (cellsErr C R n = sideErr C R) := Lib.hid (by unfold cellsErr; rw [if_pos h1])
    have hb : (sideErr C R != 0) = true := by simpa using h1
    clear h1
    go_enter Tryz.func47, Tryz.ntmps47
    go_wp2_with fail
    refine (errorOfSides_any _ _ _).mono ?_
    rintro e w1 ⟨rfl, hb1⟩
    have hB1 := ((Below.refl w.heap.size w).alloc (Nat.le_refl _) (.cells #[.int .i64 C, .int .i64 R] 73)).trans (hb1.mono (B' := w.heap.size) (by simp))
    go_wp2_with fail
    go_ret
    exact ⟨ret_int HE.out.symm, hB1⟩
end Go.Proofs.YtgoandhlcekmiaaGreatDoor
