/-
  Package impose: what the law on turned sheets is made of: cuts of a list of folds, copies of it, what is appended at a step of a statement that draws its order.
-/
import Derived.Test.YtccfcdhnplodgaaGreatDoorI4
import Derived.Test.YtccfcdhnplodgaaGreatDoorIZ
import Derived.Laws.Slices
namespace Go.Proofs.YtccfcdhnplodgaaGreatDoor
open Go.RowKit

/-- A number within rows, counted from the rows' beginning. -/
theorem fldj (ad : Addr) (q n r : Nat) : ad.add (q * n + r) = fld (ad.add (q * n)) r := by
  cases r with
  | zero => rfl
  | succ r =>
    show _ = (⟨(ad.add (q * n)).block, (ad.add (q * n)).off + (r + 1), none⟩ : Addr)
    unfold Addr.add
    by_cases hz : q * n = 0
    · rw [if_pos hz, if_neg (by omega), hz, Nat.zero_add]
    · rw [if_neg hz, if_neg (by omega)]
      show (⟨ad.block, ad.off + (q * n + (r + 1)), none⟩ : Addr) = ⟨ad.block, ad.off + q * n + (r + 1), none⟩
      rw [Nat.add_assoc]
/-- 'append(l, m...)' at a slice of the call's own, at a step of a region that draws. -/
theorem step_appL {α : Type} {n by_ : Nat} {ST E : TypeId} {z : Value} {g : α → List Int} (T : ElT n by_ ST E z) (hg : ∀ x, (g x).length = n) {ops : Array Oper} {o : Oper} {a : Act} {K : Act → World → Prop} {Q : Exit → Act → World → Prop} {E0 : Prop} (w : World) (hgd : o.guard = none) (s xo : Operand)
    (ho : o.op = .call { callee := .builtin .append, args := #[s, xo], argTypes := #[ST, ST] }) (B : Nat) (v : Value) (L : List α) (hs : a.eval s = v) (hown : OwnR n E g w B v L)
    (b : Option Addr) (M : List α) (m c : Nat) (hm : m = M.length) (hx : a.eval xo = .slice b m c) (hM : RowsAt n g w b M) (hbc : b = none → c = 0) (hl : L.length ≤ 1000000) (hl2 : M.length ≤ 1000000) (hB : B ≤ w.heap.size)
    (h : ∀ v' w', OwnR n E g w' B v' (L ++ M) → w.grownBy w' v.ownBlock → Below B w w' → (v'.ownBlock = v.ownBlock ∨ v'.ownBlock = some w.heap.size) → K (a.put o.dst v') w') :
    if Region.wanted o (yielded ops a.tmps) = true then Oper.wp Tryz.prog o a w K Q else E0 := by
  subst hm
  have hw : Region.wanted o (yielded ops a.tmps) = true := by simp [Region.wanted, hgd]
  rw [if_pos hw]
  obtain ⟨i0, hi0, hz0, hz1, hz2⟩ := info_parts T.info
  have hbl := T.by64
  cases b with
  | none =>
    have hM0 := hM.drop_none
    subst hM0
    have hc := hbc rfl
    subst hc
    have hrun := run_append_owned_none (P := Tryz.prog) (w := w) B ST o.type E i0 n T.sl hi0 v L.length (vals (L.flatMap g)) hown
    unfold Oper.wp
    simp [execOp, ho, resolve, invoke, builtin, hs, hx, hrun, Result.andThen]
    exact h v w (by rw [List.append_nil]; exact hown) ⟨rfl, rfl, rfl, Nat.le_refl _, fun _ _ _ => rfl⟩ (Below.refl _ _) (Or.inl rfl)
  | some ad =>
    obtain ⟨v', w', hr, h2, h3, h4, h5⟩ := run_append_own_at (P := Tryz.prog) w B ST o.type E i0 z n by_ T.sl hi0 hz0 hz1 hz2 T.zs T.pos v L.length (vals (L.flatMap g)) hown ad M.length c (vals (M.flatMap g))
      (by simp [vals, flat_len hg M]) (fun j u hj => by
        have hjl : j < M.length * n := by
          have := (List.getElem?_eq_some_iff.1 hj).1
          simpa [vals, flat_len hg M] using this
        have hn := T.pos
        have hk : j / n < M.length := Nat.div_lt_of_lt_mul (by rw [Nat.mul_comm]; exact hjl)
        have hjn : j % n < n := Nat.mod_lt _ hn
        have ej : j / n * n + j % n = j := by rw [Nat.mul_comm]; exact Nat.div_add_mod j n
        obtain ⟨ad', e, _, hs⟩ := hM (j / n) hk
        cases e
        have e1 := hs (j % n) hjn
        have e2 := flat_at hg M (j / n) (j % n) hk hjn
        rw [ej] at e2
        unfold vals at hj
        rw [List.getElem?_map, e2] at hj
        rw [← fldj, ej] at e1
        rw [e1, ← hj]; rfl) (vals_one _) (by unfold maxLen; omega) (Nat.le_trans (Nat.mul_le_mul_left _ hbl) (by omega)) hB
    unfold Oper.wp execOp
    simp only [ho, resolve, invoke, builtin, Sem.run_bind, Sem.run_pure, Result.andThen_ok, List.map_toArray, List.map_cons, List.map_nil, hs, hx, hr]
    refine h v' w' ?_ h3 ((Below.refl B w).grown h3 hB (fun k hk => (hown.lt k hk).1)) h5
    unfold OwnR
    rw [List.flatMap_append, vals_app, List.length_append]
    exact h2
/-- The first folds of a list. -/
theorem RowsAt.take {α : Type} {n : Nat} {g : α → List Int} {w : World} {a : Option Addr} {L : List α} (h : RowsAt n g w a L) (k : Nat) : RowsAt n g w a (L.take k) := fun j hj => by
  have hj' : j < L.length := by rw [List.length_take] at hj; omega
  obtain ⟨ad, e, hlt, hs⟩ := h j hj'
  refine ⟨ad, e, hlt, fun i hi => ?_⟩
  rw [List.getElem_take]; exact hs i hi
/-- The later ones. -/
theorem RowsAt.drop {α : Type} {n : Nat} {g : α → List Int} {w : World} {ad : Addr} {L : List α} (h : RowsAt n g w (some ad) L) (k : Nat) : RowsAt n g w (some (ad.add (k * n))) (L.drop k) := fun j hj => by
  have hj' : k + j < L.length := by rw [List.length_drop] at hj; omega
  obtain ⟨ad', e, hlt, hs⟩ := h (k + j) hj'
  cases e
  refine ⟨_, rfl, by rw [add_block]; exact hlt, fun i hi => ?_⟩
  rw [List.getElem_drop]
  rw [show (ad.add (k * n)).add (j * n) = ad.add ((k + j) * n) by
    rw [Nat.add_mul]
    unfold Addr.add
    by_cases h1 : k * n = 0
    · by_cases h2 : j * n = 0
      · rw [if_pos h2, if_pos h1, if_pos (by omega)]
      · rw [if_neg h2, if_pos h1, if_neg (by omega), h1, Nat.zero_add]
    · by_cases h2 : j * n = 0
      · rw [if_pos h2, if_neg h1, if_neg (by omega), h2, Nat.add_zero]
      · rw [if_neg h2, if_neg h1, if_neg (by omega), Nat.add_assoc]]
  exact hs i hi
set_option maxRecDepth 100000 in
set_option maxHeartbeats 1000000 in
theorem folds_any (a : Option Addr) (n : Nat) (L : List Fold) (c : Nat) (w : World) (hnl : n = L.length) (hL : RowsAt 2 Fold.l w a L) (hl : L.length ≤ 1000000) (hn : a = none → c = 0) :
    Calls Tryz.prog 6 #[.slice a n c] w (ClonePost 2 58 Fold.l w L) := by
  subst hnl
  have hm := World.ownsRow_made (e := 58) (size := 2) (base := w.heap.size) w #[] 0 (Nat.le_refl _) (Nat.zero_le _) rfl
  have hown : OwnR 2 58 Fold.l (w.alloc (.cells #[] 58)) w.heap.size (.slice (some ⟨w.heap.size, 0, none⟩) 0 0) [] := hm
  have hB := (Below.refl w.heap.size w).alloc (Nat.le_refl _) (.cells #[] 58)
  have HL := Lib.hid (hL.alloc (.cells #[] 58))
  clear hm hL
  go_enter Tryz.func6, Tryz.ntmps6
  go_wp2_with (at_builtin; refine wpList_appL tFold fold_l _ rfl _ _ rfl w.heap.size _ [] rfl hown a L c rfl HL.out hn (by simp) hl (by simp) ?_; intro v' w' hown' hg' hB' hor')
  go_ret
  exact ⟨_, rfl, hown', hB.trans hB'⟩
/-- 'l[:k]' and 'l[k:]'. -/
theorem cut_low {P : Program} (t : TypeId) (ad : Addr) (n c k : Nat) (ht : P.underlying t = some (.slice (P.elem t))) (s : Nat) (hs : ∀ W, (sizeOf (P.elem t)).run P W = .ok s W) (hk : k ≤ c) (W : World) :
    (Instr.sliceAt t (.slice (some ad) n c) none (some (.int .i64 k)) none).run P W = .ok (.slice (some ad) k c) W := by
  rw [run_sliceAt_slice W t _ _ _ _ ht, run_slice_h W t (some ad) n c ht .i64 k (by omega) (by omega), hs]
  simp [Result.andThen, sliced]
  unfold Addr.add; simp
theorem cut_high {P : Program} (t : TypeId) (ad : Addr) (n c k : Nat) (ht : P.underlying t = some (.slice (P.elem t))) (s : Nat) (hs : ∀ W, (sizeOf (P.elem t)).run P W = .ok s W) (hk : k ≤ n) (W : World) :
    (Instr.sliceAt t (.slice (some ad) n c) (some (.int .i64 k)) none none).run P W = .ok (.slice (some (if c = k then ad else ad.add (k * s))) (n - k) (c - k)) W := by
  rw [run_sliceAt_slice W t _ _ _ _ ht, run_slice_l W t (some ad) n c ht .i64 k (by omega) (by omega), hs]
  simp only [Result.andThen, sliced, Int.toNat_natCast]
  congr 3
  split <;> rfl
theorem mod_in {x : Int} {m : Nat} (hm : 0 < m) : (if x.tmod m < 0 then x.tmod m + m else x.tmod m) = x % m ∧ 0 ≤ x % m ∧ x % m < m := by
  have h1 := Int.emod_nonneg x (show (m : Int) ≠ 0 by omega)
  have h2 := Int.emod_lt_of_pos x (show (0 : Int) < m by omega)
  refine ⟨?_, h1, h2⟩
  rw [Int.tmod_eq_emod]
  split <;> split <;> simp_all <;> omega
end Go.Proofs.YtccfcdhnplodgaaGreatDoor
