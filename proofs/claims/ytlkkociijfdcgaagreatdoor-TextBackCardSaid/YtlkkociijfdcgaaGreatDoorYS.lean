/-
  Comparing numbers; sorting by insertion, as plain lists.
-/
import Derived.Test.YtlkkociijfdcgaaGreatDoorZB
import Derived.Test.YtlkkociijfdcgaaGreatDoorZD
namespace Go.Proofs.YtlkkociijfdcgaaGreatDoor
open Go.RowKit Go.Maps

def cmpI (a b : Int) : Int := if a < b then -1 else if b < a then 1 else 0
def swp (L : List Int) (j : Nat) : List Int := (L.set (j + 1) (L.getD j 0)).set j (L.getD (j + 1) 0)
/-- The element at place j goes down while it comes ahead of the one before. -/
def ins (lt : Int → Int → Bool) : Nat → List Int → List Int
  | 0, L => L
  | j + 1, L => if lt (L.getD (j + 1) 0) (L.getD j 0) = true then ins lt j (swp L j) else L
def insAll (lt : Int → Int → Bool) : Nat → Nat → List Int → List Int
  | 0, _, L => L
  | m + 1, i, L => insAll lt m (i + 1) (ins lt i L)
theorem swp_len (L : List Int) (j : Nat) : (swp L j).length = L.length := by simp [swp]
theorem ins_len (lt : Int → Int → Bool) : ∀ (j : Nat) (L : List Int), (ins lt j L).length = L.length := by
  intro j
  induction j with
  | zero => intro L; rfl
  | succ j ih =>
    intro L
    unfold ins
    split
    · rw [ih, swp_len]
    · rfl
/-- Block g is just the row of the numbers L. -/
def RowX (w : World) (g : Nat) (L : List Int) : Prop := w.heap[g]? = some (.cells (vals L).toArray 3 (0, 0))
theorem RowX.cell {w : World} {g : Nat} {L : List Int} (h : RowX w g L) {j : Nat} (hj : j < L.length) : w.cell? ⟨g, j, none⟩ = some (.int .i64 (L.getD j 0)) := by
  rw [cell_of_row w g j _ _ (0, 0) h]
  rw [List.getElem?_toArray]; exact vals_at hj
theorem RowX.frozen {w : World} {g : Nat} {L : List Int} (h : RowX w g L) (j : Nat) : w.frozen? ⟨g, j, none⟩ = false := by
  unfold RowX at h; simp [World.frozen?, h]
theorem RowX.drewN {w : World} {g : Nat} {L : List Int} (h : RowX w g L) (n : Nat) : RowX (w.drewN n) g L := h
theorem RowX.drew {w : World} {g : Nat} {L : List Int} (h : RowX w g L) : RowX w.drew g L := h
theorem RowX.set_ {w : World} {g : Nat} {L : List Int} (h : RowX w g L) (j : Nat) (v : Int) : RowX (w.setCell ⟨g, j, none⟩ (.int .i64 v)) g (L.set j v) := by
  unfold RowX at h ⊢
  have e : (vals (L.set j v)).toArray = (vals L).toArray.setIfInBounds j (.int .i64 v) := by
    unfold vals; rw [List.map_set]; simp
  rw [e]
  simp [World.setCell, Array.getElem?_modify, h]
end Go.Proofs.YtlkkociijfdcgaaGreatDoor
/-
  The library's insertion sort over numbers of values, the greatest values first.
-/
namespace Go.Proofs.YtlkkociijfdcgaaGreatDoor
open Go.RowKit Go.Maps

def gfLt (V : List Int) (x y : Int) : Bool := decide (cmpI (V.getD y.toNat 0) (V.getD x.toNat 0) < 0)

/-- What the sort finds all along: all but the row g is as it was. -/
structure SortEnv (w : World) (g : Nat) (bp rp : Addr) (V : List Int) (d : Nat) (wr : World) : Prop where
  grown : w.grownBy wr (some g)
  box : wr.cell? bp = some (.slice (some rp) V.length d)
  vals : IntsAt wr (some rp) V
theorem grownBy_drewN {w wr : World} {r : Option Nat} (h : w.grownBy wr r) (n : Nat) : w.grownBy (wr.drewN n) r := ⟨h.os, h.tape, h.output, h.size, h.block⟩
theorem grownBy_set {w wr : World} {g : Nat} (h : w.grownBy wr (some g)) (j : Nat) (u : Value) : w.grownBy (wr.setCell ⟨g, j, none⟩ u) (some g) :=
  ⟨h.os, h.tape, h.output, by simpa [World.setCell] using h.size, fun k hk hne => (Below.heap_setCell wr ⟨g, j, none⟩ u k (fun e => hne (by rw [e]))).trans (h.block k hk hne)⟩
theorem SortEnv.drewN {w wr : World} {g : Nat} {bp rp : Addr} {V : List Int} {d : Nat} (h : SortEnv w g bp rp V d wr) (n : Nat) : SortEnv w g bp rp V d (wr.drewN n) := ⟨grownBy_drewN h.grown n, h.box, h.vals⟩
theorem SortEnv.set_ {w wr : World} {g : Nat} {bp rp : Addr} {V : List Int} {d : Nat} (h : SortEnv w g bp rp V d wr) (hb : bp.block ≠ g) (hr : rp.block ≠ g) (j : Nat) (u : Value) : SortEnv w g bp rp V d (wr.setCell ⟨g, j, none⟩ u) := by
  refine ⟨grownBy_set h.grown j u, ?_, fun k hk => ?_⟩
  · rw [World.cell?_setCell_other _ _ _ _ (fun e => hb (by rw [← e]))]; exact h.box
  · obtain ⟨ad, e, hlt, hc⟩ := h.vals k hk
    cases e
    exact ⟨rp, rfl, by simpa [World.setCell] using hlt, by rw [World.cell?_setCell_other _ _ _ _ (fun e => hr (by rw [← add_block rp k, ← e]))]; exact hc⟩

def OkIdx (L : List Int) (n : Nat) : Prop := ∀ j, j < L.length → ∃ x : Nat, x < n ∧ L.getD j 0 = (x : Int)

theorem swp_at {L : List Int} {j : Nat} (h : j + 1 < L.length) (i : Nat) : (swp L j).getD i 0 = if i = j then L.getD (j + 1) 0 else if i = j + 1 then L.getD j 0 else L.getD i 0 := by
  unfold swp
  rw [List.getD_eq_getElem?_getD, List.getElem?_set]
  by_cases h1 : j = i
  · subst h1
    rw [if_pos rfl, if_pos rfl]
    simp only [List.length_set]
    rw [if_pos (by omega)]
    rfl
  · rw [if_neg h1, if_neg (fun e => h1 e.symm), List.getElem?_set]
    by_cases h2 : j + 1 = i
    · rw [if_pos h2, if_pos (by omega), if_pos h2.symm]; rfl
    · rw [if_neg h2, if_neg (fun e => h2 e.symm), List.getD_eq_getElem?_getD]
theorem OkIdx.swp_ {L : List Int} {n j : Nat} (h : OkIdx L n) (hj : j + 1 < L.length) : OkIdx (swp L j) n := by
  intro i hi
  rw [swp_len] at hi
  rw [swp_at hj]
  split
  · exact h (j + 1) hj
  · split
    · exact h j (by omega)
    · exact h i hi
theorem ins_go {lt : Int → Int → Bool} {j : Nat} {L : List Int} (h : lt (L.getD (j + 1) 0) (L.getD j 0) = true) : ins lt (j + 1) L = ins lt j (swp L j) := by
  show (if _ then _ else _) = _; rw [if_pos h]
theorem ins_stop {lt : Int → Int → Bool} {j : Nat} {L : List Int} (h : lt (L.getD (j + 1) 0) (L.getD j 0) = false) : ins lt (j + 1) L = L := by
  show (if _ then _ else _) = _; rw [if_neg (by rw [h]; simp)]
theorem insAll_go {lt : Int → Int → Bool} {n i : Nat} {L : List Int} (h : i < n) : insAll lt (n - i) i L = insAll lt (n - (i + 1)) (i + 1) (ins lt i L) := by
  obtain ⟨m, hm⟩ : ∃ m, n - i = m + 1 := ⟨n - i - 1, by omega⟩
  rw [hm, show n - (i + 1) = m by omega]; rfl
theorem insAll_end {lt : Int → Int → Bool} {n i : Nat} {L : List Int} (h : ¬ i < n) : insAll lt (n - i) i L = L := by rw [show n - i = 0 by omega]; rfl

end Go.Proofs.YtlkkociijfdcgaaGreatDoor

/-
  The numbers of values, those of the greatest ones first.
-/
namespace Go.Proofs.YtlkkociijfdcgaaGreatDoor
open Go.RowKit Go.Maps

theorem Own.rowX {w : World} {g n : Nat} {fn : Nat → Int} (h : Own w g n fn n) : RowX w g (tab n fn) := by
  obtain ⟨cs, h1, h2, h3⟩ := h
  have e : cs = (vals (tab n fn)).toArray := by
    apply Array.ext
    · simp [vals, tab_len, h2]
    · intro i hi1 hi2
      have hin : i < n := by omega
      have := h3 i hin
      rw [Array.getElem?_eq_getElem hi1] at this
      have e2 := vals_at (l := tab n fn) (k := i) (by rw [tab_len]; exact hin)
      rw [tab_at hin] at e2
      have e3 : (vals (tab n fn)).toArray[i]? = some (.int .i64 (fn i)) := by rw [List.getElem?_toArray]; exact e2
      rw [Array.getElem?_eq_getElem hi2] at e3
      rw [Option.some.inj this, Option.some.inj e3]
  unfold RowX
  rw [← e]; exact h1
theorem cell_lt' {w : World} {p : Addr} {v : Value} (h : w.cell? p = some v) : p.block < w.heap.size := World.block_lt_of_cell? w p h
theorem RowX.ints {w : World} {g : Nat} {L : List Int} (h : RowX w g L) : IntsAt w (some ⟨g, 0, none⟩) L := by
  intro k hk
  refine ⟨_, rfl, ?_, ?_⟩
  · have := cell_lt' (h.cell hk); exact this
  · rw [add0]; exact h.cell hk
def orderOf (V : List Int) : List Int := insAll (gfLt V) (V.length - 1) 1 (tab V.length fun i => (i : Int))

end Go.Proofs.YtlkkociijfdcgaaGreatDoor

/-
  Sharing a total out in proportion to a need.
-/
namespace Go.Proofs.YtlkkociijfdcgaaGreatDoor
open Go.RowKit Go.Maps

def sumTo (fn : Nat → Int) : Nat → Int
  | 0 => 0
  | k + 1 => sumTo fn k + fn k
def quoF (need : List Int) (sum total : Int) (k : Nat) : Int := total * need.getD k 0 / sum
def remF (need : List Int) (sum total : Int) (k : Nat) : Int := total * need.getD k 0 % sum
def bump (L : List Int) (i : Int) : List Int := L.set i.toNat (L.getD i.toNat 0 + 1)
def missingOf (need : List Int) (sum total : Int) : Int := total - sumTo (quoF need sum total) need.length
def billOf (need : List Int) (sum total : Int) : List Int :=
  ((orderOf (tab need.length (remF need sum total))).take (missingOf need sum total).toNat).foldl bump (tab need.length (quoF need sum total))

theorem sumTo_add (f g : Nat → Int) : ∀ k, sumTo (fun i => f i + g i) k = sumTo f k + sumTo g k := by
  intro k
  induction k with
  | zero => rfl
  | succ k ih => show sumTo _ k + (f k + g k) = (sumTo f k + f k) + (sumTo g k + g k); rw [ih]; omega
theorem sumTo_mul (c : Int) (f : Nat → Int) : ∀ k, sumTo (fun i => c * f i) k = c * sumTo f k := by
  intro k
  induction k with
  | zero => simp [sumTo]
  | succ k ih => show sumTo _ k + c * f k = c * (sumTo f k + f k); rw [ih, Int.mul_add]
theorem sumTo_congr {f g : Nat → Int} : ∀ {k : Nat}, (∀ i, i < k → f i = g i) → sumTo f k = sumTo g k := by
  intro k
  induction k with
  | zero => intro _; rfl
  | succ k ih => intro h; show sumTo f k + f k = sumTo g k + g k; rw [ih (fun i hi => h i (by omega)), h k (by omega)]
theorem sumTo_bd {f : Nat → Int} {lo hi : Int} : ∀ {k : Nat}, (∀ i, i < k → lo ≤ f i ∧ f i ≤ hi) → (k : Int) * lo ≤ sumTo f k ∧ sumTo f k ≤ (k : Int) * hi := by
  intro k
  induction k with
  | zero => intro _; simp [sumTo]
  | succ k ih =>
    intro h
    obtain ⟨a, b⟩ := ih (fun i hi => h i (by omega))
    obtain ⟨c, d⟩ := h k (by omega)
    have e1 : ((k + 1 : Nat) : Int) * lo = (k : Int) * lo + lo := by rw [Int.natCast_add, Int.add_mul]; simp
    have e2 : ((k + 1 : Nat) : Int) * hi = (k : Int) * hi + hi := by rw [Int.natCast_add, Int.add_mul]; simp
    show _ ≤ sumTo f k + f k ∧ sumTo f k + f k ≤ _
    rw [e1, e2]; omega
/-- What is missing behind the rounding is less than the number of sorts. -/
theorem missing_bd {need : List Int} {sum total : Int} (hs : 0 < sum) (hsum : sumTo (fun k => need.getD k 0) need.length = sum) (hn : 0 < need.length) :
    0 ≤ missingOf need sum total ∧ missingOf need sum total < need.length := by
  have h1 : sumTo (fun k => sum * quoF need sum total k + remF need sum total k) need.length = sumTo (fun k => total * need.getD k 0) need.length :=
    sumTo_congr (fun i _ => by unfold quoF remF; exact Int.mul_ediv_add_emod _ _)
  rw [sumTo_add, sumTo_mul, sumTo_mul, hsum] at h1
  have h2 := sumTo_bd (f := remF need sum total) (lo := 0) (hi := sum - 1) (k := need.length) (fun i _ => by
    unfold remF
    have a := Int.emod_nonneg (total * need.getD i 0) (by omega : sum ≠ 0)
    have b := Int.emod_lt_of_pos (total * need.getD i 0) hs
    omega)
  have h3 : missingOf need sum total * sum = sumTo (remF need sum total) need.length := by
    unfold missingOf
    rw [Int.sub_mul, Int.mul_comm (sumTo _ _) sum]; omega
  constructor
  · rcases Int.lt_or_le (missingOf need sum total) 0 with h | h
    · have : missingOf need sum total * sum ≤ -1 * sum := Int.mul_le_mul_of_nonneg_right (by omega) (by omega)
      omega
    · exact h
  · rcases Int.lt_or_le (missingOf need sum total) need.length with h | h
    · exact h
    · have h4 : (need.length : Int) * sum ≤ missingOf need sum total * sum := Int.mul_le_mul_of_nonneg_right h (by omega)
      have h5 : (need.length : Int) * (sum - 1) = need.length * sum - need.length := by rw [Int.mul_sub]; omega
      omega
theorem Own.far {w : World} {g n : Nat} {fn : Nat → Int} {k : Nat} (h : Own w g n fn k) {p : Addr} (hp : g ≠ p.block) (u : Value) : Own (w.setCell p u) g n fn k := by
  obtain ⟨cs, h1, h2⟩ := h
  exact ⟨cs, (Below.heap_setCell w p u g hp).trans h1, h2⟩
theorem Own.below {w w' : World} {g n : Nat} {fn : Nat → Int} {k : Nat} (h : Own w g n fn k) (hb : Below w.heap.size w w') : Own w' g n fn k := by
  have hlt := h.lt
  obtain ⟨cs, h1, h2⟩ := h
  exact ⟨cs, (hb.block g hlt).trans h1, h2⟩
theorem RowX.far {w : World} {g : Nat} {L : List Int} (h : RowX w g L) {p : Addr} (hp : g ≠ p.block) (u : Value) : RowX (w.setCell p u) g L := (Below.heap_setCell w p u g hp).trans h
theorem RowX.lt {w : World} {g : Nat} {L : List Int} (h : RowX w g L) : g < w.heap.size := by
  unfold RowX at h
  rcases Nat.lt_or_ge g w.heap.size with hlt | hge
  · exact hlt
  · rw [Array.getElem?_eq_none hge] at h; cases h
theorem RowX.below {w w' : World} {g : Nat} {L : List Int} (h : RowX w g L) (hb : Below w.heap.size w w') : RowX w' g L := by
  have hlt : g < w.heap.size := by
    unfold RowX at h
    rcases Nat.lt_or_ge g w.heap.size with hlt | hge
    · exact hlt
    · rw [Array.getElem?_eq_none hge] at h; cases h
  exact (hb.block g hlt).trans h

theorem ins_ok {lt : Int → Int → Bool} {n : Nat} : ∀ (j : Nat) (L : List Int), j < L.length → OkIdx L n → OkIdx (ins lt j L) n := by
  intro j
  induction j with
  | zero => intro L _ h; exact h
  | succ j ih =>
    intro L hj h
    unfold ins
    split
    · exact ih _ (by rw [swp_len]; omega) (h.swp_ hj)
    · exact h
theorem insAll_ok {lt : Int → Int → Bool} {n : Nat} : ∀ (m i : Nat) (L : List Int), i + m ≤ L.length → OkIdx L n → OkIdx (insAll lt m i L) n ∧ (insAll lt m i L).length = L.length := by
  intro m
  induction m with
  | zero => intro i L _ h; exact ⟨h, rfl⟩
  | succ m ih =>
    intro i L hi h
    have := ih (i + 1) (ins lt i L) (by rw [ins_len]; omega) (ins_ok i L (by omega) h)
    rw [ins_len] at this
    exact this
theorem order_ok {V : List Int} (h : 0 < V.length) : OkIdx (orderOf V) V.length ∧ (orderOf V).length = V.length := by
  have h1 : OkIdx (tab V.length fun i => (i : Int)) V.length := fun j hj => by
    rw [tab_len] at hj
    exact ⟨j, hj, tab_at hj⟩
  have := insAll_ok (lt := gfLt V) (V.length - 1) 1 _ (by rw [tab_len]; omega) h1
  rw [tab_len] at this
  exact this
theorem bump_nat (L : List Int) (x : Nat) : bump L (x : Int) = L.set x (L.getD x 0 + 1) := rfl
theorem bump_len (L : List Int) (i : Int) : (bump L i).length = L.length := by simp [bump]
theorem bumps_len : ∀ (xs L : List Int), (xs.foldl bump L).length = L.length := by
  intro xs
  induction xs with
  | nil => intro L; rfl
  | cons x r ih => intro L; rw [List.foldl_cons, ih, bump_len]
theorem bump_bd {L : List Int} {i : Int} {B : Int} (h : ∀ j, j < L.length → 0 ≤ L.getD j 0 ∧ L.getD j 0 ≤ B) : ∀ j, j < (bump L i).length → 0 ≤ (bump L i).getD j 0 ∧ (bump L i).getD j 0 ≤ B + 1 := by
  intro j hj
  rw [bump_len] at hj
  have hj0 := h j hj
  unfold bump
  rw [List.getD_eq_getElem?_getD, List.getElem?_set]
  split
  · rename_i e
    subst e
    rw [if_pos hj]
    show 0 ≤ _ + 1 ∧ _ + 1 ≤ B + 1
    omega
  · rw [← List.getD_eq_getElem?_getD]; omega
theorem bumps_bd : ∀ (xs L : List Int) (B : Int), (∀ j, j < L.length → 0 ≤ L.getD j 0 ∧ L.getD j 0 ≤ B) → ∀ j, j < L.length → 0 ≤ (xs.foldl bump L).getD j 0 ∧ (xs.foldl bump L).getD j 0 ≤ B + xs.length := by
  intro xs
  induction xs with
  | nil => intro L B h j hj; have := h j hj; simpa using this
  | cons x r ih =>
    intro L B h j hj
    have := ih (bump L x) (B + 1) (bump_bd h) j (by rw [bump_len]; exact hj)
    rw [List.foldl_cons, List.length_cons]
    omega
theorem bump_step {order qs : List Int} {k : Nat} (hk : k < order.length) : (order.take (k + 1)).foldl bump qs = bump ((order.take k).foldl bump qs) (order.getD k 0) := by
  rw [List.take_add_one, List.foldl_append, List.getD_eq_getElem?_getD, List.getElem?_eq_getElem hk]; rfl

end Go.Proofs.YtlkkociijfdcgaaGreatDoor

/-
  A bill for a need.
-/
namespace Go.Proofs.YtlkkociijfdcgaaGreatDoor
open Go.RowKit Go.Maps

def sumOf (l : List Int) : Int := sumTo (fun k => l.getD k 0) l.length
def billE (f : FT) (l : List Int) (total : Int) : Int :=
  if casesErr f [l] ≠ 0 then casesErr f [l] else if total < 0 ∨ 1000000 < total then 2 else if sumOf l = 0 then 11 else 0
def BillPost (w : World) (f : FT) (l : List Int) (total : Int) (e : Ending) (w' : World) : Prop :=
  Below w.heap.size w w' ∧ ((billE f l total ≠ 0 ∧ e = .returned (.tuple #[.slice none 0 0, .int .i64 (billE f l total)])) ∨ (billE f l total = 0 ∧ ∃ g, e = .returned (.tuple #[.slice (some ⟨g, 0, none⟩) l.length l.length, .int .i64 0]) ∧ RowX w' g (billOf l (sumOf l) total)))

end Go.Proofs.YtlkkociijfdcgaaGreatDoor

/-
  The mathematics of a bill: as many sorts as its total, none below 0, its metal, how often a need can be taken from bills.
-/
namespace Go.Proofs.YtlkkociijfdcgaaGreatDoor
open Go.RowKit Go.Maps

theorem sumTo_nonneg {f : Nat → Int} : ∀ {n : Nat}, (∀ i, i < n → 0 ≤ f i) → 0 ≤ sumTo f n := by
  intro n
  induction n with
  | zero => intro _; exact Int.le_refl _
  | succ n ih => intro h; have := ih (fun i hi => h i (by omega)); have := h n (by omega); show 0 ≤ sumTo f n + f n; omega
theorem sumTo_le {f : Nat → Int} : ∀ {n : Nat}, (∀ i, i < n → 0 ≤ f i) → ∀ k, k < n → f k ≤ sumTo f n := by
  intro n
  induction n with
  | zero => intro _ k hk; omega
  | succ n ih =>
    intro h k hk
    show f k ≤ sumTo f n + f n
    have h0 := sumTo_nonneg (n := n) (fun i hi => h i (by omega))
    have h1 := h n (by omega)
    by_cases e : k = n
    · subst e; omega
    · have := ih (fun i hi => h i (by omega)) k (by omega); omega
theorem sumTo_one {f g : Nat → Int} {x : Nat} (hx : g x = f x + 1) (ho : ∀ i, i ≠ x → g i = f i) : ∀ n, sumTo g n = sumTo f n + if x < n then 1 else 0 := by
  intro n
  induction n with
  | zero => rfl
  | succ n ih =>
    show sumTo g n + g n = sumTo f n + f n + _
    rw [ih]
    by_cases e : x = n
    · subst e; rw [hx, if_neg (by omega), if_pos (by omega)]; omega
    · rw [ho n (fun h => e h.symm)]
      by_cases h2 : x < n
      · rw [if_pos h2, if_pos (by omega)]; omega
      · rw [if_neg h2, if_neg (by omega)]; omega
theorem sumOf_bump {L : List Int} {x : Nat} (hx : x < L.length) : sumOf (bump L (x : Int)) = sumOf L + 1 := by
  unfold sumOf
  rw [bump_len, sumTo_one (f := fun k => L.getD k 0) (x := x) ?_ ?_, if_pos hx]
  · show (bump L (x : Int)).getD x 0 = _
    rw [bump_nat, List.getD_eq_getElem?_getD, List.getElem?_set, if_pos rfl, if_pos hx]; rfl
  · intro i hi
    show (bump L (x : Int)).getD i 0 = _
    rw [bump_nat, List.getD_eq_getElem?_getD, List.getElem?_set, if_neg (fun h => hi h.symm), ← List.getD_eq_getElem?_getD]
theorem sumOf_bumps : ∀ (xs L : List Int), OkIdx xs L.length → sumOf (xs.foldl bump L) = sumOf L + xs.length := by
  intro xs
  induction xs with
  | nil => intro L _; simp
  | cons y r ih =>
    intro L h
    obtain ⟨x, hx, hxe⟩ := h 0 (by simp)
    have hy : y = (x : Int) := by simpa using hxe
    subst hy
    rw [List.foldl_cons, ih (bump L (x : Int)) (fun j hj => by rw [bump_len]; exact h (j + 1) (by simpa using hj)), sumOf_bump hx, List.length_cons]
    omega
theorem OkIdx.take_ {L : List Int} {n : Nat} (h : OkIdx L n) (m : Nat) : OkIdx (L.take m) n := fun j hj => by
  rw [List.length_take] at hj
  obtain ⟨x, hx, e⟩ := h j (by omega)
  refine ⟨x, hx, ?_⟩
  rw [← e, List.getD_eq_getElem?_getD, List.getElem?_take, if_pos (by omega), ← List.getD_eq_getElem?_getD]
theorem sumOf_tab (n : Nat) (fn : Nat → Int) : sumOf (tab n fn) = sumTo fn n := by
  unfold sumOf
  rw [tab_len]
  exact sumTo_congr (fun i hi => tab_at hi)

section
variable {l : List Int} {total : Int} {n : Nat}
theorem okc_nonneg (h : OkC n l) : ∀ i, i < l.length → 0 ≤ l.getD i 0 := fun i hi => (h.2 i (by have := h.1; omega)).1
theorem sumOf_pos (h : OkC n l) (h0 : sumOf l ≠ 0) : 0 < sumOf l := by
  have : 0 ≤ sumOf l := sumTo_nonneg (okc_nonneg h)
  omega
theorem quo_bd (h : OkC n l) (h0 : sumOf l ≠ 0) (ht : 0 ≤ total ∧ total ≤ 1000000) : ∀ j, j < l.length → 0 ≤ quoF l (sumOf l) total j ∧ quoF l (sumOf l) total j ≤ 1000000000000 := by
  intro j hj
  have hvi := h.2 j (by have := h.1; omega)
  have hs := sumOf_pos h h0
  have a1 : 0 ≤ total * l.getD j 0 := Int.mul_nonneg ht.1 hvi.1
  have a2 : total * l.getD j 0 ≤ 1000000 * 1000000 := Int.mul_le_mul ht.2 hvi.2 hvi.1 (by omega)
  have a3 : total * l.getD j 0 / sumOf l ≤ total * l.getD j 0 := Int.ediv_le_self _ a1
  have a4 : 0 ≤ total * l.getD j 0 / sumOf l := Int.ediv_nonneg a1 (by omega)
  unfold quoF; omega
theorem bill_len : (billOf l (sumOf l) total).length = l.length := by unfold billOf; rw [bumps_len, tab_len]
theorem bill_sum (h : OkC n l) (hn : 0 < n) (h0 : sumOf l ≠ 0) : sumOf (billOf l (sumOf l) total) = total := by
  have hs := sumOf_pos h h0
  have hl : 0 < l.length := by have := h.1; omega
  have hm := missing_bd (total := total) hs rfl hl
  have ho := order_ok (V := tab l.length (remF l (sumOf l) total)) (by rw [tab_len]; exact hl)
  rw [tab_len] at ho
  unfold billOf
  rw [sumOf_bumps _ _ (by rw [tab_len]; exact ho.1.take_ _), sumOf_tab, List.length_take, ho.2]
  unfold missingOf at hm ⊢
  omega
theorem bill_nonneg (h : OkC n l) (h0 : sumOf l ≠ 0) (ht : 0 ≤ total ∧ total ≤ 1000000) : ∀ j, j < l.length → 0 ≤ (billOf l (sumOf l) total).getD j 0 := by
  intro j hj
  exact (bumps_bd _ (tab l.length (quoF l (sumOf l) total)) 1000000000000 (fun i hi => by rw [tab_len] at hi; rw [tab_at hi]; exact quo_bd h h0 ht i hi) j (by rw [tab_len]; exact hj)).1
theorem bill_le (h : OkC n l) (hn : 0 < n) (h0 : sumOf l ≠ 0) (ht : 0 ≤ total ∧ total ≤ 1000000) : ∀ j, j < l.length → (billOf l (sumOf l) total).getD j 0 ≤ total := by
  intro j hj
  have := sumTo_le (f := fun k => (billOf l (sumOf l) total).getD k 0) (n := l.length) (fun i hi => bill_nonneg h h0 ht i hi) j hj
  have hs := bill_sum (total := total) h hn h0
  unfold sumOf at hs
  rw [show (billOf l (sumTo (fun k => l.getD k 0) l.length) total).length = l.length from bill_len] at hs
  have hs' : sumTo (fun k => (billOf l (sumOf l) total).getD k 0) l.length = total := hs
  rw [hs'] at this
  exact this
theorem bill_ok (h : OkC n l) (hn : 0 < n) (h0 : sumOf l ≠ 0) (ht : 0 ≤ total ∧ total ≤ 1000000) : OkC n (billOf l (sumOf l) total) := by
  refine ⟨bill_len.trans h.1, fun k hk => ?_⟩
  have h1 := bill_nonneg h h0 ht k (by have := h.1; omega)
  have h2 := bill_le h hn h0 ht k (by have := h.1; omega)
  omega
theorem metal_ge {f : FT} (hf : RightF f) (hk : OkC f.sorts.length l) : sumOf l ≤ metal f l := by
  have : ∀ k, k ≤ l.length → sumTo (fun k => l.getD k 0) k ≤ metalN f l k := by
    intro k
    induction k with
    | zero => intro _; exact Int.le_refl _
    | succ k ih =>
      intro hkl
      have h1 := ih (by omega)
      have h2 := hk.2 k (by have := hk.1; omega)
      obtain ⟨b1, b2, _, _, hw⟩ := hf
      obtain ⟨w1, w2, _⟩ := hw k (by have := hk.1; omega)
      show sumTo _ k + l.getD k 0 ≤ metalN f l k + l.getD k 0 * (f.sorts.getD k noTS).width * f.body
      have h3 : l.getD k 0 * 1 ≤ l.getD k 0 * (f.sorts.getD k noTS).width := Int.mul_le_mul_of_nonneg_left w1 h2.1
      have h4 : l.getD k 0 * (f.sorts.getD k noTS).width * 1 ≤ l.getD k 0 * (f.sorts.getD k noTS).width * f.body := Int.mul_le_mul_of_nonneg_left b1 (by omega)
      omega
  exact this l.length (Nat.le_refl _)
end

/-- From c times as many of each sort a need can be taken at least c times as often. -/
theorem timesN_mul {l1 l1' l2 : List Int} {c : Int} {n : Nat} (hc : 0 ≤ c) (h1 : ∀ j, j < n → 0 ≤ l1.getD j 0 ∧ l1.getD j 0 ≤ 1000000) (h2 : ∀ j, j < n → 0 ≤ l2.getD j 0) (h : ∀ j, j < n → l1'.getD j 0 = c * l1.getD j 0) : ∀ k, k ≤ n →
    ((timesN l1 l2 k).1 < 0 ∧ (timesN l1' l2 k).1 < 0 ∧ ∀ j, j < k → l2.getD j 0 = 0) ∨ (0 ≤ (timesN l1 l2 k).1 ∧ (timesN l1 l2 k).1 ≤ 1000000 ∧ (timesN l1 l2 k).1 * c ≤ (timesN l1' l2 k).1 ∧ 0 ≤ (timesN l1' l2 k).1) := by
  intro k
  induction k with
  | zero => intro _; exact .inl ⟨(by show (-1 : Int) < 0; decide), (by show (-1 : Int) < 0; decide), fun j hj => by omega⟩
  | succ k ih =>
    intro hk
    have hih := ih (by omega)
    by_cases hz : l2.getD k 0 = 0
    · rw [timesN_skip hz, timesN_skip hz]
      rcases hih with ⟨a1, a2, a3⟩ | hr
      · refine .inl ⟨a1, a2, fun j hj => ?_⟩
        by_cases e : j = k
        · subst e; exact hz
        · exact a3 j (by omega)
      · exact .inr hr
    · have hp : 0 < l2.getD k 0 := by have := h2 k (by omega); omega
      obtain ⟨u1, u2⟩ := h1 k (by omega)
      have q0 : 0 ≤ l1.getD k 0 / l2.getD k 0 := Int.ediv_nonneg u1 (by omega)
      have q1 : l1.getD k 0 / l2.getD k 0 ≤ 1000000 := Int.le_trans (Int.ediv_le_self _ u1) u2
      have q2 : l1.getD k 0 / l2.getD k 0 * c ≤ l1'.getD k 0 / l2.getD k 0 := by
        rw [h k (by omega)]
        apply (Int.le_ediv_iff_mul_le hp).2
        have a := Int.ediv_mul_le (l1.getD k 0) (by omega : l2.getD k 0 ≠ 0)
        have b := Int.mul_le_mul_of_nonneg_left a hc
        have e : l1.getD k 0 / l2.getD k 0 * c * l2.getD k 0 = c * (l1.getD k 0 / l2.getD k 0 * l2.getD k 0) := by
          rw [Int.mul_comm _ c, Int.mul_assoc]
        rw [e]; exact b
      have q3 : 0 ≤ l1.getD k 0 / l2.getD k 0 * c := Int.mul_nonneg q0 hc
      right
      by_cases g : (timesN l1 l2 k).1 < 0 ∨ l1.getD k 0 / l2.getD k 0 < (timesN l1 l2 k).1 <;> by_cases g' : (timesN l1' l2 k).1 < 0 ∨ l1'.getD k 0 / l2.getD k 0 < (timesN l1' l2 k).1
      · rw [timesN_new hz g, timesN_new hz g']; exact ⟨q0, q1, q2, by show 0 ≤ _ / _; omega⟩
      · rw [timesN_new hz g, timesN_keep hz g']
        refine ⟨q0, q1, ?_, by omega⟩
        show l1.getD k 0 / l2.getD k 0 * c ≤ (timesN l1' l2 k).1
        rcases hih with ⟨a1, a2, _⟩ | ⟨a1, _, a2, a3⟩
        · omega
        · rcases g with g | g
          · omega
          · have := Int.mul_le_mul_of_nonneg_right (Int.le_of_lt g) hc
            omega
      · rw [timesN_keep hz g, timesN_new hz g']
        rcases hih with ⟨a1, a2, _⟩ | ⟨a1, a4, a2, a3⟩
        · omega
        · have := Int.mul_le_mul_of_nonneg_right (show (timesN l1 l2 k).1 ≤ l1.getD k 0 / l2.getD k 0 by omega) hc
          exact ⟨a1, a4, by show _ ≤ l1'.getD k 0 / l2.getD k 0; omega, by show 0 ≤ l1'.getD k 0 / l2.getD k 0; omega⟩
      · rw [timesN_keep hz g, timesN_keep hz g']
        rcases hih with ⟨a1, a2, _⟩ | hr
        · omega
        · exact hr
theorem times_ok {l1 l2 : List Int} {n : Nat} (h : 0 ≤ (timesN l1 l2 n).1) : timesR l1 l2 n = ((timesN l1 l2 n).1, (timesN l1 l2 n).2, 0) := by
  unfold timesR; rw [if_neg (by omega)]
end Go.Proofs.YtlkkociijfdcgaaGreatDoor

/-
  The law on bills and casting: its walk.
-/
namespace Go.Proofs.YtlkkociijfdcgaaGreatDoor
open Go.RowKit Go.Maps

theorem within_yes {n lo hi : Int} {w : World} (h1 : lo ≤ n) (h2 : n ≤ hi) :
    Calls Tryz.prog 76 #[.int .i64 n, .int .i64 lo, .int .i64 hi] w fun e w' => e = .returned (.bool true) ∧ w = w' := by
  have h := within_any n lo hi w
  rw [show inB n lo hi = true from decide_eq_true ⟨h1, h2⟩] at h
  exact h
theorem within_no {n lo hi : Int} {w : World} (h1 : ¬ (lo ≤ n ∧ n ≤ hi)) :
    Calls Tryz.prog 76 #[.int .i64 n, .int .i64 lo, .int .i64 hi] w fun e w' => e = .returned (.bool false) ∧ w = w' := by
  have h := within_any n lo hi w
  rw [show inB n lo hi = false from decide_eq_false h1] at h
  exact h
theorem few_len {f : FT} (h : fewB f = true) (hf : RightF f) : f.sorts.length ≤ 10 := by
  unfold fewB at h
  have h1 : decide (20 < f.name.size ∨ (10 < f.sorts.length ∧ f.sorts.length ≤ 120) ∨ 123 < f.sorts.length) = false := by
    cases e : decide (20 < f.name.size ∨ (10 < f.sorts.length ∧ f.sorts.length ≤ 120) ∨ 123 < f.sorts.length)
    · rfl
    · rw [e] at h; simp at h
  have h2 := of_decide_eq_false h1
  have h3 := hf.2.2.2.1
  omega

theorem tab_congr {n : Nat} {f g : Nat → Int} (h : ∀ j, j < n → f j = g j) : tab n f = tab n g :=
  list_eq (by rw [tab_len, tab_len]) (fun j hj => by rw [tab_len] at hj; rw [tab_at hj, tab_at hj, h j hj])

end Go.Proofs.YtlkkociijfdcgaaGreatDoor
