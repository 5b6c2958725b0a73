/-
  Package impose: joined.
-/
import Derived.Test.YtgoandhlcekmiaaGreatDoorKS
import Derived.Test.YtgoandhlcekmiaaGreatDoorKE
import Derived.Test.YtgoandhlcekmiaaGreatDoorKR
namespace Go.Proofs.YtgoandhlcekmiaaGreatDoor
open Go.RowKit

/-- The numerals that are written so far, and nothing behind them. -/
def numsTo (L : List Int) (k : Nat) : List Value := (L.map fun v => Value.string (bs (Lib.itoa v))).take k ++ List.replicate (L.length - k) (.string ⟨#[]⟩)
theorem numsTo_len (L : List Int) {k : Nat} (hk : k ≤ L.length) : (numsTo L k).length = L.length := by
  unfold numsTo
  rw [List.length_append, List.length_take, List.length_map, List.length_replicate]; omega
theorem numsTo_zero (L : List Int) : (numsTo L 0).toArray = madeCells #[Value.string ⟨#[]⟩] (L.length * 1) := by
  apply Array.ext'
  simp [madeCells, numsTo, Nat.mod_one]
  apply List.ext_getElem
  · simp
  · intro i h1 h2; simp
theorem numsTo_set (L : List Int) {k : Nat} (hk : k < L.length) : (numsTo L k).set k (.string (bs (Lib.itoa L[k]))) = numsTo L (k + 1) := by
  unfold numsTo
  have hl : ((L.map fun v => Value.string (bs (Lib.itoa v))).take k).length = k := by rw [List.length_take, List.length_map]; omega
  have hm : k < (L.map fun v => Value.string (bs (Lib.itoa v))).length := by rw [List.length_map]; exact hk
  rw [List.set_append_right k _ (by omega), hl, Nat.sub_self, show L.length - k = (L.length - (k + 1)) + 1 by omega, List.replicate_succ, List.set_cons_zero, List.take_succ_eq_append_getElem hm, List.append_assoc, List.getElem_map]
  rfl
theorem numsTo_end (L : List Int) : numsTo L L.length = L.map fun v => Value.string (bs (Lib.itoa v)) := by
  unfold numsTo
  rw [Nat.sub_self, List.take_of_length_le (by rw [List.length_map]; exact Nat.le_refl _)]
  simp
theorem joinN_len (s : UInt8) : ∀ {L : List (List UInt8)}, (∀ x ∈ L, x.length ≤ 22) → (Lib.join L [s]).length ≤ 23 * L.length
  | [], _ => by simp [Lib.join]
  | [x], h => by rw [join_one]; have := h x List.mem_cons_self; simp; omega
  | x :: y :: r, h => by
    have h1 := joinN_len s (L := y :: r) fun z hz => h z (List.mem_cons_of_mem _ hz)
    have h2 := h x List.mem_cons_self
    rw [join_cons]
    simp only [List.length_append, List.length_cons, List.length_nil] at h1 ⊢
    omega
theorem info_strN : (Tryz.prog.info? 9).map (fun i => (i.zero, i.size, i.bytes)) = some (some (.string ⟨#[]⟩), 1, 16) := by kernel_rfl
theorem joinN_any (g : Nat) (L : List Int) (s : UInt8) (w : World) (bx : BoxAt w g (L.map fun v => Value.string (bs (Lib.itoa v))).toArray 9) (hl : L.length ≤ 20) (hc : ∀ v ∈ L, OkI v) :
    Calls Tryz.prog 38 #[.slice (some ⟨g, 0, none⟩) L.length L.length, .string ⟨#[s]⟩] w (StrPost w (Lib.join (L.map Lib.itoa) [s])) := by
  have h1 : ((L.map fun v => bs (Lib.itoa v)).map (·.data.toList)) = L.map Lib.itoa := by
    rw [List.map_map]; try rfl
  have h2 : (Lib.join (L.map Lib.itoa) [s]).length ≤ 23 * L.length := by
    have := joinN_len s (L := L.map Lib.itoa) fun x hx => by
      obtain ⟨v, hv, rfl⟩ := List.mem_map.1 hx
      have := itoa_len21 (hc v hv); omega
    rwa [List.length_map] at this
  have h := Tryz.strings_Join g 0 L.length (L.map fun v => bs (Lib.itoa v)) ⟨#[s]⟩ w (fun j x hx => by
    have := bx.cell j
    rw [Nat.zero_add, this]
    rw [List.getElem?_map] at hx
    obtain ⟨f, hf, rfl⟩ := Option.map_eq_some_iff.1 hx
    simp [hf]) bx.lt (by rw [List.length_map]; omega) (by rw [List.length_map]; exact Nat.le_refl _) (by
      rw [h1]
      show (Lib.join (L.map Lib.itoa) [s]).length ≤ _
      omega)
  rw [h1, List.length_map] at h
  exact h.mono fun e w' he => he
set_option maxRecDepth 100000 in
set_option maxHeartbeats 4000000 in
theorem joined_any (s : UInt8) (a : Option Addr) (L : List Int) (n c : Nat) (w : World) (hn : n = L.length) (hL : RowsAt 1 intL w a L) (hl : n ≤ 20) (hc : ∀ v ∈ L, OkI v) (hP : WF w) :
    Calls Tryz.prog 30 #[.string ⟨#[s]⟩, .slice a n c] w (StrPost w (Lib.join (L.map Lib.itoa) [s])) := by
  have hmk := fun W => run_make_rowX Tryz.underlying99 info_strN .i64 .i64 n (by omega) (by omega) W
  obtain ⟨g, hg⟩ : ∃ g, w.heap.size = g := ⟨_, rfl⟩
  have HN := Lib.hid hn; have HC := Lib.hid hc
  have bx0 : BoxAt (w.alloc (.cells (madeCells #[Value.string ⟨#[]⟩] (n * 1)) 9)) g (numsTo L 0).toArray 9 := by
    rw [numsTo_zero, ← hn, ← hg]; exact BoxAt.new _ _ _
  have hb0 := (Below.refl w.heap.size w).alloc (Nat.le_refl _) (.cells (madeCells #[Value.string ⟨#[]⟩] (n * 1)) 9)
  rw [Nat.mul_one] at bx0 hb0
  have HG := Lib.hid hg
  have hgw : w.heap.size ≤ g := by omega
  clear hn hc
  go_enter Tryz.func30, Tryz.ntmps30
  go_wp2_with fail
  go_loopw [13] (fun i wr => ∃ k : Nat, k ≤ n ∧ i = .int .i64 k ∧ BoxAt wr g (numsTo L k).toArray 9 ∧ Below w.heap.size w wr) (fun i _ => n - (intOf i).toNat)
  case atStart => exact ⟨0, Nat.zero_le _, rfl, bx0, hb0⟩
  case round =>
    obtain ⟨k, hk, rfl, bx, hB⟩ := hrel
    clear bx0 hb0
    have hfr := bx.free
    have hlt0 := bx.lt
    by_cases hlt : k < n
    · have hkL : k < L.length := by have := HN.out; omega
      obtain ⟨ad, rfl, had, s0⟩ := (hL.below hB).int hkL
      obtain ⟨x, ex⟩ : ∃ x, x = L[k] := ⟨_, rfl⟩
      have hxi := HC.out L[k] (List.getElem_mem hkL)
      rw [← ex] at s0 hxi
      have hkn : (k : Int) < (n : Int) := by omega
      have hcI : (numsTo L k).toArray.size = n := by
        have := HN.out
        have h2 := numsTo_len L (k := k) (by omega)
        rw [List.size_toArray, h2]; omega
      have HX : Hid ((numsTo L k).toArray.setIfInBounds k (.string (bs (Lib.itoa x))) = (numsTo L (k + 1)).toArray) := Lib.hid (by rw [ex, ← numsTo_set L hkL]; simp)
      obtain ⟨cs, hcs⟩ : ∃ cs, cs = (numsTo L k).toArray := ⟨_, rfl⟩
      rw [← hcs] at bx HX hcI
      have hwf := hP.below hB
      clear hcs ex
      go_wp2_with fail
      refine (itoaB_any x hxi _ hwf).mono ?_
      rintro e w2 ⟨rfl, hb2⟩
      have bx2 := bx.below hb2
      have f2 := bx2.free
      have c2 := bx2.cell k
      have hlt2 := bx2.lt
      rw [Array.getElem?_eq_getElem (by omega)] at c2
      go_wp2
      go_roundw
      case rel => exact ⟨k + 1, by omega, by go_num, by have := bx2.set k (.string (bs (Lib.itoa x))); rw [HX.out] at this; exact this, (hB.trans (hb2.mono (B' := w.heap.size) hB.size)).setCell (by omega) _⟩
      case measure => simp [intOf]; omega
    · have hkn : ¬ (k : Int) < (n : Int) := by omega
      have hkL : k = L.length := by have := HN.out; omega
      have HE := Lib.hid (show (numsTo L k).toArray = (L.map fun v => Value.string (bs (Lib.itoa v))).toArray by rw [hkL, numsTo_end])
      rw [HE.out] at bx
      have HJ := Lib.hid (joinN_any g L s wr bx (by have := HN.out; omega) HC.out)
      rw [← HN.out] at HJ
      go_wp2_with (go_at_call 38; refine HJ.out.mono ?_; rintro e w2 ⟨rfl, hb2⟩)
      go_ret
      exact ⟨rfl, hB.trans (hb2.mono (B' := w.heap.size) hB.size)⟩
end Go.Proofs.YtgoandhlcekmiaaGreatDoor

namespace Go.Proofs.YtgoandhlcekmiaaGreatDoor

def cellT (x : Cell) : List UInt8 := Lib.join [Lib.itoa x.f, Lib.itoa x.ft, Lib.itoa x.b, Lib.itoa x.bt] [47]
def cellsT (C : Nat) : Nat → List Cell → List UInt8
  | _, [] => []
  | i, x :: r => cellT x ++ (if (i + 1) % C = 0 then [10] else [32]) ++ cellsT C (i + 1) r
def headT (C R : Int) : List UInt8 := Lib.join [Lib.itoa C, Lib.itoa R] [32]
def printT (C R : Nat) (l : List Cell) : List UInt8 := headT C R ++ [10] ++ cellsT C 0 l
/-- All numbers of some words. -/
def numsI : List (List UInt8) → Option (List Int)
  | [] => some []
  | t :: r => match numI t 4 with
    | none => none
    | some v => (numsI r).map (v :: ·)
/-- So many numbers with a byte between each two. -/
def numsM (m : UInt8) (n : Nat) (t : List UInt8) : Option (List Int) := if (splitOn m t).length = n then numsI (splitOn m t) else none
def cellR (t : List UInt8) : Option Cell := match numsM 47 4 t with
  | some [a, b, c, d] => some ⟨a, b, c, d⟩
  | _ => none
def cellsR : List (List UInt8) → Option (List Cell)
  | [] => some []
  | t :: r => match cellR t with
    | none => none
    | some x => (cellsR r).map (x :: ·)
/-- Lines with their number: the first that is wrong, or the cells, and whether each line has so many. -/
def linesR (C : Int) : Nat → List Cell → Bool → List (List UInt8) → Nat ⊕ (List Cell × Bool)
  | _, acc, fits, [] => .inr (acc, fits)
  | i, acc, fits, t :: r => match cellsR (splitOn 32 t) with
    | none => .inl i
    | some cs => linesR C (i + 1) (acc ++ cs) (fits && decide (((splitOn 32 t).length : Int) = C)) r

theorem numsI_itoa : ∀ {L : List Int}, (∀ v ∈ L, v.natAbs < 10000) → numsI (L.map Lib.itoa) = some L
  | [], _ => rfl
  | v :: r, h => by
    show (match numI (Lib.itoa v) 4 with | none => none | some v => (numsI (r.map Lib.itoa)).map (v :: ·)) = _
    rw [numI_itoa (itoa_len (k := 3) (h v List.mem_cons_self)), numsI_itoa fun u hu => h u (List.mem_cons_of_mem _ hu)]
    rfl
theorem itoa_digits (v : Int) : ∀ b ∈ Lib.itoa v, b = 45 ∨ 48 ≤ b.toNat := by
  intro b hb
  have hd : ∀ b ∈ Lib.decDigits v.natAbs, 48 ≤ b.toNat := fun b hb => by
    obtain ⟨d, h⟩ := dg_digit b hb
    have := (dig_inv h).2.2
    omega
  have ht := (trim_itoa v).1
  unfold trimM at ht
  split at ht
  · rename_i h45
    cases hi : Lib.itoa v with
    | nil => rw [hi] at hb; exact absurd hb List.not_mem_nil
    | cons a r =>
      rw [hi] at hb ht h45
      rcases List.mem_cons.1 hb with rfl | hb
      · exact Or.inl h45
      · exact Or.inr (hd b (by rw [← ht]; exact hb))
  · exact Or.inr (hd b (by rw [← ht]; exact hb))
theorem itoa_no {m : UInt8} (h1 : m ≠ 45) (h2 : m.toNat < 48) (v : Int) : ∀ b ∈ Lib.itoa v, b ≠ m := fun b hb e => by
  subst e
  rcases itoa_digits v b hb with h | h
  · exact h1 h
  · omega
theorem join_no {m : UInt8} {s : UInt8} (hs : s ≠ m) : ∀ {L : List (List UInt8)}, (∀ x ∈ L, ∀ b ∈ x, b ≠ m) → ∀ b ∈ Lib.join L [s], b ≠ m
  | [], _ => fun b hb => absurd hb (by simp [Lib.join])
  | [x], h => by rw [join_one]; exact h x List.mem_cons_self
  | x :: y :: r, h => by
    rw [join_cons]
    intro b hb
    rcases List.mem_append.1 hb with hb | hb
    · rcases List.mem_append.1 hb with hb | hb
      · exact h x List.mem_cons_self b hb
      · rw [List.mem_singleton.1 hb]; exact hs
    · exact join_no hs (fun z hz => h z (List.mem_cons_of_mem _ hz)) b hb
theorem cellT_no {m : UInt8} (h1 : m ≠ 45) (h2 : m.toNat < 48) (h3 : (47 : UInt8) ≠ m) (x : Cell) : ∀ b ∈ cellT x, b ≠ m :=
  join_no h3 (by
    intro t ht
    simp only [List.mem_cons, List.not_mem_nil, or_false] at ht
    rcases ht with rfl | rfl | rfl | rfl <;> exact itoa_no h1 h2 _)
def CellSm (x : Cell) : Prop := x.f.natAbs < 10000 ∧ x.ft.natAbs < 10000 ∧ x.b.natAbs < 10000 ∧ x.bt.natAbs < 10000
theorem cellR_cellT {x : Cell} (h : CellSm x) : cellR (cellT x) = some x := by
  have hs : splitOn 47 (cellT x) = [x.f, x.ft, x.b, x.bt].map Lib.itoa := split_join (by simp) (by
    intro t ht
    simp only [List.mem_cons, List.not_mem_nil, or_false] at ht
    rcases ht with rfl | rfl | rfl | rfl <;> exact itoa_no (by decide) (by decide) _)
  unfold cellR numsM
  rw [hs, if_pos (by rfl), numsI_itoa (by
    obtain ⟨a, b, c, d⟩ := h
    intro v hv
    simp only [List.mem_cons, List.not_mem_nil, or_false] at hv
    rcases hv with rfl | rfl | rfl | rfl <;> assumption)]
theorem cellsR_cellsT : ∀ {L : List Cell}, (∀ x ∈ L, CellSm x) → cellsR (L.map cellT) = some L
  | [], _ => rfl
  | x :: r, h => by
    show (match cellR (cellT x) with | none => none | some x => (cellsR (r.map cellT)).map (x :: ·)) = _
    rw [cellR_cellT (h x List.mem_cons_self), cellsR_cellsT fun y hy => h y (List.mem_cons_of_mem _ hy)]
    rfl
theorem head_read {C R : Int} (h1 : C.natAbs < 10000) (h2 : R.natAbs < 10000) : numsM 32 2 (headT C R) = some [C, R] := by
  have hs : splitOn 32 (headT C R) = [C, R].map Lib.itoa := split_join (by simp) (by
    intro t ht
    simp only [List.mem_cons, List.not_mem_nil, or_false] at ht
    rcases ht with rfl | rfl <;> exact itoa_no (by decide) (by decide) _)
  unfold numsM
  rw [hs, if_pos (by rfl), numsI_itoa (by
    intro v hv
    simp only [List.mem_cons, List.not_mem_nil, or_false] at hv
    rcases hv with rfl | rfl <;> assumption)]
/-- A line of cells. -/
def rowT (l : List Cell) : List UInt8 := Lib.join (l.map cellT) [32]
theorem cellsT_row {C : Nat} : ∀ (xs : List Cell) (i : Nat) (rest : List Cell), xs ≠ [] → i % C + xs.length = C → cellsT C i (xs ++ rest) = rowT xs ++ [10] ++ cellsT C (i + xs.length) rest
  | [], _, _, h, _ => absurd rfl h
  | [x], i, rest, _, h => by
    have h1 : (i + 1) % C = 0 := by
      have h : i % C + 1 = C := h
      rw [Nat.add_mod]
      rcases Nat.lt_or_ge 1 C with hc | hc
      · rw [Nat.mod_eq_of_lt hc, h, Nat.mod_self]
      · have : C = 1 := by omega
        rw [this]; omega
    show cellT x ++ (if (i + 1) % C = 0 then [10] else [32]) ++ cellsT C (i + 1) rest = _
    rw [if_pos h1]
    unfold rowT
    rw [List.map_cons, List.map_nil, join_one]
    rfl
  | x :: y :: r, i, rest, _, h => by
    have hl : (x :: y :: r).length = (y :: r).length + 1 := rfl
    rw [hl] at h
    have hp : 1 ≤ (y :: r).length := by rw [List.length_cons]; omega
    have hC : 1 < C := by omega
    have h2 : (i + 1) % C = i % C + 1 := by
      rw [Nat.add_mod, Nat.mod_eq_of_lt hC]
      exact Nat.mod_eq_of_lt (by have h3 := h; generalize i % C = q at h3 ⊢; omega)
    have ih := cellsT_row (C := C) (y :: r) (i + 1) rest (by simp) (by rw [h2]; omega)
    show cellT x ++ (if (i + 1) % C = 0 then [10] else [32]) ++ cellsT C (i + 1) ((y :: r) ++ rest) = _
    rw [if_neg (show ¬ (i + 1) % C = 0 by rw [h2]; exact Nat.succ_ne_zero _), ih]
    have e : rowT (x :: y :: r) = cellT x ++ [32] ++ rowT (y :: r) := by
      unfold rowT
      rw [List.map_cons, List.map_cons, join_cons]
    rw [e, hl, show i + ((y :: r).length + 1) = i + 1 + (y :: r).length by omega]
    simp
def rowsT (C : Nat) : Nat → List Cell → List (List Cell)
  | 0, _ => []
  | n + 1, l => l.take C :: rowsT C n (l.drop C)
theorem rowsT_len (C : Nat) : ∀ (n : Nat) (l : List Cell), (rowsT C n l).length = n
  | 0, _ => rfl
  | n + 1, l => by show (rowsT C n (l.drop C)).length + 1 = _; rw [rowsT_len C n]
theorem mul_succ' (C n : Nat) : C * (n + 1) = C + C * n := by rw [Nat.mul_succ]; omega
theorem rowsT_flat (C : Nat) : ∀ (n : Nat) (l : List Cell), l.length = C * n → (rowsT C n l).flatten = l
  | 0, l, h => by
    have : l = [] := List.length_eq_zero_iff.1 (by rw [h]; simp)
    rw [this]; try rfl
  | n + 1, l, h => by
    rw [mul_succ'] at h
    show l.take C ++ (rowsT C n (l.drop C)).flatten = l
    rw [rowsT_flat C n _ (by rw [List.length_drop]; omega), List.take_append_drop]
theorem rowsT_each (C : Nat) : ∀ (n : Nat) (l : List Cell), l.length = C * n → ∀ r ∈ rowsT C n l, r.length = C ∧ ∀ x ∈ r, x ∈ l
  | 0, _, _ => fun r hr => absurd hr List.not_mem_nil
  | n + 1, l, h => fun r hr => by
    rw [mul_succ'] at h
    rcases List.mem_cons.1 hr with rfl | hr
    · exact ⟨by rw [List.length_take]; omega, fun x hx => List.mem_of_mem_take hx⟩
    · obtain ⟨h1, h2⟩ := rowsT_each C n (l.drop C) (by rw [List.length_drop]; omega) r hr
      exact ⟨h1, fun x hx => List.mem_of_mem_drop (h2 x hx)⟩
theorem row_no (r : List Cell) : ∀ b ∈ rowT r, b ≠ 10 := join_no (by decide) (by
  intro t ht
  obtain ⟨x, -, rfl⟩ := List.mem_map.1 ht
  exact cellT_no (by decide) (by decide) (by decide) x)
theorem split_rows {C : Nat} (hC : 0 < C) : ∀ (n i : Nat) (l : List Cell), l.length = C * n → i % C = 0 → splitOn 10 (cellsT C i l) = (rowsT C n l).map rowT ++ [[]]
  | 0, i, l, h, _ => by
    have : l = [] := List.length_eq_zero_iff.1 (by rw [h]; simp)
    rw [this]; try rfl
  | n + 1, i, l, h, hi => by
    rw [mul_succ'] at h
    have hne : l.take C ≠ [] := fun e => by
      have := congrArg List.length e
      rw [List.length_take, List.length_nil] at this
      omega
    have hlt : (l.take C).length = C := by rw [List.length_take]; omega
    have e := cellsT_row (C := C) (l.take C) i (l.drop C) hne (by rw [hlt, hi]; omega)
    rw [List.take_append_drop] at e
    rw [e, hlt, List.append_assoc, List.singleton_append, split_app (row_no _), split_rows hC n (i + C) (l.drop C) (by rw [List.length_drop]; omega) (by rw [Nat.add_mod_right]; exact hi)]
    rfl
/-- The lines of what is written. -/
theorem split_print {C R : Nat} (hC : 0 < C) {l : List Cell} (hl : l.length = C * R) : splitOn 10 (printT C R l) = headT C R :: ((rowsT C R l).map rowT ++ [[]]) := by
  unfold printT
  have hh : ∀ b ∈ headT C R, b ≠ 10 := join_no (by decide) (by
    intro t ht
    simp only [List.mem_cons, List.not_mem_nil, or_false] at ht
    rcases ht with rfl | rfl <;> exact itoa_no (by decide) (by decide) _)
  rw [List.append_assoc, List.singleton_append, split_app hh, split_rows hC R 0 l hl (Nat.zero_mod C)]
theorem row_split {r : List Cell} (h : r ≠ []) : splitOn 32 (rowT r) = r.map cellT := split_join (by simpa using h) (by
  intro t ht
  obtain ⟨x, -, rfl⟩ := List.mem_map.1 ht
  exact cellT_no (by decide) (by decide) (by decide) x)
theorem lines_rows {C : Nat} (hC : 0 < C) : ∀ (rows : List (List Cell)) (i : Nat) (acc : List Cell), (∀ r ∈ rows, r.length = C ∧ ∀ x ∈ r, CellSm x) → linesR C i acc true (rows.map rowT) = .inr (acc ++ rows.flatten, true)
  | [], i, acc, _ => by
    show Sum.inr (acc, true) = _
    rw [List.flatten_nil, List.append_nil]
  | r :: rs, i, acc, h => by
    obtain ⟨h1, h2⟩ := h r List.mem_cons_self
    have hne : r ≠ [] := fun e => by rw [e] at h1; simp at h1; omega
    show (match cellsR (splitOn 32 (rowT r)) with | none => Sum.inl i | some cs => linesR C (i + 1) (acc ++ cs) (true && decide (((splitOn 32 (rowT r)).length : Int) = C)) (rs.map rowT)) = _
    rw [row_split hne, cellsR_cellsT h2, List.length_map, h1]
    show linesR C (i + 1) (acc ++ r) (true && decide ((C : Int) = C)) (rs.map rowT) = _
    rw [decide_eq_true rfl, Bool.true_and, lines_rows hC rs (i + 1) (acc ++ r) fun q hq => h q (List.mem_cons_of_mem _ hq)]
    simp
end Go.Proofs.YtgoandhlcekmiaaGreatDoor

namespace Go.Proofs.YtgoandhlcekmiaaGreatDoor
open Go.RowKit

theorem numsI_stop : ∀ {L : List (List UInt8)} {k : Nat}, (hk : k < L.length) → numI L[k] 4 = none → numsI (L.drop k) = none := by
  intro L k hk h
  rw [List.drop_eq_getElem_cons hk]
  show (match numI L[k] 4 with | none => none | some v => (numsI (L.drop (k + 1))).map (v :: ·)) = none
  rw [h]
theorem numsI_go {L : List (List UInt8)} {k : Nat} {v : Int} {D : List Int} (hk : k < L.length) (h : numI L[k] 4 = some v) : (numsI (L.drop k)).map (D ++ ·) = (numsI (L.drop (k + 1))).map ((D ++ [v]) ++ ·) := by
  have e : numsI (L.drop k) = (numsI (L.drop (k + 1))).map (v :: ·) := by
    rw [List.drop_eq_getElem_cons hk]
    show (match numI L[k] 4 with | none => none | some v => (numsI (L.drop (k + 1))).map (v :: ·)) = _
    rw [h]
  rw [e, Option.map_map]
  cases numsI (L.drop (k + 1)) with
  | none => rfl
  | some l => simp
theorem numsI_end {L : List (List UInt8)} {k : Nat} {D : List Int} (hk : L.length ≤ k) (h : numsI L = (numsI (L.drop k)).map (D ++ ·)) : numsI L = some D := by
  rw [h, List.drop_of_length_le hk]; simp [numsI]
theorem numsI_len : ∀ {X : List (List UInt8)} {L : List Int}, numsI X = some L → L.length = X.length
  | [], L, h => by cases h; rfl
  | t :: r, L, h => by
    have h : (match numI t 4 with | none => none | some v => (numsI r).map (v :: ·)) = some L := h
    cases hr : numI t 4 with
    | none => rw [hr] at h; cases h
    | some f =>
      rw [hr] at h
      obtain ⟨M, hM, rfl⟩ := Option.map_eq_some_iff.1 h
      rw [List.length_cons, numsI_len hM]; try rfl
/-- Numbers of the call's own, if all words are numbers and there are so many. -/
def NumsPost (w : World) (o : Option (List Int)) (e : Ending) (w' : World) : Prop :=
  ∃ (a : Option Addr) (n c : Nat) (D : List Int), e = .returned (.tuple #[.slice a n c, .bool o.isSome]) ∧ (∀ l, o = some l → D = l) ∧ n = D.length ∧ RowsAt 1 intL w' a D ∧ (a = none → c = 0) ∧ Below w.heap.size w w'
/-- The same, and where the numbers lie. -/
def NumsPostO (w : World) (o : Option (List Int)) (e : Ending) (w' : World) : Prop :=
  ∃ (a : Option Addr) (n c : Nat) (D : List Int), e = .returned (.tuple #[.slice a n c, .bool o.isSome]) ∧ (∀ l, o = some l → D = l) ∧ n = D.length ∧ RowsAt 1 intL w' a D ∧ (a = none → c = 0) ∧ (∀ ad, a = some ad → w.heap.size ≤ ad.block) ∧ Below w.heap.size w w'
def numsO (ws : List (List UInt8)) (m : Nat) : Option (List Int) := if ws.length = m then numsI ws else none
end Go.Proofs.YtgoandhlcekmiaaGreatDoor

namespace Go.Proofs.YtgoandhlcekmiaaGreatDoor
open Go.RowKit

theorem leSum : ∀ {l : List Nat} {x : Nat}, x ∈ l → x ≤ l.sum
  | [], _, h => absurd h List.not_mem_nil
  | a :: r, x, h => by
    rw [List.sum_cons]
    rcases List.mem_cons.1 h with rfl | h
    · omega
    · have := leSum h; omega
theorem countB_one (s : ByteArray) (m : UInt8) : Lib.countB s ⟨#[m]⟩ = Lib.count s.data.toList [m] := rfl
theorem rows_box1 {w : World} {b : Nat} {D : List Int} {T : TypeId} (h : BoxAt w b (vals D).toArray T) : RowsAt 1 intL w (some ⟨b, 0, none⟩) D := fun k hk => by
  refine ⟨_, rfl, h.lt, fun j hj => ?_⟩
  obtain rfl : j = 0 := by omega
  rw [Nat.mul_one, add0, fld_own, h.cell]
  rw [List.getElem?_toArray, Nat.add_zero, vals_at hk]
  rfl
/-- The numbers that are read so far, and zeros behind them. -/
def intsTo (D : List Int) (n : Nat) : List Value := vals D ++ List.replicate (n - D.length) (.int .i64 0)
theorem intsTo_len (D : List Int) {n : Nat} (h : D.length ≤ n) : (intsTo D n).length = n := by
  unfold intsTo vals
  rw [List.length_append, List.length_map, List.length_replicate]; omega
theorem intsTo_zero (n : Nat) : (intsTo [] n).toArray = madeCells #[Value.int .i64 0] (n * 1) := by
  apply Array.ext'
  simp [madeCells, intsTo, vals, Nat.mod_one]
  apply List.ext_getElem
  · simp
  · intro i h1 h2; simp
theorem intsTo_set (D : List Int) {n : Nat} (v : Int) (h : D.length < n) : (intsTo D n).set D.length (.int .i64 v) = intsTo (D ++ [v]) n := by
  unfold intsTo
  have hl : (vals D).length = D.length := by unfold vals; rw [List.length_map]
  rw [List.set_append_right _ _ (by omega), hl, Nat.sub_self, show n - D.length = (n - (D.length + 1)) + 1 by omega, List.replicate_succ, List.set_cons_zero, vals_app, List.length_append, List.append_assoc]
  rfl
theorem intsTo_end (D : List Int) : intsTo D D.length = vals D := by
  unfold intsTo
  rw [Nat.sub_self]; simp
theorem info_intN : (Tryz.prog.info? 3).map (fun i => (i.zero, i.size, i.bytes)) = some (some (.int .i64 0), 1, 8) := by kernel_rfl
set_option maxRecDepth 100000 in
set_option maxHeartbeats 4000000 in
theorem numbersOf_any (s : ByteArray) (m : UInt8) (q : Nat) (w : World) (hs : s.size ≤ 1000000) (hq : q ≤ 10) (hP : WF w) :
    Calls Tryz.prog 65 #[.string s, .string ⟨#[m]⟩, .int .i64 (q : Int)] w (NumsPost w (numsM m q s.data.toList)) := by
  obtain ⟨mm, hm⟩ := hP.m
  have hsp := Tryz.strings_Split s ⟨#[m]⟩ mm w (by omega) hm (Nat.le_refl 1)
  obtain ⟨P, hPP⟩ : ∃ P, P = Lib.splitB ⟨#[m]⟩ 0 (Lib.countB s ⟨#[m]⟩) s := ⟨_, rfl⟩
  have hws := splitB_one m s
  rw [← hPP] at hws hsp
  obtain ⟨ws, ews⟩ : ∃ ws, ws = splitOn m s.data.toList := ⟨_, rfl⟩
  have hwc : ws.length = Lib.countB s ⟨#[m]⟩ + 1 := by rw [ews, splitOn_count, countB_one]
  rw [← ews] at hws
  have hPl : P.length = ws.length := by rw [← hws, List.length_map]
  obtain ⟨n, hn⟩ : ∃ n, n = Lib.countB s ⟨#[m]⟩ + 1 := ⟨_, rfl⟩
  rw [← hn] at hwc hsp
  obtain ⟨o, ho⟩ : ∃ o, o = numsM m q s.data.toList := ⟨_, rfl⟩
  have hon : o = numsO ws q := by rw [ho, ews]; try rfl
  rw [← ho]
  obtain ⟨g, hg⟩ : ∃ g, w.heap.size = g := ⟨_, rfl⟩
  have HSP := Lib.hid hsp; have HON := Lib.hid hon; have HWC := Lib.hid hwc; have HPL := Lib.hid hPl; have HWS := Lib.hid hws
  have HXZ : Hid (∀ x ∈ P, x.size ≤ 1000000) := Lib.hid (by
    intro x hx
    have h1 : x.data.toList ∈ ws := by rw [← hws]; exact List.mem_map.2 ⟨x, hx, rfl⟩
    rw [ews] at h1
    have h2 : x.data.toList.length ≤ s.data.toList.length := by
      have h3 := splitOn_len m s.data.toList
      have h4 : x.data.toList.length ≤ (splitOn m s.data.toList).flatten.length := by
        rw [List.length_flatten]
        exact leSum (List.mem_map.2 ⟨_, h1, rfl⟩)
      have h5 : 1 ≤ (splitOn m s.data.toList).length := List.length_pos_iff.2 (splitOn_ne m _)
      omega
    rw [Array.length_toList, Array.length_toList] at h2
    exact Nat.le_trans h2 hs)
  rw [hg] at HSP
  have bx0 : BoxAt (w.alloc (.cells (P.map Value.string).toArray 9)) g (P.map Value.string).toArray 9 := by
    rw [← hg]; exact BoxAt.new _ _ _
  have hb0 := (Below.refl w.heap.size w).alloc (Nat.le_refl _) (.cells (P.map Value.string).toArray 9)
  have hgs : (w.alloc (.cells (P.map Value.string).toArray 9)).heap.size = g + 1 := by simp; omega
  have hn63 : n ≤ 1000002 := by
    have h3 := splitOn_len m s.data.toList
    have e2 : s.data.toList.length = s.size := Array.length_toList
    rw [← ews] at h3; omega
  clear hsp hon hwc hPl hws ews hn hPP ho hm
  by_cases hnq : n = q
  · subst hnq
    have hmk := fun W => run_make_rowX Tryz.underlying130 info_intN .i64 .i64 n (by omega) (by omega) W
    have bx1 := BoxAt.new (w.alloc (.cells (P.map Value.string).toArray 9)) (madeCells #[Value.int .i64 0] (n * 1)) 3
    have bxw := bx0.alloc (.cells (madeCells #[Value.int .i64 0] (n * 1)) 3)
    have hb1 := hb0.alloc hb0.size (.cells (madeCells #[Value.int .i64 0] (n * 1)) 3)
    rw [hgs, ← intsTo_zero] at bx1
    rw [← intsTo_zero] at bxw hb1
    rw [Nat.mul_one] at hmk
    have hz0 : madeCells #[Value.int .i64 0] n = (intsTo [] n).toArray := by rw [intsTo_zero, Nat.mul_one]
    have HZ0 := Lib.hid hz0
    have hnn : ((n : Int) != (n : Int)) = false := by simp
    have HPN : Hid (P.length = n) := Lib.hid (by rw [HPL.out, HWC.out])
    clear bx0 hb0 hz0
    go_enter Tryz.func65, Tryz.ntmps65
    go_wp2_with (go_at_call 84; refine HSP.out.mono ?_; rintro e w1 ⟨rfl, rfl⟩)
    simp only [HZ0.out]
    go_loopw [25] (fun i wr => ∃ (k : Nat) (D : List Int), k ≤ n ∧ i = .int .i64 k ∧ D.length = k ∧ BoxAt wr g (P.map Value.string).toArray 9 ∧ BoxAt wr (g + 1) (intsTo D n).toArray 3 ∧ Below w.heap.size w wr ∧ Hid (numsI ws = (numsI (ws.drop k)).map (D ++ ·))) (fun i _ => n - (intOf i).toNat)
    case atStart => exact ⟨0, [], Nat.zero_le _, rfl, rfl, bxw, bx1, hb1, Lib.hid (by simp)⟩
    case round =>
      obtain ⟨k, D, hk, rfl, hDk, bw, bi, hB, HR⟩ := hrel
      clear bxw bx1 hb1
      have HDK := Lib.hid hDk
      have hltw := bw.lt
      have hlti := bi.lt
      have hfi := bi.free
      by_cases hlt : k < n
      · have hkP : k < P.length := by have := HPN.out; omega
        have hkw : k < ws.length := by have := HWC.out; omega
        have hkI : (k : Int) < (n : Int) := by omega
        have hc := bw.cell k
        rw [List.getElem?_toArray, List.getElem?_map, List.getElem?_eq_getElem hkP] at hc
        obtain ⟨x, ex⟩ : ∃ x, x = P[k] := ⟨_, rfl⟩
        have hxw : x.data.toList = ws[k] := by
          rw [ex]
          have h1 : (P.map (·.data.toList))[k]? = ws[k]? := by rw [HWS.out]
          rw [List.getElem?_map, List.getElem?_eq_getElem hkP, List.getElem?_eq_getElem hkw] at h1
          exact Option.some.inj h1
        have HXS : Hid (x.size ≤ 1000000) := Lib.hid (by rw [ex]; exact HXZ.out _ (List.getElem_mem hkP))
        have hc : wr.cell? ⟨g, k, none⟩ = some (.string x) := by rw [hc, ex]; try rfl
        have HXW := Lib.hid hxw
        obtain ⟨v0, hv0⟩ : ∃ v0, numI x.data.toList 4 = v0 := ⟨_, rfl⟩
        have HV := Lib.hid hv0
        have HNB := Lib.hid (numberOf_any x 4 wr (by decide) HXS.out (hP.below hB))
        rw [hv0] at HNB
        have hsz : (intsTo D n).toArray.size = n := by rw [List.size_toArray, intsTo_len D (by omega)]
        have HSZ := Lib.hid hsz
        have HEX := Lib.hid ex
        clear ex hxw hv0 hDk hsz
        go_wp2_with fail
        rw [← HEX.out]
        refine HNB.out.mono ?_
        rintro e w2 ⟨y, rfl, hy, hb2⟩
        have hB2 := hB.trans (hb2.mono (B' := w.heap.size) hB.size)
        have bw2 := bw.below hb2
        have bi2 := bi.below hb2
        cases v0 with
        | none =>
          have HZ := Lib.hid (show o = none by
            rw [HON.out]; unfold numsO
            split
            · rw [HR.out, numsI_stop hkw (by rw [← HXW.out]; exact HV.out)]; rfl
            · rfl)
          go_wp2_with fail
          go_ret2
          exact ⟨none, 0, 0, [], by rw [HZ.out]; try rfl, (fun l hl => by have h := HZ.out; rw [h] at hl; cases hl), rfl, RowsAt.nil _ _, fun _ => rfl, hB2⟩
        | some v =>
          obtain rfl : y = v := hy v rfl
          have HR2 := Lib.hid (show numsI ws = (numsI (ws.drop (k + 1))).map ((D ++ [y]) ++ ·) by rw [HR.out]; exact numsI_go hkw (by rw [← HXW.out]; exact HV.out))
          have hf2 := bi2.free
          have hlt2 := bi2.lt
          have hc2 := bi2.cell k
          rw [Array.getElem?_eq_getElem (by rw [HSZ.out]; exact hlt)] at hc2
          have HX : Hid ((intsTo D n).toArray.setIfInBounds k (.int .i64 y) = (intsTo (D ++ [y]) n).toArray) := Lib.hid (by rw [← intsTo_set D y (by rw [HDK.out]; exact hlt), HDK.out]; simp)
          have bi3 := bi2.set k (.int .i64 y)
          rw [HX.out] at bi3
          have bw3 := bw2.set_other (p := ⟨g + 1, k, none⟩) (by simp) (.int .i64 y)
          have hBg : w.heap.size ≤ g + 1 := by omega
          go_wp2_with fail
          go_roundw
          case rel => exact ⟨k + 1, D ++ [y], by omega, by go_num, by rw [List.length_append, HDK.out]; try rfl, bw3, bi3, hB2.setCell hBg _, HR2⟩
          case measure => simp [intOf]; omega
      · have hkI : ¬ (k : Int) < (n : Int) := by omega
        have hkn : k = n := by omega
        have hall : numsI ws = some D := numsI_end (k := k) (by have := HWC.out; omega) HR.out
        have HZ := Lib.hid (show o = some D by rw [HON.out]; unfold numsO; rw [if_pos HWC.out, hall])
        have HE := Lib.hid (show (intsTo D n).toArray = (vals D).toArray by rw [← hkn, ← HDK.out, intsTo_end])
        rw [HE.out] at bi
        have hrow := rows_box1 bi
        have HKN := Lib.hid hkn
        clear hall hkn hDk
        go_wp2_with fail
        go_ret2
        exact ⟨_, n, n, D, by rw [HZ.out]; try rfl, (fun l hl => by have h := HZ.out; rw [h] at hl; exact Option.some.inj hl), by rw [HDK.out]; exact HKN.out.symm, hrow, (fun e => by cases e), hB⟩
  · have hb : ((n : Int) != (q : Int)) = true := by simp; omega
    have HZ := Lib.hid (show o = none by rw [HON.out]; unfold numsO; exact if_neg (by have := HWC.out; omega))
    clear hnq hgs
    go_enter Tryz.func65, Tryz.ntmps65
    go_wp2_with (go_at_call 84; refine HSP.out.mono ?_; rintro e w1 ⟨rfl, rfl⟩)
    go_ret2
    exact ⟨none, 0, 0, [], by rw [HZ.out]; try rfl, (fun l hl => by have h := HZ.out; rw [h] at hl; cases hl), rfl, RowsAt.nil _ _, fun _ => rfl, hb0⟩
end Go.Proofs.YtgoandhlcekmiaaGreatDoor
