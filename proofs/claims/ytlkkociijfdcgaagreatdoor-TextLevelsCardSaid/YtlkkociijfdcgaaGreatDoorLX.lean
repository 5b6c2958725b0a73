/-
  The reference's small letters; the dots of its patterns.
-/
import Derived.Test.YtlkkociijfdcgaaGreatDoorW3
import Derived.Lib.Case
import Derived.Test.YtlkkociijfdcgaaGreatDoorQX
import Derived.Test.YtlkkociijfdcgaaGreatDoorZ4
import Derived.Test.YtlkkociijfdcgaaGreatDoorVO
namespace Go.Proofs.YtlkkociijfdcgaaGreatDoor
open Go.RowKit Go.Maps

def lowTo (l : List UInt8) (k : Nat) : List UInt8 := (l.take k).map Lib.lowerB ++ l.drop k
theorem lowTo_len (l : List UInt8) (k : Nat) : (lowTo l k).length = l.length := by
  unfold lowTo
  rw [List.length_append, List.length_map, List.length_take, List.length_drop]
  omega
theorem lowTo_at {l : List UInt8} {k : Nat} (h : k < l.length) : (lowTo l k)[k]? = some l[k] := by
  unfold lowTo
  rw [List.getElem?_append_right (by rw [List.length_map, List.length_take]; omega), List.length_map, List.length_take, Nat.min_eq_left (by omega), Nat.sub_self, List.getElem?_drop, Nat.add_zero, List.getElem?_eq_getElem h]
theorem lowTo_succ {l : List UInt8} {k : Nat} (h : k < l.length) : lowTo l (k + 1) = (lowTo l k).set k (Lib.lowerB l[k]) := by
  unfold lowTo
  rw [List.take_succ_eq_append_getElem h, List.map_append, List.map_singleton, List.set_append_right _ _ (by rw [List.length_map, List.length_take]; omega), List.length_map, List.length_take, Nat.min_eq_left (by omega), Nat.sub_self, List.drop_eq_getElem_cons h, List.set_cons_zero, List.append_assoc]
  rfl
theorem lowTo_all (l : List UInt8) : lowTo l l.length = Lib.toLowerA l := by
  unfold lowTo Lib.toLowerA
  rw [List.take_length, List.drop_length, List.append_nil]
theorem setAt_other {cs : Array Value} {k j : Nat} {v : Value} (h : k ≠ j) : (cs.setIfInBounds k v)[j]? = cs[j]? := by
  rw [Array.getElem?_setIfInBounds]
  rw [if_neg h]
theorem low_nat (c : UInt8) : (Lib.lowerB c).toNat = if 65 ≤ c.toNat ∧ c.toNat ≤ 90 then c.toNat + 32 else c.toNat := by
  have h : Lib.isUpperB c = decide (65 ≤ c.toNat ∧ c.toNat ≤ 90) := by
    unfold Lib.isUpperB
    rw [Bool.eq_iff_iff]
    simp [UInt8.le_iff_toNat_le]
  unfold Lib.lowerB
  rw [h]
  by_cases hc : 65 ≤ c.toNat ∧ c.toNat ≤ 90
  · rw [if_pos hc, decide_eq_true hc, if_pos rfl, UInt8.toNat_add]
    show (c.toNat + 32) % 256 = _
    omega
  · rw [if_neg hc, decide_eq_false hc, if_neg (by decide)]
theorem lowTo_getD {l : List UInt8} {k j : Nat} (h : k < l.length) : (lowTo l (k + 1)).getD j 0 = if j = k then Lib.lowerB l[k] else (lowTo l k).getD j 0 := by
  rw [lowTo_succ h, List.getD_eq_getElem?_getD, List.getD_eq_getElem?_getD, List.getElem?_set]
  by_cases hj : j = k
  · subst hj
    rw [if_pos rfl, if_pos rfl, if_pos (by rw [lowTo_len]; exact h)]
    rfl
  · rw [if_neg (fun e => hj e.symm), if_neg hj]
theorem heap_setAny {w : World} {b : Nat} {cs : Array Value} {T : TypeId} {fr : Nat × Nat} (h : w.heap[b]? = some (.cells cs T fr)) (j : Nat) (u : Value) : (w.setCell ⟨b, j, none⟩ u).heap[b]? = some (.cells (cs.setIfInBounds j u) T fr) := by
  rw [setCell_eq_setRow w b j cs T fr u h]
  exact setRow_heap w b cs _ T _ h
structure LowRel (w : World) (s : ByteArray) (S k : Nat) (wr : World) : Prop where
  out : ∃ cs : Array Value, wr.heap[w.heap.size]? = some (.cells cs 5 (S, S + 1)) ∧ cs.size = S ∧ ∀ j, j < s.size → cs[j]? = some (.int .u8 (((lowTo s.data.toList k).getD j 0).toNat : Int))
  low : Below w.heap.size w wr
set_option maxRecDepth 100000 in
set_option maxHeartbeats 2000000 in
theorem lowText_any (s : ByteArray) (w : World) (hs : s.size ≤ 1000) :
    Calls Tryz.prog 123 #[.string s] w fun e w' => e = .returned (.string ⟨(Lib.toLowerA s.data.toList).toArray⟩) ∧ Below w.heap.size w w' := by
  obtain ⟨c, hc⟩ : ∃ c, c = grownCap w s.size 0 5 := ⟨_, rfl⟩
  have hge : s.size ≤ c := by rw [hc]; exact grownCap_ge _ _ _ _
  have hcv := run_bytes_of_string w 9 138 5 s Tryz.underlying9 Tryz.underlying138 Tryz.underlying5
  rw [← hc] at hcv
  have hS : (bytesRow s c).size = c := by
    unfold bytesRow
    rw [Array.size_append, Array.size_map, Array.size_replicate]
    show s.size + (c - s.size) = c
    omega
  rw [hS] at hcv
  have h0 : LowRel w s c 0 (w.drew.alloc (.cells (bytesRow s c) 5 (c, c + 1))) := by
    refine ⟨⟨bytesRow s c, (MapKept.heap_alloc w.drew _).1, hS, fun j hj => ?_⟩, ((Below.refl _ _).drew).alloc (Nat.le_refl _) _⟩
    rw [bytesRow_at s c j hj]
    have hl : j < s.data.toList.length := by rw [Array.length_toList]; exact hj
    have e : (lowTo s.data.toList 0).getD j 0 = s.data[j] := by
      unfold lowTo
      rw [List.take_zero, List.map_nil, List.nil_append, List.drop_zero, List.getD_eq_getElem?_getD, List.getElem?_eq_getElem hl]
      rfl
    rw [e]
  clear hc hS
  go_enter Tryz.func123, Tryz.ntmps123
  go_wp2_with fail
  go_loopw [4] (fun i wr => ∃ k : Nat, k ≤ s.size ∧ i = .int .i64 k ∧ LowRel w s c k wr) (fun i _ => s.size - (intOf i).toNat)
  case atStart => exact ⟨0, Nat.zero_le _, rfl, h0⟩
  case round =>
    obtain ⟨k, hk, rfl, ⟨cs, hb, hz, hcs⟩, hB⟩ := hrel
    clear h0 hcv
    by_cases hlt : k < s.size
    · have hkl : (k : Int) < (s.size : Int) := by omega
      have hl : k < s.data.toList.length := by rw [Array.length_toList]; exact hlt
      obtain ⟨x, ex⟩ : ∃ x, x = s.data.toList[k] := ⟨_, rfl⟩
      have hx : (lowTo s.data.toList k).getD k 0 = x := by rw [List.getD_eq_getElem?_getD, lowTo_at hl, ex]; try rfl
      have c0 : wr.cell? ⟨w.heap.size, k, none⟩ = some (.int .u8 (x.toNat : Int)) := by rw [cell_of_row wr _ k cs _ (c, c + 1) hb, hcs k hlt, hx]
      have y0 : wr.frozen? ⟨w.heap.size, k, none⟩ = false := by simp [World.frozen?, hb]; omega
      have hlw := low_nat x
      have HN := Lib.hid (fun j => show (lowTo s.data.toList (k + 1)).getD j 0 = if j = k then Lib.lowerB x else (lowTo s.data.toList k).getD j 0 by rw [ex]; exact lowTo_getD hl)
      have hstay : Lib.lowerB x = x → LowRel w s c (k + 1) wr := fun e => ⟨⟨cs, hb, hz, fun j hj => by
        rw [HN.out j, hcs j hj]
        by_cases hjk : j = k
        · subst hjk; rw [if_pos rfl, e, hx]
        · rw [if_neg hjk]⟩, hB⟩
      clear ex hl
      by_cases h65 : 65 ≤ x.toNat
      · have g65 : decide ((65 : Int) ≤ (x.toNat : Int)) = true := decide_eq_true (by omega)
        have i65 : (65 : Int) ≤ (x.toNat : Int) := by omega
        by_cases h90 : x.toNat ≤ 90
        · have g90 : decide ((x.toNat : Int) ≤ 90) = true := decide_eq_true (by omega)
          have i90 : (x.toNat : Int) ≤ 90 := by omega
          have hw1 : IntKind.u8.wrap ((x.toNat : Int) + 97) = (x.toNat : Int) + 97 := IntWalk.u8_in _ (by omega)
          have hw2 : IntKind.u8.wrap ((x.toNat : Int) + 97 - 65) = (x.toNat : Int) + 97 - 65 := IntWalk.u8_in _ (by omega)
          rw [if_pos ⟨h65, h90⟩] at hlw
          have hnew : LowRel w s c (k + 1) (wr.setCell ⟨w.heap.size, k, none⟩ (.int .u8 ((x.toNat : Int) + 97 - 65))) := by
            refine ⟨⟨cs.setIfInBounds k (.int .u8 ((x.toNat : Int) + 97 - 65)), heap_setAny hb k _, by rw [Array.size_setIfInBounds]; exact hz, fun j hj => ?_⟩, hB.setCell (Nat.le_refl _) _⟩
            rw [HN.out j]
            by_cases hjk : j = k
            · subst hjk
              rw [if_pos rfl, Array.getElem?_setIfInBounds, if_pos rfl, if_pos (by omega), hlw]
              congr 2
              omega
            · rw [if_neg hjk, setAt_other (fun e => hjk e.symm)]
              exact hcs j hj
          clear hstay hlw hcs HN
          go_wp2
          go_roundw
          case rel => exact ⟨k + 1, by omega, by go_num, hnew⟩
          case measure => simp [intOf]; omega
        · have g90 : decide ((x.toNat : Int) ≤ 90) = false := decide_eq_false (by omega)
          have i90 : ¬ (x.toNat : Int) ≤ 90 := by omega
          rw [if_neg (fun h => h90 h.2)] at hlw
          have hst := hstay (UInt8.toNat_inj.1 hlw)
          clear hstay hlw hcs HN
          go_wp2
          go_roundw
          case rel => exact ⟨k + 1, by omega, by go_num, hst⟩
          case measure => simp [intOf]; omega
      · have g65 : decide ((65 : Int) ≤ (x.toNat : Int)) = false := decide_eq_false (by omega)
        have i65 : ¬ (65 : Int) ≤ (x.toNat : Int) := by omega
        rw [if_neg (fun h => h65 h.1)] at hlw
        have hst := hstay (UInt8.toNat_inj.1 hlw)
        clear hstay hlw hcs HN
        go_wp2
        go_roundw
        case rel => exact ⟨k + 1, by omega, by go_num, hst⟩
        case measure => simp [intOf]; omega
    · obtain rfl : k = s.size := by omega
      have hlen : (lowTo s.data.toList s.size).length = s.size := by rw [lowTo_len, Array.length_toList]; try rfl
      have hall : lowTo s.data.toList s.size = Lib.toLowerA s.data.toList := by
        have h := lowTo_all s.data.toList
        rw [Array.length_toList] at h
        exact h
      have hcv : (convert 138 9 (.slice (some ⟨w.heap.size, 0, none⟩) s.size c)).run Tryz.prog wr = .ok (.string ⟨(Lib.toLowerA s.data.toList).toArray⟩) wr := by
        have h := run_convert_bytes_back wr 138 9 5 ⟨w.heap.size, 0, none⟩ c (lowTo s.data.toList s.size) Tryz.underlying138 Tryz.underlying5 Tryz.underlying9 (fun j hj => by
          rw [Addr.add_mid, cell_of_row wr _ (0 + j) cs _ (c, c + 1) hb, Nat.zero_add, hcs j (by omega), List.getD_eq_getElem?_getD, List.getElem?_eq_getElem hj]
          rfl)
        rw [hlen, hall] at h
        exact h
      clear hlen hall hcs
      go_wp2
      go_ret
      exact ⟨rfl, hB⟩
end Go.Proofs.YtlkkociijfdcgaaGreatDoor
/-
  The dots of the reference's patterns.
-/
namespace Go.Proofs.YtlkkociijfdcgaaGreatDoor
open Go.RowKit
def dotsB (t s : ByteArray) (o : Nat) : Bool := (decide (¬ ((t.data.toList.getD 0 0).toNat : Int) = 46) || decide (o = 0)) && (decide (¬ ((t.data.toList.getD (t.size - 1) 0).toNat : Int) = 46) || decide (o + t.size = s.size))
theorem getD_byte {t : ByteArray} {k : Nat} (h : k < t.size) : t.data.toList.getD k 0 = t[k] := by
  have hl : k < t.data.toList.length := by rw [Array.length_toList]; exact h
  rw [List.getD_eq_getElem?_getD, List.getElem?_eq_getElem hl]
  rfl
set_option maxRecDepth 100000 in
set_option maxHeartbeats 2000000 in
theorem refDots_any (t s : ByteArray) (o : Nat) (w : World) (h0 : 0 < t.size) (ht : t.size ≤ 1000) (ho : o ≤ 1000) :
    Calls Tryz.prog 167 #[.string t, .string s, .int .i64 o] w fun e w' => e = .returned (.bool (dotsB t s o)) ∧ w' = w := by
  have HD := Lib.hid (show dotsB t s o = ((decide (¬ (t[0].toNat : Int) = 46) || decide (o = 0)) && (decide (¬ (t[t.size - 1].toNat : Int) = 46) || decide (o + t.size = s.size))) by
    unfold dotsB
    rw [getD_byte h0, getD_byte (by omega)])
  go_enter Tryz.func167, Tryz.ntmps167
  go_wp2_with fail
  all_goals go_ret
  all_goals refine ⟨congrArg (fun b => Ending.returned (Value.bool b)) ?_, rfl⟩
  all_goals rw [HD.out]
  all_goals rw [Bool.eq_iff_iff]
  all_goals simp only [Bool.and_eq_true, Bool.or_eq_true, decide_eq_true_eq, beq_iff_eq, true_iff, Bool.false_eq_true, false_iff]
  all_goals omega
end Go.Proofs.YtlkkociijfdcgaaGreatDoor

/-
  The levels of a pattern, as the reference reckons them: maths.
-/
namespace Go.Proofs.YtlkkociijfdcgaaGreatDoor
open Go.RowKit Go.Maps Go.Shelf

/-- The reference's word: with dots at its ends. -/
def dotted (W : List UInt8) : List UInt8 := 46 :: (W ++ [46])
def dotsL (I S : List UInt8) (o : Nat) : Bool := (decide (¬ ((I.getD 0 0).toNat : Int) = 46) || decide (o = 0)) && (decide (¬ ((I.getD (I.length - 1) 0).toNat : Int) = 46) || decide (o + I.length = S.length))
def hitL (I S : List UInt8) (o : Nat) : Bool := decide ((S.drop o).take I.length = I) && dotsL I S o
/-- The inner loop: one found place. -/
def rD (o n : Nat) (Lv : List Int) : Nat → List Int → List Int
  | 0, M => M
  | g + 1, M => if 1 ≤ o + g ∧ o + g ≤ n + 1 then (rD o n Lv g M).set (o + g - 1) (max ((rD o n Lv g M).getD (o + g - 1) 0) (Lv.getD g 0)) else rD o n Lv g M
/-- The outer loop. -/
def rF (I S : List UInt8) (n : Nat) (Lv : List Int) : Nat → List Int
  | 0 => List.replicate (n + 1) 0
  | o + 1 => if hitL I S o = true then rD o n Lv Lv.length (rF I S n Lv o) else rF I S n Lv o
/-- The greatest of numbers that a place has by found places. -/
def mxs (f : Nat → Int) (l : List Nat) (m : Int) : Int := l.foldl (fun m a => max m (f a)) m
theorem mxs_le {f : Nat → Int} {B : Int} : ∀ {l : List Nat} {m : Int}, mxs f l m ≤ B ↔ m ≤ B ∧ ∀ a ∈ l, f a ≤ B
  | [], m => by simp [mxs]
  | a :: l, m => by
    show mxs f l (max m (f a)) ≤ B ↔ _
    rw [mxs_le (l := l)]
    constructor
    · rintro ⟨h, h2⟩
      refine ⟨by omega, fun b hb => ?_⟩
      rcases List.mem_cons.1 hb with rfl | hb
      · omega
      · exact h2 b hb
    · rintro ⟨h, h2⟩
      have := h2 a List.mem_cons_self
      exact ⟨by omega, fun b hb => h2 b (List.mem_cons_of_mem _ hb)⟩
theorem mxs_eq {f g : Nat → Int} {l k : List Nat} {m : Int} (hm : 0 ≤ m) (h1 : ∀ a ∈ l, f a ≤ 0 ∨ ∃ b ∈ k, f a = g b) (h2 : ∀ b ∈ k, g b ≤ 0 ∨ ∃ a ∈ l, g b = f a) : mxs f l m = mxs g k m := by
  apply Int.le_antisymm
  · have hk := (mxs_le (f := g) (B := mxs g k m) (l := k) (m := m)).1 (Int.le_refl _)
    refine mxs_le.2 ⟨hk.1, fun a ha => ?_⟩
    rcases h1 a ha with h | ⟨b, hb, e⟩
    · omega
    · rw [e]; exact hk.2 b hb
  · have hk := (mxs_le (f := f) (B := mxs f l m) (l := l) (m := m)).1 (Int.le_refl _)
    refine mxs_le.2 ⟨hk.1, fun a ha => ?_⟩
    rcases h2 a ha with h | ⟨b, hb, e⟩
    · omega
    · rw [e]; exact hk.2 b hb
theorem mxs_init {f : Nat → Int} : ∀ {l : List Nat} {m : Int}, 0 ≤ m → mxs f l m = max m (mxs f l 0)
  | [], m, h => by simp [mxs]; omega
  | a :: l, m, h => by
    show mxs f l (max m (f a)) = max m (mxs f l (max 0 (f a)))
    rw [mxs_init (l := l) (m := max m (f a)) (by omega), mxs_init (l := l) (m := max 0 (f a)) (by omega)]
    omega
theorem getD_set {L : List Int} {i j : Nat} {v : Int} (hi : i < L.length) : (L.set i v).getD j 0 = if i = j then v else L.getD j 0 := by
  rw [List.getD_eq_getElem?_getD, List.getD_eq_getElem?_getD, List.getElem?_set]
  by_cases h : i = j
  · subst h; rw [if_pos rfl, if_pos rfl, if_pos hi]; try rfl
  · rw [if_neg h, if_neg h]
theorem lvD_len (a : Nat) (ds : List Int) : ∀ k (M : List Int), (lvD a ds k M).length = M.length
  | 0, _ => rfl
  | k + 1, M => by unfold lvD; rw [List.length_set]; exact lvD_len a ds k M
theorem rD_len (o n : Nat) (Lv : List Int) : ∀ k (M : List Int), (rD o n Lv k M).length = M.length
  | 0, _ => rfl
  | k + 1, M => by
    unfold rD
    split
    · rw [List.length_set]; exact rD_len o n Lv k M
    · exact rD_len o n Lv k M
/-- What one found place adds at another one. -/
def addL (ds : List Int) (a j : Nat) : Int := if a ≤ j ∧ j < a + ds.length then mxD (ds.getD (j - a) 0) else 0
theorem mxD_max {m d : Int} (h : 0 ≤ m) (_hd : -1 ≤ d) : max m d = max m (mxD d) := by unfold mxD; split <;> omega
theorem lvD_at {a : Nat} {ds M : List Int} (hd : ∀ k, -1 ≤ ds.getD k 0) (ha : a + ds.length ≤ M.length) (hM : ∀ j, 0 ≤ M.getD j 0) (j : Nat) : ∀ k, k ≤ ds.length →
    (lvD a ds k M).getD j 0 = if a ≤ j ∧ j < a + k then max (M.getD j 0) (mxD (ds.getD (j - a) 0)) else M.getD j 0
  | 0, _ => by rw [if_neg (by omega)]; try rfl
  | k + 1, h => by
    have ih := lvD_at hd ha hM j k (by omega)
    have ih2 := lvD_at hd ha hM (a + k) k (by omega)
    rw [if_neg (by omega)] at ih2
    show ((lvD a ds k M).set (a + k) (max ((lvD a ds k M).getD (a + k) 0) (ds.getD k 0))).getD j 0 = _
    rw [getD_set (by rw [lvD_len]; omega), ih2, ih]
    by_cases e : a + k = j
    · subst e
      rw [if_pos rfl, if_pos ⟨by omega, by omega⟩, Nat.add_sub_cancel_left, mxD_max (hM _) (hd k)]
    · rw [if_neg e]
      by_cases h2 : a ≤ j ∧ j < a + k
      · rw [if_pos h2, if_pos ⟨h2.1, by omega⟩]
      · rw [if_neg h2, if_neg (by omega)]
theorem lvD_add {a : Nat} {ds M : List Int} (hd : ∀ k, -1 ≤ ds.getD k 0) (ha : a + ds.length ≤ M.length) (hM : ∀ j, 0 ≤ M.getD j 0) (j : Nat) : (lvD a ds ds.length M).getD j 0 = max (M.getD j 0) (addL ds a j) := by
  have h0 := hM j
  rw [lvD_at hd ha hM j _ (Nat.le_refl _)]
  unfold addL
  split
  · rfl
  · omega
/-- The levels of a pattern, place by place. -/
theorem lvFold_at {ds : List Int} (hd : ∀ k, -1 ≤ ds.getD k 0) (j : Nat) : ∀ (l : List Nat) (M : List Int), (∀ a ∈ l, a + ds.length ≤ M.length) → (∀ j, 0 ≤ M.getD j 0) →
    (l.foldl (fun M a => lvD a ds ds.length M) M).getD j 0 = mxs (fun a => addL ds a j) l (M.getD j 0)
  | [], _, _, _ => rfl
  | a :: l, M, hl, hM => by
    have ha := hl a List.mem_cons_self
    have hM2 : ∀ i, 0 ≤ (lvD a ds ds.length M).getD i 0 := fun i => by
      rw [lvD_add hd ha hM i]
      have := hM i
      omega
    show (l.foldl (fun M a => lvD a ds ds.length M) (lvD a ds ds.length M)).getD j 0 = mxs (fun a => addL ds a j) l (max (M.getD j 0) (addL ds a j))
    rw [lvFold_at hd j l _ (fun b hb => by rw [lvD_len]; exact hl b (List.mem_cons_of_mem _ hb)) hM2, lvD_add hd ha hM j]
theorem rD_at {o n : Nat} {Lv M : List Int} (hM : M.length = n + 1) (j : Nat) (hj : j ≤ n) : ∀ k,
    (rD o n Lv k M).getD j 0 = if o ≤ j + 1 ∧ j + 1 < o + k then max (M.getD j 0) (Lv.getD (j + 1 - o) 0) else M.getD j 0
  | 0 => by rw [if_neg (by omega)]; try rfl
  | k + 1 => by
    have ih := rD_at (o := o) (Lv := Lv) hM j hj k
    unfold rD
    split
    · rename_i hb
      rw [getD_set (by rw [rD_len]; omega)]
      by_cases e : o + k - 1 = j
      · have ej : j = o + k - 1 := e.symm
        rw [if_pos e, e, ih, if_neg (by omega), if_pos ⟨by omega, by omega⟩]
        congr 2
        omega
      · rw [if_neg e, ih]
        by_cases h2 : o ≤ j + 1 ∧ j + 1 < o + k
        · rw [if_pos h2, if_pos ⟨h2.1, by omega⟩]
        · rw [if_neg h2, if_neg (by omega)]
    · rename_i hb
      rw [ih]
      by_cases h2 : o ≤ j + 1 ∧ j + 1 < o + k
      · rw [if_pos h2, if_pos ⟨h2.1, by omega⟩]
      · rw [if_neg h2, if_neg (by omega)]
def addR (Lv : List Int) (o j : Nat) : Int := if o ≤ j + 1 ∧ j + 1 < o + Lv.length then Lv.getD (j + 1 - o) 0 else 0
theorem rF_len (I S : List UInt8) (n : Nat) (Lv : List Int) : ∀ o, (rF I S n Lv o).length = n + 1
  | 0 => by simp [rF]
  | o + 1 => by
    unfold rF
    split
    · rw [rD_len]; exact rF_len I S n Lv o
    · exact rF_len I S n Lv o
theorem rep_getD (n j : Nat) : (List.replicate n (0 : Int)).getD j 0 = 0 := by
  rw [List.getD_eq_getElem?_getD, List.getElem?_replicate]
  split <;> rfl
theorem rF_at {I S : List UInt8} {n : Nat} {Lv : List Int} (hLv : ∀ k, 0 ≤ Lv.getD k 0) (j : Nat) (hj : j ≤ n) : ∀ N,
    (rF I S n Lv N).getD j 0 = mxs (fun o => addR Lv o j) ((List.range N).filter (hitL I S)) 0 ∧ 0 ≤ (rF I S n Lv N).getD j 0
  | 0 => by
    show (List.replicate (n + 1) (0 : Int)).getD j 0 = 0 ∧ 0 ≤ (List.replicate (n + 1) (0 : Int)).getD j 0
    rw [rep_getD]
    exact ⟨rfl, Int.le_refl _⟩
  | N + 1 => by
    obtain ⟨ih, ih0⟩ := rF_at hLv j hj N
    rw [List.range_succ, List.filter_append]
    unfold rF
    by_cases h : hitL I S N = true
    · rw [if_pos h, rD_at (rF_len I S n Lv N) j hj, List.filter_cons_of_pos (p := hitL I S) (a := N) (l := []) h]
      have e : mxs (fun o => addR Lv o j) ((List.range N).filter (hitL I S) ++ [N]) 0 = max ((rF I S n Lv N).getD j 0) (addR Lv N j) := by
        unfold mxs
        rw [List.foldl_append]
        show max (mxs (fun o => addR Lv o j) ((List.range N).filter (hitL I S)) 0) (addR Lv N j) = _
        rw [ih]
      rw [List.filter_nil, e]
      unfold addR
      split
      · have := hLv (j + 1 - N)
        exact ⟨rfl, by omega⟩
      · exact ⟨by omega, ih0⟩
    · rw [if_neg h, List.filter_cons_of_neg (p := hitL I S) (a := N) (l := []) h, List.filter_nil, List.append_nil]
      exact ⟨ih, ih0⟩
/-- Found places of letters in a word, by lists. -/
def foundL (ls W : List UInt8) (st en : Bool) (a : Nat) : Prop := a + ls.length ≤ W.length ∧ (W.drop a).take ls.length = ls ∧ (st = true → a = 0) ∧ (en = true → a + ls.length = W.length)
theorem take_dot {ls X : List UInt8} (hs : ∀ c ∈ ls, c ≠ 46) : (X ++ [46]).take ls.length = ls ↔ ls.length ≤ X.length ∧ X.take ls.length = ls := by
  constructor
  · intro h
    by_cases hl : ls.length ≤ X.length
    · exact ⟨hl, by rw [List.take_append_of_le_length hl] at h; exact h⟩
    · have h1 : (X ++ [46]).take ls.length = X ++ [46] := List.take_of_length_le (by simp; omega)
      rw [h1] at h
      exact absurd rfl (hs 46 (by rw [← h]; simp))
  · rintro ⟨hl, h⟩
    rw [List.take_append_of_le_length hl]; exact h
theorem take_dot_end {ls X : List UInt8} (hl : ls.length = X.length) : (X ++ [46]).take (ls.length + 1) = ls ++ [46] ↔ X.take ls.length = ls := by
  rw [List.take_of_length_le (by simp; omega), hl, List.take_length]
  constructor
  · intro h; exact List.append_cancel_right h
  · rintro rfl; rfl
theorem last_pre {pre ls : List UInt8} (h : 1 ≤ ls.length) : (pre ++ ls).getD ((pre ++ ls).length - 1) 0 ∈ ls := by
  rw [List.getD_eq_getElem?_getD, List.length_append, List.getElem?_append_right (by omega), List.getElem?_eq_getElem (by omega)]
  exact List.getElem_mem _
theorem head_mem {ls post : List UInt8} (h : 1 ≤ ls.length) : (ls ++ post).getD 0 0 ∈ ls := by
  rw [List.getD_eq_getElem?_getD, List.getElem?_append_left (by omega), List.getElem?_eq_getElem (by omega)]
  exact List.getElem_mem _
theorem not46 {c : UInt8} (h : c ≠ 46) : ¬ ((c.toNat : Int) = 46) := fun e => h (by
  apply UInt8.toNat_inj.1
  show c.toNat = 46
  omega)
theorem is46 : (((46 : UInt8).toNat : Int) = 46) := by decide
/-- What stands behind the place at which letters begin. -/
theorem tail_iff {ls X : List UInt8} (hs : ∀ c ∈ ls, c ≠ 46) (en : Bool) : ((X ++ [46]).take (ls ++ refPre en).length = ls ++ refPre en ∧ (en = true → ls.length = X.length)) ↔ (ls.length ≤ X.length ∧ X.take ls.length = ls ∧ (en = true → ls.length = X.length)) := by
  cases en
  · have e : refPre false = [] := rfl
    rw [e, List.append_nil]
    constructor
    · rintro ⟨h, -⟩
      obtain ⟨a, b⟩ := (take_dot hs).1 h
      exact ⟨a, b, fun h => by cases h⟩
    · rintro ⟨a, b, -⟩
      exact ⟨(take_dot hs).2 ⟨a, b⟩, fun h => by cases h⟩
  · have e : refPre true = [46] := rfl
    rw [e, List.length_append]
    constructor
    · rintro ⟨h, hl⟩
      have hl := hl rfl
      exact ⟨by omega, (take_dot_end hl).1 h, fun _ => hl⟩
    · rintro ⟨-, h, hl⟩
      have hl := hl rfl
      exact ⟨(take_dot_end hl).2 h, fun _ => hl⟩
theorem dots_end {pre ls : List UInt8} (h1 : 1 ≤ ls.length) (hs : ∀ c ∈ ls, c ≠ 46) (en : Bool) (o n : Nat) :
    (decide (¬ (((pre ++ (ls ++ refPre en)).getD ((pre ++ (ls ++ refPre en)).length - 1) 0).toNat : Int) = 46) || decide (o + (pre ++ (ls ++ refPre en)).length = n)) = true ↔ (en = true → o + pre.length + ls.length + 1 = n) := by
  cases en
  · have e : refPre false = [] := rfl
    rw [e, List.append_nil]
    have h := not46 (hs _ (last_pre (pre := pre) h1))
    rw [decide_eq_true h]
    exact ⟨fun _ h => (by cases h), fun _ => rfl⟩
  · have e : refPre true = [46] := rfl
    rw [e]
    have hl : (pre ++ (ls ++ [46])).getD ((pre ++ (ls ++ [46])).length - 1) 0 = 46 := by
      have e2 : pre ++ (ls ++ [46]) = (pre ++ ls) ++ [46] := by rw [List.append_assoc]
      rw [e2, List.getD_eq_getElem?_getD, List.length_append, List.getElem?_append_right (by simp)]
      simp
    rw [hl, decide_eq_false (fun h => h is46), Bool.false_or, decide_eq_true_eq]
    simp only [List.length_append, List.length_cons, List.length_nil]
    constructor
    · intro h _; omega
    · intro h; have := h trivial; omega
theorem items_eq (x : Pat) : refItems x = refPre x.start ++ (x.ls ++ refPre x.stop) := by unfold refItems; rw [List.append_assoc]
theorem hit_iff {x : Pat} (h1 : 1 ≤ x.ls.length) (hs : ∀ c ∈ x.ls, c ≠ 46) (W : List UInt8) (o : Nat) :
    hitL (refItems x) (dotted W) o = true ↔ ∃ a, a + 1 = o + (refPre x.start).length ∧ foundL x.ls W x.start x.stop a := by
  have hSl : (dotted W).length = W.length + 2 := by simp [dotted]
  unfold hitL dotsL
  rw [items_eq, Bool.and_eq_true, Bool.and_eq_true, dots_end h1 hs, decide_eq_true_eq, hSl]
  cases hst : x.start
  · have e : refPre false = [] := rfl
    rw [e, List.nil_append, decide_eq_true (not46 (hs _ (head_mem h1))), Bool.true_or]
    cases o with
    | zero =>
      constructor
      · rintro ⟨h, -⟩
        have hm := head_mem (ls := x.ls) (post := refPre x.stop) h1
        rw [← h] at hm
        have e0 : ((List.drop 0 (dotted W)).take (x.ls ++ refPre x.stop).length).getD 0 0 = 46 := by
          rw [List.drop_zero, List.getD_eq_getElem?_getD, List.getElem?_take, if_pos (by rw [List.length_append]; omega)]
          rfl
        rw [e0] at hm
        exact absurd rfl (hs _ hm)
      · rintro ⟨a, ha, -⟩
        exact absurd ha (by simp)
    | succ a =>
      have ed : (dotted W).drop (a + 1) = (W ++ [46]).drop a := rfl
      rw [ed]
      by_cases hle : a ≤ W.length
      · have ed2 : (W ++ [46]).drop a = W.drop a ++ [46] := List.drop_append_of_le_length hle
        have ht := tail_iff (ls := x.ls) (X := W.drop a) hs x.stop
        rw [List.length_drop] at ht
        rw [ed2]
        constructor
        · rintro ⟨h, -, h3⟩
          obtain ⟨p, q, r⟩ := ht.1 ⟨h, fun hh => by have := h3 hh; simp at this; omega⟩
          exact ⟨a, by simp, by omega, q, (fun hh => by cases hh), fun hh => by have := r hh; omega⟩
        · rintro ⟨b, hb, p, q, -, r⟩
          obtain rfl : b = a := by simpa using hb
          obtain ⟨h, h3⟩ := ht.2 ⟨by omega, q, fun hh => by have := r hh; omega⟩
          exact ⟨h, rfl, fun hh => by have := h3 hh; simp; omega⟩
      · constructor
        · rintro ⟨h, -⟩
          have := congrArg List.length h
          rw [List.length_take, List.length_drop] at this
          simp only [List.length_append, List.length_cons, List.length_nil] at this
          omega
        · rintro ⟨b, hb, p, -⟩
          have : b = a := by simpa using hb
          omega
  · have e : refPre true = [46] := rfl
    have eg : (([46] ++ (x.ls ++ refPre x.stop)).getD 0 0) = 46 := rfl
    rw [e, eg, decide_eq_false (fun h => h is46), Bool.false_or, decide_eq_true_eq]
    have ht := tail_iff (ls := x.ls) (X := W) hs x.stop
    constructor
    · rintro ⟨h, ho, h3⟩
      subst ho
      have h' : (W ++ [46]).take (x.ls ++ refPre x.stop).length = x.ls ++ refPre x.stop := by
        have hc : (46 : UInt8) :: (W ++ [46]).take (x.ls ++ refPre x.stop).length = 46 :: (x.ls ++ refPre x.stop) := h
        exact (List.cons.inj hc).2
      obtain ⟨p, q, r⟩ := ht.1 ⟨h', fun hh => by have := h3 hh; simp at this; omega⟩
      exact ⟨0, by simp, by omega, by rw [List.drop_zero]; exact q, fun _ => rfl, fun hh => by have := r hh; omega⟩
    · rintro ⟨a, ha, p, q, r1, r⟩
      have ha0 := r1 rfl
      subst ha0
      have ho : o = 0 := by simp at ha; omega
      subst ho
      rw [List.drop_zero] at q
      obtain ⟨h, h3⟩ := ht.2 ⟨by omega, q, fun hh => by have := r hh; omega⟩
      refine ⟨?_, rfl, fun hh => by have := h3 hh; simp; omega⟩
      show (46 : UInt8) :: (W ++ [46]).take (x.ls ++ refPre x.stop).length = 46 :: (x.ls ++ refPre x.stop)
      rw [h]
theorem ext_list (s : ByteArray) (i j : Nat) : (s.extract i j).data.toList = (s.data.toList.drop i).take (j - i) := by
  rw [ByteArray.data_extract, Array.toList_extract, List.extract_eq_take_drop]
theorem toList_data (s : ByteArray) : s.toList = s.data.toList := by rw [ByteArray.toList_eq]
theorem mem_fixs {x : Pat} (s : ByteArray) (a : Nat) : a ∈ fixs (patP x) s ↔ foundL x.ls s.data.toList x.start x.stop a := by
  have hls : (patP x).ls.size = x.ls.length := by simp [patP, pvOf, ByteArray.size]
  have hsl : s.data.toList.length = s.size := by rw [Array.length_toList]; try rfl
  have hpl : (patP x).ls.data.toList = x.ls := by simp [patP, pvOf]
  unfold fixs foundsN foundL
  rw [List.mem_filter, List.mem_range, hsl]
  have hf : foundB (patP x) s a = (!(x.start && decide (0 < a)) && (!(x.stop && decide (a + x.ls.length < s.size)) && preB (s.extract a s.size) (patP x).ls)) := by
    unfold foundB
    rw [hls]
    rfl
  by_cases hle : a + x.ls.length ≤ s.size
  · have hex : (s.extract a s.size).size = s.size - a := by rw [ByteArray.size_extract]; omega
    have hp : preB (s.extract a s.size) (patP x).ls = true ↔ (s.data.toList.drop a).take x.ls.length = x.ls := by
      rw [preB_long (by rw [hls, hex]; omega), beq_iff_eq, toList_data, toList_data, hpl, ext_list, ext_list, hls, List.drop_zero, List.take_take]
      rw [show min (x.ls.length - 0) (s.size - a) = x.ls.length by omega]
    rw [hf, hls, Bool.and_eq_true, Bool.and_eq_true, hp]
    simp only [Bool.not_eq_true', Bool.and_eq_false_iff, decide_eq_false_iff_not]
    constructor
    · rintro ⟨_, h1, h2, h3⟩
      refine ⟨hle, h3, fun hh => ?_, fun hh => ?_⟩
      · rcases h1 with h1 | h1
        · rw [hh] at h1; cases h1
        · omega
      · rcases h2 with h2 | h2
        · rw [hh] at h2; cases h2
        · omega
    · rintro ⟨_, h3, h1, h2⟩
      refine ⟨by omega, ?_, ?_, h3⟩
      · cases hst : x.start
        · exact Or.inl rfl
        · have := h1 hst; exact Or.inr (by omega)
      · cases hst : x.stop
        · exact Or.inl rfl
        · have := h2 hst; exact Or.inr (by omega)
  · constructor
    · rintro ⟨h, -⟩; omega
    · rintro ⟨h, -⟩; omega
theorem core_getD (ds : List Int) (en : Bool) (i : Nat) : (ds.map mxD ++ refPreV en).getD i 0 = if i < ds.length then mxD (ds.getD i 0) else 0 := by
  rw [List.getD_eq_getElem?_getD]
  by_cases h : i < ds.length
  · rw [if_pos h, List.getElem?_append_left (by rw [List.length_map]; exact h), List.getElem?_map, List.getD_eq_getElem?_getD, List.getElem?_eq_getElem h]
    rfl
  · rw [if_neg h, List.getElem?_append_right (by rw [List.length_map]; omega), List.length_map]
    cases en
    · rfl
    · show ([(0 : Int)][i - ds.length]?).getD 0 = 0
      rcases Nat.eq_zero_or_pos (i - ds.length) with e | e
      · rw [e]; try rfl
      · rw [List.getElem?_eq_none (by simp; omega)]; try rfl
theorem lv_eq (x : Pat) : refLv x = refPreV x.start ++ (x.ds.map mxD ++ refPreV x.stop) := by unfold refLv; rw [List.append_assoc]
theorem addR_eq {x : Pat} {o a j : Nat} (h : a + 1 = o + (refPre x.start).length) (h0 : x.start = true → a = 0) : addR (refLv x) o j = addL x.ds a j := by
  have hR : addR (refLv x) o j = if o ≤ j + 1 then (refLv x).getD (j + 1 - o) 0 else 0 := by
    unfold addR
    by_cases h1 : o ≤ j + 1
    · by_cases h2 : j + 1 < o + (refLv x).length
      · rw [if_pos ⟨h1, h2⟩, if_pos h1]
      · rw [if_neg (fun h => h2 h.2), if_pos h1, List.getD_eq_getElem?_getD, List.getElem?_eq_none (by omega)]; try rfl
    · rw [if_neg (fun h => h1 h.1), if_neg h1]
  rw [hR, lv_eq]
  unfold addL
  cases hst : x.start
  · rw [hst] at h
    have h' : a + 1 = o := h
    have e : refPreV false = [] := rfl
    rw [e, List.nil_append, core_getD]
    by_cases h1 : a ≤ j
    · rw [if_pos (by omega), show j + 1 - o = j - a by omega]
      by_cases h2 : j - a < x.ds.length
      · rw [if_pos h2, if_pos ⟨h1, by omega⟩]
      · rw [if_neg h2, if_neg (by omega)]
    · rw [if_neg (by omega), if_neg (by omega)]
  · rw [hst] at h
    have ha := h0 hst
    have h' : a + 1 = o + 1 := h
    have e : refPreV true = [0] := rfl
    rw [e, if_pos (by omega), show j + 1 - o = j - a + 1 by omega]
    show (x.ds.map mxD ++ refPreV x.stop).getD (j - a) 0 = _
    rw [core_getD]
    by_cases h2 : j - a < x.ds.length
    · rw [if_pos h2, if_pos ⟨by omega, by omega⟩]
    · rw [if_neg h2, if_neg (by omega)]
/-- What right patterns keep, for their levels. -/
structure PatFine (x : Pat) : Prop where
  len : x.ds.length = x.ls.length + 1
  some_ : 1 ≤ x.ls.length
  small : ∀ c ∈ x.ls, c ≠ 46
  digs : ∀ k, -1 ≤ x.ds.getD k 0 ∧ x.ds.getD k 0 ≤ 9
/-- The levels of a pattern alone. -/
def lvOne (x : Pat) (s : ByteArray) : List Int := lvP (patP x) s (List.replicate (s.size + 1) 0)
theorem fixs_fit {x : Pat} (hx : PatFine x) (s : ByteArray) {a : Nat} (h : a ∈ fixs (patP x) s) : a + x.ds.length ≤ s.size + 1 := by
  have := (mem_fixs s a).1 h
  have h1 := this.1
  rw [Array.length_toList] at h1
  have h2 : s.data.size = s.size := rfl
  have := hx.len
  omega
theorem lvP_at {x : Pat} (hx : PatFine x) (s : ByteArray) {M : List Int} (hl : M.length = s.size + 1) (hM : ∀ j, 0 ≤ M.getD j 0) (j : Nat) :
    (lvP (patP x) s M).getD j 0 = mxs (fun a => addL x.ds a j) (fixs (patP x) s) (M.getD j 0) :=
  lvFold_at (fun k => (hx.digs k).1) j _ M (fun a ha => by rw [hl]; exact fixs_fit hx s ha) hM
theorem lvP_len (p : PV) (s : ByteArray) (M : List Int) : (lvP p s M).length = M.length := by
  unfold lvP
  generalize fixs p s = l
  induction l generalizing M with
  | nil => rfl
  | cons a l ih =>
    show (l.foldl (fun M a => lvD a p.dl p.dl.length M) (lvD a p.dl p.dl.length M)).length = M.length
    rw [ih, lvD_len]
theorem lvOne_len (x : Pat) (s : ByteArray) : (lvOne x s).length = s.size + 1 := by unfold lvOne; rw [lvP_len, List.length_replicate]
theorem lvP_one {x : Pat} (hx : PatFine x) (s : ByteArray) {M : List Int} (hl : M.length = s.size + 1) (hM : ∀ j, 0 ≤ M.getD j 0) (j : Nat) :
    (lvP (patP x) s M).getD j 0 = max (M.getD j 0) ((lvOne x s).getD j 0) := by
  unfold lvOne
  rw [lvP_at hx s hl hM, lvP_at hx s (by simp) (fun j => by rw [rep_getD]; exact Int.le_refl _), rep_getD, mxs_init (hM j)]
/-- The reference's two loops give the levels of a pattern. -/
theorem rF_one {x : Pat} (hx : PatFine x) (s : ByteArray) : rF (refItems x) (dotted s.data.toList) s.size (refLv x) (s.size + 3 - (refItems x).length) = lvOne x s := by
  have hsl : s.data.toList.length = s.size := by rw [Array.length_toList]; try rfl
  have hlv : ∀ k, 0 ≤ (refLv x).getD k 0 := fun k => by
    rw [lv_eq]
    cases x.start
    · show 0 ≤ (x.ds.map mxD ++ refPreV x.stop).getD k 0
      rw [core_getD]
      have := hx.digs k
      unfold mxD
      split
      · split <;> omega
      · omega
    · cases k with
      | zero => exact Int.le_refl _
      | succ k =>
        show 0 ≤ (x.ds.map mxD ++ refPreV x.stop).getD k 0
        rw [core_getD]
        have := hx.digs k
        unfold mxD
        split
        · split <;> omega
        · omega
  refine List.ext_getElem (by rw [rF_len, lvOne_len]) fun j h1 h2 => ?_
  have hj : j ≤ s.size := by rw [rF_len] at h1; omega
  have e1 := (rF_at (I := refItems x) (S := dotted s.data.toList) (n := s.size) hlv j hj (s.size + 3 - (refItems x).length)).1
  have e2 : (lvOne x s).getD j 0 = mxs (fun a => addL x.ds a j) (fixs (patP x) s) 0 := by
    unfold lvOne
    rw [lvP_at hx s (by simp) (fun j => by rw [rep_getD]; exact Int.le_refl _), rep_getD]
  have e3 : mxs (fun o => addR (refLv x) o j) ((List.range (s.size + 3 - (refItems x).length)).filter (hitL (refItems x) (dotted s.data.toList))) 0 = mxs (fun a => addL x.ds a j) (fixs (patP x) s) 0 := by
    refine mxs_eq (Int.le_refl _) (fun o ho => Or.inr ?_) (fun a ha => Or.inr ?_)
    · obtain ⟨_, h⟩ := List.mem_filter.1 ho
      obtain ⟨a, ha, hf⟩ := (hit_iff hx.some_ hx.small _ o).1 h
      exact ⟨a, (mem_fixs s a).2 hf, addR_eq ha hf.2.2.1⟩
    · have hf := (mem_fixs s a).1 ha
      obtain ⟨hf1, hf2, hf3, hf4⟩ := hf
      rw [hsl] at hf1 hf4
      have hp : (refPre x.start).length ≤ 1 := by cases x.start <;> decide
      refine ⟨a + 1 - (refPre x.start).length, List.mem_filter.2 ⟨List.mem_range.2 ?_, (hit_iff hx.some_ hx.small _ _).2 ⟨a, by omega, (mem_fixs s a).1 ha⟩⟩, (addR_eq (by omega) hf3).symm⟩
      rw [items_eq, List.length_append, List.length_append]
      have hs1 := hx.some_
      cases hst : x.stop
      · show a + 1 - (refPre x.start).length < s.size + 3 - ((refPre x.start).length + (x.ls.length + 0))
        omega
      · have := hf4 hst
        show a + 1 - (refPre x.start).length < s.size + 3 - ((refPre x.start).length + (x.ls.length + 1))
        omega
  have e := e1.trans (e3.trans e2.symm)
  rw [List.getD_eq_getElem?_getD, List.getD_eq_getElem?_getD, List.getElem?_eq_getElem h1, List.getElem?_eq_getElem h2] at e
  exact e
end Go.Proofs.YtlkkociijfdcgaaGreatDoor
