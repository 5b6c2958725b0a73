/-
  The reference's small letters; the dots of its patterns.
-/
import Derived.Test.YtlkkociijfdcgaaGreatDoorW3
import Derived.Lib.Case
import Derived.Test.YtlkkociijfdcgaaGreatDoorQX
import Derived.Test.YtlkkociijfdcgaaGreatDoorZ4
import Derived.Test.YtlkkociijfdcgaaGreatDoorVO
import Derived.Test.YtlkkociijfdcgaaGreatDoorPL
import Derived.Test.YtlkkociijfdcgaaGreatDoorVY
import Derived.Deep.RegionHeld3
namespace Go.Proofs.YtlkkociijfdcgaaGreatDoor
open Go.RowKit Go.Maps

def lowTo (l : List UInt8) (k : Nat) : List UInt8 := (l.take k).map Lib.lowerB ++ l.drop k
theorem lowTo_len (l : List UInt8) (k : Nat) : (lowTo l k).length = l.length := by
  unfold lowTo
  rw [List.length_append, List.length_map, List.length_take, List.length_drop]
  omega
theorem lowTo_at {l : List UInt8} {k : Nat} (h : k < l.length) : (lowTo l k)[k]? = some l[k] := by
  unfold lowTo
  rw [List.getElem?_append_right (by rw [List.length_map, List.length_take]; omega), List.length_map, List.length_take, Nat.min_eq_left (by omega), Nat.sub_self, List.getElem?_drop, Nat.add_zero, List.getElem?_eq_getElem h]
theorem lowTo_succ {l : List UInt8} {k : Nat} (h : k < l.length) : lowTo l (k + 1) = (lowTo l k).set k (Lib.lowerB l[k]) := by
  unfold lowTo
  rw [List.take_succ_eq_append_getElem h, List.map_append, List.map_singleton, List.set_append_right _ _ (by rw [List.length_map, List.length_take]; omega), List.length_map, List.length_take, Nat.min_eq_left (by omega), Nat.sub_self, List.drop_eq_getElem_cons h, List.set_cons_zero, List.append_assoc]
  rfl
theorem lowTo_all (l : List UInt8) : lowTo l l.length = Lib.toLowerA l := by
  unfold lowTo Lib.toLowerA
  rw [List.take_length, List.drop_length, List.append_nil]
theorem setAt_other {cs : Array Value} {k j : Nat} {v : Value} (h : k ≠ j) : (cs.setIfInBounds k v)[j]? = cs[j]? := by
  rw [Array.getElem?_setIfInBounds]
  rw [if_neg h]
theorem low_nat (c : UInt8) : (Lib.lowerB c).toNat = if 65 ≤ c.toNat ∧ c.toNat ≤ 90 then c.toNat + 32 else c.toNat := by
  have h : Lib.isUpperB c = decide (65 ≤ c.toNat ∧ c.toNat ≤ 90) := by
    unfold Lib.isUpperB
    rw [Bool.eq_iff_iff]
    simp [UInt8.le_iff_toNat_le]
  unfold Lib.lowerB
  rw [h]
  by_cases hc : 65 ≤ c.toNat ∧ c.toNat ≤ 90
  · rw [if_pos hc, decide_eq_true hc, if_pos rfl, UInt8.toNat_add]
    show (c.toNat + 32) % 256 = _
    omega
  · rw [if_neg hc, decide_eq_false hc, if_neg (by decide)]
theorem lowTo_getD {l : List UInt8} {k j : Nat} (h : k < l.length) : (lowTo l (k + 1)).getD j 0 = if j = k then Lib.lowerB l[k] else (lowTo l k).getD j 0 := by
  rw [lowTo_succ h, List.getD_eq_getElem?_getD, List.getD_eq_getElem?_getD, List.getElem?_set]
  by_cases hj : j = k
  · subst hj
    rw [if_pos rfl, if_pos rfl, if_pos (by rw [lowTo_len]; exact h)]
    rfl
  · rw [if_neg (fun e => hj e.symm), if_neg hj]
theorem heap_setAny {w : World} {b : Nat} {cs : Array Value} {T : TypeId} {fr : Nat × Nat} (h : w.heap[b]? = some (.cells cs T fr)) (j : Nat) (u : Value) : (w.setCell ⟨b, j, none⟩ u).heap[b]? = some (.cells (cs.setIfInBounds j u) T fr) := by
  rw [setCell_eq_setRow w b j cs T fr u h]
  exact setRow_heap w b cs _ T _ h
structure LowRel (w : World) (s : ByteArray) (S k : Nat) (wr : World) : Prop where
  out : ∃ cs : Array Value, wr.heap[w.heap.size]? = some (.cells cs 5 (S, S + 1)) ∧ cs.size = S ∧ ∀ j, j < s.size → cs[j]? = some (.int .u8 (((lowTo s.data.toList k).getD j 0).toNat : Int))
  low : Below w.heap.size w wr
set_option maxRecDepth 100000 in
set_option maxHeartbeats 2000000 in
theorem lowText_any (s : ByteArray) (w : World) (hs : s.size ≤ 1000) :
    Calls Tryz.prog 123 #[.string s] w fun e w' => e = .returned (.string ⟨(Lib.toLowerA s.data.toList).toArray⟩) ∧ Below w.heap.size w w' := by
  obtain ⟨c, hc⟩ : ∃ c, c = grownCap w s.size 0 5 := ⟨_, rfl⟩
  have hge : s.size ≤ c := by rw [hc]; exact grownCap_ge _ _ _ _
  have hcv := run_bytes_of_string w 9 138 5 s Tryz.underlying9 Tryz.underlying138 Tryz.underlying5
  rw [← hc] at hcv
  have hS : (bytesRow s c).size = c := by
    unfold bytesRow
    rw [Array.size_append, Array.size_map, Array.size_replicate]
    show s.size + (c - s.size) = c
    omega
  rw [hS] at hcv
  have h0 : LowRel w s c 0 (w.drew.alloc (.cells (bytesRow s c) 5 (c, c + 1))) := by
    refine ⟨⟨bytesRow s c, (MapKept.heap_alloc w.drew _).1, hS, fun j hj => ?_⟩, ((Below.refl _ _).drew).alloc (Nat.le_refl _) _⟩
    rw [bytesRow_at s c j hj]
    have hl : j < s.data.toList.length := by rw [Array.length_toList]; exact hj
    have e : (lowTo s.data.toList 0).getD j 0 = s.data[j] := by
      unfold lowTo
      rw [List.take_zero, List.map_nil, List.nil_append, List.drop_zero, List.getD_eq_getElem?_getD, List.getElem?_eq_getElem hl]
      rfl
    rw [e]
  clear hc hS
  go_enter Tryz.func123, Tryz.ntmps123
  go_wp2_with fail
  go_loopw [4] (fun i wr => ∃ k : Nat, k ≤ s.size ∧ i = .int .i64 k ∧ LowRel w s c k wr) (fun i _ => s.size - (intOf i).toNat)
  case atStart => exact ⟨0, Nat.zero_le _, rfl, h0⟩
  case round =>
    obtain ⟨k, hk, rfl, ⟨cs, hb, hz, hcs⟩, hB⟩ := hrel
    clear h0 hcv
    by_cases hlt : k < s.size
    · have hkl : (k : Int) < (s.size : Int) := by omega
      have hl : k < s.data.toList.length := by rw [Array.length_toList]; exact hlt
      obtain ⟨x, ex⟩ : ∃ x, x = s.data.toList[k] := ⟨_, rfl⟩
      have hx : (lowTo s.data.toList k).getD k 0 = x := by rw [List.getD_eq_getElem?_getD, lowTo_at hl, ex]; try rfl
      have c0 : wr.cell? ⟨w.heap.size, k, none⟩ = some (.int .u8 (x.toNat : Int)) := by rw [cell_of_row wr _ k cs _ (c, c + 1) hb, hcs k hlt, hx]
      have y0 : wr.frozen? ⟨w.heap.size, k, none⟩ = false := by simp [World.frozen?, hb]; omega
      have hlw := low_nat x
      have HN := Lib.hid (fun j => show (lowTo s.data.toList (k + 1)).getD j 0 = if j = k then Lib.lowerB x else (lowTo s.data.toList k).getD j 0 by rw [ex]; exact lowTo_getD hl)
      have hstay : Lib.lowerB x = x → LowRel w s c (k + 1) wr := fun e => ⟨⟨cs, hb, hz, fun j hj => by
        rw [HN.out j, hcs j hj]
        by_cases hjk : j = k
        · subst hjk; rw [if_pos rfl, e, hx]
        · rw [if_neg hjk]⟩, hB⟩
      clear ex hl
      by_cases h65 : 65 ≤ x.toNat
      · have g65 : decide ((65 : Int) ≤ (x.toNat : Int)) = true := decide_eq_true (by omega)
        have i65 : (65 : Int) ≤ (x.toNat : Int) := by omega
        by_cases h90 : x.toNat ≤ 90
        · have g90 : decide ((x.toNat : Int) ≤ 90) = true := decide_eq_true (by omega)
          have i90 : (x.toNat : Int) ≤ 90 := by omega
          have hw1 : IntKind.u8.wrap ((x.toNat : Int) + 97) = (x.toNat : Int) + 97 := IntWalk.u8_in _ (by omega)
          have hw2 : IntKind.u8.wrap ((x.toNat : Int) + 97 - 65) = (x.toNat : Int) + 97 - 65 := IntWalk.u8_in _ (by omega)
          rw [if_pos ⟨h65, h90⟩] at hlw
          have hnew : LowRel w s c (k + 1) (wr.setCell ⟨w.heap.size, k, none⟩ (.int .u8 ((x.toNat : Int) + 97 - 65))) := by
            refine ⟨⟨cs.setIfInBounds k (.int .u8 ((x.toNat : Int) + 97 - 65)), heap_setAny hb k _, by rw [Array.size_setIfInBounds]; exact hz, fun j hj => ?_⟩, hB.setCell (Nat.le_refl _) _⟩
            rw [HN.out j]
            by_cases hjk : j = k
            · subst hjk
              rw [if_pos rfl, Array.getElem?_setIfInBounds, if_pos rfl, if_pos (by omega), hlw]
              congr 2
              omega
            · rw [if_neg hjk, setAt_other (fun e => hjk e.symm)]
              exact hcs j hj
          clear hstay hlw hcs HN
          go_wp2
          go_roundw
          case rel => exact ⟨k + 1, by omega, by go_num, hnew⟩
          case measure => simp [intOf]; omega
        · have g90 : decide ((x.toNat : Int) ≤ 90) = false := decide_eq_false (by omega)
          have i90 : ¬ (x.toNat : Int) ≤ 90 := by omega
          rw [if_neg (fun h => h90 h.2)] at hlw
          have hst := hstay (UInt8.toNat_inj.1 hlw)
          clear hstay hlw hcs HN
          go_wp2
          go_roundw
          case rel => exact ⟨k + 1, by omega, by go_num, hst⟩
          case measure => simp [intOf]; omega
      · have g65 : decide ((65 : Int) ≤ (x.toNat : Int)) = false := decide_eq_false (by omega)
        have i65 : ¬ (65 : Int) ≤ (x.toNat : Int) := by omega
        rw [if_neg (fun h => h65 h.1)] at hlw
        have hst := hstay (UInt8.toNat_inj.1 hlw)
        clear hstay hlw hcs HN
        go_wp2
        go_roundw
        case rel => exact ⟨k + 1, by omega, by go_num, hst⟩
        case measure => simp [intOf]; omega
    · obtain rfl : k = s.size := by omega
      have hlen : (lowTo s.data.toList s.size).length = s.size := by rw [lowTo_len, Array.length_toList]; try rfl
      have hall : lowTo s.data.toList s.size = Lib.toLowerA s.data.toList := by
        have h := lowTo_all s.data.toList
        rw [Array.length_toList] at h
        exact h
      have hcv : (convert 138 9 (.slice (some ⟨w.heap.size, 0, none⟩) s.size c)).run Tryz.prog wr = .ok (.string ⟨(Lib.toLowerA s.data.toList).toArray⟩) wr := by
        have h := run_convert_bytes_back wr 138 9 5 ⟨w.heap.size, 0, none⟩ c (lowTo s.data.toList s.size) Tryz.underlying138 Tryz.underlying5 Tryz.underlying9 (fun j hj => by
          rw [Addr.add_mid, cell_of_row wr _ (0 + j) cs _ (c, c + 1) hb, Nat.zero_add, hcs j (by omega), List.getD_eq_getElem?_getD, List.getElem?_eq_getElem hj]
          rfl)
        rw [hlen, hall] at h
        exact h
      clear hlen hall hcs
      go_wp2
      go_ret
      exact ⟨rfl, hB⟩
end Go.Proofs.YtlkkociijfdcgaaGreatDoor
/-
  The dots of the reference's patterns.
-/
namespace Go.Proofs.YtlkkociijfdcgaaGreatDoor
open Go.RowKit
def dotsB (t s : ByteArray) (o : Nat) : Bool := (decide (¬ ((t.data.toList.getD 0 0).toNat : Int) = 46) || decide (o = 0)) && (decide (¬ ((t.data.toList.getD (t.size - 1) 0).toNat : Int) = 46) || decide (o + t.size = s.size))
theorem getD_byte {t : ByteArray} {k : Nat} (h : k < t.size) : t.data.toList.getD k 0 = t[k] := by
  have hl : k < t.data.toList.length := by rw [Array.length_toList]; exact h
  rw [List.getD_eq_getElem?_getD, List.getElem?_eq_getElem hl]
  rfl
set_option maxRecDepth 100000 in
set_option maxHeartbeats 2000000 in
theorem refDots_any (t s : ByteArray) (o : Nat) (w : World) (h0 : 0 < t.size) (ht : t.size ≤ 1000) (ho : o ≤ 1000) :
    Calls Tryz.prog 167 #[.string t, .string s, .int .i64 o] w fun e w' => e = .returned (.bool (dotsB t s o)) ∧ w' = w := by
  have HD := Lib.hid (show dotsB t s o = ((decide (¬ (t[0].toNat : Int) = 46) || decide (o = 0)) && (decide (¬ (t[t.size - 1].toNat : Int) = 46) || decide (o + t.size = s.size))) by
    unfold dotsB
    rw [getD_byte h0, getD_byte (by omega)])
  go_enter Tryz.func167, Tryz.ntmps167
  go_wp2_with fail
  all_goals go_ret
  all_goals refine ⟨congrArg (fun b => Ending.returned (Value.bool b)) ?_, rfl⟩
  all_goals rw [HD.out]
  all_goals rw [Bool.eq_iff_iff]
  all_goals simp only [Bool.and_eq_true, Bool.or_eq_true, decide_eq_true_eq, beq_iff_eq, true_iff, Bool.false_eq_true, false_iff]
  all_goals omega
end Go.Proofs.YtlkkociijfdcgaaGreatDoor

/-
  The levels of a pattern, as the reference reckons them: maths.
-/
namespace Go.Proofs.YtlkkociijfdcgaaGreatDoor
open Go.RowKit Go.Maps Go.Shelf

/-- The reference's word: with dots at its ends. -/
def dotted (W : List UInt8) : List UInt8 := 46 :: (W ++ [46])
def dotsL (I S : List UInt8) (o : Nat) : Bool := (decide (¬ ((I.getD 0 0).toNat : Int) = 46) || decide (o = 0)) && (decide (¬ ((I.getD (I.length - 1) 0).toNat : Int) = 46) || decide (o + I.length = S.length))
def hitL (I S : List UInt8) (o : Nat) : Bool := decide ((S.drop o).take I.length = I) && dotsL I S o
/-- The inner loop: one found place. -/
def rD (o n : Nat) (Lv : List Int) : Nat → List Int → List Int
  | 0, M => M
  | g + 1, M => if 1 ≤ o + g ∧ o + g ≤ n + 1 then (rD o n Lv g M).set (o + g - 1) (max ((rD o n Lv g M).getD (o + g - 1) 0) (Lv.getD g 0)) else rD o n Lv g M
/-- The outer loop. -/
def rF (I S : List UInt8) (n : Nat) (Lv : List Int) : Nat → List Int
  | 0 => List.replicate (n + 1) 0
  | o + 1 => if hitL I S o = true then rD o n Lv Lv.length (rF I S n Lv o) else rF I S n Lv o
/-- The greatest of numbers that a place has by found places. -/
def mxs (f : Nat → Int) (l : List Nat) (m : Int) : Int := l.foldl (fun m a => max m (f a)) m
theorem mxs_le {f : Nat → Int} {B : Int} : ∀ {l : List Nat} {m : Int}, mxs f l m ≤ B ↔ m ≤ B ∧ ∀ a ∈ l, f a ≤ B
  | [], m => by simp [mxs]
  | a :: l, m => by
    show mxs f l (max m (f a)) ≤ B ↔ _
    rw [mxs_le (l := l)]
    constructor
    · rintro ⟨h, h2⟩
      refine ⟨by omega, fun b hb => ?_⟩
      rcases List.mem_cons.1 hb with rfl | hb
      · omega
      · exact h2 b hb
    · rintro ⟨h, h2⟩
      have := h2 a List.mem_cons_self
      exact ⟨by omega, fun b hb => h2 b (List.mem_cons_of_mem _ hb)⟩
theorem mxs_eq {f g : Nat → Int} {l k : List Nat} {m : Int} (hm : 0 ≤ m) (h1 : ∀ a ∈ l, f a ≤ 0 ∨ ∃ b ∈ k, f a = g b) (h2 : ∀ b ∈ k, g b ≤ 0 ∨ ∃ a ∈ l, g b = f a) : mxs f l m = mxs g k m := by
  apply Int.le_antisymm
  · have hk := (mxs_le (f := g) (B := mxs g k m) (l := k) (m := m)).1 (Int.le_refl _)
    refine mxs_le.2 ⟨hk.1, fun a ha => ?_⟩
    rcases h1 a ha with h | ⟨b, hb, e⟩
    · omega
    · rw [e]; exact hk.2 b hb
  · have hk := (mxs_le (f := f) (B := mxs f l m) (l := l) (m := m)).1 (Int.le_refl _)
    refine mxs_le.2 ⟨hk.1, fun a ha => ?_⟩
    rcases h2 a ha with h | ⟨b, hb, e⟩
    · omega
    · rw [e]; exact hk.2 b hb
theorem mxs_init {f : Nat → Int} : ∀ {l : List Nat} {m : Int}, 0 ≤ m → mxs f l m = max m (mxs f l 0)
  | [], m, h => by simp [mxs]; omega
  | a :: l, m, h => by
    show mxs f l (max m (f a)) = max m (mxs f l (max 0 (f a)))
    rw [mxs_init (l := l) (m := max m (f a)) (by omega), mxs_init (l := l) (m := max 0 (f a)) (by omega)]
    omega
theorem getD_set {L : List Int} {i j : Nat} {v : Int} (hi : i < L.length) : (L.set i v).getD j 0 = if i = j then v else L.getD j 0 := by
  rw [List.getD_eq_getElem?_getD, List.getD_eq_getElem?_getD, List.getElem?_set]
  by_cases h : i = j
  · subst h; rw [if_pos rfl, if_pos rfl, if_pos hi]; try rfl
  · rw [if_neg h, if_neg h]
theorem lvD_len (a : Nat) (ds : List Int) : ∀ k (M : List Int), (lvD a ds k M).length = M.length
  | 0, _ => rfl
  | k + 1, M => by unfold lvD; rw [List.length_set]; exact lvD_len a ds k M
theorem rD_len (o n : Nat) (Lv : List Int) : ∀ k (M : List Int), (rD o n Lv k M).length = M.length
  | 0, _ => rfl
  | k + 1, M => by
    unfold rD
    split
    · rw [List.length_set]; exact rD_len o n Lv k M
    · exact rD_len o n Lv k M
/-- What one found place adds at another one. -/
def addL (ds : List Int) (a j : Nat) : Int := if a ≤ j ∧ j < a + ds.length then mxD (ds.getD (j - a) 0) else 0
theorem mxD_max {m d : Int} (h : 0 ≤ m) (_hd : -1 ≤ d) : max m d = max m (mxD d) := by unfold mxD; split <;> omega
theorem lvD_at {a : Nat} {ds M : List Int} (hd : ∀ k, -1 ≤ ds.getD k 0) (ha : a + ds.length ≤ M.length) (hM : ∀ j, 0 ≤ M.getD j 0) (j : Nat) : ∀ k, k ≤ ds.length →
    (lvD a ds k M).getD j 0 = if a ≤ j ∧ j < a + k then max (M.getD j 0) (mxD (ds.getD (j - a) 0)) else M.getD j 0
  | 0, _ => by rw [if_neg (by omega)]; try rfl
  | k + 1, h => by
    have ih := lvD_at hd ha hM j k (by omega)
    have ih2 := lvD_at hd ha hM (a + k) k (by omega)
    rw [if_neg (by omega)] at ih2
    show ((lvD a ds k M).set (a + k) (max ((lvD a ds k M).getD (a + k) 0) (ds.getD k 0))).getD j 0 = _
    rw [getD_set (by rw [lvD_len]; omega), ih2, ih]
    by_cases e : a + k = j
    · subst e
      rw [if_pos rfl, if_pos ⟨by omega, by omega⟩, Nat.add_sub_cancel_left, mxD_max (hM _) (hd k)]
    · rw [if_neg e]
      by_cases h2 : a ≤ j ∧ j < a + k
      · rw [if_pos h2, if_pos ⟨h2.1, by omega⟩]
      · rw [if_neg h2, if_neg (by omega)]
theorem lvD_add {a : Nat} {ds M : List Int} (hd : ∀ k, -1 ≤ ds.getD k 0) (ha : a + ds.length ≤ M.length) (hM : ∀ j, 0 ≤ M.getD j 0) (j : Nat) : (lvD a ds ds.length M).getD j 0 = max (M.getD j 0) (addL ds a j) := by
  have h0 := hM j
  rw [lvD_at hd ha hM j _ (Nat.le_refl _)]
  unfold addL
  split
  · rfl
  · omega
/-- The levels of a pattern, place by place. -/
theorem lvFold_at {ds : List Int} (hd : ∀ k, -1 ≤ ds.getD k 0) (j : Nat) : ∀ (l : List Nat) (M : List Int), (∀ a ∈ l, a + ds.length ≤ M.length) → (∀ j, 0 ≤ M.getD j 0) →
    (l.foldl (fun M a => lvD a ds ds.length M) M).getD j 0 = mxs (fun a => addL ds a j) l (M.getD j 0)
  | [], _, _, _ => rfl
  | a :: l, M, hl, hM => by
    have ha := hl a List.mem_cons_self
    have hM2 : ∀ i, 0 ≤ (lvD a ds ds.length M).getD i 0 := fun i => by
      rw [lvD_add hd ha hM i]
      have := hM i
      omega
    show (l.foldl (fun M a => lvD a ds ds.length M) (lvD a ds ds.length M)).getD j 0 = mxs (fun a => addL ds a j) l (max (M.getD j 0) (addL ds a j))
    rw [lvFold_at hd j l _ (fun b hb => by rw [lvD_len]; exact hl b (List.mem_cons_of_mem _ hb)) hM2, lvD_add hd ha hM j]
theorem rD_at {o n : Nat} {Lv M : List Int} (hM : M.length = n + 1) (j : Nat) (hj : j ≤ n) : ∀ k,
    (rD o n Lv k M).getD j 0 = if o ≤ j + 1 ∧ j + 1 < o + k then max (M.getD j 0) (Lv.getD (j + 1 - o) 0) else M.getD j 0
  | 0 => by rw [if_neg (by omega)]; try rfl
  | k + 1 => by
    have ih := rD_at (o := o) (Lv := Lv) hM j hj k
    unfold rD
    split
    · rename_i hb
      rw [getD_set (by rw [rD_len]; omega)]
      by_cases e : o + k - 1 = j
      · have ej : j = o + k - 1 := e.symm
        rw [if_pos e, e, ih, if_neg (by omega), if_pos ⟨by omega, by omega⟩]
        congr 2
        omega
      · rw [if_neg e, ih]
        by_cases h2 : o ≤ j + 1 ∧ j + 1 < o + k
        · rw [if_pos h2, if_pos ⟨h2.1, by omega⟩]
        · rw [if_neg h2, if_neg (by omega)]
    · rename_i hb
      rw [ih]
      by_cases h2 : o ≤ j + 1 ∧ j + 1 < o + k
      · rw [if_pos h2, if_pos ⟨h2.1, by omega⟩]
      · rw [if_neg h2, if_neg (by omega)]
def addR (Lv : List Int) (o j : Nat) : Int := if o ≤ j + 1 ∧ j + 1 < o + Lv.length then Lv.getD (j + 1 - o) 0 else 0
theorem rF_len (I S : List UInt8) (n : Nat) (Lv : List Int) : ∀ o, (rF I S n Lv o).length = n + 1
  | 0 => by simp [rF]
  | o + 1 => by
    unfold rF
    split
    · rw [rD_len]; exact rF_len I S n Lv o
    · exact rF_len I S n Lv o
theorem rep_getD (n j : Nat) : (List.replicate n (0 : Int)).getD j 0 = 0 := by
  rw [List.getD_eq_getElem?_getD, List.getElem?_replicate]
  split <;> rfl
theorem rF_at {I S : List UInt8} {n : Nat} {Lv : List Int} (hLv : ∀ k, 0 ≤ Lv.getD k 0) (j : Nat) (hj : j ≤ n) : ∀ N,
    (rF I S n Lv N).getD j 0 = mxs (fun o => addR Lv o j) ((List.range N).filter (hitL I S)) 0 ∧ 0 ≤ (rF I S n Lv N).getD j 0
  | 0 => by
    show (List.replicate (n + 1) (0 : Int)).getD j 0 = 0 ∧ 0 ≤ (List.replicate (n + 1) (0 : Int)).getD j 0
    rw [rep_getD]
    exact ⟨rfl, Int.le_refl _⟩
  | N + 1 => by
    obtain ⟨ih, ih0⟩ := rF_at hLv j hj N
    rw [List.range_succ, List.filter_append]
    unfold rF
    by_cases h : hitL I S N = true
    · rw [if_pos h, rD_at (rF_len I S n Lv N) j hj, List.filter_cons_of_pos (p := hitL I S) (a := N) (l := []) h]
      have e : mxs (fun o => addR Lv o j) ((List.range N).filter (hitL I S) ++ [N]) 0 = max ((rF I S n Lv N).getD j 0) (addR Lv N j) := by
        unfold mxs
        rw [List.foldl_append]
        show max (mxs (fun o => addR Lv o j) ((List.range N).filter (hitL I S)) 0) (addR Lv N j) = _
        rw [ih]
      rw [List.filter_nil, e]
      unfold addR
      split
      · have := hLv (j + 1 - N)
        exact ⟨rfl, by omega⟩
      · exact ⟨by omega, ih0⟩
    · rw [if_neg h, List.filter_cons_of_neg (p := hitL I S) (a := N) (l := []) h, List.filter_nil, List.append_nil]
      exact ⟨ih, ih0⟩
/-- Found places of letters in a word, by lists. -/
def foundL (ls W : List UInt8) (st en : Bool) (a : Nat) : Prop := a + ls.length ≤ W.length ∧ (W.drop a).take ls.length = ls ∧ (st = true → a = 0) ∧ (en = true → a + ls.length = W.length)
theorem take_dot {ls X : List UInt8} (hs : ∀ c ∈ ls, c ≠ 46) : (X ++ [46]).take ls.length = ls ↔ ls.length ≤ X.length ∧ X.take ls.length = ls := by
  constructor
  · intro h
    by_cases hl : ls.length ≤ X.length
    · exact ⟨hl, by rw [List.take_append_of_le_length hl] at h; exact h⟩
    · have h1 : (X ++ [46]).take ls.length = X ++ [46] := List.take_of_length_le (by simp; omega)
      rw [h1] at h
      exact absurd rfl (hs 46 (by rw [← h]; simp))
  · rintro ⟨hl, h⟩
    rw [List.take_append_of_le_length hl]; exact h
theorem take_dot_end {ls X : List UInt8} (hl : ls.length = X.length) : (X ++ [46]).take (ls.length + 1) = ls ++ [46] ↔ X.take ls.length = ls := by
  rw [List.take_of_length_le (by simp; omega), hl, List.take_length]
  constructor
  · intro h; exact List.append_cancel_right h
  · rintro rfl; rfl
theorem last_pre {pre ls : List UInt8} (h : 1 ≤ ls.length) : (pre ++ ls).getD ((pre ++ ls).length - 1) 0 ∈ ls := by
  rw [List.getD_eq_getElem?_getD, List.length_append, List.getElem?_append_right (by omega), List.getElem?_eq_getElem (by omega)]
  exact List.getElem_mem _
theorem head_mem {ls post : List UInt8} (h : 1 ≤ ls.length) : (ls ++ post).getD 0 0 ∈ ls := by
  rw [List.getD_eq_getElem?_getD, List.getElem?_append_left (by omega), List.getElem?_eq_getElem (by omega)]
  exact List.getElem_mem _
theorem not46 {c : UInt8} (h : c ≠ 46) : ¬ ((c.toNat : Int) = 46) := fun e => h (by
  apply UInt8.toNat_inj.1
  show c.toNat = 46
  omega)
theorem is46 : (((46 : UInt8).toNat : Int) = 46) := by decide
/-- What stands behind the place at which letters begin. -/
theorem tail_iff {ls X : List UInt8} (hs : ∀ c ∈ ls, c ≠ 46) (en : Bool) : ((X ++ [46]).take (ls ++ refPre en).length = ls ++ refPre en ∧ (en = true → ls.length = X.length)) ↔ (ls.length ≤ X.length ∧ X.take ls.length = ls ∧ (en = true → ls.length = X.length)) := by
  cases en
  · have e : refPre false = [] := rfl
    rw [e, List.append_nil]
    constructor
    · rintro ⟨h, -⟩
      obtain ⟨a, b⟩ := (take_dot hs).1 h
      exact ⟨a, b, fun h => by cases h⟩
    · rintro ⟨a, b, -⟩
      exact ⟨(take_dot hs).2 ⟨a, b⟩, fun h => by cases h⟩
  · have e : refPre true = [46] := rfl
    rw [e, List.length_append]
    constructor
    · rintro ⟨h, hl⟩
      have hl := hl rfl
      exact ⟨by omega, (take_dot_end hl).1 h, fun _ => hl⟩
    · rintro ⟨-, h, hl⟩
      have hl := hl rfl
      exact ⟨(take_dot_end hl).2 h, fun _ => hl⟩
theorem dots_end {pre ls : List UInt8} (h1 : 1 ≤ ls.length) (hs : ∀ c ∈ ls, c ≠ 46) (en : Bool) (o n : Nat) :
    (decide (¬ (((pre ++ (ls ++ refPre en)).getD ((pre ++ (ls ++ refPre en)).length - 1) 0).toNat : Int) = 46) || decide (o + (pre ++ (ls ++ refPre en)).length = n)) = true ↔ (en = true → o + pre.length + ls.length + 1 = n) := by
  cases en
  · have e : refPre false = [] := rfl
    rw [e, List.append_nil]
    have h := not46 (hs _ (last_pre (pre := pre) h1))
    rw [decide_eq_true h]
    exact ⟨fun _ h => (by cases h), fun _ => rfl⟩
  · have e : refPre true = [46] := rfl
    rw [e]
    have hl : (pre ++ (ls ++ [46])).getD ((pre ++ (ls ++ [46])).length - 1) 0 = 46 := by
      have e2 : pre ++ (ls ++ [46]) = (pre ++ ls) ++ [46] := by rw [List.append_assoc]
      rw [e2, List.getD_eq_getElem?_getD, List.length_append, List.getElem?_append_right (by simp)]
      simp
    rw [hl, decide_eq_false (fun h => h is46), Bool.false_or, decide_eq_true_eq]
    simp only [List.length_append, List.length_cons, List.length_nil]
    constructor
    · intro h _; omega
    · intro h; have := h trivial; omega
theorem items_eq (x : Pat) : refItems x = refPre x.start ++ (x.ls ++ refPre x.stop) := by unfold refItems; rw [List.append_assoc]
theorem hit_iff {x : Pat} (h1 : 1 ≤ x.ls.length) (hs : ∀ c ∈ x.ls, c ≠ 46) (W : List UInt8) (o : Nat) :
    hitL (refItems x) (dotted W) o = true ↔ ∃ a, a + 1 = o + (refPre x.start).length ∧ foundL x.ls W x.start x.stop a := by
  have hSl : (dotted W).length = W.length + 2 := by simp [dotted]
  unfold hitL dotsL
  rw [items_eq, Bool.and_eq_true, Bool.and_eq_true, dots_end h1 hs, decide_eq_true_eq, hSl]
  cases hst : x.start
  · have e : refPre false = [] := rfl
    rw [e, List.nil_append, decide_eq_true (not46 (hs _ (head_mem h1))), Bool.true_or]
    cases o with
    | zero =>
      constructor
      · rintro ⟨h, -⟩
        have hm := head_mem (ls := x.ls) (post := refPre x.stop) h1
        rw [← h] at hm
        have e0 : ((List.drop 0 (dotted W)).take (x.ls ++ refPre x.stop).length).getD 0 0 = 46 := by
          rw [List.drop_zero, List.getD_eq_getElem?_getD, List.getElem?_take, if_pos (by rw [List.length_append]; omega)]
          rfl
        rw [e0] at hm
        exact absurd rfl (hs _ hm)
      · rintro ⟨a, ha, -⟩
        exact absurd ha (by simp)
    | succ a =>
      have ed : (dotted W).drop (a + 1) = (W ++ [46]).drop a := rfl
      rw [ed]
      by_cases hle : a ≤ W.length
      · have ed2 : (W ++ [46]).drop a = W.drop a ++ [46] := List.drop_append_of_le_length hle
        have ht := tail_iff (ls := x.ls) (X := W.drop a) hs x.stop
        rw [List.length_drop] at ht
        rw [ed2]
        constructor
        · rintro ⟨h, -, h3⟩
          obtain ⟨p, q, r⟩ := ht.1 ⟨h, fun hh => by have := h3 hh; simp at this; omega⟩
          exact ⟨a, by simp, by omega, q, (fun hh => by cases hh), fun hh => by have := r hh; omega⟩
        · rintro ⟨b, hb, p, q, -, r⟩
          obtain rfl : b = a := by simpa using hb
          obtain ⟨h, h3⟩ := ht.2 ⟨by omega, q, fun hh => by have := r hh; omega⟩
          exact ⟨h, rfl, fun hh => by have := h3 hh; simp; omega⟩
      · constructor
        · rintro ⟨h, -⟩
          have := congrArg List.length h
          rw [List.length_take, List.length_drop] at this
          simp only [List.length_append, List.length_cons, List.length_nil] at this
          omega
        · rintro ⟨b, hb, p, -⟩
          have : b = a := by simpa using hb
          omega
  · have e : refPre true = [46] := rfl
    have eg : (([46] ++ (x.ls ++ refPre x.stop)).getD 0 0) = 46 := rfl
    rw [e, eg, decide_eq_false (fun h => h is46), Bool.false_or, decide_eq_true_eq]
    have ht := tail_iff (ls := x.ls) (X := W) hs x.stop
    constructor
    · rintro ⟨h, ho, h3⟩
      subst ho
      have h' : (W ++ [46]).take (x.ls ++ refPre x.stop).length = x.ls ++ refPre x.stop := by
        have hc : (46 : UInt8) :: (W ++ [46]).take (x.ls ++ refPre x.stop).length = 46 :: (x.ls ++ refPre x.stop) := h
        exact (List.cons.inj hc).2
      obtain ⟨p, q, r⟩ := ht.1 ⟨h', fun hh => by have := h3 hh; simp at this; omega⟩
      exact ⟨0, by simp, by omega, by rw [List.drop_zero]; exact q, fun _ => rfl, fun hh => by have := r hh; omega⟩
    · rintro ⟨a, ha, p, q, r1, r⟩
      have ha0 := r1 rfl
      subst ha0
      have ho : o = 0 := by simp at ha; omega
      subst ho
      rw [List.drop_zero] at q
      obtain ⟨h, h3⟩ := ht.2 ⟨by omega, q, fun hh => by have := r hh; omega⟩
      refine ⟨?_, rfl, fun hh => by have := h3 hh; simp; omega⟩
      show (46 : UInt8) :: (W ++ [46]).take (x.ls ++ refPre x.stop).length = 46 :: (x.ls ++ refPre x.stop)
      rw [h]
theorem ext_list (s : ByteArray) (i j : Nat) : (s.extract i j).data.toList = (s.data.toList.drop i).take (j - i) := by
  rw [ByteArray.data_extract, Array.toList_extract, List.extract_eq_take_drop]
theorem toList_data (s : ByteArray) : s.toList = s.data.toList := by rw [ByteArray.toList_eq]
theorem mem_fixs {x : Pat} (s : ByteArray) (a : Nat) : a ∈ fixs (patP x) s ↔ foundL x.ls s.data.toList x.start x.stop a := by
  have hls : (patP x).ls.size = x.ls.length := by simp [patP, pvOf, ByteArray.size]
  have hsl : s.data.toList.length = s.size := by rw [Array.length_toList]; try rfl
  have hpl : (patP x).ls.data.toList = x.ls := by simp [patP, pvOf]
  unfold fixs foundsN foundL
  rw [List.mem_filter, List.mem_range, hsl]
  have hf : foundB (patP x) s a = (!(x.start && decide (0 < a)) && (!(x.stop && decide (a + x.ls.length < s.size)) && preB (s.extract a s.size) (patP x).ls)) := by
    unfold foundB
    rw [hls]
    rfl
  by_cases hle : a + x.ls.length ≤ s.size
  · have hex : (s.extract a s.size).size = s.size - a := by rw [ByteArray.size_extract]; omega
    have hp : preB (s.extract a s.size) (patP x).ls = true ↔ (s.data.toList.drop a).take x.ls.length = x.ls := by
      rw [preB_long (by rw [hls, hex]; omega), beq_iff_eq, toList_data, toList_data, hpl, ext_list, ext_list, hls, List.drop_zero, List.take_take]
      rw [show min (x.ls.length - 0) (s.size - a) = x.ls.length by omega]
    rw [hf, hls, Bool.and_eq_true, Bool.and_eq_true, hp]
    simp only [Bool.not_eq_true', Bool.and_eq_false_iff, decide_eq_false_iff_not]
    constructor
    · rintro ⟨_, h1, h2, h3⟩
      refine ⟨hle, h3, fun hh => ?_, fun hh => ?_⟩
      · rcases h1 with h1 | h1
        · rw [hh] at h1; cases h1
        · omega
      · rcases h2 with h2 | h2
        · rw [hh] at h2; cases h2
        · omega
    · rintro ⟨_, h3, h1, h2⟩
      refine ⟨by omega, ?_, ?_, h3⟩
      · cases hst : x.start
        · exact Or.inl rfl
        · have := h1 hst; exact Or.inr (by omega)
      · cases hst : x.stop
        · exact Or.inl rfl
        · have := h2 hst; exact Or.inr (by omega)
  · constructor
    · rintro ⟨h, -⟩; omega
    · rintro ⟨h, -⟩; omega
theorem core_getD (ds : List Int) (en : Bool) (i : Nat) : (ds.map mxD ++ refPreV en).getD i 0 = if i < ds.length then mxD (ds.getD i 0) else 0 := by
  rw [List.getD_eq_getElem?_getD]
  by_cases h : i < ds.length
  · rw [if_pos h, List.getElem?_append_left (by rw [List.length_map]; exact h), List.getElem?_map, List.getD_eq_getElem?_getD, List.getElem?_eq_getElem h]
    rfl
  · rw [if_neg h, List.getElem?_append_right (by rw [List.length_map]; omega), List.length_map]
    cases en
    · rfl
    · show ([(0 : Int)][i - ds.length]?).getD 0 = 0
      rcases Nat.eq_zero_or_pos (i - ds.length) with e | e
      · rw [e]; try rfl
      · rw [List.getElem?_eq_none (by simp; omega)]; try rfl
theorem lv_eq (x : Pat) : refLv x = refPreV x.start ++ (x.ds.map mxD ++ refPreV x.stop) := by unfold refLv; rw [List.append_assoc]
theorem addR_eq {x : Pat} {o a j : Nat} (h : a + 1 = o + (refPre x.start).length) (h0 : x.start = true → a = 0) : addR (refLv x) o j = addL x.ds a j := by
  have hR : addR (refLv x) o j = if o ≤ j + 1 then (refLv x).getD (j + 1 - o) 0 else 0 := by
    unfold addR
    by_cases h1 : o ≤ j + 1
    · by_cases h2 : j + 1 < o + (refLv x).length
      · rw [if_pos ⟨h1, h2⟩, if_pos h1]
      · rw [if_neg (fun h => h2 h.2), if_pos h1, List.getD_eq_getElem?_getD, List.getElem?_eq_none (by omega)]; try rfl
    · rw [if_neg (fun h => h1 h.1), if_neg h1]
  rw [hR, lv_eq]
  unfold addL
  cases hst : x.start
  · rw [hst] at h
    have h' : a + 1 = o := h
    have e : refPreV false = [] := rfl
    rw [e, List.nil_append, core_getD]
    by_cases h1 : a ≤ j
    · rw [if_pos (by omega), show j + 1 - o = j - a by omega]
      by_cases h2 : j - a < x.ds.length
      · rw [if_pos h2, if_pos ⟨h1, by omega⟩]
      · rw [if_neg h2, if_neg (by omega)]
    · rw [if_neg (by omega), if_neg (by omega)]
  · rw [hst] at h
    have ha := h0 hst
    have h' : a + 1 = o + 1 := h
    have e : refPreV true = [0] := rfl
    rw [e, if_pos (by omega), show j + 1 - o = j - a + 1 by omega]
    show (x.ds.map mxD ++ refPreV x.stop).getD (j - a) 0 = _
    rw [core_getD]
    by_cases h2 : j - a < x.ds.length
    · rw [if_pos h2, if_pos ⟨by omega, by omega⟩]
    · rw [if_neg h2, if_neg (by omega)]
/-- What right patterns keep, for their levels. -/
structure PatFine (x : Pat) : Prop where
  len : x.ds.length = x.ls.length + 1
  some_ : 1 ≤ x.ls.length
  small : ∀ c ∈ x.ls, c ≠ 46
  digs : ∀ k, -1 ≤ x.ds.getD k 0 ∧ x.ds.getD k 0 ≤ 9
/-- The levels of a pattern alone. -/
def lvOne (x : Pat) (s : ByteArray) : List Int := lvP (patP x) s (List.replicate (s.size + 1) 0)
theorem fixs_fit {x : Pat} (hx : PatFine x) (s : ByteArray) {a : Nat} (h : a ∈ fixs (patP x) s) : a + x.ds.length ≤ s.size + 1 := by
  have := (mem_fixs s a).1 h
  have h1 := this.1
  rw [Array.length_toList] at h1
  have h2 : s.data.size = s.size := rfl
  have := hx.len
  omega
theorem lvP_at {x : Pat} (hx : PatFine x) (s : ByteArray) {M : List Int} (hl : M.length = s.size + 1) (hM : ∀ j, 0 ≤ M.getD j 0) (j : Nat) :
    (lvP (patP x) s M).getD j 0 = mxs (fun a => addL x.ds a j) (fixs (patP x) s) (M.getD j 0) :=
  lvFold_at (fun k => (hx.digs k).1) j _ M (fun a ha => by rw [hl]; exact fixs_fit hx s ha) hM
theorem lvP_len (p : PV) (s : ByteArray) (M : List Int) : (lvP p s M).length = M.length := by
  unfold lvP
  generalize fixs p s = l
  induction l generalizing M with
  | nil => rfl
  | cons a l ih =>
    show (l.foldl (fun M a => lvD a p.dl p.dl.length M) (lvD a p.dl p.dl.length M)).length = M.length
    rw [ih, lvD_len]
theorem lvOne_len (x : Pat) (s : ByteArray) : (lvOne x s).length = s.size + 1 := by unfold lvOne; rw [lvP_len, List.length_replicate]
theorem lvP_one {x : Pat} (hx : PatFine x) (s : ByteArray) {M : List Int} (hl : M.length = s.size + 1) (hM : ∀ j, 0 ≤ M.getD j 0) (j : Nat) :
    (lvP (patP x) s M).getD j 0 = max (M.getD j 0) ((lvOne x s).getD j 0) := by
  unfold lvOne
  rw [lvP_at hx s hl hM, lvP_at hx s (by simp) (fun j => by rw [rep_getD]; exact Int.le_refl _), rep_getD, mxs_init (hM j)]
/-- The reference's two loops give the levels of a pattern. -/
theorem rF_one {x : Pat} (hx : PatFine x) (s : ByteArray) : rF (refItems x) (dotted s.data.toList) s.size (refLv x) (s.size + 3 - (refItems x).length) = lvOne x s := by
  have hsl : s.data.toList.length = s.size := by rw [Array.length_toList]; try rfl
  have hlv : ∀ k, 0 ≤ (refLv x).getD k 0 := fun k => by
    rw [lv_eq]
    cases x.start
    · show 0 ≤ (x.ds.map mxD ++ refPreV x.stop).getD k 0
      rw [core_getD]
      have := hx.digs k
      unfold mxD
      split
      · split <;> omega
      · omega
    · cases k with
      | zero => exact Int.le_refl _
      | succ k =>
        show 0 ≤ (x.ds.map mxD ++ refPreV x.stop).getD k 0
        rw [core_getD]
        have := hx.digs k
        unfold mxD
        split
        · split <;> omega
        · omega
  refine List.ext_getElem (by rw [rF_len, lvOne_len]) fun j h1 h2 => ?_
  have hj : j ≤ s.size := by rw [rF_len] at h1; omega
  have e1 := (rF_at (I := refItems x) (S := dotted s.data.toList) (n := s.size) hlv j hj (s.size + 3 - (refItems x).length)).1
  have e2 : (lvOne x s).getD j 0 = mxs (fun a => addL x.ds a j) (fixs (patP x) s) 0 := by
    unfold lvOne
    rw [lvP_at hx s (by simp) (fun j => by rw [rep_getD]; exact Int.le_refl _), rep_getD]
  have e3 : mxs (fun o => addR (refLv x) o j) ((List.range (s.size + 3 - (refItems x).length)).filter (hitL (refItems x) (dotted s.data.toList))) 0 = mxs (fun a => addL x.ds a j) (fixs (patP x) s) 0 := by
    refine mxs_eq (Int.le_refl _) (fun o ho => Or.inr ?_) (fun a ha => Or.inr ?_)
    · obtain ⟨_, h⟩ := List.mem_filter.1 ho
      obtain ⟨a, ha, hf⟩ := (hit_iff hx.some_ hx.small _ o).1 h
      exact ⟨a, (mem_fixs s a).2 hf, addR_eq ha hf.2.2.1⟩
    · have hf := (mem_fixs s a).1 ha
      obtain ⟨hf1, hf2, hf3, hf4⟩ := hf
      rw [hsl] at hf1 hf4
      have hp : (refPre x.start).length ≤ 1 := by cases x.start <;> decide
      refine ⟨a + 1 - (refPre x.start).length, List.mem_filter.2 ⟨List.mem_range.2 ?_, (hit_iff hx.some_ hx.small _ _).2 ⟨a, by omega, (mem_fixs s a).1 ha⟩⟩, (addR_eq (by omega) hf3).symm⟩
      rw [items_eq, List.length_append, List.length_append]
      have hs1 := hx.some_
      cases hst : x.stop
      · show a + 1 - (refPre x.start).length < s.size + 3 - ((refPre x.start).length + (x.ls.length + 0))
        omega
      · have := hf4 hst
        show a + 1 - (refPre x.start).length < s.size + 3 - ((refPre x.start).length + (x.ls.length + 1))
        omega
  have e := e1.trans (e3.trans e2.symm)
  rw [List.getD_eq_getElem?_getD, List.getD_eq_getElem?_getD, List.getElem?_eq_getElem h1, List.getElem?_eq_getElem h2] at e
  exact e
end Go.Proofs.YtlkkociijfdcgaaGreatDoor

namespace Go.Proofs.YtlkkociijfdcgaaGreatDoor
open Go.RowKit Go.Maps Go.Shelf

theorem dotsB_eq (t s : ByteArray) (o : Nat) : dotsB t s o = dotsL t.data.toList s.data.toList o := by
  unfold dotsB dotsL
  rw [Array.length_toList, Array.length_toList]
  rfl
structure LvKnow (w : World) (I : ByteArray) (A : Option Addr) (c : Nat) (x : Pat) (ss : ByteArray) (o : Nat) (wr : World) : Prop where
  box : wr.heap[w.heap.size]? = some (.cells #[.string I, .slice A (refLv x).length c] 149 (0, 0))
  row : RowX wr (w.heap.size + 1) (rF (refItems x) (dotted ss.data.toList) ss.size (refLv x) o)
  low : Below w.heap.size w wr
theorem LvKnow.next {w : World} {I : ByteArray} {A : Option Addr} {c : Nat} {x : Pat} {ss : ByteArray} {o : Nat} {wr : World} (h : LvKnow w I A c x ss o wr) (nq : Nat) (e : rF (refItems x) (dotted ss.data.toList) ss.size (refLv x) (o + 1) = rF (refItems x) (dotted ss.data.toList) ss.size (refLv x) o) : LvKnow w I A c x ss (o + 1) (wr.drewN nq) :=
  ⟨h.box, by rw [e]; exact h.row.drewN nq, below_drewN h.low nq⟩
theorem bc_true {a b : Bool} (h1 : a = true) (h2 : b = true) : (a && b) = true := by rw [h1, h2]; try rfl
theorem bc_l {a b : Bool} (h1 : a = false) : ¬ (a && b) = true := by rw [h1]; simp
theorem bc_r {a b : Bool} (h1 : b = false) : ¬ (a && b) = true := by rw [h1]; simp
/-- What lies between two rounds of the inner loop. -/
structure LvIn (w : World) (I : ByteArray) (A : Option Addr) (c : Nat) (x : Pat) (M : List Int) (wr : World) : Prop where
  box : wr.heap[w.heap.size]? = some (.cells #[.string I, .slice A (refLv x).length c] 149 (0, 0))
  row : RowX wr (w.heap.size + 1) M
  low : Below w.heap.size w wr
theorem LvIn.set_ {w : World} {I : ByteArray} {A : Option Addr} {c : Nat} {x : Pat} {M : List Int} {wr : World} (h : LvIn w I A c x M wr) (j : Nat) (v : Int) : LvIn w I A c x (M.set j v) (wr.setCell ⟨w.heap.size + 1, j, none⟩ (.int .i64 v)) :=
  ⟨(Below.heap_setCell _ _ _ _ (by show w.heap.size ≠ w.heap.size + 1; omega)).trans h.box, h.row.set_ j v, h.low.setCell (by show w.heap.size ≤ w.heap.size + 1; omega) _⟩
theorem LvIn.drewN {w : World} {I : ByteArray} {A : Option Addr} {c : Nat} {x : Pat} {M : List Int} {wr : World} (h : LvIn w I A c x M wr) (n : Nat) : LvIn w I A c x M (wr.drewN n) := ⟨h.box, h.row.drewN n, below_drewN h.low n⟩
theorem LvIn.drew {w : World} {I : ByteArray} {A : Option Addr} {c : Nat} {x : Pat} {M : List Int} {wr : World} (h : LvIn w I A c x M wr) : LvIn w I A c x M wr.drew := ⟨h.box, h.row.drew, h.low.drew⟩
set_option maxRecDepth 100000 in
set_option maxHeartbeats 2000000 in
theorem refLevels_any (x : Pat) (I : ByteArray) (A : Option Addr) (n c : Nat) (s : ByteArray) (w : World) (hI : I.data.toList = refItems x) (hV : IntsAt w A (refLv x)) (hn : n = (refLv x).length) (hx : PatFine x) (hx16 : x.ls.length ≤ 16) (hs : s.size ≤ 900) :
    Calls Tryz.prog 120 #[.agg #[.string I, .slice A n c], .string s] w fun e w' => ∃ h, e = .returned (.slice (some ⟨h, 0, none⟩) (s.size + 1) (s.size + 1)) ∧ RowX w' h (lvOne x (lowS s)) ∧ w.heap.size ≤ h ∧ Below w.heap.size w w' := by
  subst hn
  have hLp : 0 < (refLv x).length := by
    unfold refLv
    rw [List.length_append, List.length_append, List.length_map, hx.len]
    omega
  obtain ⟨ad, rfl⟩ : ∃ ad, A = some ad := by
    obtain ⟨ad, e, _⟩ := hV 0 hLp
    exact ⟨ad, e⟩
  clear hLp
  obtain ⟨ss, hss⟩ : ∃ ss, ss = lowS s := ⟨_, rfl⟩
  have hssz : ss.size = s.size := by rw [hss]; exact lowS_size s
  have HSM := Lib.hid (fun W => lowText_any s W (by omega))
  have HSS := Lib.hid hss
  have HSS0 := Lib.hid hss
  have HX := Lib.hid hx
  have hmk := fun W => (show (Instr.makeSlice 63 (.int .i64 ((s.size : Int) + 1)) (.int .i64 ((s.size : Int) + 1))).run Tryz.prog W = .ok (.slice (some ⟨W.heap.size, 0, none⟩) (s.size + 1) (s.size + 1)) (W.alloc (.cells (madeCells #[.int .i64 0] (s.size + 1)) 3)) from
    run_make_row' (P := Tryz.prog) 63 3 (.int .i64 0) 8 Tryz.underlying63 info3 rfl .i64 .i64 (s.size + 1) (by omega) (by omega) W)
  clear hss hx
  go_enter Tryz.func120, Tryz.ntmps120
  go_wp2_with fail
  refine (HSM.out _).mono ?_
  rintro e w1 ⟨rfl, hb1⟩
  change Hid (ss = ⟨(Lib.toLowerA s.data.toList).toArray⟩) at HSS
  rw [← HSS.out]
  have hb0 := ((Below.refl w.heap.size w).alloc (Nat.le_refl _) (.cells #[.string I, .slice (some ad) (refLv x).length c] 149)).alloc (by simp) (.cells (madeCells #[.int .i64 0] (s.size + 1)) 3)
  have hx0 := heap_keep (o := .cells (madeCells #[.int .i64 0] (s.size + 1)) 3) (heap_new w (.cells #[.string I, .slice (some ad) (refLv x).length c] 149))
  have hx1 := heap_new (w.alloc (.cells #[.string I, .slice (some ad) (refLv x).length c] 149)) (.cells (madeCells #[.int .i64 0] (s.size + 1)) 3)
  have hK0 : LvKnow w I (some ad) c x ss 0 w1 := by
    refine ⟨(hb1.block _ (by simp; omega)).trans hx0, ?_, hb0.trans (hb1.mono hb0.size)⟩
    have h := (hb1.block _ (by simp)).trans hx1
    rw [World.size_alloc] at h
    show w1.heap[w.heap.size + 1]? = some (.cells (vals (List.replicate (ss.size + 1) 0)).toArray 3 (0, 0))
    rw [h]
    congr 2
    apply Array.ext'
    rw [toList_madeCells_one, hssz]
    simp [vals]
  clear hb0 hx0 hx1 hb1 hmk HSM
  have HSZ2 := Lib.hid hssz
  have hss9 : ss.size ≤ 900 := by omega
  clear hssz
  go_wp2_with fail
  have hssz := HSZ2.out
  obtain ⟨S, hS⟩ : ∃ S, S = (⟨#[46]⟩ ++ ss ++ ⟨#[46]⟩ : ByteArray) := ⟨_, rfl⟩
  rw [← hS]
  have hSd : S.data.toList = dotted ss.data.toList := by rw [hS]; simp [dotted]
  have hSs : S.size = s.size + 2 := by
    have h := congrArg List.length hSd
    rw [Array.length_toList] at h
    have e : (dotted ss.data.toList).length = ss.size + 2 := by simp [dotted]
    rw [e] at h
    have e2 : S.data.size = S.size := rfl
    omega
  have hIs : I.size = (refItems x).length := by rw [← hI, Array.length_toList]; try rfl
  have hI18 : 1 ≤ I.size ∧ I.size ≤ 18 := by
    rw [hIs]
    unfold refItems
    rw [List.length_append, List.length_append]
    have := HX.out.some_
    have h1 : (refPre x.start).length ≤ 1 := by cases x.start <;> decide
    have h2 : (refPre x.stop).length ≤ 1 := by cases x.stop <;> decide
    omega
  have hL18 : (refLv x).length ≤ 19 := by
    unfold refLv
    rw [List.length_append, List.length_append, List.length_map, HX.out.len]
    have h1 : (refPreV x.start).length ≤ 1 := by cases x.start <;> decide
    have h2 : (refPreV x.stop).length ≤ 1 := by cases x.stop <;> decide
    omega
  have HSD := Lib.hid hSd
  have HSZ := Lib.hid hSs
  have HI := Lib.hid hI
  have HIS := Lib.hid hIs
  have hSle : S.size ≤ 902 := by omega
  have HV := Lib.hid hV
  obtain ⟨NN, hNN⟩ : ∃ NN, NN = s.size + 3 - I.size := ⟨_, rfl⟩
  have HN := Lib.hid hNN
  have hN2 : ∀ o, o < NN ↔ o + I.size ≤ S.size := fun o => by omega
  have HN2 := Lib.hid hN2
  clear hSd hSs hI hIs hS hssz hNN hN2 hV
  go_loopw [7] (fun v7 wr => ∃ o : Nat, o ≤ NN ∧ v7 = .int .i64 o ∧ LvKnow w I (some ad) c x ss o wr) (fun v7 _ => NN - (intOf v7).toNat)
  case atStart => exact ⟨0, Nat.zero_le _, rfl, hK0⟩
  case round =>
    obtain ⟨o, ho, rfl, hK⟩ := hrel
    clear hK0
    have q0 : wr.cell? ⟨w.heap.size, 0, none⟩ = some (.string I) := cell_of_row wr _ 0 _ _ (0, 0) hK.box
    have q1 : wr.cell? ⟨w.heap.size, 1, none⟩ = some (.slice (some ad) (refLv x).length c) := cell_of_row wr _ 1 _ _ (0, 0) hK.box
    by_cases hlt : o < NN
    · have hle := (HN2.out o).1 hlt
      have hle' : (o : Int) + (I.size : Int) ≤ (S.size : Int) := by omega
      have ho0 : (0 : Int) ≤ (o : Int) := by omega
      have hsum : IntKind.i64.wrap ((o : Int) + (I.size : Int)) = (o : Int) + (I.size : Int) := IntWalk.i64_in _ (by omega)
      have hsumN : ((o : Int) + (I.size : Int)).toNat = o + I.size := by omega
      have HRS := Lib.hid (show rF (refItems x) (dotted ss.data.toList) ss.size (refLv x) (o + 1) = if hitL (refItems x) (dotted ss.data.toList) o = true then rD o ss.size (refLv x) (refLv x).length (rF (refItems x) (dotted ss.data.toList) ss.size (refLv x) o) else rF (refItems x) (dotted ss.data.toList) ss.size (refLv x) o from rfl)
      have HHIT := Lib.hid (show hitL (refItems x) (dotted ss.data.toList) o = ((S.extract o (o + I.size)).toList == I.toList && dotsB I S o) by
        unfold hitL
        rw [dotsB_eq, HI.out, HSD.out, toList_data, toList_data, ext_list, HI.out, HSD.out, Nat.add_sub_cancel_left, HIS.out]
        cases dotsL (refItems x) (dotted ss.data.toList) o
        · rw [Bool.and_false, Bool.and_false]
        · rw [Bool.and_true, Bool.and_true, Bool.eq_iff_iff, decide_eq_true_eq, beq_iff_eq])
      cases hq : ((S.extract o (o + I.size)).toList == I.toList)
      · have hqn : ((S.extract o (o + I.size)).toList != I.toList) = true := by rw [bne, hq]; try rfl
        have HNX := Lib.hid (show rF (refItems x) (dotted ss.data.toList) ss.size (refLv x) (o + 1) = rF (refItems x) (dotted ss.data.toList) ss.size (refLv x) o by rw [HRS.out, if_neg (by rw [HHIT.out]; exact bc_l hq)])
        go_wp2_with fail
        go_quiet (fail)
        go_wp2
        go_roundw
        case rel => exact ⟨o + 1, by omega, by go_num, hK.next _ HNX.out⟩
        case measure => simp [intOf]; omega
      · have hqn : ((S.extract o (o + I.size)).toList != I.toList) = false := by rw [bne, hq]; try rfl
        have HD := Lib.hid (fun W => refDots_any I S o W (by omega) (by omega) (by omega))
        cases hd : dotsB I S o
        · rw [hd] at HD
          have HNX := Lib.hid (show rF (refItems x) (dotted ss.data.toList) ss.size (refLv x) (o + 1) = rF (refItems x) (dotted ss.data.toList) ss.size (refLv x) o by rw [HRS.out, if_neg (by rw [HHIT.out]; exact bc_r hd)])
          clear hd
          go_wp2_with fail
          go_quiet ((go_at_call 167; exact Calls.quiet_of_same (HD.out _)))
          go_wp2
          go_roundw
          case rel => exact ⟨o + 1, by omega, by go_num, hK.next _ HNX.out⟩
          case measure => simp [intOf]; omega
        · rw [hd] at HD
          have HNX := Lib.hid (show rF (refItems x) (dotted ss.data.toList) ss.size (refLv x) (o + 1) = rD o ss.size (refLv x) (refLv x).length (rF (refItems x) (dotted ss.data.toList) ss.size (refLv x) o) by rw [HRS.out, if_pos (by rw [HHIT.out]; exact bc_true hq hd)])
          obtain ⟨M, hM⟩ : ∃ M, M = rF (refItems x) (dotted ss.data.toList) ss.size (refLv x) o := ⟨_, rfl⟩
          have hKI : LvIn w I (some ad) c x M wr := ⟨hK.box, by rw [hM]; exact hK.row, hK.low⟩
          have hMl : M.length = ss.size + 1 := by rw [hM]; exact rF_len _ _ _ _ _
          rw [← hM] at HNX
          have HML := Lib.hid hMl
          clear hd hM hMl hK HRS HHIT
          go_wp2_with fail
          go_quiet ((go_at_call 167; exact Calls.quiet_of_same (HD.out _)))
          go_wp2_with fail
          have hKI2 := hKI.drewN nq
          obtain ⟨wo, hwo⟩ : ∃ wo, wo = wr.drewN nq := ⟨_, rfl⟩
          rw [← hwo] at hKI2 ⊢
          clear hKI hwo q0 q1 hq hqn
          go_loopw [8] (fun v8 wi => ∃ g : Nat, g ≤ (refLv x).length ∧ v8 = .int .i64 g ∧ LvIn w I (some ad) c x (rD o ss.size (refLv x) g M) wi) (fun v8 _ => (refLv x).length - (intOf v8).toNat)
          case atStart => exact ⟨0, Nat.zero_le _, rfl, hKI2⟩
          case round =>
            obtain ⟨g, hg, rfl, hL⟩ := hrel
            clear hKI2
            have q0 : wr.cell? ⟨w.heap.size, 0, none⟩ = some (.string I) := cell_of_row wr _ 0 _ _ (0, 0) hL.box
            have q1 : wr.cell? ⟨w.heap.size, 1, none⟩ = some (.slice (some ad) (refLv x).length c) := cell_of_row wr _ 1 _ _ (0, 0) hL.box
            by_cases hgl : g < (refLv x).length
            · have hgl' : (g : Int) < ((refLv x).length : Int) := by omega
              obtain ⟨ad', ead, hadlt, hca⟩ := (HV.out.below hL.low).at_ hgl
              obtain rfl : ad = ad' := Option.some.inj ead
              clear ead
              have hg0 : (0 : Int) ≤ (g : Int) := by omega
              have HRD := Lib.hid (show rD o ss.size (refLv x) (g + 1) M = if 1 ≤ o + g ∧ o + g ≤ ss.size + 1 then (rD o ss.size (refLv x) g M).set (o + g - 1) (max ((rD o ss.size (refLv x) g M).getD (o + g - 1) 0) ((refLv x).getD g 0)) else rD o ss.size (refLv x) g M from rfl)
              by_cases hin : 1 ≤ o + g ∧ o + g ≤ ss.size + 1
              · have HWL := Lib.hid (fun W => (within_any ((o : Int) + (g : Int) - 1) 0 (s.size : Int) W).mono (fun e w' h => (⟨h.1.trans (by rw [show inB ((o : Int) + (g : Int) - 1) 0 (s.size : Int) = true from decide_eq_true (by have := HSZ2.out; omega)]), h.2⟩ : e = .returned (.bool true) ∧ W = w')))
                have HR1 := Lib.hid (HRD.out.trans (if_pos hin))
                have hlen : o + g - 1 < (rD o ss.size (refLv x) g M).length := by rw [rD_len, HML.out]; omega
                have hcell := hL.row.cell hlen
                have hfz := hL.row.frozen (o + g - 1)
                obtain ⟨cv, hcv⟩ : ∃ cv, cv = (rD o ss.size (refLv x) g M).getD (o + g - 1) 0 := ⟨_, rfl⟩
                obtain ⟨dv, hdv⟩ : ∃ dv, dv = (refLv x).getD g 0 := ⟨_, rfl⟩
                rw [← hcv] at hcell HR1
                rw [← hdv] at hca HR1
                have hpl0 : (0 : Int) ≤ (o : Int) + (g : Int) - 1 := by omega
                have hplt : (o : Int) + (g : Int) - 1 < (s.size : Int) + 1 := by have := HSZ2.out; omega
                have hpln : ((o : Int) + (g : Int) - 1).toNat = o + g - 1 := by omega
                have hnew := (hL.set_ (o + g - 1) (max cv dv))
                rw [← HR1.out] at hnew
                clear hcv hdv hin HRD hlen
                go_wp2_with fail
                refine (HWL.out _).mono ?_
                rintro e w' ⟨rfl, rfl⟩
                go_wp2_with fail
                go_region
                go_wp2
                go_roundw
                case rel => exact ⟨g + 1, by omega, by go_num, hnew.drew⟩
                case measure => simp [intOf]; omega
              · have HWL := Lib.hid (fun W => (within_any ((o : Int) + (g : Int) - 1) 0 (s.size : Int) W).mono (fun e w' h => (⟨h.1.trans (by rw [show inB ((o : Int) + (g : Int) - 1) 0 (s.size : Int) = false from decide_eq_false (by have := HSZ2.out; omega)]), h.2⟩ : e = .returned (.bool false) ∧ W = w')))
                have HR1 := Lib.hid (HRD.out.trans (if_neg hin))
                have hnew := hL
                rw [← HR1.out] at hnew
                clear hin HRD
                go_wp2_with fail
                refine (HWL.out _).mono ?_
                rintro e w' ⟨rfl, rfl⟩
                go_wp2
                go_roundw
                case rel => exact ⟨g + 1, by omega, by go_num, hnew⟩
                case measure => simp [intOf]; omega
            · have hgl' : ¬ (g : Int) < ((refLv x).length : Int) := by omega
              obtain rfl : g = (refLv x).length := by omega
              have hK2 : LvKnow w I (some ad) c x ss (o + 1) wr := ⟨hL.box, by rw [HNX.out]; exact hL.row, hL.low⟩
              clear hL
              go_wp2
              go_roundw
              case rel => exact ⟨o + 1, by omega, by go_num, hK2⟩
              case measure => simp [intOf]; omega
    · have hge : ¬ (o : Int) + (I.size : Int) ≤ (S.size : Int) := fun h => hlt ((HN2.out o).2 (by omega))
      obtain rfl : o = NN := by omega
      have hrow : RowX wr (w.heap.size + 1) (lvOne x ss) := by
        have e : ss.size + 3 - (refItems x).length = o := by rw [← HIS.out, HN.out, HSZ2.out]
        rw [← rF_one HX.out ss, e]
        exact hK.row
      have hsum : IntKind.i64.wrap ((o : Int) + (I.size : Int)) = (o : Int) + (I.size : Int) := IntWalk.i64_in _ (by have := HN.out; omega)
      have hlow := hK.low
      clear hK
      go_wp2
      go_ret
      exact ⟨_, rfl, by rw [← HSS0.out]; exact hrow, by omega, hlow⟩
end Go.Proofs.YtlkkociijfdcgaaGreatDoor
/-
  The levels of all patterns: the reference's walk.
-/
namespace Go.Proofs.YtlkkociijfdcgaaGreatDoor
open Go.RowKit Go.Maps Go.Shelf

theorem pats_fine {l : List ByteArray} (h : (checkPats l).2 = 0) : l.length ≤ 60 ∧ ∀ j, j < l.length → patOf (l.getD j noTx).data.toList = some (patG l j) ∧ PatFine (patG l j) ∧ (patG l j).ls.length ≤ 16 := by
  unfold checkPats at h
  by_cases h60 : 60 < l.length
  · rw [if_pos h60] at h; exact absurd h (by decide)
  · rw [if_neg h60] at h
    refine ⟨by omega, fun j hj => ?_⟩
    cases hf : firstAt (badPat l) (l.length - 0) 0 with
    | some i => rw [hf] at h; exact absurd (show (3 : Int) = 0 from h) (by decide)
    | none =>
      have hb := firstAt_none hf j (Nat.zero_le _) (by omega)
      unfold badPat at hb
      unfold patG
      cases hp : patOf (l.getD j noTx).data.toList with
      | none => rw [hp] at hb; cases hb
      | some x =>
        obtain ⟨h1, h2, h3, h4, h5⟩ := patOf_ok hp
        refine ⟨rfl, ⟨h3, h1, fun c hc e => ?_, getD_digs h4⟩, h2⟩
        have := h5 c hc
        rw [e] at this
        exact absurd this (by decide)
theorem checkR_fine {r : RU} (h : (checkR r).2 = 0) : r.ps.l.length ≤ 60 ∧ ∀ j, j < r.ps.l.length → patOf (r.ps.l.getD j noTx).data.toList = some (patG r.ps.l j) ∧ PatFine (patG r.ps.l j) ∧ (patG r.ps.l j).ls.length ≤ 16 := by
  refine pats_fine ?_
  unfold checkR at h
  by_cases h1 : (checkPats r.ps.l).2 = 0
  · exact h1
  · rw [if_pos h1] at h; exact h
/-- The inner loop: the greater one of two tables, up to a place. -/
def mxTo (O L : List Int) : Nat → List Int
  | 0 => O
  | k + 1 => (mxTo O L k).set k (max ((mxTo O L k).getD k 0) (L.getD k 0))
theorem mxTo_len (O L : List Int) : ∀ k, (mxTo O L k).length = O.length
  | 0 => rfl
  | k + 1 => by unfold mxTo; rw [List.length_set]; exact mxTo_len O L k
theorem mxTo_at {O L : List Int} (j : Nat) : ∀ k, k ≤ O.length → (mxTo O L k).getD j 0 = if j < k then max (O.getD j 0) (L.getD j 0) else O.getD j 0
  | 0, _ => by rw [if_neg (by omega)]; try rfl
  | k + 1, h => by
    have ih := mxTo_at (O := O) (L := L) j k (by omega)
    have ih2 := mxTo_at (O := O) (L := L) k k (by omega)
    rw [if_neg (by omega)] at ih2
    unfold mxTo
    rw [getD_set (by rw [mxTo_len]; omega), ih2, ih]
    by_cases e : k = j
    · subst e; rw [if_pos rfl, if_pos (by omega)]
    · rw [if_neg e]
      by_cases h2 : j < k
      · rw [if_pos h2, if_pos (by omega)]
      · rw [if_neg h2, if_neg (by omega)]
theorem mxTo_lv {x : Pat} (hx : PatFine x) (s : ByteArray) {M : List Int} (hM : LvOk (s.size + 1) M) : mxTo M (lvOne x s) (s.size + 1) = lvP (patP x) s M := by
  refine List.ext_getElem (by rw [mxTo_len, lvP_len]) fun j h1 h2 => ?_
  have hj : j < s.size + 1 := by rw [mxTo_len, hM.1] at h1; exact h1
  have e1 := mxTo_at (O := M) (L := lvOne x s) j (s.size + 1) (by rw [hM.1]; exact Nat.le_refl _)
  rw [if_pos hj] at e1
  have e2 := lvP_one hx s hM.1 (fun j => (hM.2 j).1) j
  have e := e1.trans e2.symm
  rw [List.getD_eq_getElem?_getD, List.getD_eq_getElem?_getD, List.getElem?_eq_getElem h1, List.getElem?_eq_getElem h2] at e
  exact e
theorem IRow.ints {w : World} {base : Nat} {A : Option Addr} {n c : Nat} {l : List Int} (h : IRow w base (.slice A n c) l) : n = l.length ∧ IntsAt w A l := by
  obtain ⟨a, c', e, hI, _⟩ := h.shape
  injection e with e1 e2 e3
  subst e1
  exact ⟨e2, hI⟩
structure LOKnow (w : World) (r : RU) (M : List Int) (wr : World) : Prop where
  box : wr.heap[w.heap.size]? = some (.cells #[.slice r.ps.a r.ps.l.length r.ps.c, .slice r.es.a r.es.l.length r.es.c, .slice r.bs.a r.bs.l.length r.bs.c, .int .i64 r.left, .int .i64 r.right] 24 (0, 0))
  row : RowX wr (w.heap.size + 1) M
  low : Below w.heap.size w wr
theorem LOKnow.below {w : World} {r : RU} {M : List Int} {wr wr' : World} (h : LOKnow w r M wr) (hb : Below wr.heap.size wr wr') : LOKnow w r M wr' := ⟨(hb.block _ (heap_lt h.box)).trans h.box, h.row.below hb, h.low.trans (hb.mono h.low.size)⟩
theorem LOKnow.set_ {w : World} {r : RU} {M : List Int} {wr : World} (h : LOKnow w r M wr) (j : Nat) (v : Int) : LOKnow w r (M.set j v) (wr.setCell ⟨w.heap.size + 1, j, none⟩ (.int .i64 v)) :=
  ⟨(Below.heap_setCell _ _ _ _ (by show w.heap.size ≠ w.heap.size + 1; omega)).trans h.box, h.row.set_ j v, h.low.setCell (by show w.heap.size ≤ w.heap.size + 1; omega) _⟩
theorem LOKnow.drew {w : World} {r : RU} {M : List Int} {wr : World} (h : LOKnow w r M wr) : LOKnow w r M wr.drew := ⟨h.box, h.row.drew, h.low.drew⟩
set_option maxRecDepth 100000 in
set_option maxHeartbeats 2000000 in
theorem refLevelsOf_any (r : RU) (s : ByteArray) (w : World) (hR : r.at_ w) (hS : TXSmall r.ps.l) (he : (checkR r).2 = 0) (hs : s.size ≤ 900) :
    Calls Tryz.prog 61 #[.agg r.cells, .string s] w fun e w' => ∃ h, e = .returned (.slice (some ⟨h, 0, none⟩) (s.size + 1) (s.size + 1)) ∧ RowX w' h (lvTo (patG r.ps.l) (lowS s) r.ps.l.length) ∧ w.heap.size ≤ h ∧ Below w.heap.size w w' := by
  obtain ⟨h60, hfine⟩ := checkR_fine he
  have HR := Lib.hid hR.1.1
  have HF := Lib.hid hfine
  have hlss := lowS_size s
  have HLV := Lib.hid (lvTo_ok (fn := patG r.ps.l) (s := lowS s) (m := r.ps.l.length) (fun j hj k => ((hfine j hj).2.1.digs k).2))
  obtain ⟨ss, hss⟩ : ∃ ss, ss = lowS s := ⟨_, rfl⟩
  rw [← hss] at hlss HLV
  have HSZ := Lib.hid hlss
  have HL := Lib.hid (fun x I A n c W h1 h2 h3 h4 h5 => refLevels_any x I A n c s W h1 h2 h3 h4 h5 hs)
  rw [← hss] at HL ⊢
  have hmk := fun W => (show (Instr.makeSlice 63 (.int .i64 ((s.size : Int) + 1)) (.int .i64 ((s.size : Int) + 1))).run Tryz.prog W = .ok (.slice (some ⟨W.heap.size, 0, none⟩) (s.size + 1) (s.size + 1)) (W.alloc (.cells (madeCells #[.int .i64 0] (s.size + 1)) 3)) from
    run_make_row' (P := Tryz.prog) 63 3 (.int .i64 0) 8 Tryz.underlying63 info3 rfl .i64 .i64 (s.size + 1) (by omega) (by omega) W)
  have hb0 := ((Below.refl w.heap.size w).alloc (Nat.le_refl _) (.cells #[.slice r.ps.a r.ps.l.length r.ps.c, .slice r.es.a r.es.l.length r.es.c, .slice r.bs.a r.bs.l.length r.bs.c, .int .i64 r.left, .int .i64 r.right] 24)).alloc (by simp) (.cells (madeCells #[.int .i64 0] (s.size + 1)) 3)
  have hK0 : LOKnow w r (lvTo (patG r.ps.l) ss 0) ((w.alloc (.cells #[.slice r.ps.a r.ps.l.length r.ps.c, .slice r.es.a r.es.l.length r.es.c, .slice r.bs.a r.bs.l.length r.bs.c, .int .i64 r.left, .int .i64 r.right] 24)).alloc (.cells (madeCells #[.int .i64 0] (s.size + 1)) 3)) := by
    refine ⟨heap_keep (heap_new w _), ?_, hb0⟩
    have h := heap_new (w.alloc (.cells #[.slice r.ps.a r.ps.l.length r.ps.c, .slice r.es.a r.es.l.length r.es.c, .slice r.bs.a r.bs.l.length r.bs.c, .int .i64 r.left, .int .i64 r.right] 24)) (.cells (madeCells #[.int .i64 0] (s.size + 1)) 3)
    rw [World.size_alloc] at h
    show _ = some (Obj.cells (vals (List.replicate (ss.size + 1) 0)).toArray 3 (0, 0))
    rw [h]
    congr 2
    apply Array.ext'
    rw [toList_madeCells_one, hlss]
    simp [vals]
  unfold RU.cells
  clear hss hlss hfine hR hb0 he
  go_enter Tryz.func61, Tryz.ntmps61
  go_wp2_with fail
  clear hmk
  go_loopw [6] (fun v6 wr => ∃ k : Nat, k ≤ r.ps.l.length ∧ v6 = .int .i64 k ∧ LOKnow w r (lvTo (patG r.ps.l) ss k) wr) (fun v6 _ => r.ps.l.length - (intOf v6).toNat)
  case atStart => exact ⟨0, Nat.zero_le _, rfl, hK0⟩
  case round =>
    obtain ⟨k, hk, rfl, hK⟩ := hrel
    clear hK0
    have q0 : wr.cell? ⟨w.heap.size, 0, none⟩ = some (.slice r.ps.a r.ps.l.length r.ps.c) := cell_of_row wr _ 0 _ _ (0, 0) hK.box
    by_cases hlt : k < r.ps.l.length
    · have hkl : (k : Int) < (r.ps.l.length : Int) := by omega
      obtain ⟨p1, ep1, hp1', hc1⟩ := (HR.out.below hK.low) k hlt
      rw [ep1] at q0
      obtain ⟨hpo, hfi, h16⟩ := HF.out k hlt
      have hz := hS k hlt
      obtain ⟨t, et⟩ : ∃ t, t = r.ps.l.getD k noTx := ⟨_, rfl⟩
      rw [← et] at hc1 hpo hz
      have HRP := Lib.hid (fun W => readPattern_any t W hz)
      have HPO := Lib.hid hpo
      have hMok := HLV.out k hk
      have HST := Lib.hid (show lvTo (patG r.ps.l) ss (k + 1) = lvP (patP (patG r.ps.l k)) ss (lvTo (patG r.ps.l) ss k) from rfl)
      obtain ⟨M, hM⟩ : ∃ M, M = lvTo (patG r.ps.l) ss k := ⟨_, rfl⟩
      rw [← hM] at hMok HST hK
      obtain ⟨x, hx⟩ : ∃ x, x = patG r.ps.l k := ⟨_, rfl⟩
      rw [← hx] at hfi h16 HPO HST
      have HMX := Lib.hid (mxTo_lv hfi ss hMok)
      have HFI := Lib.hid hfi
      have HMO := Lib.hid hMok
      clear et ep1 hM hx hpo hfi hMok
      go_wp2_with fail
      refine (HRP.out _).mono ?_
      rintro e w2 ⟨hb2, I, A, m, c, rfl, hpp⟩
      obtain ⟨hIi, hrow⟩ := hpp x HPO.out
      obtain ⟨hm, hints⟩ := hrow.ints
      have HIi := Lib.hid hIi
      have HM := Lib.hid hm
      have hK2 := hK.below hb2
      have hb3 := (Below.refl w2.heap.size w2).alloc (Nat.le_refl _) (.cells #[.string I, .slice A m c] 149)
      have hK3 := hK2.below hb3
      have hints3 := hints.below hb3
      rw [HPO.out]
      clear hpp hIi hm hrow hints q0 hc1 hK hK2 hb2 hb3 HRP
      have hsz2 := hK3.row.lt
      go_wp2_with fail
      refine (HL.out x I A m c _ HIi.out hints3 HM.out HFI.out h16).mono ?_
      rintro e w4 ⟨h, rfl, hrow4, hh, hb4⟩
      have hK4 := hK3.below hb4
      have hhn : h ≠ w.heap.size + 1 := by omega
      obtain ⟨L, hL⟩ : ∃ L, L = lvOne x ss := ⟨_, rfl⟩
      have hLl : L.length = s.size + 1 := by rw [hL, lvOne_len, HSZ.out]
      have hMl : M.length = s.size + 1 := by rw [HMO.out.1, HSZ.out]
      rw [← hL] at hrow4 HMX
      rw [HSZ.out] at HMX
      have HLL := Lib.hid hLl
      have HML := Lib.hid hMl
      clear hL hLl hMl hints3 hK3 hb4 hh h16 hsz2
      go_wp2_with fail
      obtain ⟨wo, rfl⟩ : ∃ wo : World, wo = w4 := ⟨_, rfl⟩
      go_loopw [10] (fun v10 wi => ∃ j : Nat, j ≤ s.size + 1 ∧ v10 = .int .i64 j ∧ LOKnow w r (mxTo M L j) wi ∧ RowX wi h L) (fun v10 _ => s.size + 1 - (intOf v10).toNat)
      case atStart => exact ⟨0, Nat.zero_le _, rfl, hK4, hrow4⟩
      case round =>
        obtain ⟨j, hj, rfl, hK, hrow⟩ := hrel
        clear hK4 hrow4
        by_cases hjl : j < s.size + 1
        · have hjl' : (j : Int) < (s.size : Int) + 1 := by omega
          have hj0 : (0 : Int) ≤ (j : Int) := by omega
          have hc1 := hK.row.cell (j := j) (by rw [mxTo_len, HML.out]; exact hjl)
          have hfz := hK.row.frozen j
          have hc2 := hrow.cell (j := j) (by rw [HLL.out]; exact hjl)
          have HS2 := Lib.hid (show mxTo M L (j + 1) = (mxTo M L j).set j (max ((mxTo M L j).getD j 0) (L.getD j 0)) from rfl)
          obtain ⟨cv, hcv⟩ : ∃ cv, cv = (mxTo M L j).getD j 0 := ⟨_, rfl⟩
          obtain ⟨dv, hdv⟩ : ∃ dv, dv = L.getD j 0 := ⟨_, rfl⟩
          rw [← hcv] at hc1 HS2
          rw [← hdv] at hc2 HS2
          have hnew := hK.set_ j (max cv dv)
          rw [← HS2.out] at hnew
          have hrow' := hrow.far (p := ⟨w.heap.size + 1, j, none⟩) hhn (.int .i64 (max cv dv))
          clear hcv hdv hK hrow
          go_wp2_with fail
          go_region
          go_wp2
          go_roundw
          case rel => exact ⟨j + 1, by omega, by go_num, hnew.drew, hrow'.drew⟩
          case measure => simp [intOf]; omega
        · have hjl' : ¬ (j : Int) < (s.size : Int) + 1 := by omega
          obtain rfl : j = s.size + 1 := by omega
          rw [HMX.out, ← HST.out] at hK
          clear hrow
          go_wp2
          go_roundw
          case rel => exact ⟨k + 1, by omega, by go_num, hK⟩
          case measure => simp [intOf]; omega
    · have hkl : ¬ (k : Int) < (r.ps.l.length : Int) := by omega
      obtain rfl : k = r.ps.l.length := by omega
      have hrow := hK.row
      have hlow := hK.low
      clear hK
      go_wp2
      go_ret
      exact ⟨_, rfl, hrow, by omega, hlow⟩
end Go.Proofs.YtlkkociijfdcgaaGreatDoor

namespace Go.Proofs.YtlkkociijfdcgaaGreatDoor
open Go.RowKit Go.Maps Go.Shelf

theorem mk_some {m : UInt8} {L : Bool} {l : List UInt8} {x : List UInt8 × List Int} (h : refMT m L l = some x) : refMk m L true [] [] l = some x := by
  unfold refMT at h
  cases hm : refMk m L true [] [] l with
  | none => rw [hm] at h; cases h
  | some y =>
    rw [hm] at h
    dsimp only at h
    split at h
    · exact h
    · cases h
theorem checkE_some {y : Sty} {l : List ByteArray} (h : (checkE y l).2 = 0) : l.length ≤ 40 ∧ ∀ j, j < l.length → entO y (l.getD j noTx) = some (entG y l j) := by
  unfold checkE at h
  by_cases h40 : 40 < l.length
  · rw [if_pos h40] at h; exact absurd h (by decide)
  · rw [if_neg h40] at h
    refine ⟨by omega, fun j hj => ?_⟩
    cases hf : firstAt (badE y l) (l.length - 0) 0 with
    | some i =>
      rw [hf] at h
      exfalso
      have h' : (if badF y l i = true then (3 : Int) else 5) = 0 := h
      split at h' <;> exact absurd h' (by decide)
    | none =>
      have hb := firstAt_none hf j (Nat.zero_le _) (by omega)
      unfold badE at hb
      rw [Bool.or_eq_false_iff] at hb
      have hb1 := hb.1
      unfold badF at hb1
      unfold entG
      cases ho : entO y (l.getD j noTx) with
      | none => rw [ho] at hb1; cases hb1
      | some x => rfl
theorem marked_ok {y : Sty} {m : UInt8} {L : Bool} (hy : MkRel y m L) {l : List ByteArray} (h : (checkE y l).2 = 0) {j : Nat} (hj : j < l.length) : refMk m L true [] [] (l.getD j noTx).data.toList = some (entG y l j) := by
  have h1 := (checkE_some h).2 j hj
  rw [hy] at h1
  cases hm : refMT m L (l.getD j noTx).data.toList with
  | none => rw [hm] at h1; cases h1
  | some x =>
    rw [hm] at h1
    dsimp only at h1
    split at h1
    · cases h1
    · injection h1 with h1
      rw [← h1]
      exact mk_some hm
theorem checkR_exc {r : RU} (h : (checkR r).2 = 0) : (checkE excS r.es.l).2 = 0 ∧ (checkE barS r.bs.l).2 = 0 := by
  unfold checkR at h
  by_cases h1 : (checkPats r.ps.l).2 = 0
  · rw [if_neg (fun h => h h1)] at h
    by_cases h2 : (checkE excS r.es.l).2 = 0
    · rw [if_neg (fun h => h h2)] at h
      by_cases h3 : (checkE barS r.bs.l).2 = 0
      · exact ⟨h2, h3⟩
      · rw [if_pos h3] at h; exact absurd h h3
    · rw [if_pos h2] at h; exact absurd h h2
  · rw [if_pos h1] at h; exact absurd h h1
theorem hasE_succ (y : Sty) (l : List ByteArray) (k : Nat) (key : List UInt8) : hasE (entsN y l (k + 1)) key = (hasE (entsN y l k) key || decide ((entG y l k).1 = key)) := by
  rw [entsN_succ]
  unfold hasE
  rw [List.any_append]
  simp
theorem lookE_succ (y : Sty) (l : List ByteArray) (k : Nat) (key : List UInt8) : lookE (entsN y l (k + 1)) key = if (entG y l k).1 = key then (entG y l k).2 else lookE (entsN y l k) key := by
  rw [entsN_succ]
  unfold lookE
  rw [List.foldl_append]
  rfl
theorem small_low (c : UInt8) : smallB ((Lib.lowerB c).toNat : Int) = letB (c.toNat : Int) := by
  have h := low_nat c
  have hc : c.toNat < 256 := c.toNat_lt
  rw [h]
  unfold smallB letB
  rw [Bool.eq_iff_iff, decide_eq_true_eq]
  split
  · constructor
    · intro _; simp; omega
    · intro _; omega
  · constructor
    · intro h2; simp; omega
    · intro h2; simp at h2; omega
theorem allB_map (f : UInt8 → UInt8) (p q : Int → Bool) (h : ∀ c : UInt8, p ((f c).toNat : Int) = q (c.toNat : Int)) : ∀ l : List UInt8, allB p (l.map f) = allB q l := by
  intro l
  unfold allB
  rw [List.all_map]
  congr 1
  funext c
  exact h c
/-- All bytes up to a place are letters. -/
def letTo (s : ByteArray) (k : Nat) : Bool := allB letB (s.data.toList.take k)
theorem letTo_succ {s : ByteArray} {k : Nat} (h : k < s.size) : letTo s (k + 1) = (letTo s k && letB (s[k].toNat : Int)) := by
  have hl : k < s.data.toList.length := by rw [Array.length_toList]; exact h
  unfold letTo allB
  rw [List.take_succ_eq_append_getElem hl, List.all_append, List.all_cons, List.all_nil, Bool.and_true]
  rfl
theorem letTo_all (s : ByteArray) : letTo s s.size = areSmallB (lowS s) := by
  unfold letTo areSmallB lowS
  rw [List.take_of_length_le (by rw [Array.length_toList]; exact Nat.le_refl _)]
  show _ = allB smallB (Lib.toLowerA s.data.toList)
  unfold Lib.toLowerA
  exact (allB_map _ _ _ small_low _).symm
structure HyKnow (w : World) (r : RU) (wr : World) : Prop where
  box : wr.heap[w.heap.size]? = some (.cells #[.slice r.ps.a r.ps.l.length r.ps.c, .slice r.es.a r.es.l.length r.es.c, .slice r.bs.a r.bs.l.length r.bs.c, .int .i64 r.left, .int .i64 r.right] 24 (0, 0))
  low : Below w.heap.size w wr
theorem HyKnow.below {w : World} {r : RU} {wr wr' : World} (h : HyKnow w r wr) (hb : Below wr.heap.size wr wr') : HyKnow w r wr' := ⟨(hb.block _ (heap_lt h.box)).trans h.box, h.low.trans (hb.mono h.low.size)⟩
theorem HyKnow.drewN {w : World} {r : RU} {wr : World} (h : HyKnow w r wr) (n : Nat) : HyKnow w r (wr.drewN n) := ⟨h.box, below_drewN h.low n⟩
theorem HyKnow.own {w : World} {r : RU} {wr wr' : World} (h : HyKnow w r wr) (hb : Below (w.heap.size + 1) wr wr') : HyKnow w r wr' := ⟨(hb.block _ (by omega)).trans h.box, h.low.trans (hb.mono (by omega))⟩
/-- What the first loop leaves. -/
structure Lp1 (w : World) (r : RU) (key : List UInt8) (k : Nat) (v5 v6 : Value) (wr : World) : Prop where
  kn : HyKnow w r wr
  fo : v6 = .bool (hasE (entsN excS r.es.l k) key)
  at_ : ∃ A c, v5 = .slice A (lookE (entsN excS r.es.l k) key).length c ∧ IntsAt wr A (lookE (entsN excS r.es.l k) key)
  no : hasE (entsN excS r.es.l k) key = false → v5 = .slice none 0 0
def RHPost (w : World) (l : List Int) (e : Ending) (w' : World) : Prop := (∃ A c, e = .returned (.slice A l.length c) ∧ IntsAt w' A l) ∧ Below w.heap.size w w'
set_option maxRecDepth 100000 in
set_option maxHeartbeats 4000000 in
theorem refHyphens_any (r : RU) (s : ByteArray) (w : World) (hR : r.at_ w) (hS : RSmall r) (he : (checkR r).2 = 0) (hs : s.size ≤ 30) :
    Calls Tryz.prog 64 #[.agg r.cells, .string s] w (RHPost w (ruleHyph r s)) := by
  obtain ⟨hx1, hx2⟩ := checkR_exc he
  have hes := (checkE_some hx1).1
  have HR := Lib.hid hR
  have HEX := Lib.hid (fun j (hj : j < r.es.l.length) => marked_ok mkRel_exc hx1 hj)
  have HLO := Lib.hid (fun W (h : r.at_ W) => refLevelsOf_any r s W h hS.1 he (by omega))
  have HRP := Lib.hid (show rulePos r s = if hasE (entsN excS r.es.l r.es.l.length) (lowS s).data.toList = true then lookE (entsN excS r.es.l r.es.l.length) (lowS s).data.toList
    else if areSmallB (lowS s) = true then odds (lvTo (patG r.ps.l) (lowS s) r.ps.l.length) (s.size + 1) else [] from rfl)
  have HRH := Lib.hid (show ruleHyph r s = hyTo r.left r.right s.size (rulePos r s) (rulePos r s).length from rfl)
  have hPl := rulePos_len r s (by omega)
  have HPS := Lib.hid (fun j => (rulePos_srt r s).getD j)
  have HLV := Lib.hid (lvTo_ok (fn := patG r.ps.l) (s := lowS s) (m := r.ps.l.length) (fun j hj k => (((checkR_fine he).2 j hj).2.1.digs k).2) r.ps.l.length (Nat.le_refl _))
  have HLA := Lib.hid (letTo_all s)
  have HSM := Lib.hid (fun W => lowText_any s W (by omega))
  have hlss := lowS_size s
  obtain ⟨ss, hss⟩ : ∃ ss, ss = lowS s := ⟨_, rfl⟩
  rw [← hss] at HRP HLO HLV HLA hlss
  have HSZ := Lib.hid hlss
  have HSS := Lib.hid (show ss = ⟨(Lib.toLowerA s.data.toList).toArray⟩ from hss)
  obtain ⟨key, hkey⟩ : ∃ key, key = ss.data.toList := ⟨_, rfl⟩
  have HKS := Lib.hid (show ss = ⟨key.toArray⟩ by rw [hkey])
  rw [← hkey] at HRP
  have hK0 : HyKnow w r (w.alloc (.cells #[.slice r.ps.a r.ps.l.length r.ps.c, .slice r.es.a r.es.l.length r.es.c, .slice r.bs.a r.bs.l.length r.bs.c, .int .i64 r.left, .int .i64 r.right] 24)) := ⟨heap_new _ _, (Below.refl _ _).alloc (Nat.le_refl _) _⟩
  have hL0 : Lp1 w r key 0 (.slice none 0 0) (.bool false) (w.alloc (.cells #[.slice r.ps.a r.ps.l.length r.ps.c, .slice r.es.a r.es.l.length r.es.c, .slice r.bs.a r.bs.l.length r.bs.c, .int .i64 r.left, .int .i64 r.right] 24)) :=
    ⟨hK0, rfl, ⟨none, 0, rfl, fun q hq => absurd hq (Nat.not_lt_zero _)⟩, fun _ => rfl⟩
  unfold RU.cells
  clear hss hlss hkey hR he hx1 hx2 hK0
  go_enter Tryz.func64, Tryz.ntmps64
  go_wp2_with fail
  go_loopw [5, 6, 7] (fun v5 v6 v7 wr => ∃ k : Nat, k ≤ r.es.l.length ∧ v7 = .int .i64 k ∧ Lp1 w r key k v5 v6 wr) (fun _ _ v7 _ => r.es.l.length - (intOf v7).toNat)
  case atStart => exact ⟨0, Nat.zero_le _, rfl, hL0⟩
  case round =>
    obtain ⟨k, hk, rfl, hL⟩ := hrel
    clear hL0
    obtain ⟨hK, rfl, ⟨A5, c5, rfl, hI5⟩, hno⟩ := hL
    have q0 : wr.cell? ⟨w.heap.size, 1, none⟩ = some (.slice r.es.a r.es.l.length r.es.c) := cell_of_row wr _ 1 _ _ (0, 0) hK.box
    by_cases hlt : k < r.es.l.length
    · have hkl : (k : Int) < (r.es.l.length : Int) := by omega
      obtain ⟨p1, ep1, hp1', hc1⟩ := (HR.out.2.1.1.below hK.low) k hlt
      rw [ep1] at q0
      have hz := hS.2.1 k hlt
      have hex := HEX.out k hlt
      have hhs := hasE_succ excS r.es.l k key
      have hls := lookE_succ excS r.es.l k key
      obtain ⟨t, et⟩ : ∃ t, t = r.es.l.getD k noTx := ⟨_, rfl⟩
      rw [← et] at hc1 hex hz
      obtain ⟨x, ex⟩ : ∃ x, x = entG excS r.es.l k := ⟨_, rfl⟩
      rw [← ex] at hex hhs hls
      have HRM := Lib.hid (fun W => readMarked_any 45 true t W hz)
      have HX := Lib.hid hex
      have HHS := Lib.hid hhs
      have HLS := Lib.hid hls
      obtain ⟨E1, hE1⟩ : ∃ E1, E1 = hasE (entsN excS r.es.l k) key := ⟨_, rfl⟩
      obtain ⟨P1, hP1⟩ : ∃ P1, P1 = lookE (entsN excS r.es.l k) key := ⟨_, rfl⟩
      rw [← hE1] at HHS hno ⊢
      rw [← hP1] at HLS hI5 hno ⊢
      have HNO := Lib.hid hno
      have HP1 := Lib.hid hP1
      clear et ep1 ex hex hhs hls hE1 hP1 hno
      go_wp2_with fail
      refine (HRM.out _).mono ?_
      rintro e w2 ⟨hb2, hp2⟩
      rw [HX.out] at hp2
      obtain ⟨v, rfl, hIv⟩ := hp2
      obtain ⟨A2, c2, rfl, hI2, -, -⟩ := hIv.shape
      have hK2 := hK.below hb2
      have hI52 := hI5.below hb2
      clear hIv hb2 hK hI5 q0 hc1 HRM
      go_wp2_with fail
      refine (HSM.out _).mono ?_
      rintro e w3 ⟨rfl, hb3⟩
      rw [← HSS.out, HKS.out]
      have hK3 := hK2.below hb3
      have hI53 := hI52.below hb3
      have hI23 := hI2.below hb3
      clear hb3 hK2 hI52 hI2
      by_cases hq : x.1 = key
      · have hst : (x.1 == key) = true := by rw [beq_iff_eq]; exact hq
        have HHN := Lib.hid (show hasE (entsN excS r.es.l (k + 1)) key = true by rw [HHS.out, decide_eq_true hq, Bool.or_true])
        have HLN := Lib.hid (show lookE (entsN excS r.es.l (k + 1)) key = x.2 by rw [HLS.out, if_pos hq])
        clear hq
        go_wp2
        go_roundw
        case rel => exact ⟨k + 1, by omega, by go_num, hK3, by rw [HHN.out], ⟨A2, c2, by rw [HLN.out], by rw [HLN.out]; exact hI23⟩, fun h => by rw [HHN.out] at h; cases h⟩
        case measure => simp [intOf]; omega
      · have hst : (x.1 == key) = false := by rw [beq_eq_false_iff_ne]; exact hq
        have HHN := Lib.hid (show hasE (entsN excS r.es.l (k + 1)) key = E1 by rw [HHS.out, decide_eq_false hq, Bool.or_false])
        have HLN := Lib.hid (show lookE (entsN excS r.es.l (k + 1)) key = P1 by rw [HLS.out, if_neg hq])
        clear hq
        go_wp2
        go_roundw
        case rel => exact ⟨k + 1, by omega, by go_num, hK3, by rw [HHN.out], ⟨A5, c5, by rw [HLN.out], by rw [HLN.out]; exact hI53⟩, fun h => by rw [HHN.out] at h; exact HNO.out h⟩
        case measure => simp [intOf]; omega
    · obtain rfl : k = r.es.l.length := by omega
      have hkl : ¬ (r.es.l.length : Int) < (r.es.l.length : Int) := by omega
      have hsz1 := heap_lt hK.box
      cases hfd : hasE (entsN excS r.es.l r.es.l.length) key
      · have hv5 := hno hfd
        rw [hfd] at HRP
        have HRQ := Lib.hid (show rulePos r s = if areSmallB ss = true then odds (lvTo (patG r.ps.l) ss r.ps.l.length) (s.size + 1) else [] by rw [HRP.out]; try rfl)
        rw [hv5]
        clear hv5 hI5 hfd hno HRP
        go_wp2_with fail
        go_loop [11, 12] (fun v11 v12 => ∃ k : Nat, k ≤ s.size ∧ v12 = .int .i64 k ∧ v11 = .bool (letTo s k)) (fun _ v12 => s.size - (intOf v12).toNat)
        case atStart => exact ⟨0, Nat.zero_le _, rfl, rfl⟩
        case round =>
          obtain ⟨j, hj, rfl, rfl⟩ := hrel
          by_cases hlt : j < s.size
          · have hjl : (j : Int) < (s.size : Int) := by omega
            have HLT := Lib.hid (letTo_succ hlt)
            obtain ⟨b, hb⟩ : ∃ b, b = s[j] := ⟨_, rfl⟩
            have HLE := Lib.hid (fun W => refLetter_any (b.toNat : Int) W)
            rw [← hb] at HLT
            have HB := Lib.hid hb
            clear hb
            cases hlj : letTo s j
            · rw [hlj] at HLT
              clear hlj
              go_wp2_with fail
              go_round
              case rel => exact ⟨j + 1, by omega, by go_num, by rw [HLT.out]; try rfl⟩
              case measure => simp [intOf]; omega
            · rw [hlj] at HLT
              clear hlj
              go_wp2_with (go_at_call 124; rw [← HB.out]; refine (HLE.out _).mono ?_; rintro e w' ⟨rfl, rfl⟩)
              go_round
              case rel => exact ⟨j + 1, by omega, by go_num, by rw [HLT.out]; try rfl⟩
              case measure => simp [intOf]; omega
          · obtain rfl : j = s.size := by omega
            have hjl : ¬ (s.size : Int) < (s.size : Int) := by omega
            rw [HLA.out]
            have q1 : wr.cell? ⟨w.heap.size, 0, none⟩ = some (.slice r.ps.a r.ps.l.length r.ps.c) := cell_of_row wr _ 0 _ _ (0, 0) hK.box
            have q2 : wr.cell? ⟨w.heap.size, 2, none⟩ = some (.slice r.bs.a r.bs.l.length r.bs.c) := cell_of_row wr _ 2 _ _ (0, 0) hK.box
            have q3 : wr.cell? ⟨w.heap.size, 3, none⟩ = some (.int .i64 r.left) := cell_of_row wr _ 3 _ _ (0, 0) hK.box
            have q4 : wr.cell? ⟨w.heap.size, 4, none⟩ = some (.int .i64 r.right) := cell_of_row wr _ 4 _ _ (0, 0) hK.box
            go_wp2_with fail
            refine (HLO.out _ (HR.out.below hK.low)).mono ?_
            rintro e w4 ⟨h, rfl, hrow, hhb, hb4⟩
            have hK4 := hK.below hb4
            have hz4 := heap_lt hK4.box
            have hbl4 := hK4.low
            obtain ⟨LV, hLV⟩ : ∃ LV, LV = lvTo (patG r.ps.l) ss r.ps.l.length := ⟨_, rfl⟩
            rw [← hLV] at hrow HRQ HLV
            have HLVL := Lib.hid (show LV.length = s.size + 1 by rw [HLV.out.1, HSZ.out])
            obtain ⟨al, hal⟩ : ∃ al, al = areSmallB ss := ⟨_, rfl⟩
            rw [← hal] at HRQ ⊢
            clear hK hb4 hLV hal hhb HLO q0 q1 q2 q3 q4
            go_wp2_with fail
            go_loopw [5, 14] (fun v5 v14 wr => ∃ k : Nat, k ≤ s.size + 1 ∧ v14 = .int .i64 k ∧ IRow wr w4.heap.size v5 (if al = true then odds LV k else []) ∧ Below w4.heap.size w4 wr) (fun _ v14 _ => s.size + 1 - (intOf v14).toNat)
            case atStart => exact ⟨0, Nat.zero_le _, rfl, by cases al <;> exact IRow.nil _ _, Below.refl _ _⟩
            case round =>
              obtain ⟨i, hi, rfl, hI, hbr⟩ := hrel
              by_cases hil : i < s.size + 1
              · have hil' : (i : Int) < (s.size : Int) + 1 := by omega
                have hi0 : (0 : Int) ≤ (i : Int) := by omega
                cases al
                · have HRZ := Lib.hid (show rulePos r s = [] by rw [HRQ.out]; try rfl)
                  obtain ⟨A5, c5, hv5, hI5, -, -⟩ := hI.shape
                  subst hv5
                  have hKf := hK4.below hbr
                  have hP0 : (if (false : Bool) = true then odds LV i else []) = ([] : List Int) := rfl
                  rw [hP0] at hI5 ⊢
                  rw [← HRZ.out] at hI5 ⊢
                  clear hI hP0 hK4
                  go_wp2_with fail
                  obtain ⟨P, hP⟩ : ∃ P, P = rulePos r s := ⟨_, rfl⟩
                  rw [← hP] at hI5 HRH hPl HPS ⊢
                  have hzf := heap_lt hKf.box
                  obtain ⟨wo, hwo⟩ : ∃ wo : World, wo = wr := ⟨_, rfl⟩
                  rw [← hwo] at hKf hI5 hzf ⊢
                  clear hP hwo
                  go_loopw [15, 16] (fun v15 v16 wi => ∃ q : Nat, q ≤ P.length ∧ v16 = .int .i64 q ∧ IRow wi wo.heap.size v15 (hyTo r.left r.right s.size P q) ∧ Below wo.heap.size wo wi) (fun _ v16 _ => P.length - (intOf v16).toNat)
                  case atStart => exact ⟨0, Nat.zero_le _, rfl, IRow.nil _ _, Below.refl _ _⟩
                  case round =>
                    obtain ⟨q, hq, rfl, hI, hbi⟩ := hrel
                    by_cases hql : q < P.length
                    · have hql' : (q : Int) < (P.length : Int) := by omega
                      obtain ⟨ad, rfl, hal, hy⟩ := (hI5.below hbi).at_ hql
                      have hKi := hKf.below hbi
                      have c3 : wr.cell? ⟨w.heap.size, 3, none⟩ = some (.int .i64 r.left) := cell_of_row wr _ 3 _ _ (0, 0) hKi.box
                      have c4 : wr.cell? ⟨w.heap.size, 4, none⟩ = some (.int .i64 r.right) := cell_of_row wr _ 4 _ _ (0, 0) hKi.box
                      have hd := HPS.out q
                      have hol := hyTo_len r.left r.right s.size P q
                      have hst : hyTo r.left r.right s.size P (q + 1) = if nearB r.left r.right s.size (P.getD q 0) = true then hyTo r.left r.right s.size P q ++ [P.getD q 0] else hyTo r.left r.right s.size P q := rfl
                      generalize P.getD q 0 = x at hy hd hst
                      have HST := Lib.hid hst
                      have hw1 : IntKind.i64.wrap ((s.size : Int) - x) = (s.size : Int) - x := by rw [IntKind.wrap_i64]; omega
                      clear hst hKi
                      by_cases h1 : r.left ≤ x
                      · have d1 : decide (r.left ≤ x) = true := decide_eq_true h1
                        by_cases h2 : r.right ≤ (s.size : Int) - x
                        · have HN := Lib.hid (show nearB r.left r.right s.size x = true by unfold nearB; simp [h1, h2])
                          have d2 : decide (r.right ≤ (s.size : Int) - x) = true := decide_eq_true h2
                          obtain ⟨a9, d9, hv9, -, -, -⟩ := hI.shape
                          subst hv9
                          have hbl2 := hbi.size
                          have hq1 : (hyTo r.left r.right s.size P q).length ≤ 1000000 := by omega
                          go_wp2_with fail
                          go_quiet (fail)
                          go_wp2_with (at_builtin; refine wpList_app1 (wr.drewN nq) _ rfl _ _ rfl wo.heap.size _ (hyTo r.left r.right s.size P q) rfl (hI.drewN nq) rfl hq1 hbl2 ?_; intro g9 c9 w9 hrow9 hgrow9 hb9)
                          go_roundw
                          case rel => exact ⟨q + 1, by omega, by go_num, by rw [HST.out, if_pos HN.out]; simpa using hrow9, (below_drewN hbi nq).trans hb9⟩
                          case measure => simp [intOf]; omega
                        · have HN := Lib.hid (show nearB r.left r.right s.size x = false by unfold nearB; simp [h2])
                          have d2 : decide (r.right ≤ (s.size : Int) - x) = false := decide_eq_false h2
                          go_wp2_with fail
                          go_quiet (fail)
                          go_wp2
                          go_roundw
                          case rel => exact ⟨q + 1, by omega, by go_num, by rw [HST.out, if_neg (by rw [HN.out]; decide)]; exact hI.drewN nq, below_drewN hbi nq⟩
                          case measure => simp [intOf]; omega
                      · have d1 : decide (r.left ≤ x) = false := decide_eq_false h1
                        have HN := Lib.hid (show nearB r.left r.right s.size x = false by unfold nearB; simp [h1])
                        go_wp2_with fail
                        go_quiet (fail)
                        go_wp2
                        go_roundw
                        case rel => exact ⟨q + 1, by omega, by go_num, by rw [HST.out, if_neg (by rw [HN.out]; decide)]; exact hI.drewN nq, below_drewN hbi nq⟩
                        case measure => simp [intOf]; omega
                    · obtain rfl : q = P.length := by omega
                      have hql' : ¬ (P.length : Int) < (P.length : Int) := by omega
                      obtain ⟨a9, d9, hv9, hi9, -, -⟩ := hI.shape
                      subst hv9
                      have hlow := hKf.low.trans (hbi.mono (by have := hKf.low.size; omega))
                      clear hI
                      go_wp2
                      go_ret
                      exact ⟨⟨a9, d9, by rw [HRH.out]; try rfl, by rw [HRH.out]; exact hi9⟩, hlow⟩
                · have hol := odds_len LV i
                  have hrr := RowX.below hrow (by exact hbr)
                  have ca := hrr.cell (j := i) (by rw [HLVL.out]; exact hil)
                  have hd := HLV.out.2 i
                  have hst : odds LV (i + 1) = if oddB (LV.getD i 0) = true then odds LV i ++ [(i : Int)] else odds LV i := rfl
                  generalize hc : LV.getD i 0 = c at ca hd hst
                  have HC := Lib.hid hc
                  clear hc
                  have HST := Lib.hid hst
                  clear hst
                  have hI' := hI
                  rw [if_pos rfl] at hI'
                  clear hI
                  cases ho : oddB c
                  · have HO := Lib.hid ho
                    unfold oddB at ho
                    go_wp2
                    go_roundw
                    case rel => exact ⟨i + 1, by omega, by go_num, by rw [HST.out, if_neg (by rw [HO.out]; decide)]; exact hI', hbr⟩
                    case measure => simp [intOf]; omega
                  · have HO := Lib.hid ho
                    unfold oddB at ho
                    obtain ⟨a9, d9, hv9, -, -, -⟩ := hI'.shape
                    subst hv9
                    have hbl := hbr.size
                    have hql : (odds LV i).length ≤ 1000000 := by omega
                    go_wp2_with ((at_builtin; refine wpList_app1 wr _ rfl _ _ rfl w4.heap.size _ (odds LV i) rfl hI' rfl hql hbl ?_; intro g9 c9 w9 hrow9 hgrow9 hb9))
                    go_roundw
                    case rel => exact ⟨i + 1, by omega, by go_num, by rw [HST.out, if_pos HO.out]; simpa using hrow9, hbr.trans hb9⟩
                    case measure => simp [intOf]; omega
              · obtain rfl : i = s.size + 1 := by omega
                have hil' : ¬ ((s.size + 1 : Nat) : Int) < (s.size : Int) + 1 := by omega
                have hil2 : ¬ (s.size : Int) + 1 < (s.size : Int) + 1 := by omega
                have hP0 : (if al = true then odds LV (s.size + 1) else []) = rulePos r s := HRQ.out.symm
                rw [hP0] at hI
                obtain ⟨A5, c5, hv5, hI5, -, -⟩ := hI.shape
                subst hv5
                have hKf := hK4.below hbr
                clear hI hP0 hK4
                go_wp2_with fail
                obtain ⟨P, hP⟩ : ∃ P, P = rulePos r s := ⟨_, rfl⟩
                rw [← hP] at hI5 HRH hPl HPS ⊢
                have hzf := heap_lt hKf.box
                obtain ⟨wo, hwo⟩ : ∃ wo : World, wo = wr := ⟨_, rfl⟩
                rw [← hwo] at hKf hI5 hzf ⊢
                clear hP hwo
                go_loopw [15, 16] (fun v15 v16 wi => ∃ q : Nat, q ≤ P.length ∧ v16 = .int .i64 q ∧ IRow wi wo.heap.size v15 (hyTo r.left r.right s.size P q) ∧ Below wo.heap.size wo wi) (fun _ v16 _ => P.length - (intOf v16).toNat)
                case atStart => exact ⟨0, Nat.zero_le _, rfl, IRow.nil _ _, Below.refl _ _⟩
                case round =>
                  obtain ⟨q, hq, rfl, hI, hbi⟩ := hrel
                  by_cases hql : q < P.length
                  · have hql' : (q : Int) < (P.length : Int) := by omega
                    obtain ⟨ad, rfl, hal, hy⟩ := (hI5.below hbi).at_ hql
                    have hKi := hKf.below hbi
                    have c3 : wr.cell? ⟨w.heap.size, 3, none⟩ = some (.int .i64 r.left) := cell_of_row wr _ 3 _ _ (0, 0) hKi.box
                    have c4 : wr.cell? ⟨w.heap.size, 4, none⟩ = some (.int .i64 r.right) := cell_of_row wr _ 4 _ _ (0, 0) hKi.box
                    have hd := HPS.out q
                    have hol := hyTo_len r.left r.right s.size P q
                    have hst : hyTo r.left r.right s.size P (q + 1) = if nearB r.left r.right s.size (P.getD q 0) = true then hyTo r.left r.right s.size P q ++ [P.getD q 0] else hyTo r.left r.right s.size P q := rfl
                    generalize P.getD q 0 = x at hy hd hst
                    have HST := Lib.hid hst
                    have hw1 : IntKind.i64.wrap ((s.size : Int) - x) = (s.size : Int) - x := by rw [IntKind.wrap_i64]; omega
                    clear hst hKi
                    by_cases h1 : r.left ≤ x
                    · have d1 : decide (r.left ≤ x) = true := decide_eq_true h1
                      by_cases h2 : r.right ≤ (s.size : Int) - x
                      · have HN := Lib.hid (show nearB r.left r.right s.size x = true by unfold nearB; simp [h1, h2])
                        have d2 : decide (r.right ≤ (s.size : Int) - x) = true := decide_eq_true h2
                        obtain ⟨a9, d9, hv9, -, -, -⟩ := hI.shape
                        subst hv9
                        have hbl2 := hbi.size
                        have hq1 : (hyTo r.left r.right s.size P q).length ≤ 1000000 := by omega
                        go_wp2_with fail
                        go_quiet (fail)
                        go_wp2_with (at_builtin; refine wpList_app1 (wr.drewN nq) _ rfl _ _ rfl wo.heap.size _ (hyTo r.left r.right s.size P q) rfl (hI.drewN nq) rfl hq1 hbl2 ?_; intro g9 c9 w9 hrow9 hgrow9 hb9)
                        go_roundw
                        case rel => exact ⟨q + 1, by omega, by go_num, by rw [HST.out, if_pos HN.out]; simpa using hrow9, (below_drewN hbi nq).trans hb9⟩
                        case measure => simp [intOf]; omega
                      · have HN := Lib.hid (show nearB r.left r.right s.size x = false by unfold nearB; simp [h2])
                        have d2 : decide (r.right ≤ (s.size : Int) - x) = false := decide_eq_false h2
                        go_wp2_with fail
                        go_quiet (fail)
                        go_wp2
                        go_roundw
                        case rel => exact ⟨q + 1, by omega, by go_num, by rw [HST.out, if_neg (by rw [HN.out]; decide)]; exact hI.drewN nq, below_drewN hbi nq⟩
                        case measure => simp [intOf]; omega
                    · have d1 : decide (r.left ≤ x) = false := decide_eq_false h1
                      have HN := Lib.hid (show nearB r.left r.right s.size x = false by unfold nearB; simp [h1])
                      go_wp2_with fail
                      go_quiet (fail)
                      go_wp2
                      go_roundw
                      case rel => exact ⟨q + 1, by omega, by go_num, by rw [HST.out, if_neg (by rw [HN.out]; decide)]; exact hI.drewN nq, below_drewN hbi nq⟩
                      case measure => simp [intOf]; omega
                  · obtain rfl : q = P.length := by omega
                    have hql' : ¬ (P.length : Int) < (P.length : Int) := by omega
                    obtain ⟨a9, d9, hv9, hi9, -, -⟩ := hI.shape
                    subst hv9
                    have hlow := hKf.low.trans (hbi.mono (by have := hKf.low.size; omega))
                    clear hI
                    go_wp2
                    go_ret
                    exact ⟨⟨a9, d9, by rw [HRH.out]; try rfl, by rw [HRH.out]; exact hi9⟩, hlow⟩
      · have HRQ := Lib.hid (show rulePos r s = lookE (entsN excS r.es.l r.es.l.length) key by rw [HRP.out, if_pos hfd])
        have hKf := hK
        rw [← HRQ.out] at hI5 ⊢
        clear hno hfd HRP hK
        go_wp2_with fail
        obtain ⟨P, hP⟩ : ∃ P, P = rulePos r s := ⟨_, rfl⟩
        rw [← hP] at hI5 HRH hPl HPS ⊢
        have hzf := heap_lt hKf.box
        obtain ⟨wo, hwo⟩ : ∃ wo : World, wo = wr := ⟨_, rfl⟩
        rw [← hwo] at hKf hI5 hzf ⊢
        clear hP hwo
        go_loopw [15, 16] (fun v15 v16 wi => ∃ q : Nat, q ≤ P.length ∧ v16 = .int .i64 q ∧ IRow wi wo.heap.size v15 (hyTo r.left r.right s.size P q) ∧ Below wo.heap.size wo wi) (fun _ v16 _ => P.length - (intOf v16).toNat)
        case atStart => exact ⟨0, Nat.zero_le _, rfl, IRow.nil _ _, Below.refl _ _⟩
        case round =>
          obtain ⟨q, hq, rfl, hI, hbi⟩ := hrel
          by_cases hql : q < P.length
          · have hql' : (q : Int) < (P.length : Int) := by omega
            obtain ⟨ad, rfl, hal, hy⟩ := (hI5.below hbi).at_ hql
            have hKi := hKf.below hbi
            have c3 : wr.cell? ⟨w.heap.size, 3, none⟩ = some (.int .i64 r.left) := cell_of_row wr _ 3 _ _ (0, 0) hKi.box
            have c4 : wr.cell? ⟨w.heap.size, 4, none⟩ = some (.int .i64 r.right) := cell_of_row wr _ 4 _ _ (0, 0) hKi.box
            have hd := HPS.out q
            have hol := hyTo_len r.left r.right s.size P q
            have hst : hyTo r.left r.right s.size P (q + 1) = if nearB r.left r.right s.size (P.getD q 0) = true then hyTo r.left r.right s.size P q ++ [P.getD q 0] else hyTo r.left r.right s.size P q := rfl
            generalize P.getD q 0 = x at hy hd hst
            have HST := Lib.hid hst
            have hw1 : IntKind.i64.wrap ((s.size : Int) - x) = (s.size : Int) - x := by rw [IntKind.wrap_i64]; omega
            clear hst hKi
            by_cases h1 : r.left ≤ x
            · have d1 : decide (r.left ≤ x) = true := decide_eq_true h1
              by_cases h2 : r.right ≤ (s.size : Int) - x
              · have HN := Lib.hid (show nearB r.left r.right s.size x = true by unfold nearB; simp [h1, h2])
                have d2 : decide (r.right ≤ (s.size : Int) - x) = true := decide_eq_true h2
                obtain ⟨a9, d9, hv9, -, -, -⟩ := hI.shape
                subst hv9
                have hbl2 := hbi.size
                have hq1 : (hyTo r.left r.right s.size P q).length ≤ 1000000 := by omega
                go_wp2_with fail
                go_quiet (fail)
                go_wp2_with (at_builtin; refine wpList_app1 (wr.drewN nq) _ rfl _ _ rfl wo.heap.size _ (hyTo r.left r.right s.size P q) rfl (hI.drewN nq) rfl hq1 hbl2 ?_; intro g9 c9 w9 hrow9 hgrow9 hb9)
                go_roundw
                case rel => exact ⟨q + 1, by omega, by go_num, by rw [HST.out, if_pos HN.out]; simpa using hrow9, (below_drewN hbi nq).trans hb9⟩
                case measure => simp [intOf]; omega
              · have HN := Lib.hid (show nearB r.left r.right s.size x = false by unfold nearB; simp [h2])
                have d2 : decide (r.right ≤ (s.size : Int) - x) = false := decide_eq_false h2
                go_wp2_with fail
                go_quiet (fail)
                go_wp2
                go_roundw
                case rel => exact ⟨q + 1, by omega, by go_num, by rw [HST.out, if_neg (by rw [HN.out]; decide)]; exact hI.drewN nq, below_drewN hbi nq⟩
                case measure => simp [intOf]; omega
            · have d1 : decide (r.left ≤ x) = false := decide_eq_false h1
              have HN := Lib.hid (show nearB r.left r.right s.size x = false by unfold nearB; simp [h1])
              go_wp2_with fail
              go_quiet (fail)
              go_wp2
              go_roundw
              case rel => exact ⟨q + 1, by omega, by go_num, by rw [HST.out, if_neg (by rw [HN.out]; decide)]; exact hI.drewN nq, below_drewN hbi nq⟩
              case measure => simp [intOf]; omega
          · obtain rfl : q = P.length := by omega
            have hql' : ¬ (P.length : Int) < (P.length : Int) := by omega
            obtain ⟨a9, d9, hv9, hi9, -, -⟩ := hI.shape
            subst hv9
            have hlow := hKf.low.trans (hbi.mono (by have := hKf.low.size; omega))
            clear hI
            go_wp2
            go_ret
            exact ⟨⟨a9, d9, by rw [HRH.out]; try rfl, by rw [HRH.out]; exact hi9⟩, hlow⟩
end Go.Proofs.YtlkkociijfdcgaaGreatDoor
/-
  A word with its hyphens: the reference's walk.
-/
namespace Go.Proofs.YtlkkociijfdcgaaGreatDoor
open Go.RowKit Go.Maps Go.Shelf

theorem mem_getD {l : List Int} {n : Int} : n ∈ l ↔ ∃ j, j < l.length ∧ l.getD j 0 = n := by
  constructor
  · intro h
    obtain ⟨j, hj, e⟩ := List.getElem_of_mem h
    exact ⟨j, hj, by rw [List.getD_eq_getElem?_getD, List.getElem?_eq_getElem hj]; exact e⟩
  · rintro ⟨j, hj, e⟩
    rw [List.getD_eq_getElem?_getD, List.getElem?_eq_getElem hj] at e
    exact e ▸ List.getElem_mem hj
set_option maxRecDepth 100000 in
set_option maxHeartbeats 800000 in
theorem has_any (A : Option Addr) (l : List Int) (m c : Nat) (n : Int) (w : World) (hI : IntsAt w A l) (hm : m = l.length) (hl : l.length ≤ maxLen) :
    Calls Tryz.prog 77 #[.slice A m c, .int .i64 n] w fun e w' => e = .returned (.bool (decide (n ∈ l))) ∧ w = w' := by
  subst hm
  unfold maxLen at hl
  go_enter Tryz.func77, Tryz.ntmps77
  go_wp2_with fail
  go_loop [5] (fun v3 => ∃ k : Nat, k ≤ l.length ∧ v3 = .int .i64 k ∧ Hid (∀ j, j < k → l.getD j 0 ≠ n)) (fun v3 => l.length - (intOf v3).toNat)
  case atStart => exact ⟨0, Nat.zero_le _, rfl, Lib.hid fun j hj => absurd hj (Nat.not_lt_zero _)⟩
  case round =>
    obtain ⟨k, hk, rfl, HN⟩ := hrel
    by_cases hlt : k < l.length
    · have hkl : (k : Int) < (l.length : Int) := by omega
      obtain ⟨ad, rfl, hal, hy⟩ := hI.at_ hlt
      obtain ⟨x, hx⟩ : ∃ x, x = l.getD k 0 := ⟨_, rfl⟩
      rw [← hx] at hy
      have HX := Lib.hid hx
      clear hx
      by_cases he : x = n
      · have HM := Lib.hid (show n ∈ l from mem_getD.2 ⟨k, hlt, by rw [← HX.out]; exact he⟩)
        have hb : (x == n) = true := by rw [beq_iff_eq]; exact he
        clear he
        go_wp2
        go_ret
        rw [decide_eq_true HM.out]
        exact ⟨rfl, rfl⟩
      · have hb : (x == n) = false := by rw [beq_eq_false_iff_ne]; exact he
        have HN2 := Lib.hid (fun j (hj : j < k + 1) => show l.getD j 0 ≠ n by
          by_cases e : j = k
          · rw [e, ← HX.out]; exact he
          · exact HN.out j (by omega))
        clear he HN
        go_wp2
        go_round
        case rel => exact ⟨k + 1, by omega, by go_num, HN2⟩
        case measure => simp [intOf]; omega
    · obtain rfl : k = l.length := by omega
      have hkl : ¬ (l.length : Int) < (l.length : Int) := by omega
      have HM := Lib.hid (show n ∉ l from fun h => by
        obtain ⟨j, hj, e⟩ := mem_getD.1 h
        exact HN.out j hj e)
      go_wp2
      go_ret
      rw [decide_eq_false HM.out]
      exact ⟨rfl, rfl⟩
/-- Places strictly ascend, within the word. -/
def Str (n : Nat) (P : List Int) : Prop := P.Pairwise (· < ·) ∧ ∀ x ∈ P, 1 ≤ x ∧ x < (n : Int)
theorem odds_strict (L : List Int) : ∀ k, (odds L k).Pairwise (· < ·) ∧ ∀ x ∈ odds L k, x < (k : Int)
  | 0 => ⟨List.Pairwise.nil, fun x hx => (by cases hx)⟩
  | k + 1 => by
    obtain ⟨h1, h2⟩ := odds_strict L k
    unfold odds
    split
    · refine ⟨List.pairwise_append.2 ⟨h1, List.pairwise_singleton _ _, fun a ha b hb => ?_⟩, fun x hx => ?_⟩
      · have := h2 a ha
        obtain rfl := List.mem_singleton.1 hb
        omega
      · rcases List.mem_append.1 hx with hx | hx
        · have := h2 x hx; omega
        · obtain rfl := List.mem_singleton.1 hx
          omega
    · exact ⟨h1, fun x hx => by have := h2 x hx; omega⟩
theorem sumL_strict {ps : List (List UInt8)} (hne : ps.any List.isEmpty = false) {i j : Nat} (h : i < j) (hj : j ≤ ps.length) : sumL ps i < sumL ps j := by
  have hm := sumL_mono ps (show i + 1 ≤ j by omega)
  have hi : i < ps.length := by omega
  have h1 : sumL ps (i + 1) = sumL ps i + (ps[i].length : Int) := by
    unfold sumL
    rw [List.take_succ_eq_append_getElem hi, List.flatten_append, List.length_append]
    simp
  have h2 : 0 < ps[i].length := by
    have := List.any_eq_false.1 hne ps[i] (List.getElem_mem hi)
    cases hp : ps[i] with
    | nil => rw [hp] at this; simp at this
    | cons a l => simp
  omega
theorem cutAt_strict {m : UInt8} {l : List UInt8} {x : List UInt8 × List Int} (h : cutAt m l = some x) : x.2.Pairwise (· < ·) := by
  unfold cutAt at h
  by_cases c1 : 59 < l.length
  · rw [if_pos c1] at h; cases h
  · rw [if_neg c1] at h
    by_cases c2 : (splitOn m l).any List.isEmpty = true
    · rw [if_pos c2] at h; cases h
    · rw [if_neg c2] at h
      injection h with h
      rw [← h]
      have c3 : (splitOn m l).any List.isEmpty = false := Bool.eq_false_iff.2 c2
      have hat : ∀ k (hk : k < (placesOf 0 (splitOn m l)).length), k + 1 ≤ (splitOn m l).length ∧ (placesOf 0 (splitOn m l))[k] = sumL (splitOn m l) (k + 1) := fun k hk => by
        have hk' := hk
        rw [placesOf_len] at hk'
        have h2 := placesOf_at (splitOn m l) 0 k (by omega)
        rw [List.getElem?_eq_getElem hk] at h2
        injection h2 with h2
        exact ⟨by omega, by rw [h2, Int.zero_add]⟩
      refine List.pairwise_iff_getElem.2 fun i j hi hj hij => ?_
      show (placesOf 0 (splitOn m l))[i] < (placesOf 0 (splitOn m l))[j]
      rw [(hat i hi).2, (hat j hj).2]
      exact sumL_strict c3 (by omega) (hat j hj).1
theorem rulePos_strict (r : RU) (s : ByteArray) : (rulePos r s).Pairwise (· < ·) := by
  unfold rulePos
  split
  · unfold lookE
    rcases lookE_mem (key := (lowS s).data.toList) (entsN excS r.es.l r.es.l.length) [] with h | ⟨p, hp, h1, h2⟩
    · rw [h]; exact List.Pairwise.nil
    · rw [h2]
      unfold entsN at hp
      obtain ⟨j, _, rfl⟩ := List.mem_map.1 hp
      unfold entG
      cases h : entO excS (r.es.l.getD j noTx) with
      | none => exact List.Pairwise.nil
      | some x =>
        unfold entO at h
        cases hc : cutAt excS.m (r.es.l.getD j noTx).data.toList with
        | none => rw [hc] at h; cases h
        | some y =>
          rw [hc] at h
          dsimp only at h
          split at h
          · injection h with h
            show List.Pairwise _ x.2
            rw [← h]
            exact cutAt_strict hc
          · cases h
  · split
    · exact (odds_strict _ _).1
    · exact List.Pairwise.nil
theorem checkR_least {r : RU} (h : (checkR r).2 = 0) : 1 ≤ r.left ∧ 1 ≤ r.right := by
  obtain ⟨h2, h3⟩ := checkR_exc h
  unfold checkR at h
  by_cases h1 : (checkPats r.ps.l).2 = 0
  · rw [if_neg (fun h => h h1), if_neg (fun h => h h2), if_neg (fun h => h h3)] at h
    by_cases h4 : r.left < 1 ∨ 10 < r.left ∨ r.right < 1 ∨ 10 < r.right
    · rw [if_pos h4] at h; exact absurd h (by decide)
    · omega
  · rw [if_pos h1] at h; exact absurd h h1
theorem ruleHyph_str {r : RU} {s : ByteArray} (h : (checkR r).2 = 0) : Str s.size (ruleHyph r s) := by
  rw [ruleHyph_eq]
  refine ⟨(rulePos_strict r s).filter _, fun x hx => ?_⟩
  obtain ⟨_, hn⟩ := List.mem_filter.1 hx
  have := checkR_least h
  unfold nearB at hn
  rw [Bool.and_eq_true, decide_eq_true_eq, decide_eq_true_eq] at hn
  omega
end Go.Proofs.YtlkkociijfdcgaaGreatDoor

namespace Go.Proofs.YtlkkociijfdcgaaGreatDoor
open Go.RowKit Go.Maps Go.Shelf

theorem any_of {l : List Int} {q : Int → Bool} {j : Nat} (hj : j < l.length) (h : q (l.getD j 0) = true) : l.any q = true := by
  rw [List.getD_eq_getElem?_getD, List.getElem?_eq_getElem hj] at h
  exact List.any_eq_true.2 ⟨l[j], List.getElem_mem hj, h⟩
theorem none_of {l : List Int} {q : Int → Bool} (h : ∀ j, j < l.length → q (l.getD j 0) = false) : l.any q = false := by
  rw [List.any_eq_false]
  intro x hx
  obtain ⟨j, hj, rfl⟩ := List.getElem_of_mem hx
  have h1 := h j hj
  rw [List.getD_eq_getElem?_getD, List.getElem?_eq_getElem hj] at h1
  exact Bool.eq_false_iff.1 h1
theorem preB_ref {t x : ByteArray} {pl : Nat} (hpl : pl ≤ t.size) : preB (t.extract pl t.size) x = (decide (pl + x.size ≤ t.size) && (t.extract pl (pl + x.size)).toList == x.toList) := by
  have hex : (t.extract pl t.size).size = t.size - pl := by rw [ByteArray.size_extract]; omega
  by_cases h : pl + x.size ≤ t.size
  · rw [preB_long (by rw [hex]; omega), decide_eq_true h, Bool.true_and]
    congr 1
    rw [toList_data, toList_data, ext_list, ext_list, ext_list, List.drop_zero, List.take_take]
    congr 1
    omega
  · rw [preB_short (by rw [hex]; omega), decide_eq_false h, Bool.false_and]
set_option maxRecDepth 100000 in
set_option maxHeartbeats 2000000 in
theorem refMay_any (f : FT) (a : Option Addr) (c : Nat) (t : ByteArray) (ba : Option Addr) (m bc : Nat) (bl : List Int) (pl i : Nat) (w : World) (hF : SortsAt w a f.sorts) (hB : IntsAt w ba bl) (hm : m = bl.length) (hi : i < f.sorts.length)
    (hpl : pl ≤ t.size) (ht : t.size ≤ 1000) (hx : (f.sorts.getD i noTS).text.size ≤ 1000) (hbl : bl.length ≤ 1000) :
    Calls Tryz.prog 157 #[.agg #[.string f.name, .int .i64 f.body, .slice a f.sorts.length c], .string t, .slice ba m bc, .int .i64 pl, .int .i64 i] w
      fun e w' => e = .returned (.bool (mayB ⟨f, a, c, t, ba, bc, bl⟩ pl (f.sorts.getD i noTS))) ∧ Below w.heap.size w w' := by
  subst hm
  have hb0 := (Below.refl w.heap.size w).alloc (Nat.le_refl _) (.cells #[.string f.name, .int .i64 f.body, .slice a f.sorts.length c] 59)
  obtain ⟨ad, rfl, hal, hy⟩ := (hF.below hb0).at_ hi
  have hBI := hB.below hb0
  have hil : (i : Int) < (f.sorts.length : Int) := by omega
  have hi0 : (0 : Int) ≤ (i : Int) := by omega
  obtain ⟨_, hy1, hy2, _⟩ := hy
  have HM := Lib.hid (show mayB ⟨f, some ad, c, t, ba, bc, bl⟩ pl (f.sorts.getD i noTS) = (!((f.sorts.getD i noTS).kind == 3) && (decide (pl + (f.sorts.getD i noTS).text.size ≤ t.size) && (t.extract pl (pl + (f.sorts.getD i noTS).text.size)).toList == (f.sorts.getD i noTS).text.toList && !(bl.any (barredB pl (f.sorts.getD i noTS).text.size)))) by
    unfold mayB
    rw [preB_ref hpl])
  obtain ⟨V, hV⟩ : ∃ V, V = mayB ⟨f, some ad, c, t, ba, bc, bl⟩ pl (f.sorts.getD i noTS) := ⟨_, rfl⟩
  rw [← hV] at HM ⊢
  clear hV
  obtain ⟨x, hxe⟩ : ∃ x, x = (f.sorts.getD i noTS).text := ⟨_, rfl⟩
  obtain ⟨k, hke⟩ : ∃ k, k = (f.sorts.getD i noTS).kind := ⟨_, rfl⟩
  rw [← hxe] at hy1 hx HM
  rw [← hke] at hy2 HM
  clear hxe hke hF hB
  have hpl0 : (0 : Int) ≤ (pl : Int) := by omega
  cases hk : (k == 3)
  · have hkb : ((3 : Int) == k) = false := by rw [beq_eq_false_iff_ne] at hk ⊢; exact fun e => hk e.symm
    by_cases hfit : pl + x.size ≤ t.size
    · have hf1 : decide ((t.size : Int) < (pl : Int) + (x.size : Int)) = false := decide_eq_false (by omega)
      have hf2 : ¬ (t.size : Int) < (pl : Int) + (x.size : Int) := by omega
      have hfi : (pl : Int) + (x.size : Int) ≤ (t.size : Int) := by omega
      have hsumN : ((pl : Int) + (x.size : Int)).toNat = pl + x.size := by omega
      cases hq : ((t.extract pl (pl + x.size)).toList == x.toList)
      · have hqn : ((t.extract pl (pl + x.size)).toList != x.toList) = true := by rw [bne, hq]; try rfl
        have HV := Lib.hid (show V = false by rw [HM.out, hq]; simp)
        clear HM
        go_enter Tryz.func157, Tryz.ntmps157
        go_wp2
        go_ret
        rw [HV.out]
        exact ⟨rfl, hb0⟩
      · have hqn : ((t.extract pl (pl + x.size)).toList != x.toList) = false := by rw [bne, hq]; try rfl
        have HV := Lib.hid (show V = !(bl.any (barredB pl x.size)) by rw [HM.out, hq, hk, decide_eq_true hfit]; try rfl)
        have HBI := Lib.hid hBI
        have hsum : IntKind.i64.wrap ((pl : Int) + (x.size : Int)) = (pl : Int) + (x.size : Int) := IntWalk.i64_in _ (by omega)
        clear HM hBI
        go_enter Tryz.func157, Tryz.ntmps157
        go_wp2_with fail
        go_loop [12] (fun v12 => ∃ j : Nat, j ≤ bl.length ∧ v12 = .int .i64 j ∧ Hid (∀ q, q < j → barredB pl x.size (bl.getD q 0) = false)) (fun v12 => bl.length - (intOf v12).toNat)
        case atStart => exact ⟨0, Nat.zero_le _, rfl, Lib.hid fun q hq => absurd hq (Nat.not_lt_zero _)⟩
        case round =>
          obtain ⟨j, hj, rfl, HN⟩ := hrel
          by_cases hjl : j < bl.length
          · have hjl' : (j : Int) < (bl.length : Int) := by omega
            obtain ⟨ad2, rfl, hal2, hc2⟩ := HBI.out.at_ hjl
            obtain ⟨b, hb⟩ : ∃ b, b = bl.getD j 0 := ⟨_, rfl⟩
            rw [← hb] at hc2
            have HB := Lib.hid hb
            clear hb
            by_cases h1 : (pl : Int) < b
            · have d1 : decide ((pl : Int) < b) = true := decide_eq_true h1
              by_cases h2 : b < (pl : Int) + (x.size : Int)
              · have d2 : decide (b < (pl : Int) + (x.size : Int)) = true := decide_eq_true h2
                have HV2 := Lib.hid (show V = false by
                  rw [HV.out, any_of hjl (by rw [← HB.out]; exact decide_eq_true ⟨h1, h2⟩)]; rfl)
                go_wp2
                go_ret
                rw [HV2.out]
                exact ⟨rfl, hb0⟩
              · have d2 : decide (b < (pl : Int) + (x.size : Int)) = false := decide_eq_false h2
                have HN2 := Lib.hid (fun q (hq : q < j + 1) => show barredB pl x.size (bl.getD q 0) = false by
                  by_cases e : q = j
                  · rw [e, ← HB.out]; exact decide_eq_false (fun h => h2 h.2)
                  · exact HN.out q (by omega))
                clear HN
                go_wp2
                go_round
                case rel => exact ⟨j + 1, by omega, by go_num, HN2⟩
                case measure => simp [intOf]; omega
            · have d1 : decide ((pl : Int) < b) = false := decide_eq_false h1
              have HN2 := Lib.hid (fun q (hq : q < j + 1) => show barredB pl x.size (bl.getD q 0) = false by
                by_cases e : q = j
                · rw [e, ← HB.out]; exact decide_eq_false (fun h => h1 h.1)
                · exact HN.out q (by omega))
              clear HN
              go_wp2
              go_round
              case rel => exact ⟨j + 1, by omega, by go_num, HN2⟩
              case measure => simp [intOf]; omega
          · obtain rfl : j = bl.length := by omega
            have hjl' : ¬ (bl.length : Int) < (bl.length : Int) := by omega
            have HV2 := Lib.hid (show V = true by rw [HV.out, none_of HN.out]; try rfl)
            go_wp2
            go_ret
            rw [HV2.out]
            exact ⟨rfl, hb0⟩
    · have hf1 : decide ((t.size : Int) < (pl : Int) + (x.size : Int)) = true := decide_eq_true (by omega)
      have hf2 : (t.size : Int) < (pl : Int) + (x.size : Int) := by omega
      have HV := Lib.hid (show V = false by rw [HM.out, decide_eq_false hfit]; simp)
      clear HM
      go_enter Tryz.func157, Tryz.ntmps157
      go_wp2
      go_ret
      rw [HV.out]
      exact ⟨rfl, hb0⟩
  · have HV := Lib.hid (show V = false by rw [HM.out, hk]; try rfl)
    clear HM
    go_enter Tryz.func157, Tryz.ntmps157
    go_wp2
    go_ret
    rw [HV.out]
    exact ⟨rfl, hb0⟩
theorem checkE_apart {y : Sty} {l : List ByteArray} (h : (checkE y l).2 = 0) {i j : Nat} (hij : i < j) (hj : j < l.length) : (entG y l i).1 ≠ (entG y l j).1 := by
  unfold checkE at h
  by_cases h40 : 40 < l.length
  · rw [if_pos h40] at h; exact absurd h (by decide)
  · rw [if_neg h40] at h
    cases hf : firstAt (badE y l) (l.length - 0) 0 with
    | some q =>
      rw [hf] at h
      exfalso
      have h' : (if badF y l q = true then (3 : Int) else 5) = 0 := h
      split at h' <;> exact absurd h' (by decide)
    | none =>
      have hb := firstAt_none hf j (Nat.zero_le _) (by omega)
      unfold badE at hb
      rw [Bool.or_eq_false_iff] at hb
      have hb2 := hb.2
      unfold badA hasE at hb2
      rw [List.any_eq_false] at hb2
      intro e
      have h3 := hb2 (entG y l i) (by unfold entsN; exact List.mem_map.2 ⟨i, List.mem_range.2 hij, rfl⟩)
      exact h3 (decide_eq_true e)
theorem lookE_first {y : Sty} {l : List ByteArray} (h : (checkE y l).2 = 0) {k : Nat} {key : List UInt8} (he : (entG y l k).1 = key) : ∀ n, k < n → n ≤ l.length → lookE (entsN y l n) key = (entG y l k).2
  | 0, h0, _ => absurd h0 (Nat.not_lt_zero _)
  | n + 1, h0, hn => by
    rw [lookE_succ]
    by_cases e : n = k
    · rw [e, if_pos he]
    · rw [if_neg (fun e2 => checkE_apart h (show k < n by omega) (by omega) (he.trans e2.symm))]
      exact lookE_first h he n (by omega) (by omega)
theorem lookE_no {y : Sty} {l : List ByteArray} {key : List UInt8} : ∀ n, (∀ q, q < n → (entG y l q).1 ≠ key) → lookE (entsN y l n) key = []
  | 0, _ => rfl
  | n + 1, h => by
    rw [lookE_succ, if_neg (h n (by omega))]
    exact lookE_no n (fun q hq => h q (by omega))
set_option maxRecDepth 100000 in
set_option maxHeartbeats 4000000 in
theorem refBars_any (r : RU) (s : ByteArray) (w : World) (hR : r.at_ w) (hS : RSmall r) (he : (checkR r).2 = 0) :
    Calls Tryz.prog 108 #[.agg r.cells, .string s] w (RHPost w (barsOf r s)) := by
  obtain ⟨hx1, hx2⟩ := checkR_exc he
  have hes := (checkE_some hx2).1
  have HR := Lib.hid hR
  have HEX := Lib.hid (fun j (hj : j < r.bs.l.length) => marked_ok mkRel_bar hx2 hj)
  have HLF := Lib.hid (fun k key (h : (entG barS r.bs.l k).1 = key) (hk : k < r.bs.l.length) => lookE_first hx2 h r.bs.l.length hk (Nat.le_refl _))
  have HBO := Lib.hid (show barsOf r s = lookE (entsN barS r.bs.l r.bs.l.length) s.data.toList from rfl)
  have hK0 : HyKnow w r (w.alloc (.cells #[.slice r.ps.a r.ps.l.length r.ps.c, .slice r.es.a r.es.l.length r.es.c, .slice r.bs.a r.bs.l.length r.bs.c, .int .i64 r.left, .int .i64 r.right] 24)) := ⟨heap_new _ _, (Below.refl _ _).alloc (Nat.le_refl _) _⟩
  obtain ⟨B, hB⟩ : ∃ B, B = barsOf r s := ⟨_, rfl⟩
  rw [← hB] at HBO ⊢
  unfold RU.cells
  clear hR he hx1 hx2 hB
  go_enter Tryz.func108, Tryz.ntmps108
  go_wp2_with fail
  go_loopw [5] (fun v5 wr => ∃ k : Nat, k ≤ r.bs.l.length ∧ v5 = .int .i64 k ∧ HyKnow w r wr ∧ Hid (∀ q, q < k → (entG barS r.bs.l q).1 ≠ s.data.toList)) (fun v5 _ => r.bs.l.length - (intOf v5).toNat)
  case atStart => exact ⟨0, Nat.zero_le _, rfl, hK0, Lib.hid fun q hq => absurd hq (Nat.not_lt_zero _)⟩
  case round =>
    obtain ⟨k, hk, rfl, hK, HN⟩ := hrel
    clear hK0
    have q0 : wr.cell? ⟨w.heap.size, 2, none⟩ = some (.slice r.bs.a r.bs.l.length r.bs.c) := cell_of_row wr _ 2 _ _ (0, 0) hK.box
    by_cases hlt : k < r.bs.l.length
    · have hkl : (k : Int) < (r.bs.l.length : Int) := by omega
      obtain ⟨p1, ep1, hp1', hc1⟩ := (HR.out.2.2.1.below hK.low) k hlt
      rw [ep1] at q0
      have hz := hS.2.2 k hlt
      have hex := HEX.out k hlt
      obtain ⟨t, et⟩ : ∃ t, t = r.bs.l.getD k noTx := ⟨_, rfl⟩
      rw [← et] at hc1 hex hz
      obtain ⟨x, ex⟩ : ∃ x, x = entG barS r.bs.l k := ⟨_, rfl⟩
      rw [← ex] at hex
      have HRM := Lib.hid (fun W => readMarked_any 124 false t W hz)
      have HX := Lib.hid hex
      have HEG := Lib.hid ex
      clear et ep1 ex hex
      go_wp2_with fail
      refine (HRM.out _).mono ?_
      rintro e w2 ⟨hb2, hp2⟩
      rw [HX.out] at hp2
      obtain ⟨v, rfl, hIv⟩ := hp2
      obtain ⟨A2, c2, rfl, hI2, -, -⟩ := hIv.shape
      have hK2 := hK.below hb2
      clear hIv hb2 hK q0 hc1 HRM
      by_cases hq : x.1 = s.data.toList
      · have hst : ((⟨x.1.toArray⟩ : ByteArray).toList == s.toList) = true := by rw [toList_data, toList_data, beq_iff_eq]; exact hq
        have hst2 : (x.1 == s.toList) = true := by rw [toList_data, beq_iff_eq]; exact hq
        have HBV := Lib.hid (show B = x.2 by rw [HBO.out, HLF.out k _ (by rw [← HEG.out]; exact hq) hlt, ← HEG.out])
        have hlow := hK2.low
        clear hq HN hK2
        go_wp2
        go_ret
        exact ⟨⟨A2, c2, by rw [HBV.out]; try rfl, by rw [HBV.out]; exact hI2⟩, hlow⟩
      · have hst : ((⟨x.1.toArray⟩ : ByteArray).toList == s.toList) = false := by rw [toList_data, toList_data, beq_eq_false_iff_ne]; exact hq
        have hst2 : (x.1 == s.toList) = false := by rw [toList_data, beq_eq_false_iff_ne]; exact hq
        have HN2 := Lib.hid (fun q (hq2 : q < k + 1) => show (entG barS r.bs.l q).1 ≠ s.data.toList by
          by_cases e : q = k
          · rw [e, ← HEG.out]; exact hq
          · exact HN.out q (by omega))
        clear hq HN hI2
        go_wp2
        go_roundw
        case rel => exact ⟨k + 1, by omega, by go_num, hK2, HN2⟩
        case measure => simp [intOf]; omega
    · obtain rfl : k = r.bs.l.length := by omega
      have hkl : ¬ (r.bs.l.length : Int) < (r.bs.l.length : Int) := by omega
      have hlow := hK.low
      have HBV := Lib.hid (show B = [] by rw [HBO.out, lookE_no _ HN.out])
      clear hK
      go_wp2
      go_ret
      exact ⟨⟨none, 0, by rw [HBV.out]; try rfl, by rw [HBV.out]; exact fun q hq => absurd hq (Nat.not_lt_zero _)⟩, hlow⟩
end Go.Proofs.YtlkkociijfdcgaaGreatDoor
/-
  The set word: the reference's walk.
-/
namespace Go.Proofs.YtlkkociijfdcgaaGreatDoor
open Go.RowKit Go.Maps Go.Shelf

/-- Sorts that print something have a text. -/
def Texted (f : FT) : Prop := ∀ i, i < f.sorts.length → (f.sorts.getD i noTS).kind ≠ 3 → 0 < (f.sorts.getD i noTS).text.size
theorem may_kind {p : PC} {pl : Nat} {x : TS} (h : mayB p pl x = true) : x.kind ≠ 3 := by
  unfold mayB at h
  rw [Bool.and_eq_true] at h
  intro e
  have := h.1
  rw [e] at this
  cases this
/-- What the inner loop of the reference knows of the best sort so far. -/
def bestV (a : Nat × Nat) : Int := if a.2 = 0 then -1 else (a.1 : Int)
structure SetKnow (w : World) (f : FT) (a : Option Addr) (c : Nat) (wr : World) : Prop where
  box : wr.heap[w.heap.size]? = some (.cells #[.string f.name, .int .i64 f.body, .slice a f.sorts.length c] 59 (0, 0))
  low : Below w.heap.size w wr
theorem SetKnow.below {w : World} {f : FT} {a : Option Addr} {c : Nat} {wr wr' : World} (h : SetKnow w f a c wr) (hb : Below wr.heap.size wr wr') : SetKnow w f a c wr' := ⟨(hb.block _ (heap_lt h.box)).trans h.box, h.low.trans (hb.mono h.low.size)⟩
theorem SetKnow.own {w : World} {f : FT} {a : Option Addr} {c : Nat} {wr wr' : World} (h : SetKnow w f a c wr) (hb : Below (w.heap.size + 1) wr wr') : SetKnow w f a c wr' := ⟨(hb.block _ (by omega)).trans h.box, h.low.trans (hb.mono (by omega))⟩
theorem SetKnow.c {w : World} {f : FT} {a : Option Addr} {c : Nat} {wr : World} (h : SetKnow w f a c wr) : wr.cell? ⟨w.heap.size, 0, none⟩ = some (.string f.name) ∧ wr.cell? ⟨w.heap.size, 1, none⟩ = some (.int .i64 f.body) ∧ wr.cell? ⟨w.heap.size, 2, none⟩ = some (.slice a f.sorts.length c) :=
  ⟨cell_of_row wr _ 0 _ _ (0, 0) h.box, cell_of_row wr _ 1 _ _ (0, 0) h.box, cell_of_row wr _ 2 _ _ (0, 0) h.box⟩
set_option maxRecDepth 100000 in
set_option maxHeartbeats 4000000 in
theorem refSet_any (f : FT) (a : Option Addr) (c : Nat) (t : ByteArray) (ba : Option Addr) (m bc : Nat) (bl : List Int) (w : World) (hp : (PC.mk f a c t ba bc bl).at_ w) (hf : (PC.mk f a c t ba bc bl).Fine) (hm : m = bl.length) (htx : Texted f) :
    Calls Tryz.prog 107 #[.agg #[.string f.name, .int .i64 f.body, .slice a f.sorts.length c], .string t, .slice ba m bc] w (SetPost w (longP ⟨f, a, c, t, ba, bc, bl⟩)) := by
  subst hm
  obtain ⟨hpt, hts, hns⟩ := hf
  dsimp only at hpt hts hns
  have hbl := hp.pl.1
  dsimp only at hbl
  obtain ⟨p, hpe⟩ : ∃ p : PC, p = ⟨f, a, c, t, ba, bc, bl⟩ := ⟨_, rfl⟩
  have HMAY := Lib.hid (fun pl i W (h : p.at_ W) (hi : i < f.sorts.length) (hpl : pl ≤ t.size) => show Calls Tryz.prog 157 #[.agg #[.string f.name, .int .i64 f.body, .slice a f.sorts.length c], .string t, .slice ba bl.length bc, .int .i64 pl, .int .i64 i] W (fun e w' => e = .returned (.bool (mayB p pl (f.sorts.getD i noTS))) ∧ Below W.heap.size W w') by
    rw [hpe] at h ⊢
    exact refMay_any f a c t ba bl.length bc bl pl i W h.sorts h.ints rfl hi hpl hpt (hts i hi) (by omega))
  rw [← hpe] at hp ⊢
  have hpf : p.f = f := by rw [hpe]
  have hptt : p.t = t := by rw [hpe]
  have hpa : p.a = a := by rw [hpe]
  have HP := Lib.hid hp
  have HTS := Lib.hid hts
  have HTX := Lib.hid htx
  have HPF := Lib.hid hpf
  have HPT := Lib.hid hptt
  have HPA := Lib.hid hpa
  have hK0 : SetKnow w f a c (w.alloc (.cells #[.string f.name, .int .i64 f.body, .slice a f.sorts.length c] 59)) := ⟨heap_new _ _, (Below.refl _ _).alloc (Nat.le_refl _) _⟩
  clear hpf hptt hpa hp hts htx hpe
  go_enter Tryz.func107, Tryz.ntmps107
  go_wp2_with fail
  go_loopw [8, 9] (fun v8 v9 wr => ∃ (pl k : Nat) (acc : List Int), pl ≤ t.size ∧ t.size < k + pl ∧ acc.length ≤ pl ∧ v9 = .int .i64 pl ∧ Hid (longP p = longSet p k pl acc) ∧ IRow wr (w.heap.size + 1) v8 acc ∧ SetKnow w f a c wr) (fun _ v9 _ => t.size - (intOf v9).toNat)
  case atStart => exact ⟨0, t.size + 1, [], Nat.zero_le _, by omega, Nat.zero_le _, rfl, Lib.hid (by unfold longP; rw [HPT.out]), IRow.nil _ _, hK0⟩
  case round =>
    obtain ⟨pl, k, acc, hpl, hk, hacc, rfl, HR, hrow, hK⟩ := hrel
    clear hK0
    by_cases hlt : pl < t.size
    · have hlt' : (pl : Int) < (t.size : Int) := by omega
      obtain ⟨k, rfl⟩ : ∃ k', k = k' + 1 := ⟨k - 1, by omega⟩
      have hst : longSet p (k + 1) pl acc = if 0 < (longAt p pl).2 then longSet p k (pl + (longAt p pl).2) (acc ++ [((longAt p pl).1 : Int)]) else none := if_pos (by rw [HPT.out]; exact hlt)
      have HST := Lib.hid hst
      clear hst
      obtain ⟨wo, hwo⟩ : ∃ wo : World, wo = wr := ⟨_, rfl⟩
      rw [← hwo] at hrow hK ⊢
      clear hwo
      go_wp2_with fail
      go_loopw [10, 11] (fun v10 v11 wi => ∃ i : Nat, i ≤ f.sorts.length ∧ v11 = .int .i64 i ∧ v10 = .int .i64 (bestV (longF p pl (mays p pl i))) ∧ Below wo.heap.size wo wi) (fun _ v11 _ => f.sorts.length - (intOf v11).toNat)
      case atStart => exact ⟨0, Nat.zero_le _, rfl, rfl, Below.refl _ _⟩
      case round =>
        obtain ⟨i, hi, rfl, rfl, hbi⟩ := hrel
        have hKi := hK.below hbi
        obtain ⟨c0, c1, c2⟩ := hKi.c
        by_cases hil : i < f.sorts.length
        · have hil' : (i : Int) < (f.sorts.length : Int) := by omega
          have hpi := HP.out.below hKi.low
          have HMY := Lib.hid (fun W (h : Below wr.heap.size wr W) => HMAY.out pl i W (hpi.below h) hil (by omega))
          cases hmay : mayB p pl (f.sorts.getD i noTS)
          · have HNX := Lib.hid (mays_miss (p := p) (pl := pl) (k := i) (by rw [HPF.out]; exact hmay))
            rw [hmay] at HMY
            clear hmay
            go_wp2_with fail
            refine wp_region_held (S := fun Z => Z.cell? ⟨w.heap.size, 0, none⟩ = some (.string f.name) ∧ Z.cell? ⟨w.heap.size, 1, none⟩ = some (.int .i64 f.body) ∧ Z.cell? ⟨w.heap.size, 2, none⟩ = some (.slice a f.sorts.length c)) (by kernel_rfl) ?_
            have hS := And.intro c0 (And.intro c1 c2)
            refine takeL (i := 0) (v := .agg #[.string f.name, .int .i64 f.body, .slice a f.sorts.length c]) rfl (by kernel_rfl) (by kernel_rfl) (by kernel_rfl) (fun _ _ _ h => h) (Or.inl ⟨by rfl, fun V9 h9 => by dsimp only at h9; go_simp⟩) (by assumption) ?_
            try simp only [Act.put, List.setIfInBounds_toArray, List.set_cons_zero, List.set_cons_succ]
            refine takeL (i := 1) (v := .string t) rfl (by kernel_rfl) (by kernel_rfl) (by kernel_rfl) (fun _ _ _ h => h) (Or.inl ⟨by rfl, fun V9 h9 => by dsimp only at h9; go_simp⟩) (by assumption) ?_
            try simp only [Act.put, List.setIfInBounds_toArray, List.set_cons_zero, List.set_cons_succ]
            refine takeL (i := 2) (v := .slice ba bl.length bc) rfl (by kernel_rfl) (by kernel_rfl) (by kernel_rfl) (fun _ _ _ h => h) (Or.inl ⟨by rfl, fun V9 h9 => by dsimp only at h9; go_simp⟩) (by assumption) ?_
            try simp only [Act.put, List.setIfInBounds_toArray, List.set_cons_zero, List.set_cons_succ]
            refine takeL (i := 3) (v := .int .i64 pl) rfl (by kernel_rfl) (by kernel_rfl) (by kernel_rfl) (fun _ _ _ h => h) (Or.inl ⟨by rfl, fun V9 h9 => by dsimp only at h9; go_simp⟩) (by assumption) ?_
            try simp only [Act.put, List.setIfInBounds_toArray, List.set_cons_zero, List.set_cons_succ]
            refine takeL (i := 4) (v := .int .i64 i) rfl (by kernel_rfl) (by kernel_rfl) (by kernel_rfl) (fun _ _ _ h => h) (Or.inl ⟨by rfl, fun V9 h9 => by dsimp only at h9; go_simp⟩) (by assumption) ?_
            try simp only [Act.put, List.setIfInBounds_toArray, List.set_cons_zero, List.set_cons_succ]
            refine wpAnyH_ready (rs := [5]) (by kernel_rfl) (by simp) (consL rfl (fun K hKK => ?_) AllReadyH.nil)
            go_simp
            refine (HMY.out _ (Below.refl _ _).drew).mono ?_
            rintro e w2 ⟨rfl, hb2d⟩
            have hb2 : Below wr.heap.size wr w2 := (Below.refl _ _).drew.trans hb2d
            clear hb2d
            have hK2 := hKi.below hb2
            obtain ⟨k0, k1, k2⟩ := hK2.c
            have hS2 := And.intro k0 (And.intro k1 k2)
            refine hKK.out _ _ hS2 (fun _ => ?_)
            clear hKK K
            try simp only [Act.put, List.setIfInBounds_toArray, List.set_cons_zero, List.set_cons_succ]
            refine takeL (i := 6) (v := .bool false) rfl (by kernel_rfl) (by kernel_rfl) (by kernel_rfl) (fun _ _ _ h => h) (Or.inl ⟨by rfl, fun V9 h9 => by dsimp only at h9; go_simp⟩) (by assumption) ?_
            try simp only [Act.put, List.setIfInBounds_toArray, List.set_cons_zero, List.set_cons_succ]
            refine takeL (i := 7) (v := undef) rfl (by kernel_rfl) (by kernel_rfl) (by kernel_rfl) (fun _ _ _ h => h) (Or.inr ⟨by rfl, rfl⟩) (by assumption) ?_
            try simp only [Act.put, List.setIfInBounds_toArray, List.set_cons_zero, List.set_cons_succ]
            refine takeL (i := 8) (v := undef) rfl (by kernel_rfl) (by kernel_rfl) (by kernel_rfl) (fun _ _ _ h => h) (Or.inr ⟨by rfl, rfl⟩) (by assumption) ?_
            try simp only [Act.put, List.setIfInBounds_toArray, List.set_cons_zero, List.set_cons_succ]
            refine takeL (i := 9) (v := undef) rfl (by kernel_rfl) (by kernel_rfl) (by kernel_rfl) (fun _ _ _ h => h) (Or.inr ⟨by rfl, rfl⟩) (by assumption) ?_
            try simp only [Act.put, List.setIfInBounds_toArray, List.set_cons_zero, List.set_cons_succ]
            refine takeL (i := 10) (v := undef) rfl (by kernel_rfl) (by kernel_rfl) (by kernel_rfl) (fun _ _ _ h => h) (Or.inr ⟨by rfl, rfl⟩) (by assumption) ?_
            try simp only [Act.put, List.setIfInBounds_toArray, List.set_cons_zero, List.set_cons_succ]
            refine takeL (i := 11) (v := undef) rfl (by kernel_rfl) (by kernel_rfl) (by kernel_rfl) (fun _ _ _ h => h) (Or.inr ⟨by rfl, rfl⟩) (by assumption) ?_
            try simp only [Act.put, List.setIfInBounds_toArray, List.set_cons_zero, List.set_cons_succ]
            refine takeL (i := 12) (v := undef) rfl (by kernel_rfl) (by kernel_rfl) (by kernel_rfl) (fun _ _ _ h => h) (Or.inr ⟨by rfl, rfl⟩) (by assumption) ?_
            try simp only [Act.put, List.setIfInBounds_toArray, List.set_cons_zero, List.set_cons_succ]
            refine takeL (i := 13) (v := undef) rfl (by kernel_rfl) (by kernel_rfl) (by kernel_rfl) (fun _ _ _ h => h) (Or.inr ⟨by rfl, rfl⟩) (by assumption) ?_
            try simp only [Act.put, List.setIfInBounds_toArray, List.set_cons_zero, List.set_cons_succ]
            refine takeL (i := 14) (v := undef) rfl (by kernel_rfl) (by kernel_rfl) (by kernel_rfl) (fun _ _ _ h => h) (Or.inr ⟨by rfl, rfl⟩) (by assumption) ?_
            try simp only [Act.put, List.setIfInBounds_toArray, List.set_cons_zero, List.set_cons_succ]
            refine takeL (i := 15) (v := undef) rfl (by kernel_rfl) (by kernel_rfl) (by kernel_rfl) (fun _ _ _ h => h) (Or.inr ⟨by rfl, rfl⟩) (by assumption) ?_
            try simp only [Act.put, List.setIfInBounds_toArray, List.set_cons_zero, List.set_cons_succ]
            refine takeL (i := 16) (v := undef) rfl (by kernel_rfl) (by kernel_rfl) (by kernel_rfl) (fun _ _ _ h => h) (Or.inr ⟨by rfl, rfl⟩) (by assumption) ?_
            try simp only [Act.put, List.setIfInBounds_toArray, List.set_cons_zero, List.set_cons_succ]
            refine takeL (i := 17) (v := undef) rfl (by kernel_rfl) (by kernel_rfl) (by kernel_rfl) (fun _ _ _ h => h) (Or.inr ⟨by rfl, rfl⟩) (by assumption) ?_
            try simp only [Act.put, List.setIfInBounds_toArray, List.set_cons_zero, List.set_cons_succ]
            refine takeL (i := 18) (v := undef) rfl (by kernel_rfl) (by kernel_rfl) (by kernel_rfl) (fun _ _ _ h => h) (Or.inr ⟨by rfl, rfl⟩) (by assumption) ?_
            try simp only [Act.put, List.setIfInBounds_toArray, List.set_cons_zero, List.set_cons_succ]
            refine takeL (i := 19) (v := undef) rfl (by kernel_rfl) (by kernel_rfl) (by kernel_rfl) (fun _ _ _ h => h) (Or.inr ⟨by rfl, rfl⟩) (by assumption) ?_
            try simp only [Act.put, List.setIfInBounds_toArray, List.set_cons_zero, List.set_cons_succ]
            refine takeL (i := 20) (v := undef) rfl (by kernel_rfl) (by kernel_rfl) (by kernel_rfl) (fun _ _ _ h => h) (Or.inr ⟨by rfl, rfl⟩) (by assumption) ?_
            try simp only [Act.put, List.setIfInBounds_toArray, List.set_cons_zero, List.set_cons_succ]
            refine takeL (i := 21) (v := undef) rfl (by kernel_rfl) (by kernel_rfl) (by kernel_rfl) (fun _ _ _ h => h) (Or.inr ⟨by rfl, rfl⟩) (by assumption) ?_
            try simp only [Act.put, List.setIfInBounds_toArray, List.set_cons_zero, List.set_cons_succ]
            refine takeL (i := 22) (v := undef) rfl (by kernel_rfl) (by kernel_rfl) (by kernel_rfl) (fun _ _ _ h => h) (Or.inr ⟨by rfl, rfl⟩) (by assumption) ?_
            try simp only [Act.put, List.setIfInBounds_toArray, List.set_cons_zero, List.set_cons_succ]
            refine takeL (i := 23) (v := undef) rfl (by kernel_rfl) (by kernel_rfl) (by kernel_rfl) (fun _ _ _ h => h) (Or.inr ⟨by rfl, rfl⟩) (by assumption) ?_
            try simp only [Act.put, List.setIfInBounds_toArray, List.set_cons_zero, List.set_cons_succ]
            refine takeL (i := 24) (v := undef) rfl (by kernel_rfl) (by kernel_rfl) (by kernel_rfl) (fun _ _ _ h => h) (Or.inr ⟨by rfl, rfl⟩) (by assumption) ?_
            try simp only [Act.put, List.setIfInBounds_toArray, List.set_cons_zero, List.set_cons_succ]
            refine takeL (i := 25) (v := undef) rfl (by kernel_rfl) (by kernel_rfl) (by kernel_rfl) (fun _ _ _ h => h) (Or.inr ⟨by rfl, rfl⟩) (by assumption) ?_
            try simp only [Act.put, List.setIfInBounds_toArray, List.set_cons_zero, List.set_cons_succ]
            refine takeL (i := 26) (v := .bool false) rfl (by kernel_rfl) (by kernel_rfl) (by kernel_rfl) (fun _ _ _ h => h) (Or.inl ⟨by rfl, fun V9 h9 => by dsimp only at h9; go_simp⟩) (by assumption) ?_
            try simp only [Act.put, List.setIfInBounds_toArray, List.set_cons_zero, List.set_cons_succ]
            refine wpAnyH_done (by kernel_rfl) ?_ _
            go_wp2
            go_roundw
            case rel => exact ⟨i + 1, by omega, by go_num, by rw [HNX.out], hbi.trans (hb2.mono hbi.size)⟩
            case measure => simp [intOf]; omega
          · have hk3 := may_kind hmay
            have hts0 := HTX.out i hil hk3
            have HNX := Lib.hid (mays_hit (p := p) (pl := pl) (k := i) ⟨by rw [HPF.out]; exact hil, by rw [HPF.out]; exact hmay⟩)
            have HLS := Lib.hid (show longF p pl (mays p pl (i + 1)) = lstep p (longF p pl (mays p pl i)) i by rw [HNX.out, longF_snoc])
            have hok := longF_ok p pl (mays p pl i)
            have hszi : tsize p i = (f.sorts.getD i noTS).text.size := by unfold tsize; rw [HPF.out]
            rw [hmay] at HMY
            generalize longF p pl (mays p pl i) = la at HLS hok ⊢
            obtain ⟨b, n⟩ := la
            dsimp only at hok
            by_cases hn : n = 0
            · have HLN := Lib.hid (show longF p pl (mays p pl (i + 1)) = (i, tsize p i) by rw [HLS.out]; unfold lstep; rw [if_pos (by show n < tsize p i; omega)])
              have hbv : bestV (b, n) = -1 := if_pos hn
              have HBN := Lib.hid (show bestV (i, tsize p i) = (i : Int) from if_neg (by show tsize p i ≠ 0; omega))
              rw [hbv]
              clear HNX hmay hk3 hok hn hbv hszi
              go_wp2_with fail
              refine wp_region_held (S := fun Z => Z.cell? ⟨w.heap.size, 0, none⟩ = some (.string f.name) ∧ Z.cell? ⟨w.heap.size, 1, none⟩ = some (.int .i64 f.body) ∧ Z.cell? ⟨w.heap.size, 2, none⟩ = some (.slice a f.sorts.length c)) (by kernel_rfl) ?_
              have hS := And.intro c0 (And.intro c1 c2)
              refine takeL (i := 0) (v := .agg #[.string f.name, .int .i64 f.body, .slice a f.sorts.length c]) rfl (by kernel_rfl) (by kernel_rfl) (by kernel_rfl) (fun _ _ _ h => h) (Or.inl ⟨by rfl, fun V9 h9 => by dsimp only at h9; go_simp⟩) (by assumption) ?_
              try simp only [Act.put, List.setIfInBounds_toArray, List.set_cons_zero, List.set_cons_succ]
              refine takeL (i := 1) (v := .string t) rfl (by kernel_rfl) (by kernel_rfl) (by kernel_rfl) (fun _ _ _ h => h) (Or.inl ⟨by rfl, fun V9 h9 => by dsimp only at h9; go_simp⟩) (by assumption) ?_
              try simp only [Act.put, List.setIfInBounds_toArray, List.set_cons_zero, List.set_cons_succ]
              refine takeL (i := 2) (v := .slice ba bl.length bc) rfl (by kernel_rfl) (by kernel_rfl) (by kernel_rfl) (fun _ _ _ h => h) (Or.inl ⟨by rfl, fun V9 h9 => by dsimp only at h9; go_simp⟩) (by assumption) ?_
              try simp only [Act.put, List.setIfInBounds_toArray, List.set_cons_zero, List.set_cons_succ]
              refine takeL (i := 3) (v := .int .i64 pl) rfl (by kernel_rfl) (by kernel_rfl) (by kernel_rfl) (fun _ _ _ h => h) (Or.inl ⟨by rfl, fun V9 h9 => by dsimp only at h9; go_simp⟩) (by assumption) ?_
              try simp only [Act.put, List.setIfInBounds_toArray, List.set_cons_zero, List.set_cons_succ]
              refine takeL (i := 4) (v := .int .i64 i) rfl (by kernel_rfl) (by kernel_rfl) (by kernel_rfl) (fun _ _ _ h => h) (Or.inl ⟨by rfl, fun V9 h9 => by dsimp only at h9; go_simp⟩) (by assumption) ?_
              try simp only [Act.put, List.setIfInBounds_toArray, List.set_cons_zero, List.set_cons_succ]
              refine wpAnyH_ready (rs := [5]) (by kernel_rfl) (by simp) (consL rfl (fun K hKK => ?_) AllReadyH.nil)
              go_simp
              refine (HMY.out _ (Below.refl _ _).drew).mono ?_
              rintro e w2 ⟨rfl, hb2d⟩
              have hb2 : Below wr.heap.size wr w2 := (Below.refl _ _).drew.trans hb2d
              clear hb2d
              have hK2 := hKi.below hb2
              obtain ⟨k0, k1, k2⟩ := hK2.c
              have hS2 := And.intro k0 (And.intro k1 k2)
              refine hKK.out _ _ hS2 (fun _ => ?_)
              clear hKK K
              try simp only [Act.put, List.setIfInBounds_toArray, List.set_cons_zero, List.set_cons_succ]
              refine takeL (i := 6) (v := .bool true) rfl (by kernel_rfl) (by kernel_rfl) (by kernel_rfl) (fun _ _ _ h => h) (Or.inl ⟨by rfl, fun V9 h9 => by dsimp only at h9; go_simp⟩) (by assumption) ?_
              try simp only [Act.put, List.setIfInBounds_toArray, List.set_cons_zero, List.set_cons_succ]
              refine takeL (i := 7) (v := .int .i64 (-1)) rfl (by kernel_rfl) (by kernel_rfl) (by kernel_rfl) (fun _ _ _ h => h) (Or.inl ⟨by rfl, fun V9 h9 => by dsimp only at h9; go_simp⟩) (by assumption) ?_
              try simp only [Act.put, List.setIfInBounds_toArray, List.set_cons_zero, List.set_cons_succ]
              refine takeL (i := 8) (v := .bool true) rfl (by kernel_rfl) (by kernel_rfl) (by kernel_rfl) (fun _ _ _ h => h) (Or.inl ⟨by rfl, fun V9 h9 => by dsimp only at h9; go_simp⟩) (by assumption) ?_
              try simp only [Act.put, List.setIfInBounds_toArray, List.set_cons_zero, List.set_cons_succ]
              refine takeL (i := 9) (v := .bool true) rfl (by kernel_rfl) (by kernel_rfl) (by kernel_rfl) (fun _ _ _ h => h) (Or.inl ⟨by rfl, fun V9 h9 => by dsimp only at h9; go_simp⟩) (by assumption) ?_
              try simp only [Act.put, List.setIfInBounds_toArray, List.set_cons_zero, List.set_cons_succ]
              refine takeL (i := 10) (v := undef) rfl (by kernel_rfl) (by kernel_rfl) (by kernel_rfl) (fun _ _ _ h => h) (Or.inr ⟨by rfl, rfl⟩) (by assumption) ?_
              try simp only [Act.put, List.setIfInBounds_toArray, List.set_cons_zero, List.set_cons_succ]
              refine takeL (i := 11) (v := undef) rfl (by kernel_rfl) (by kernel_rfl) (by kernel_rfl) (fun _ _ _ h => h) (Or.inr ⟨by rfl, rfl⟩) (by assumption) ?_
              try simp only [Act.put, List.setIfInBounds_toArray, List.set_cons_zero, List.set_cons_succ]
              refine takeL (i := 12) (v := undef) rfl (by kernel_rfl) (by kernel_rfl) (by kernel_rfl) (fun _ _ _ h => h) (Or.inr ⟨by rfl, rfl⟩) (by assumption) ?_
              try simp only [Act.put, List.setIfInBounds_toArray, List.set_cons_zero, List.set_cons_succ]
              refine takeL (i := 13) (v := undef) rfl (by kernel_rfl) (by kernel_rfl) (by kernel_rfl) (fun _ _ _ h => h) (Or.inr ⟨by rfl, rfl⟩) (by assumption) ?_
              try simp only [Act.put, List.setIfInBounds_toArray, List.set_cons_zero, List.set_cons_succ]
              refine takeL (i := 14) (v := undef) rfl (by kernel_rfl) (by kernel_rfl) (by kernel_rfl) (fun _ _ _ h => h) (Or.inr ⟨by rfl, rfl⟩) (by assumption) ?_
              try simp only [Act.put, List.setIfInBounds_toArray, List.set_cons_zero, List.set_cons_succ]
              refine takeL (i := 15) (v := undef) rfl (by kernel_rfl) (by kernel_rfl) (by kernel_rfl) (fun _ _ _ h => h) (Or.inr ⟨by rfl, rfl⟩) (by assumption) ?_
              try simp only [Act.put, List.setIfInBounds_toArray, List.set_cons_zero, List.set_cons_succ]
              refine takeL (i := 16) (v := undef) rfl (by kernel_rfl) (by kernel_rfl) (by kernel_rfl) (fun _ _ _ h => h) (Or.inr ⟨by rfl, rfl⟩) (by assumption) ?_
              try simp only [Act.put, List.setIfInBounds_toArray, List.set_cons_zero, List.set_cons_succ]
              refine takeL (i := 17) (v := undef) rfl (by kernel_rfl) (by kernel_rfl) (by kernel_rfl) (fun _ _ _ h => h) (Or.inr ⟨by rfl, rfl⟩) (by assumption) ?_
              try simp only [Act.put, List.setIfInBounds_toArray, List.set_cons_zero, List.set_cons_succ]
              refine takeL (i := 18) (v := undef) rfl (by kernel_rfl) (by kernel_rfl) (by kernel_rfl) (fun _ _ _ h => h) (Or.inr ⟨by rfl, rfl⟩) (by assumption) ?_
              try simp only [Act.put, List.setIfInBounds_toArray, List.set_cons_zero, List.set_cons_succ]
              refine takeL (i := 19) (v := undef) rfl (by kernel_rfl) (by kernel_rfl) (by kernel_rfl) (fun _ _ _ h => h) (Or.inr ⟨by rfl, rfl⟩) (by assumption) ?_
              try simp only [Act.put, List.setIfInBounds_toArray, List.set_cons_zero, List.set_cons_succ]
              refine takeL (i := 20) (v := undef) rfl (by kernel_rfl) (by kernel_rfl) (by kernel_rfl) (fun _ _ _ h => h) (Or.inr ⟨by rfl, rfl⟩) (by assumption) ?_
              try simp only [Act.put, List.setIfInBounds_toArray, List.set_cons_zero, List.set_cons_succ]
              refine takeL (i := 21) (v := undef) rfl (by kernel_rfl) (by kernel_rfl) (by kernel_rfl) (fun _ _ _ h => h) (Or.inr ⟨by rfl, rfl⟩) (by assumption) ?_
              try simp only [Act.put, List.setIfInBounds_toArray, List.set_cons_zero, List.set_cons_succ]
              refine takeL (i := 22) (v := undef) rfl (by kernel_rfl) (by kernel_rfl) (by kernel_rfl) (fun _ _ _ h => h) (Or.inr ⟨by rfl, rfl⟩) (by assumption) ?_
              try simp only [Act.put, List.setIfInBounds_toArray, List.set_cons_zero, List.set_cons_succ]
              refine takeL (i := 23) (v := undef) rfl (by kernel_rfl) (by kernel_rfl) (by kernel_rfl) (fun _ _ _ h => h) (Or.inr ⟨by rfl, rfl⟩) (by assumption) ?_
              try simp only [Act.put, List.setIfInBounds_toArray, List.set_cons_zero, List.set_cons_succ]
              refine takeL (i := 24) (v := undef) rfl (by kernel_rfl) (by kernel_rfl) (by kernel_rfl) (fun _ _ _ h => h) (Or.inr ⟨by rfl, rfl⟩) (by assumption) ?_
              try simp only [Act.put, List.setIfInBounds_toArray, List.set_cons_zero, List.set_cons_succ]
              refine takeL (i := 25) (v := .bool true) rfl (by kernel_rfl) (by kernel_rfl) (by kernel_rfl) (fun _ _ _ h => h) (Or.inl ⟨by rfl, fun V9 h9 => by dsimp only at h9; go_simp⟩) (by assumption) ?_
              try simp only [Act.put, List.setIfInBounds_toArray, List.set_cons_zero, List.set_cons_succ]
              refine takeL (i := 26) (v := .bool true) rfl (by kernel_rfl) (by kernel_rfl) (by kernel_rfl) (fun _ _ _ h => h) (Or.inl ⟨by rfl, fun V9 h9 => by dsimp only at h9; go_simp⟩) (by assumption) ?_
              try simp only [Act.put, List.setIfInBounds_toArray, List.set_cons_zero, List.set_cons_succ]
              refine wpAnyH_done (by kernel_rfl) ?_ _
              go_wp2
              go_roundw
              case rel => exact ⟨i + 1, by omega, by go_num, by rw [HLN.out, HBN.out], hbi.trans (hb2.mono hbi.size)⟩
              case measure => simp [intOf]; omega
            · obtain ⟨hb1, hb3, -⟩ := hok.resolve_left hn
              rw [HPF.out] at hb1
              have hbv : bestV (b, n) = (b : Int) := if_neg hn
              have hszb : tsize p b = (f.sorts.getD b noTS).text.size := by unfold tsize; rw [HPF.out]
              have hsort : SortsAt wr a f.sorts := by have h := hpi.sorts; rw [HPA.out, HPF.out] at h; exact h
              obtain ⟨ad, rfl, had, hsi⟩ := hsort.at_ hil
              obtain ⟨ad', hade, _, hsb⟩ := hsort.at_ hb1
              obtain rfl : ad = ad' := Option.some.inj hade
              have ti := hsi.2.1
              have tb := hsb.2.1
              have hxi := HTS.out i hil
              have hxb := HTS.out b hb1
              generalize (f.sorts.getD i noTS).text = xi at ti hszi hts0 hxi
              generalize (f.sorts.getD b noTS).text = xb at tb hszb hxb
              have hbl' : (b : Int) < (f.sorts.length : Int) := by omega
              have hb0 : ¬ (b : Int) < 0 := by omega
              have hb0' : decide ((b : Int) < 0) = false := decide_eq_false hb0
              have hbnn : (0 : Int) ≤ (b : Int) := by omega
              have hinn : (0 : Int) ≤ (i : Int) := by omega
              have HBV := Lib.hid hbv
              rw [hbv]
              have hlt0 := heap_lt hKi.box
              have HNN := Lib.hid (show n = xb.size by rw [hb3, hszb])
              have HSI := Lib.hid hszi
              have HAL := Lib.hid had
              clear HNX hmay hk3 hok hn hbv hszi hszb hsi hsb hsort hade hb1 hb3 hts0
              by_cases hgt : xb.size < xi.size
              · have hgd : decide ((xb.size : Int) < (xi.size : Int)) = true := decide_eq_true (by omega)
                have hgn : decide (xb.size < xi.size) = true := decide_eq_true hgt
                have HLN := Lib.hid (show longF p pl (mays p pl (i + 1)) = (i, tsize p i) by rw [HLS.out]; unfold lstep; rw [if_pos (by show n < tsize p i; rw [HNN.out, HSI.out]; exact hgt)])
                have HBN := Lib.hid (show bestV (i, tsize p i) = (i : Int) from if_neg (by show tsize p i ≠ 0; rw [HSI.out]; omega))
                go_wp2_with fail
                go_region_held3 (fun w' => w'.cell? ⟨w.heap.size, 0, none⟩ = some (.string f.name) ∧ w'.cell? ⟨w.heap.size, 1, none⟩ = some (.int .i64 f.body) ∧ w'.cell? ⟨w.heap.size, 2, none⟩ = some (.slice (some ad) f.sorts.length c) ∧ w'.cell? ⟨(ad.add (i * 4)).block, (ad.add (i * 4)).off + 1, none⟩ = some (.string xi) ∧ w'.cell? ⟨(ad.add (b * 4)).block, (ad.add (b * 4)).off + 1, none⟩ = some (.string xb)) (go_keep)
                  (first | (go_at_call 157; refine (HMY.out _ (by first | exact Below.refl _ _ | exact (Below.refl _ _).drew)).mono ?_; rintro e w2 ⟨rfl, hb2d⟩; have hb2 : Below wr.heap.size wr w2 := (Below.refl _ _).drew.trans hb2d; have k0 := (hb2.cell (p := ⟨w.heap.size, 0, none⟩) hlt0).trans c0; have k1 := (hb2.cell (p := ⟨w.heap.size, 1, none⟩) hlt0).trans c1; have k2 := (hb2.cell (p := ⟨w.heap.size, 2, none⟩) hlt0).trans c2; have k3 := (hb2.cell (p := ⟨(ad.add (i * 4)).block, (ad.add (i * 4)).off + 1, none⟩) (by rw [add_block]; exact HAL.out)).trans ti; have k4 := (hb2.cell (p := ⟨(ad.add (b * 4)).block, (ad.add (b * 4)).off + 1, none⟩) (by rw [add_block]; exact HAL.out)).trans tb))
                go_wp2
                go_roundw
                case rel => exact ⟨i + 1, by omega, by go_num, by rw [HLN.out, HBN.out], hbi.trans (hb2.mono hbi.size)⟩
                case measure => simp [intOf]; omega
              · have hgd : decide ((xb.size : Int) < (xi.size : Int)) = false := decide_eq_false (by omega)
                have hgn : decide (xb.size < xi.size) = false := decide_eq_false hgt
                have HLN := Lib.hid (show longF p pl (mays p pl (i + 1)) = (b, n) by rw [HLS.out]; unfold lstep; rw [if_neg (by show ¬ n < tsize p i; rw [HNN.out, HSI.out]; exact hgt)])
                have HBN := Lib.hid (show bestV (b, n) = (b : Int) from HBV.out)
                go_wp2_with fail
                go_region_held3 (fun w' => w'.cell? ⟨w.heap.size, 0, none⟩ = some (.string f.name) ∧ w'.cell? ⟨w.heap.size, 1, none⟩ = some (.int .i64 f.body) ∧ w'.cell? ⟨w.heap.size, 2, none⟩ = some (.slice (some ad) f.sorts.length c) ∧ w'.cell? ⟨(ad.add (i * 4)).block, (ad.add (i * 4)).off + 1, none⟩ = some (.string xi) ∧ w'.cell? ⟨(ad.add (b * 4)).block, (ad.add (b * 4)).off + 1, none⟩ = some (.string xb)) (go_keep)
                  (first | (go_at_call 157; refine (HMY.out _ (by first | exact Below.refl _ _ | exact (Below.refl _ _).drew)).mono ?_; rintro e w2 ⟨rfl, hb2d⟩; have hb2 : Below wr.heap.size wr w2 := (Below.refl _ _).drew.trans hb2d; have k0 := (hb2.cell (p := ⟨w.heap.size, 0, none⟩) hlt0).trans c0; have k1 := (hb2.cell (p := ⟨w.heap.size, 1, none⟩) hlt0).trans c1; have k2 := (hb2.cell (p := ⟨w.heap.size, 2, none⟩) hlt0).trans c2; have k3 := (hb2.cell (p := ⟨(ad.add (i * 4)).block, (ad.add (i * 4)).off + 1, none⟩) (by rw [add_block]; exact HAL.out)).trans ti; have k4 := (hb2.cell (p := ⟨(ad.add (b * 4)).block, (ad.add (b * 4)).off + 1, none⟩) (by rw [add_block]; exact HAL.out)).trans tb))
                go_wp2
                go_roundw
                case rel => exact ⟨i + 1, by omega, by go_num, by rw [HLN.out, HBN.out], hbi.trans (hb2.mono hbi.size)⟩
                case measure => simp [intOf]; omega
        · have hil' : ¬ (i : Int) < (f.sorts.length : Int) := by omega
          obtain rfl : i = f.sorts.length := by omega
          have hLA : longF p pl (mays p pl f.sorts.length) = longAt p pl := by unfold longAt; rw [HPF.out]
          have hlk := longAt_ok p pl (by rw [HPT.out]; omega)
          rw [HPT.out, HPF.out] at hlk
          have hlow := hKi.low
          have hrowi := hrow.below hbi
          rw [hLA]
          generalize longAt p pl = la at HST hlk ⊢
          obtain ⟨b, n⟩ := la
          dsimp only at hlk
          by_cases hn : n = 0
          · have hbv : bestV (b, n) = -1 := if_pos hn
            have HST2 := Lib.hid (HST.out.trans (if_neg (by show ¬ 0 < n; omega)))
            rw [hbv]
            clear hn hbv hlk hLA hrow hrowi hK hKi
            go_wp2
            go_ret2
            exact ⟨hlow, by rw [HR.out, HST2.out]; exact rfl⟩
          · obtain ⟨hb1, hb3, hb4⟩ := hlk.resolve_left hn
            have hbv : bestV (b, n) = (b : Int) := if_neg hn
            have hszb : tsize p b = (f.sorts.getD b noTS).text.size := by unfold tsize; rw [HPF.out]
            have HST2 := Lib.hid (show longSet p (k + 1) pl acc = longSet p k (pl + n) (acc ++ [(b : Int)]) from HST.out.trans (if_pos (by show 0 < n; omega)))
            have hsort : SortsAt w a f.sorts := by have h := HP.out.sorts; rw [HPA.out, HPF.out] at h; exact h
            obtain ⟨ad, rfl, had, hsb⟩ := hsort.at_ hb1
            have tb := hsb.2.1
            have hxb := HTS.out b hb1
            generalize (f.sorts.getD b noTS).text = xb at tb hszb hxb
            have hnx : n = xb.size := by rw [hb3, hszb]
            subst hnx
            have hpos : 0 < xb.size := by omega
            have hbl' : (b : Int) < (f.sorts.length : Int) := by omega
            have hb0 : ¬ (b : Int) < 0 := by omega
            have hb0' : decide ((b : Int) < 0) = false := decide_eq_false hb0
            have hbnn : (0 : Int) ≤ (b : Int) := by omega
            rw [hbv]
            obtain ⟨a9, d9, hv9, -, -, -⟩ := hrowi.shape
            subst hv9
            have hzlo := hlow.size
            have hlt0 := heap_lt hKi.box
            clear hn hbv hlk hLA hrow hK hszb hb3 hsb hsort
            go_wp2_with (at_builtin; refine wpList_app1 wr _ rfl _ _ rfl (w.heap.size + 1) _ acc rfl hrowi rfl (by omega) (by omega) ?_; intro g9 c9 w9 hrow9 hgrow9 hb9; have hK9 := hKi.own hb9; have q2 : w9.cell? ⟨w.heap.size, 2, none⟩ = some (.slice (some ad) f.sorts.length c) := hK9.c.2.2; have t9 : w9.cell? ⟨(ad.add (b * 4)).block, (ad.add (b * 4)).off + 1, none⟩ = some (.string xb) := (hK9.low.cell (p := ⟨(ad.add (b * 4)).block, (ad.add (b * 4)).off + 1, none⟩) (by rw [add_block]; exact had)).trans tb)
            go_roundw
            case rel => exact ⟨pl + xb.size, k, acc ++ [(b : Int)], hb4, by omega, by simp; omega, by go_num, Lib.hid (HR.out.trans HST2.out), by simpa using hrow9, hK9⟩
            case measure => simp [intOf]; omega
    · have hlt' : ¬ (pl : Int) < (t.size : Int) := by omega
      obtain ⟨k, rfl⟩ : ∃ k', k = k' + 1 := ⟨k - 1, by omega⟩
      have HST := Lib.hid (show longSet p (k + 1) pl acc = some acc from if_neg (by rw [HPT.out]; exact hlt))
      have hlow := hK.low
      clear hK
      go_wp2
      go_ret2
      exact ⟨hlow, by rw [HR.out, HST.out]; exact ⟨_, rfl, hrow.mono (by omega)⟩⟩
end Go.Proofs.YtlkkociijfdcgaaGreatDoor

/-
  SortsOf: the reference's walk.
-/
namespace Go.Proofs.YtlkkociijfdcgaaGreatDoor
open Go.RowKit Go.Maps Go.Shelf

theorem texted {f : FT} (h : (checkF f).2 = 0) : Texted f := by
  intro k hk hk3
  obtain ⟨_, _, ha⟩ := checkF_right h
  obtain ⟨_, _, h3, _, h5⟩ := sortErr_zero (ha k hk)
  unfold textErr at h5
  split at h5
  · cases h5
  rename_i h6
  have h6 : inB (f.sorts.getD k noTS).text.size (leastOf (f.sorts.getD k noTS).kind) (mostOf (f.sorts.getD k noTS).kind) = true := by simpa using h6
  have h7 := (of_decide_eq_true (show decide _ = true from h6))
  unfold leastOf mostOf at h7
  split at h7
  · omega
  · split at h7
    · omega
    · have h8 := of_decide_eq_true (show decide _ = true from h3)
      omega
theorem minus_zero (l : List Int) : minusL l 0 = l := by
  unfold minusL
  simp
theorem bars_bounds (r : RU) (s : ByteArray) : (barsOf r s).length ≤ 60 ∧ ∀ x ∈ barsOf r s, -100 ≤ x ∧ x ≤ 100 := by
  obtain ⟨h1, h2⟩ := barsOf_places r s
  exact ⟨h1, fun x hx => by have := h2 x hx; omega⟩
end Go.Proofs.YtlkkociijfdcgaaGreatDoor
