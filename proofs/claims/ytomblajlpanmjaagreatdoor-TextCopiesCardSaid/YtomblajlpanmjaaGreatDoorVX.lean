/-
  Maps from texts to values: what a map reads as, entry by entry.
-/
import Derived.WalkKit
import Derived.Maps.OwnSet
import Derived.Maps.OwnOps
import Derived.Maps.Views
import Derived.StringKeys
import Derived.Deep.Quiet
import Derived.Lib.SplitLaws
import Derived.Lib.Split
import Derived.Test.YtomblajlpanmjaaGreatDoorQX
import Derived.Test.YtomblajlpanmjaaGreatDoorYN
import Derived.Test.YtomblajlpanmjaaGreatDoorQY
namespace Go.Proofs.YtomblajlpanmjaaGreatDoor
open Go.RowKit Go.Maps Go.WideMaps

/-- How an element reads here: as itself. -/
def heldR (v : Value) : Option (DataW Value × List MemPlace) := some (.held v, [])
def putE (D : DataW Value) (p : List UInt8 × Value) : DataW Value := D.put (.string p.1) (.held p.2)
def mapD (L : List (List UInt8 × Value)) : DataW Value := L.foldl putE (.map [])
def getE (key : List UInt8) (v : Value) (p : List UInt8 × Value) : Value := if p.1 = key then p.2 else v
def mapGet (L : List (List UInt8 × Value)) (key : List UInt8) (z : Value) : Value := L.foldl (getE key) z
def mapHas (L : List (List UInt8 × Value)) (key : List UInt8) : Bool := L.any fun p => decide (p.1 = key)
theorem mapD_snoc (L : List (List UInt8 × Value)) (p : List UInt8 × Value) : mapD (L ++ [p]) = (mapD L).put (.string p.1) (.held p.2) := by
  unfold mapD; rw [List.foldl_append]; try rfl
theorem fold_atKey (key : List UInt8) (z0 : Value) : ∀ (L : List (List UInt8 × Value)) (D : DataW Value) (z : Value), IsMap D → D.atKey (.string key) (.held z0) = .held z → (L.foldl putE D).atKey (.string key) (.held z0) = .held (L.foldl (getE key) z)
  | [], _, _, _, h => h
  | p :: L, D, z, hD, h => by
    refine fold_atKey key z0 L (putE D p) (getE key z p) (hD.put _ _) ?_
    unfold putE getE
    by_cases e : p.1 = key
    · rw [if_pos e, e]; exact atKey_put_same hD (by simp [WideAt.IsKeyLit]) _ _
    · rw [if_neg e, atKey_put_other (fun h' => e (by injection h' with h'; exact h'.symm))]; exact h
theorem mapD_atKey (L : List (List UInt8 × Value)) (key : List UInt8) (z : Value) : (mapD L).atKey (.string key) (.held z) = .held (mapGet L key z) := fold_atKey key z L _ z isMap_empty rfl
theorem fold_has (key : List UInt8) : ∀ (L : List (List UInt8 × Value)) (D : DataW Value), IsMap D → Go.Maps.has (L.foldl putE D) (.string key) = (Go.Maps.has D (.string key) || mapHas L key)
  | [], _, _ => by simp [mapHas]
  | p :: L, D, hD => by
    refine (fold_has key L (putE D p) (hD.put _ _)).trans ?_
    unfold putE mapHas
    by_cases e : p.1 = key
    · rw [e, has_put_same hD (by simp [WideAt.IsKeyLit])]; simp [e]
    · rw [has_put_other (fun h' => e (by injection h' with h'; exact h'.symm))]; simp [e]
theorem mapD_has (L : List (List UInt8 × Value)) (key : List UInt8) : Go.Maps.has (mapD L) (.string key) = mapHas L key := by
  unfold mapD; rw [fold_has key L _ isMap_empty]; try rfl
/-- Block b is a map that reads as the entries L. -/
def MapAt (P : Program) (k : TypeId) (w : World) (b : Nat) (L : List (List UInt8 × Value)) : Prop := w.ownsMap P k heldR b L.length (mapD L)
section
variable {P : Program} {k : TypeId} {w w' : World} {b : Nat} {L : List (List UInt8 × Value)}
theorem MapAt.made (w : World) (P : Program) (k : TypeId) : MapAt P k (w.alloc (.map #[] 0)) w.heap.size [] := World.ownsMap_made w P k heldR
theorem MapAt.lt (h : MapAt P k w b L) : b < w.heap.size := World.ownsMap.lt h
theorem MapAt.below (h : MapAt P k w b L) (hb : Below w.heap.size w w') : MapAt P k w' b L := by
  have hlt := h.lt
  obtain ⟨es, clock, e, F, hs, hD⟩ := h
  exact ⟨es, clock, (hb.block b hlt).trans e, F, hs, hD⟩
theorem MapAt.alloc (h : MapAt P k w b L) (o : Obj) : MapAt P k (w.alloc o) b L := h.below ((Below.refl _ _).alloc (Nat.le_refl _) o)
theorem MapAt.drew (h : MapAt P k w b L) : MapAt P k w.drew b L := h
theorem MapAt.drewN (h : MapAt P k w b L) (n : Nat) : MapAt P k (w.drewN n) b L := h
theorem MapAt.setCell (h : MapAt P k w b L) {p : Addr} (hp : b ≠ p.block) (u : Value) : MapAt P k (w.setCell p u) b L := by
  obtain ⟨es, clock, e, F, hs, hD⟩ := h
  exact ⟨es, clock, (Below.heap_setCell _ _ _ _ hp).trans e, F, hs, hD⟩
theorem MapAt.kept {row : Option Nat} (h : MapAt P k w b L) (hg : w.grownBy w' row) (hne : some b ≠ row) : MapAt P k w' b L := World.ownsMap.kept h hg hne
end
section
variable {P : Program} (w : World) {ops : Array Oper} {rest : List Oper} {o : Oper} {a : Act} {Q : Exit → Act → World → Prop}
/-- 'v, ok := m[k]' at a map of slices. -/
theorem wpList_mapOk (hg : o.guard = none) (m x : Operand) (t : TypeId) (hop : o.op = Op.lookup t m x true)
    (k e : TypeId) (hk : P.underlying k = some .string) (ht : P.underlying t = some (.map k e)) (z : Value) (hz : ∀ w : World, (zeroValue e).run P w = .ok z w) (b : Nat) (L : List (List UInt8 × Value))
    (hm : a.eval m = .map (some b)) (hown : MapAt P k w b L) (s : ByteArray) (hx : a.eval x = .string s) (hs : s.size ≤ maxLen)
    (hK : wpList P ops Q rest (a.put o.dst (.tuple #[mapGet L s.data.toList z, .bool (mapHas L s.data.toList)])) w) :
    wpList P ops Q (o :: rest) a w :=
  wpList_lookup_own_ok w hg m x t hop k e (string_keyed hk) ht heldR (hz w) (.held z) [] rfl b L.length (mapD L) hm hown (.string s) (.string s.data.toList) hx (keyOf_string_mk hk hs) (fun v ps hv => by
    unfold heldR at hv
    rw [mapD_atKey] at hv
    injection hv with hv
    injection hv with hv _
    injection hv with hv
    rw [hv, mapD_has]
    exact hK)
/-- 'm[k]' at a map of slices. -/
theorem wpList_mapAt (hg : o.guard = none) (m x : Operand) (t : TypeId) (hop : o.op = Op.lookup t m x false)
    (k e : TypeId) (hk : P.underlying k = some .string) (ht : P.underlying t = some (.map k e)) (z : Value) (hz : ∀ w : World, (zeroValue e).run P w = .ok z w) (b : Nat) (L : List (List UInt8 × Value))
    (hm : a.eval m = .map (some b)) (hown : MapAt P k w b L) (s : ByteArray) (hx : a.eval x = .string s) (hs : s.size ≤ maxLen)
    (hK : wpList P ops Q rest (a.put o.dst (mapGet L s.data.toList z)) w) :
    wpList P ops Q (o :: rest) a w := by
  refine wpList_plain hg fun K' hK' => ?_
  obtain ⟨v, ps, hrun, hv⟩ := World.ownsMap.lookup hown (string_keyed hk) ht (hz w) (zd := .held z) (zp := []) rfl (keyOf_string_mk hk hs)
  unfold heldR at hv
  rw [mapD_atKey] at hv
  injection hv with hv
  injection hv with hv _
  injection hv with hv
  subst hv
  unfold Oper.wp
  simp [execOp, hop, hm, hx, hrun, Result.andThen]
  exact hK' _ _ hK
/-- 'm[k] = v'. -/
theorem wpList_mapPut (hg : o.guard = none) (m x v : Operand) (t : TypeId) (hop : o.op = Op.mapUpdate t m x v)
    (k e : TypeId) (hk : P.underlying k = some .string) (ht : P.underlying t = some (.map k e)) (b : Nat) (L : List (List UInt8 × Value))
    (hm : a.eval m = .map (some b)) (hown : MapAt P k w b L) (hn : L.length < maxLen) (s : ByteArray) (val : Value) (hx : a.eval x = .string s) (hv : a.eval v = val) (hs : s.size ≤ maxLen)
    (hK : ∀ w', MapAt P k w' b (L ++ [(s.data.toList, val)]) → w.grownBy w' (some b) → wpList P ops Q rest (a.put o.dst undef) w') :
    wpList P ops Q (o :: rest) a w :=
  wpList_mapUpdate_own w hg m x v t hop k e (string_keyed hk) ht heldR b L.length (mapD L) hm hown hn (.string s) val (.string s.data.toList) hx hv (keyOf_string_mk hk hs) (.held val) [] rfl (fun w' h1 h2 => hK w' (by unfold MapAt; rw [mapD_snoc, List.length_append]; exact h1) h2)
end
end Go.Proofs.YtomblajlpanmjaaGreatDoor
/-
  Marked words: the mathematics of splitting at a byte.
-/
namespace Go.Proofs.YtomblajlpanmjaaGreatDoor
open Go.Lib

def splitOn (m : UInt8) : List UInt8 → List (List UInt8)
  | [] => [[]]
  | c :: r => if c = m then [] :: splitOn m r else match splitOn m r with
    | [] => [[c]]
    | h :: t => (c :: h) :: t
theorem splitOn_ne (m : UInt8) (l : List UInt8) : splitOn m l ≠ [] := by
  cases l with
  | nil => simp [splitOn]
  | cons c r =>
    unfold splitOn
    split
    · simp
    · split <;> simp
theorem splitK_one (m : UInt8) : ∀ (l : List UInt8) (k : Nat), count l [m] = k → splitK [m] 0 k l = splitOn m l
  | [], k, h => by
    have hc : count ([] : List UInt8) [m] = 0 := by rw [count_one]; try rfl
    rw [hc] at h; subst h; rfl
  | b :: l, k, h => by
    by_cases e : b = m
    · subst e
      rw [count_cons_eq] at h
      have ih := splitK_one b l (count l [b]) rfl
      obtain rfl : k = count l [b] + 1 := by omega
      have hix : index (b :: l) [b] = ((0 : Nat) : Int) := by rw [index]; simp [List.isPrefixOf]
      rw [splitK, if_neg (by rw [hix]; simp), hix]
      unfold splitOn
      rw [if_pos rfl, ← ih]
      simp
    · rw [count_cons_ne b m l e] at h
      have ih := splitK_one m l k h
      unfold splitOn
      rw [if_neg e, ← ih]
      cases k with
      | zero => rfl
      | succ k =>
        have hp : ([m] : List UInt8).isPrefixOf (b :: l) = false := by simp [List.isPrefixOf, Ne.symm e]
        have hix : index (b :: l) [m] = if index l [m] == -1 then -1 else index l [m] + 1 := by rw [index, hp]; simp
        by_cases hm : index l [m] = -1
        · rw [count_miss hm] at h; omega
        · have hge := index_ge l [m]
          obtain ⟨j, hj⟩ : ∃ j : Nat, index l [m] = j := ⟨(index l [m]).toNat, by omega⟩
          have hix' : index (b :: l) [m] = ((j + 1 : Nat) : Int) := by rw [hix, if_neg (fun e => hm (beq_iff_eq.1 e)), hj]; omega
          rw [splitK, splitK, if_neg (by rw [hix']; simp; omega), if_neg (by rw [hj]; simp), hix', hj]
          simp
theorem splitB_one (m : UInt8) (s : ByteArray) : (splitB ⟨#[m]⟩ 0 (countB s ⟨#[m]⟩) s).map (·.data.toList) = splitOn m s.data.toList := by
  rw [splitB_data]
  exact splitK_one m _ _ rfl

/-- Where the parts but the last end, counted without what stands between. -/
def placesOf : Int → List (List UInt8) → List Int
  | _, [] => []
  | _, [_] => []
  | a, p :: q :: r => (a + p.length) :: placesOf (a + p.length) (q :: r)
theorem placesOf_len : ∀ (ps : List (List UInt8)) (a : Int), (placesOf a ps).length = ps.length - 1
  | [], _ => rfl
  | [_], _ => rfl
  | p :: q :: r, a => by
    show (placesOf (a + p.length) (q :: r)).length + 1 = _
    rw [placesOf_len (q :: r)]; simp
def sumL (ps : List (List UInt8)) (k : Nat) : Int := ((ps.take k).flatten.length : Nat)
theorem placesOf_at : ∀ (ps : List (List UInt8)) (a : Int) (k : Nat), k + 1 < ps.length → (placesOf a ps)[k]? = some (a + sumL ps (k + 1))
  | [], _, _, h => by simp at h
  | [_], _, _, h => by simp at h
  | p :: q :: r, a, 0, _ => by simp [placesOf, sumL]
  | p :: q :: r, a, k + 1, h => by
    show (placesOf (a + p.length) (q :: r))[k]? = _
    rw [placesOf_at (q :: r) _ k (by simpa using h)]
    simp [sumL]; omega
theorem sumL_succ {ps : List (List UInt8)} {k : Nat} (h : k < ps.length) : sumL ps (k + 1) = sumL ps k + ((ps.getD k []).length : Nat) := by
  unfold sumL
  rw [List.take_succ_eq_append_getElem h, List.flatten_append, List.length_append]
  simp [h]
theorem sumL_le (ps : List (List UInt8)) (k : Nat) : 0 ≤ sumL ps k ∧ sumL ps k ≤ (ps.flatten.length : Nat) := by
  unfold sumL
  have h : (ps.take k).flatten.length ≤ ps.flatten.length := by
    have e : ps.flatten = (ps.take k).flatten ++ (ps.drop k).flatten := by rw [← List.flatten_append, List.take_append_drop]
    rw [e, List.length_append]; omega
  omega
theorem places_take {ps : List (List UInt8)} {k : Nat} (h : k + 1 < ps.length) : (placesOf 0 ps).take (k + 1) = (placesOf 0 ps).take k ++ [sumL ps (k + 1)] := by
  have h1 := placesOf_at ps 0 k h
  have h2 : k < (placesOf 0 ps).length := by rw [placesOf_len]; omega
  rw [List.take_succ_eq_append_getElem h2]
  rw [List.getElem?_eq_getElem h2] at h1
  injection h1 with h1
  rw [h1, Int.zero_add]
theorem splitOn_len (m : UInt8) : ∀ l : List UInt8, (splitOn m l).flatten.length + (splitOn m l).length = l.length + 1
  | [] => by simp [splitOn]
  | c :: r => by
    have ih := splitOn_len m r
    have hne := splitOn_ne m r
    unfold splitOn
    split
    · simp at ih ⊢; omega
    · split
      · rename_i h; exact absurd h hne
      · rename_i h t e; rw [e] at ih; simp at ih ⊢; omega
/-- A text cut at a mark: the word, and the places of the marks in it. -/
def cutAt (m : UInt8) (l : List UInt8) : Option (List UInt8 × List Int) :=
  if 59 < l.length then none else if (splitOn m l).any List.isEmpty = true then none else some ((splitOn m l).flatten, placesOf 0 (splitOn m l))
end Go.Proofs.YtomblajlpanmjaaGreatDoor

/-
  Joining texts, and splitting a text at one byte, as the library does.
-/
namespace Go.Proofs.YtomblajlpanmjaaGreatDoor
open Go.RowKit Go.Maps

theorem len_b (s : ByteArray) : s.data.toList.length = s.size := Array.length_toList
/-- The texts from j on, each with the separator ahead of it. -/
def joinT (sp : List UInt8) : List ByteArray → List UInt8
  | [] => []
  | x :: r => (sp ++ x.data.toList) ++ joinT sp r
def joinL (sp : List UInt8) : List ByteArray → List UInt8
  | [] => []
  | x :: r => x.data.toList ++ joinT sp r
theorem joinT_app (sp : List UInt8) : ∀ (l m : List ByteArray), joinT sp (l ++ m) = joinT sp l ++ joinT sp m
  | [], _ => rfl
  | x :: l, m => by show (sp ++ x.data.toList) ++ joinT sp (l ++ m) = _; rw [joinT_app sp l m, ← List.append_assoc]; try rfl
theorem joinT_len (sp : List UInt8) {M : Nat} : ∀ (l : List ByteArray), (∀ x ∈ l, x.size ≤ M) → (joinT sp l).length ≤ l.length * (sp.length + M)
  | [], _ => by simp [joinT]
  | x :: l, h => by
    have h1 := h x (by simp)
    have h2 := joinT_len sp l (fun y hy => h y (by simp [hy]))
    have h3 := len_b x
    simp only [joinT, List.length_append, List.length_cons]
    rw [Nat.add_mul]; omega
theorem joinL_nil : ∀ l : List ByteArray, joinL [] l = (l.map (·.data.toList)).flatten
  | [] => rfl
  | x :: l => by
    show x.data.toList ++ joinT [] l = _
    have : ∀ m : List ByteArray, joinT [] m = (m.map (·.data.toList)).flatten := fun m => by
      induction m with
      | nil => rfl
      | cons y m ih => show ([] ++ y.data.toList) ++ joinT [] m = _; rw [ih]; simp
    rw [this]; simp
theorem add_next (p : Addr) (k : Nat) : p.add (k + 1) = ⟨p.block, p.off + 1 + k, none⟩ := by
  unfold Addr.add; rw [if_neg (by omega)]; congr 1; omega
theorem drop1_take {L : List ByteArray} {k : Nat} (h : k + 1 < L.length) : L.tail.take (k + 1) = L.tail.take k ++ [L.getD (k + 1) noTx] := by
  rw [List.take_succ_eq_append_getElem (by simp; omega), getT h]; simp
theorem join_bd {L : List ByteArray} (sp : ByteArray) (h : ∀ j, j < L.length → (L.getD j noTx).size ≤ 100000) (hl : L.length ≤ 1000) (hp : sp.size ≤ 100) (k : Nat) : (joinT sp.data.toList (L.tail.take k)).length ≤ 100100000 := by
  have h1 := joinT_len sp.data.toList (M := 100000) (L.tail.take k) (fun x hx => by
    have hx2 := List.mem_of_mem_tail (List.mem_of_mem_take hx)
    obtain ⟨j, hj, rfl⟩ := List.getElem_of_mem hx2
    have h3 := h j hj
    rwa [getT hj] at h3)
  have h2 := len_b sp
  have h3 : (L.tail.take k).length * (sp.data.toList.length + 100000) ≤ 1000 * 100100 := Nat.mul_le_mul (by simp; omega) (by omega)
  omega

set_option maxRecDepth 100000 in
set_option maxHeartbeats 4000000 in
theorem join_any (b : Option Addr) (l : List ByteArray) (d : Nat) (sp : ByteArray) (w : World) (hX : TextsAt w b l) (hl : l.length ≤ 1000) (hs : ∀ j, j < l.length → (l.getD j noTx).size ≤ 100000) (hp : sp.size ≤ 100) (hd : l.length ≤ d) :
    Calls Tryz.prog 69 #[.slice b l.length d, .string sp] w fun e w' => e = .returned (.string ⟨(joinL sp.data.toList l).toArray⟩) ∧ Below w.heap.size w w' := by
  have HSZ := Lib.hid hs
  have hspl := len_b sp
  clear hs
  match l, hX, hl, HSZ, hd with
  | [], hX, hl, HSZ, hd =>
    go_enter Tryz.func69, Tryz.ntmps69
    go_wp2
    all_goals first | (exfalso; omega) | skip
    all_goals go_ret
    all_goals exact ⟨rfl, Below.refl _ _⟩
  | [x], hX, hl, HSZ, hd =>
    obtain ⟨p0, rfl, hp0, hc0⟩ := hX.at_ (k := 0) (by simp)
    have ha0 : p0.add 0 = p0 := by simp [Addr.add]
    have hc0b := hc0; rw [ha0] at hc0b
    go_enter Tryz.func69, Tryz.ntmps69
    go_wp2
    all_goals first | (exfalso; omega) | skip
    all_goals go_ret
    all_goals exact ⟨by simp [joinL, joinT], Below.refl _ _⟩
  | x :: y :: r, hX, hl, HSZ, hd =>
    obtain ⟨L, hL⟩ : ∃ L, L = x :: y :: r := ⟨_, rfl⟩
    have h2 : 2 ≤ L.length := by rw [hL]; simp
    have hJ := Lib.hid (show joinL sp.data.toList (x :: y :: r) = (L.getD 0 noTx).data.toList ++ joinT sp.data.toList L.tail by rw [hL]; try rfl)
    rw [← hL] at hX hl HSZ hd
    rw [hJ.out, ← hL]
    clear hL
    have hlen1 : ((L.length : Int) == 0) = false := by rw [beq_eq_false_iff_ne]; omega
    have hlen2 : ((L.length : Int) == 1) = false := by rw [beq_eq_false_iff_ne]; omega
    have hq0 : ((sp.size : Int) + 1) * ((L.length : Int) - 1) ≤ 101 * 999 := Int.mul_le_mul (by omega) (by omega) (by omega) (by omega)
    have hq : (sp.size : Int) + 1 ≤ 9223372036854775807 / ((L.length : Int) - 1) := Int.le_ediv_of_mul_le (by omega) (by omega)
    have hm0 : (sp.size : Int) * ((L.length : Int) - 1) ≤ 100 * 999 := Int.mul_le_mul (by omega) (by omega) (by omega) (by omega)
    have hm1 : 0 ≤ (sp.size : Int) * ((L.length : Int) - 1) := Int.mul_nonneg (by omega) (by omega)
    clear hq0
    obtain ⟨p0, rfl, hp0, hc0⟩ := hX.at_ (k := 0) (by omega)
    have ha0 : p0.add 0 = p0 := by simp [Addr.add]
    rw [ha0] at hc0
    obtain ⟨x0, hx0⟩ : ∃ x0, x0 = L.getD 0 noTx := ⟨_, rfl⟩
    have hsz0 := HSZ.out 0 (by omega)
    rw [← hx0] at hc0 hsz0 ⊢
    clear ha0 hx0
    by_cases hsp : 0 < sp.size
    all_goals
      go_enter Tryz.func69, Tryz.ntmps69
      go_wp2
      all_goals first | (exfalso; omega) | skip
      go_loop [5, 41] (fun v5 i => ∃ (k : Nat) (m : Int), k ≤ L.length ∧ i = .int .i64 k ∧ 0 ≤ m ∧ m ≤ 99900 + k * 100000 ∧ v5 = .int .i64 m) (fun _ i => L.length - (intOf i).toNat)
      case atStart => exact ⟨0, _, Nat.zero_le _, rfl, by omega, by omega, rfl⟩
      case round =>
        obtain ⟨k, m, hk, rfl, hm2, hm3, rfl⟩ := hrel
        by_cases hlt : k < L.length
        · obtain ⟨_, e1, hp1, hc1⟩ := hX.at_ hlt
          cases e1
          have hkl : (k : Int) < (L.length : Int) := by omega
          have hsz := HSZ.out k hlt
          generalize L.getD k noTx = s at hc1 hsz
          have hov : ¬ (9223372036854775807 - m : Int) < (s.size : Int) := by omega
          go_wp2
          all_goals first | (exfalso; omega) | skip
          go_round
          case rel => exact ⟨k + 1, _, by omega, by go_num, by omega, by omega, rfl⟩
          case measure => simp [intOf]; omega
        · obtain rfl : k = L.length := by omega
          obtain ⟨mn, rfl⟩ : ∃ mn : Nat, m = mn := ⟨m.toNat, by omega⟩
          have hbl0 : (w.alloc (.cells #[.pointer none, .slice none 0 0] 115)).heap[w.heap.size]? = some (.cells #[.pointer none, .slice none 0 0] 115 (0, 0)) := (MapKept.heap_alloc w _).1
          have HBL0 := Lib.hid hbl0
          clear hbl0
          go_wp2_with fail
          refine (Tryz.Builder_Grow_fresh w.heap.size w.heap.size mn _ (Nat.le_refl _) HBL0.out (by simp) (by omega)).mono ?_
          rintro e w1 ⟨rfl, hbu, hb1⟩
          have hB1 := ((Below.refl w.heap.size w).alloc (Nat.le_refl _) (.cells #[.pointer none, .slice none 0 0] 115)).trans hb1
          have hbl1 : Bld w.heap.size w.heap.size [] w1 := .inr hbu
          clear hb1 hbu
          have hX1 := hX.below hB1
          have hc1 := (hB1.cell hp0).trans hc0
          have hs1 := hB1.size
          clear hc0
          go_wp2_with fail
          refine (wStr_any _ _ [] x0 _ hbl1 (by simp; omega) hs1).mono ?_
          rintro e w2 ⟨rfl, hbl2, hb2⟩
          have hB2 := hB1.trans hb2
          rw [List.nil_append] at hbl2
          clear hX1 hc1 hb2 hbl1
          have hl1 : 1 ≤ L.length := by omega
          have hds : (L.length : Int) ≤ (d : Int) := by omega
          go_wp2_with fail
          go_loopw [65] (fun i wr => ∃ k : Nat, k ≤ L.length - 1 ∧ i = .int .i64 k ∧ Bld w.heap.size w.heap.size (x0.data.toList ++ joinT sp.data.toList (L.tail.take k)) wr ∧ Below w.heap.size w wr) (fun i _ => L.length - (intOf i).toNat)
          case atStart => exact ⟨0, Nat.zero_le _, rfl, by simpa [joinT] using hbl2, hB2⟩
          case round =>
            obtain ⟨k, hk, rfl, hbl, hB⟩ := hrel
            clear hbl2 hB2 hB1
            by_cases hlt : k < L.length - 1
            · obtain ⟨_, e1, hp1, hc9⟩ := (hX.below hB).at_ (k := k + 1) (by omega)
              cases e1
              have hc1 : wr.cell? ⟨p0.block, p0.off + 1 + k, none⟩ = some (.string (L.getD (k + 1) noTx)) := by rw [← add_next]; exact hc9
              clear hc9
              have hsz := HSZ.out (k + 1) (by omega)
              have hkl : (k : Int) < (L.length : Int) - 1 := by omega
              have HT := Lib.hid (show joinT sp.data.toList (L.tail.take (k + 1)) = joinT sp.data.toList (L.tail.take k) ++ (sp.data.toList ++ (L.getD (k + 1) noTx).data.toList) by rw [drop1_take (L := L) (k := k) (by omega), joinT_app]; simp [joinT])
              have hjl := join_bd sp HSZ.out (by omega) hp k
              have hx0l := len_b x0
              have hBs := hB.size
              generalize L.getD (k + 1) noTx = s at hc1 hsz HT
              generalize joinT sp.data.toList (L.tail.take k) = acc at hbl hjl HT
              go_wp2_with fail
              refine (wStr_any _ _ _ sp _ hbl (by simp; omega) hBs).mono ?_
              rintro e w3 ⟨rfl, hbl3, hb3⟩
              have hB3 := hB.trans hb3
              have hs3 := hB3.size
              clear hc1 hbl hB hb3
              go_wp2_with fail
              refine (wStr_any _ _ _ s _ hbl3 (by simp; omega) hs3).mono ?_
              rintro e w4 ⟨rfl, hbl4, hb4⟩
              have hB4 := hB3.trans hb4
              have HBL := Lib.hid hbl4
              clear hbl4 hbl3 hB3 hb4
              go_wp2
              go_roundw
              case rel => exact ⟨k + 1, by omega, by go_num, by rw [HT.out]; simpa using HBL.out, hB4⟩
              case measure => simp [intOf]; omega
            · obtain rfl : k = L.length - 1 := by omega
              have hs3 := hB.size
              rw [List.take_of_length_le (by simp)] at hbl
              go_wp2_with fail
              refine (bStr_any _ _ _ _ hbl hs3).mono ?_
              rintro e w4 ⟨rfl, hb4⟩
              go_wp2
              go_ret
              exact ⟨rfl, hB.trans hb4⟩
end Go.Proofs.YtomblajlpanmjaaGreatDoor

/-
  strings.Split at one byte, as this program uses it.
-/
namespace Go.Proofs.YtomblajlpanmjaaGreatDoor
open Go.RowKit Go.Maps

theorem infoS0 : (Tryz.prog.info? 9).map (fun i => (i.zero, i.size, i.bytes)) = some (some (.string ByteArray.empty), 1, 16) := by kernel_rfl
theorem one_le (c : UInt8) : 1 ≤ (⟨#[c]⟩ : ByteArray).size := Nat.le_refl 1
def partsOf (c : UInt8) (s : ByteArray) : List ByteArray := Lib.splitB ⟨#[c]⟩ 0 (Lib.countB s ⟨#[c]⟩) s
theorem partsOf_data (c : UInt8) (s : ByteArray) : (partsOf c s).map (·.data.toList) = splitOn c s.data.toList := splitB_one c s
theorem partsOf_len (c : UInt8) (s : ByteArray) : (partsOf c s).length = Lib.countB s ⟨#[c]⟩ + 1 := Lib.splitB_all _ (one_le c) 0 _ s rfl
theorem split_one (c : UInt8) (s : ByteArray) (w : World) (hs : s.size ≤ 1000000) :
    Calls Tryz.prog 72 #[.string s, .string ⟨#[c]⟩] w fun e w' => e = .returned (.slice (some ⟨w.heap.size, 0, none⟩) (partsOf c s).length (partsOf c s).length) ∧ w' = w.alloc (.cells ((partsOf c s).map Value.string).toArray 9) := by
  have hle := Lib.countB_le ⟨#[c]⟩ (one_le c) s.size s (Nat.le_refl _)
  have hc := Any.strings_genSplit_core Tryz.lays221 infoS0 s ⟨#[c]⟩ 0 (-1) (Lib.countB s ⟨#[c]⟩ + 1) w (by omega) (one_le c) (Nat.zero_le _)
    (fun x cs _ => (Tryz.strings_Index_one x c _).mono fun e w' ⟨he, hw⟩ => ⟨by rw [he, ← Lib.index_one], hw⟩)
    ((Tryz.strings_Count_one s c w).mono fun e w' ⟨he, hw⟩ => ⟨by rw [he]; show _ = Ending.returned (Value.int .i64 ((Lib.count s.data.toList [c] : Nat) : Int)); rw [Lib.count_one]; try rfl, hw⟩)
    (by decide) (by decide) (by rw [if_pos (by decide)]; omega)
  rw [Nat.add_sub_cancel] at hc
  change Calls Tryz.prog 113 _ _ _ at hc
  have hl := partsOf_len c s
  have e2 : Lib.cellsOf (partsOf c s) (Lib.countB s ⟨#[c]⟩ + 1) = ((partsOf c s).map Value.string).toArray := by rw [← hl]; exact Lib.cellsOf_full _
  change Calls Tryz.prog 113 _ _ (fun e w' => e = .returned (.slice (some ⟨w.heap.size, 0, none⟩) (partsOf c s).length _) ∧ w' = w.alloc (.cells (Lib.cellsOf (partsOf c s) _) 9)) at hc
  rw [e2, ← hl] at hc
  have HC := Lib.hid hc
  clear hc e2 hl hle
  go_enter Tryz.func72, Tryz.ntmps72
  go_wp2_with fail
  refine HC.out.mono ?_
  rintro e w' ⟨rfl, hw⟩
  rw [hw]
  go_wp2
  go_ret
  exact ⟨rfl, rfl⟩
theorem texts_alloc (l : List ByteArray) (w : World) : TextsAt (w.alloc (.cells (l.map Value.string).toArray 9)) (some ⟨w.heap.size, 0, none⟩) l := fun k hk => by
  refine ⟨_, rfl, by simp, ?_⟩
  rw [Addr.add_mid, cell_of_row _ w.heap.size (0 + k) _ _ (0, 0) (MapKept.heap_alloc w _).1]
  simp [List.getElem?_eq_getElem hk]
def hasNil (l : List ByteArray) : Bool := l.any fun x => x.data.toList.isEmpty
/-- Is one of the texts empty? -/
theorem hasNil_any (l : List ByteArray) (g : Nat) (c : Nat) (w : World) (hX : TextsAt w (some ⟨g, 0, none⟩) l) (hl : l.length ≤ 1000000) :
    Calls Tryz.prog 168 #[.slice (some ⟨g, 0, none⟩) l.length c, .string ⟨#[]⟩] w fun e w' => e = .returned (.bool (hasNil l)) ∧ w' = w := by
  have h := Tryz.slices_Contains_string g 0 l.length c l ⟨#[]⟩ w (Nat.le_refl _) (by omega) (fun j hj => by
    obtain ⟨_, e, _, hc⟩ := hX.at_ hj
    cases e
    rw [Addr.add_mid] at hc
    exact hc)
  have e2 : Lib.containsS (l.take l.length) ⟨#[]⟩ = hasNil l := by
    rw [List.take_length, Bool.eq_iff_iff, Lib.containsS_iff]
    unfold hasNil
    rw [List.any_eq_true]
    constructor
    · intro hm; exact ⟨_, hm, rfl⟩
    · rintro ⟨x, hx, he⟩
      have : x = ⟨#[]⟩ := by
        obtain ⟨⟨xs⟩⟩ := x
        cases xs with
        | nil => rfl
        | cons c r => simp at he
      rw [← this]; exact hx
  rw [← e2]
  exact h

/-- A slice of numbers of the call's own, from block base on. -/
def IRow (w : World) (base : Nat) (v : Value) (l : List Int) : Prop := w.ownsRow base 3 1 v l.length (vals l)
section
variable {w w' : World} {base B : Nat} {v : Value} {l : List Int}
theorem IRow.nil (w : World) (base : Nat) : IRow w base (.slice none 0 0) [] := World.ownsRow_nil _ _ _ _
theorem IRow.shape (h : IRow w base v l) : ∃ (a : Option Addr) (c : Nat), v = .slice a l.length c ∧ IntsAt w a l ∧ l.length ≤ c ∧ (a = none → c = 0) := by
  have h' := h
  rcases h.2 with ⟨e1, e2⟩ | ⟨g, cap, cur, e1, _, _, hc, _⟩
  · exact ⟨none, 0, by rw [e1, e2], fun k hk => by omega, by omega, fun _ => rfl⟩
  · subst e1
    exact ⟨_, cap, rfl, ints_of_row h', by omega, fun e => by cases e⟩
theorem IRow.shape2 (h : IRow w base v l) : ∃ (a : Option Addr) (c : Nat), v = .slice a l.length c ∧ IntsAt w a l ∧ l.length ≤ c ∧ (a = none → c = 0) ∧ ∀ ad, a = some ad → base ≤ ad.block := by
  have h' := h
  rcases h.2 with ⟨e1, e2⟩ | ⟨g, cap, cur, e1, hg, _, hc, _⟩
  · exact ⟨none, 0, by rw [e1, e2], fun k hk => by omega, by omega, fun _ => rfl, fun _ e => (by cases e)⟩
  · subst e1
    exact ⟨_, cap, rfl, ints_of_row h', by omega, fun e => (by cases e), fun ad e => (by cases e; exact hg)⟩
theorem IRow.below (h : IRow w base v l) (hb : Below w.heap.size w w') : IRow w' base v l := own_below h hb
theorem IRow.alloc (h : IRow w base v l) (o : Obj) : IRow (w.alloc o) base v l := h.below ((Below.refl _ _).alloc (Nat.le_refl _) o)
theorem IRow.drew (h : IRow w base v l) : IRow w.drew base v l := h
theorem IRow.drewN (h : IRow w base v l) (n : Nat) : IRow (w.drewN n) base v l := h
theorem IRow.mono (h : IRow w base v l) (hB : B ≤ base) : IRow w B v l := own_mono h hB
theorem IRow.set (h : IRow w base v l) {p : Addr} (hp : p.block < base) (u : Value) : IRow (w.setCell p u) base v l := by
  rcases h.2 with ⟨e1, e2⟩ | ⟨g, cap, cur, e1, e2, e3, e4⟩
  · exact ⟨h.1, Or.inl ⟨e1, e2⟩⟩
  · exact ⟨h.1, Or.inr ⟨g, cap, cur, e1, e2, (Below.heap_setCell _ _ _ _ (show g ≠ p.block by omega)).trans e3, e4⟩⟩
end
/-- 'l = append(l, n)' at a slice of the call's own. -/
theorem wpList_app1 {ops : Array Oper} {rest : List Oper} {o : Oper} {a : Act} {Q : Exit → Act → World → Prop} (w0 : World) (n : Int) (hgd : o.guard = none) (s x : Operand)
    (ho : o.op = .call { callee := .builtin .append, args := #[s, x], argTypes := #[63, 63] }) (base : Nat) (v : Value) (l : List Int) (hs : a.eval s = v) (hown : IRow w0 base v l)
    (hx : a.eval x = .slice (some ⟨w0.heap.size, 0, none⟩) 1 1) (hl : l.length ≤ 1000000) (hbase : base ≤ w0.heap.size)
    (h : ∀ g c w', IRow w' base (.slice (some ⟨g, 0, none⟩) (l.length + 1) c) (l ++ [n]) → w0.grownBy w' v.ownBlock → Below base w0 w' → wpList Tryz.prog ops Q rest (a.put o.dst (.slice (some ⟨g, 0, none⟩) (l.length + 1) c)) w') :
    wpList Tryz.prog ops Q (o :: rest) a (w0.alloc (.cells #[.int .i64 n] 3)) := by
  obtain ⟨i0, hi0, hz0, hz1, hz2⟩ := info_parts info3
  have hsz : (w0.alloc (.cells #[.int .i64 n] 3)).heap.size = w0.heap.size + 1 := by simp
  refine wpList_append_own _ hgd s x 63 ho base 3 i0 (.int .i64 0) 1 8 Tryz.underlying63 hi0 hz0 hz1 hz2 rfl (by decide) v l.length (vals l) hs (hown.alloc _) ⟨w0.heap.size, 0, none⟩ 1 1 [.int .i64 n] hx rfl
    (by simpa using World.news_of_block (cs := #[.int .i64 n]) (t := 3) (fr := (0, 0)) (heap_alloc_new w0 _)) (by intro u hu; rw [List.mem_singleton.1 hu]; try rfl) (by unfold maxLen; omega) (by omega) (by omega) ?_
  intro v' w' hown' hgrow' _
  rw [← vals_push] at hown'
  obtain ⟨g, cap, rfl⟩ := own_pos hown'
  have hlt : ∀ k, v.ownBlock = some k → base ≤ k ∧ k < w0.heap.size := fun k hk => hown.lt k hk
  refine h g cap w' (by unfold IRow; rw [List.length_append]; exact hown') ?_ ?_
  · exact (World.grownBy_alloc w0 _ _).trans hgrow'
  · exact ((Below.refl base w0).alloc hbase _).grown hgrow' (by omega) (fun k hk => (hlt k hk).1)
end Go.Proofs.YtomblajlpanmjaaGreatDoor

/-
  A style's split of a text: the word and the places of its marks.
-/
namespace Go.Proofs.YtomblajlpanmjaaGreatDoor
open Go.RowKit Go.Maps

def excR (s : ByteArray) (_ : List Int) : Bool := isWordB s && areSmallB s
def barR (s : ByteArray) (ps : List Int) : Bool := isWordB s && decide (0 < ps.length)
theorem excRight_any (s : ByteArray) (v : Value) (ps : List Int) (w : World) (hs : s.size ≤ maxLen) :
    Calls Tryz.prog 135 #[.string s, v] w fun e w' => e = .returned (.bool (excR s ps)) ∧ w' = w := by
  cases hw : isWordB s
  · have HE := Lib.hid (show excR s ps = false by unfold excR; rw [hw]; try rfl)
    go_enter Tryz.func135, Tryz.ntmps135
    go_wp2_with (go_at_call 136; refine (isWord_any s _ hs).mono ?_; rintro e w' ⟨rfl, rfl⟩; rw [hw])
    go_ret
    exact ⟨ret_bool HE.out.symm, rfl⟩
  · have HE := Lib.hid (show excR s ps = areSmallB s by unfold excR; rw [hw]; try rfl)
    go_enter Tryz.func135, Tryz.ntmps135
    go_wp2_with (first | (go_at_call 136; refine (isWord_any s _ hs).mono ?_; rintro e w' ⟨rfl, rfl⟩; rw [hw]) | (go_at_call 137; refine (areSmall_any s _ hs).mono ?_; rintro e w' ⟨rfl, rfl⟩))
    go_ret
    exact ⟨ret_bool HE.out.symm, rfl⟩
theorem barRight_any (s : ByteArray) (a : Option Addr) (c : Nat) (ps : List Int) (w : World) (hs : s.size ≤ maxLen) :
    Calls Tryz.prog 139 #[.string s, .slice a ps.length c] w fun e w' => e = .returned (.bool (barR s ps)) ∧ w' = w := by
  cases hw : isWordB s
  · have HE := Lib.hid (show barR s ps = false by unfold barR; rw [hw]; try rfl)
    go_enter Tryz.func139, Tryz.ntmps139
    go_wp2_with (go_at_call 136; refine (isWord_any s _ hs).mono ?_; rintro e w' ⟨rfl, rfl⟩; rw [hw])
    go_ret
    exact ⟨ret_bool HE.out.symm, rfl⟩
  · have HE := Lib.hid (show barR s ps = decide (0 < ps.length) by unfold barR; rw [hw]; try rfl)
    generalize ps.length = n at HE ⊢
    by_cases hn : 0 < n
    · have hn' : (0 : Int) < (n : Int) := by omega
      have HE2 := Lib.hid (HE.out.trans (decide_eq_true hn))
      go_enter Tryz.func139, Tryz.ntmps139
      go_wp2_with (go_at_call 136; refine (isWord_any s _ hs).mono ?_; rintro e w' ⟨rfl, rfl⟩; rw [hw])
      go_ret
      exact ⟨ret_bool HE2.out.symm, rfl⟩
    · have HE2 := Lib.hid (HE.out.trans (decide_eq_false hn))
      obtain rfl : n = 0 := by omega
      go_enter Tryz.func139, Tryz.ntmps139
      go_wp2_with (go_at_call 136; refine (isWord_any s _ hs).mono ?_; rintro e w' ⟨rfl, rfl⟩; rw [hw])
      go_ret
      exact ⟨ret_bool HE2.out.symm, rfl⟩
/-- The bytes that mark, the function that tells what is right, and what it tells. -/
structure Sty where
  m : UInt8
  fn : Nat
  R : ByteArray → List Int → Bool
def excS : Sty := ⟨45, 135, excR⟩
def barS : Sty := ⟨124, 139, barR⟩
def Sty.val (y : Sty) : Value := .agg #[.string ⟨#[y.m]⟩, .func (.func y.fn) #[] #[]]
def Sty.Ok (y : Sty) : Prop := ∀ (s : ByteArray) (a : Option Addr) (c : Nat) (ps : List Int) (w : World), s.size ≤ maxLen → Calls Tryz.prog y.fn #[.string s, .slice a ps.length c] w fun e w' => e = .returned (.bool (y.R s ps)) ∧ w' = w
theorem excS_ok : excS.Ok := fun s _ _ ps w hs => excRight_any s _ ps w hs
theorem barS_ok : barS.Ok := fun s a c ps w hs => barRight_any s a c ps w hs
def SplitPost (w : World) (y : Sty) (o : Option (List UInt8 × List Int)) (e : Ending) (w' : World) : Prop :=
  Below w.heap.size w w' ∧ match o with
  | none => e = .returned (.tuple #[.string ⟨#[]⟩, .slice none 0 0, .bool false])
  | some x => ∃ s v, e = .returned (.tuple #[.string s, v, .bool (y.R s x.2)]) ∧ s.data.toList = x.1 ∧ IRow w' w.heap.size v x.2

set_option maxRecDepth 100000 in
set_option maxHeartbeats 400000 in
theorem split_any (y : Sty) (hy : y.Ok) (hf : y.fn = 135 ∨ y.fn = 139) (t : ByteArray) (w : World) :
    Calls Tryz.prog 138 #[y.val, .string t] w (SplitPost w y (cutAt y.m t.data.toList)) := by
  obtain ⟨m, fn, R⟩ := y
  unfold Sty.val Sty.Ok at *
  dsimp only at *
  have htl := len_b t
  by_cases h1 : 59 < t.size
  · have HE := Lib.hid (show cutAt m t.data.toList = none by unfold cutAt; rw [if_pos (by omega)])
    have hB := (Below.refl w.heap.size w).alloc (Nat.le_refl _) (.cells #[.string ⟨#[m]⟩, .func (.func fn) #[] #[]] 185)
    go_enter Tryz.func138, Tryz.ntmps138
    go_wp2
    all_goals first | (exfalso; omega) | skip
    go_ret3
    exact ⟨hB, by rw [HE.out]; exact rfl⟩
  have hP := partsOf_data m t
  have hcall : ∀ args w, (callFunc fn args).run Tryz.prog w = .ok (.enter fn args) w := by
    rcases hf with rfl | rfl
    · exact enters_of Tryz.func135 (by kernel_rfl) rfl
    · exact enters_of Tryz.func139 (by kernel_rfl) rfl
  have hsl := splitOn_len m t.data.toList
  have hpl : (partsOf m t).length = (splitOn m t.data.toList).length := by rw [← hP, List.length_map]
  have hp1 : 1 ≤ (partsOf m t).length := by rw [partsOf_len]; omega
  have hp60 : (partsOf m t).length ≤ 60 := by omega
  have hsz : ∀ j, j < (partsOf m t).length → ((partsOf m t).getD j noTx).size ≤ 59 := by
    intro j hj
    have h2 : ((partsOf m t).getD j noTx).data.toList ∈ splitOn m t.data.toList := by
      rw [← hP, getT hj]; exact List.mem_map_of_mem (List.getElem_mem hj)
    have h3 := List.Sublist.length_le (List.sublist_flatten_of_mem h2)
    rw [len_b] at h3; omega
  have hnil : hasNil (partsOf m t) = (splitOn m t.data.toList).any List.isEmpty := by
    rw [← hP, List.any_map]; try rfl
  have hjoin : joinL [] (partsOf m t) = (splitOn m t.data.toList).flatten := by rw [joinL_nil, hP]
  have hT := texts_alloc (partsOf m t) (w.alloc (.cells #[.string ⟨#[m]⟩, .func (.func fn) #[] #[]] 185))
  have HSP := Lib.hid (split_one m t (w.alloc (.cells #[.string ⟨#[m]⟩, .func (.func fn) #[] #[]] 185)) (by omega))
  obtain ⟨L, hL⟩ : ∃ L, L = partsOf m t := ⟨_, rfl⟩
  rw [← hL] at hP hpl hp1 hp60 hsz hnil hjoin hT HSP
  clear hL
  have hw1 : (w.alloc (.cells #[.string ⟨#[m]⟩, .func (.func fn) #[] #[]] 185)).heap.size = w.heap.size + 1 := by simp
  rw [hw1] at hT HSP
  have HW1 := Lib.hid hw1
  have HP := Lib.hid hP; have HPL := Lib.hid hpl; have HS := Lib.hid hsz; have HJ := Lib.hid hjoin
  clear hP hpl hsz hjoin hsl hw1
  have hB1 := ((Below.refl w.heap.size w).alloc (Nat.le_refl _) (.cells #[.string ⟨#[m]⟩, .func (.func fn) #[] #[]] 185)).alloc (by simp) (.cells (L.map Value.string).toArray 9)
  cases hn : hasNil L
  · obtain ⟨P, hPe⟩ : ∃ P, P = splitOn m t.data.toList := ⟨_, rfl⟩
    have hE : cutAt m t.data.toList = some (P.flatten, placesOf 0 P) := by unfold cutAt; rw [if_neg (by omega), if_neg (by rw [← hnil, hn]; simp), ← hPe]
    have HE := Lib.hid hE
    have hPlen := HPL.out
    have hPdat := HP.out
    have hJn := HJ.out
    have hfl := splitOn_len m t.data.toList
    rw [← hPe] at hPlen hPdat hJn hfl
    have hple := Nat.le_of_eq hPlen
    have hpge := Nat.le_of_eq hPlen.symm
    have HPD := Lib.hid hPdat
    have HJN := Lib.hid hJn
    have hPf : P.flatten.length ≤ 59 := by omega
    clear hnil hE HP HJ HPL hPe hPdat hJn hfl hPlen
    have c0 : ((w.alloc (.cells #[.string ⟨#[m]⟩, .func (.func fn) #[] #[]] 185)).alloc (.cells (L.map Value.string).toArray 9)).cell? ⟨w.heap.size, 1, none⟩ = some (.func (.func fn) #[] #[]) := by
      rw [World.cell?_alloc_old _ _ _ (by simp)]
      rw [cell_of_row _ w.heap.size 1 _ _ (0, 0) (heap_alloc_new w _)]
      rfl
    go_enter Tryz.func138, Tryz.ntmps138
    go_wp2_with fail
    refine HSP.out.mono ?_
    rintro e w1 ⟨rfl, rfl⟩
    go_wp2_with fail
    refine (hasNil_any L _ _ _ hT (by omega)).mono ?_
    rintro e w1 ⟨rfl, rfl⟩
    rw [hn]
    go_wp2_with fail
    refine (join_any _ L _ ⟨#[]⟩ _ hT (by omega) (fun j hj => Nat.le_trans (HS.out j hj) (by omega)) (by decide) (Nat.le_refl _)).mono ?_
    rintro e w2 ⟨rfl, hb2⟩
    rw [show (⟨#[]⟩ : ByteArray).data.toList = [] from rfl, HJN.out]
    generalize hW1 : (w.alloc (.cells #[.string ⟨#[m]⟩, .func (.func fn) #[] #[]] 185)).alloc (.cells (L.map Value.string).toArray 9) = W1 at hb2 hT hB1 c0
    have hz1 : W1.heap.size = w.heap.size + 2 := by rw [← hW1]; simp
    have hb2' : Below (w.heap.size + 2) W1 w2 := hb2.mono (by omega)
    have hz2 := hb2.size
    clear hW1 hb2 HW1 HSP
    have hLn : (L.length : Int) - 1 ≤ (L.length : Int) := by omega
    go_wp2_with fail
    go_loopw [9, 10, 30] (fun v9 v10 v30 wr => ∃ k : Nat, k ≤ L.length - 1 ∧ v30 = .int .i64 k ∧ v10 = .int .i64 (sumL P k) ∧ IRow wr (w.heap.size + 2) v9 ((placesOf 0 P).take k) ∧ Below (w.heap.size + 2) W1 wr) (fun _ _ v30 _ => L.length - (intOf v30).toNat)
    case atStart => exact ⟨0, Nat.zero_le _, rfl, rfl, IRow.nil _ _, hb2'⟩
    case round =>
      obtain ⟨k, hk, rfl, rfl, hrow, hB⟩ := hrel
      by_cases hlt : k < L.length - 1
      · have hTr := hT.below (hB.mono (by omega))
        obtain ⟨_, e1, hp1', hc1⟩ := hTr.at_ (k := k) (by omega)
        cases e1
        rw [Addr.add_mid, Nat.zero_add] at hc1
        have hsum := sumL_le P k
        have hsk := HS.out k (by omega)
        have HSU := Lib.hid (show sumL P (k + 1) = sumL P k + ((L.getD k noTx).size : Nat) by
          rw [sumL_succ (by omega), ← len_b, ← HPD.out]; simp [List.getD_eq_getElem?_getD, List.getElem?_eq_getElem (show k < L.length by omega)])
        have HPT := Lib.hid (places_take (ps := P) (k := k) (by omega))
        have hlen9 : ((placesOf 0 P).take k).length ≤ 1000000 := by simp; omega
        have hBs := hB.size
        have hkl : (k : Int) < (L.length : Int) - 1 := by omega
        generalize L.getD k noTx = x at hc1 hsk HSU
        generalize sumL P k = sk at hsum HSU
        generalize (placesOf 0 P).take k = pk at hrow HPT hlen9
        clear hTr
        go_wp2_with (at_builtin; refine wpList_app1 wr _ rfl _ _ rfl (w.heap.size + 2) _ pk rfl hrow rfl hlen9 (by omega) ?_; intro g9 c9 w9 hrow9 hgrow9 hb9)
        go_roundw
        case rel => exact ⟨k + 1, by omega, by go_num, by rw [HSU.out], by rw [HPT.out, HSU.out]; exact hrow9, hB.trans hb9⟩
        case measure => simp [intOf]; omega
      · obtain rfl : k = L.length - 1 := by omega
        rw [List.take_of_length_le (by rw [placesOf_len]; omega)] at hrow
        have c1 := (hB.cell (p := ⟨w.heap.size, 1, none⟩) (by simp)).trans c0
        obtain ⟨a9, d9, rfl, hI9, hd9, ha9⟩ := hrow.shape
        have hnl : ¬ ((L.length - 1 : Nat) : Int) < (L.length : Int) - 1 := by omega
        have hks : (⟨P.flatten.toArray⟩ : ByteArray).size ≤ maxLen := by
          have : (⟨P.flatten.toArray⟩ : ByteArray).size = P.flatten.length := by rw [← len_b]
          unfold maxLen; omega
        have HKS := Lib.hid hks
        clear hks
        go_wp2_with (go_at_fn fn; refine (hy _ a9 d9 (placesOf 0 P) _ HKS.out).mono ?_; rintro e w' ⟨rfl, rfl⟩)
        go_ret3
        refine ⟨hB1.trans (hB.mono (by omega)), ?_⟩
        rw [HE.out]
        exact ⟨_, _, rfl, by simp, hrow.mono (by omega)⟩
  · have HE := Lib.hid (show cutAt m t.data.toList = none by unfold cutAt; rw [if_neg (by omega), if_pos (by rw [← hnil, hn])])
    clear hnil hcall
    go_enter Tryz.func138, Tryz.ntmps138
    go_wp2_with fail
    refine HSP.out.mono ?_
    rintro e w1 ⟨rfl, rfl⟩
    go_wp2_with fail
    refine (hasNil_any L _ _ _ hT (by omega)).mono ?_
    rintro e w1 ⟨rfl, rfl⟩
    rw [hn]
    go_wp2
    go_ret3
    exact ⟨hB1, by rw [HE.out]; exact rfl⟩
end Go.Proofs.YtomblajlpanmjaaGreatDoor
