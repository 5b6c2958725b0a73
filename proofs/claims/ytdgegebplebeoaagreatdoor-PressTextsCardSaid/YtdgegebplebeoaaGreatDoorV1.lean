/-
  Maps from texts to values: what a map reads as, entry by entry.
-/
import Derived.WalkKit
import Derived.Maps.OwnSet
import Derived.Maps.OwnOps
import Derived.Maps.Views
import Derived.StringKeys
import Derived.Deep.Quiet
namespace Go.Proofs.YtdgegebplebeoaaGreatDoor
open Go.RowKit Go.Maps Go.WideMaps

/-- How an element reads here: as itself. -/
def heldR (v : Value) : Option (DataW Value × List MemPlace) := some (.held v, [])
def putE (D : DataW Value) (p : List UInt8 × Value) : DataW Value := D.put (.string p.1) (.held p.2)
def mapD (L : List (List UInt8 × Value)) : DataW Value := L.foldl putE (.map [])
def getE (key : List UInt8) (v : Value) (p : List UInt8 × Value) : Value := if p.1 = key then p.2 else v
def mapGet (L : List (List UInt8 × Value)) (key : List UInt8) (z : Value) : Value := L.foldl (getE key) z
def mapHas (L : List (List UInt8 × Value)) (key : List UInt8) : Bool := L.any fun p => decide (p.1 = key)
theorem mapD_snoc (L : List (List UInt8 × Value)) (p : List UInt8 × Value) : mapD (L ++ [p]) = (mapD L).put (.string p.1) (.held p.2) := by
  unfold mapD; rw [List.foldl_append]; rfl
theorem fold_isMap : ∀ (L : List (List UInt8 × Value)) (D : DataW Value), IsMap D → IsMap (L.foldl putE D)
  | [], _, h => h
  | _ :: L, _, h => fold_isMap L _ (h.put _ _)
theorem mapD_is (L : List (List UInt8 × Value)) : IsMap (mapD L) := fold_isMap L _ isMap_empty
theorem fold_atKey (key : List UInt8) (z0 : Value) : ∀ (L : List (List UInt8 × Value)) (D : DataW Value) (z : Value), IsMap D → D.atKey (.string key) (.held z0) = .held z → (L.foldl putE D).atKey (.string key) (.held z0) = .held (L.foldl (getE key) z)
  | [], _, _, _, h => h
  | p :: L, D, z, hD, h => by
    refine fold_atKey key z0 L (putE D p) (getE key z p) (hD.put _ _) ?_
    unfold putE getE
    by_cases e : p.1 = key
    · rw [if_pos e, e]; exact atKey_put_same hD (by simp [WideAt.IsKeyLit]) _ _
    · rw [if_neg e, atKey_put_other (fun h' => e (by injection h' with h'; exact h'.symm))]; exact h
theorem mapD_atKey (L : List (List UInt8 × Value)) (key : List UInt8) (z : Value) : (mapD L).atKey (.string key) (.held z) = .held (mapGet L key z) := fold_atKey key z L _ z isMap_empty rfl
theorem fold_has (key : List UInt8) : ∀ (L : List (List UInt8 × Value)) (D : DataW Value), IsMap D → Go.Maps.has (L.foldl putE D) (.string key) = (Go.Maps.has D (.string key) || mapHas L key)
  | [], _, _ => by simp [mapHas]
  | p :: L, D, hD => by
    refine (fold_has key L (putE D p) (hD.put _ _)).trans ?_
    unfold putE mapHas
    by_cases e : p.1 = key
    · rw [e, has_put_same hD (by simp [WideAt.IsKeyLit])]; simp [e]
    · rw [has_put_other (fun h' => e (by injection h' with h'; exact h'.symm))]; simp [e]
theorem mapD_has (L : List (List UInt8 × Value)) (key : List UInt8) : Go.Maps.has (mapD L) (.string key) = mapHas L key := by
  unfold mapD; rw [fold_has key L _ isMap_empty]; rfl
theorem mapHas_get {L : List (List UInt8 × Value)} {key : List UInt8} {z : Value} (h : mapHas L key = false) : mapGet L key z = z := by
  induction L with
  | nil => rfl
  | cons p L ih =>
    unfold mapHas at h ih
    simp only [List.any_cons, Bool.or_eq_false_iff, decide_eq_false_iff_not] at h
    unfold mapGet at ih ⊢
    rw [List.foldl_cons]
    rw [show getE key z p = z by unfold getE; rw [if_neg h.1]]
    exact ih h.2
/-- Block b is a map that reads as the entries L. -/
def MapAt (P : Program) (k : TypeId) (w : World) (b : Nat) (L : List (List UInt8 × Value)) : Prop := w.ownsMap P k heldR b L.length (mapD L)
section
variable {P : Program} {k : TypeId} {w w' : World} {b : Nat} {L : List (List UInt8 × Value)}
theorem MapAt.made (w : World) (P : Program) (k : TypeId) : MapAt P k (w.alloc (.map #[] 0)) w.heap.size [] := World.ownsMap_made w P k heldR
theorem MapAt.lt (h : MapAt P k w b L) : b < w.heap.size := World.ownsMap.lt h
theorem MapAt.below (h : MapAt P k w b L) (hb : Below w.heap.size w w') : MapAt P k w' b L := by
  have hlt := h.lt
  obtain ⟨es, clock, e, F, hs, hD⟩ := h
  exact ⟨es, clock, (hb.block b hlt).trans e, F, hs, hD⟩
theorem MapAt.alloc (h : MapAt P k w b L) (o : Obj) : MapAt P k (w.alloc o) b L := h.below ((Below.refl _ _).alloc (Nat.le_refl _) o)
theorem MapAt.drew (h : MapAt P k w b L) : MapAt P k w.drew b L := h
theorem MapAt.drewN (h : MapAt P k w b L) (n : Nat) : MapAt P k (w.drewN n) b L := h
theorem MapAt.setCell (h : MapAt P k w b L) {p : Addr} (hp : b ≠ p.block) (u : Value) : MapAt P k (w.setCell p u) b L := by
  obtain ⟨es, clock, e, F, hs, hD⟩ := h
  exact ⟨es, clock, (Below.heap_setCell _ _ _ _ hp).trans e, F, hs, hD⟩
theorem MapAt.kept {row : Option Nat} (h : MapAt P k w b L) (hg : w.grownBy w' row) (hne : some b ≠ row) : MapAt P k w' b L := World.ownsMap.kept h hg hne
end
section
variable {P : Program} (w : World) {ops : Array Oper} {rest : List Oper} {o : Oper} {a : Act} {Q : Exit → Act → World → Prop}
/-- 'v, ok := m[k]' at a map of slices. -/
theorem wpList_mapOk (hg : o.guard = none) (m x : Operand) (t : TypeId) (hop : o.op = Op.lookup t m x true)
    (k e : TypeId) (hk : P.underlying k = some .string) (ht : P.underlying t = some (.map k e)) (z : Value) (hz : ∀ w : World, (zeroValue e).run P w = .ok z w) (b : Nat) (L : List (List UInt8 × Value))
    (hm : a.eval m = .map (some b)) (hown : MapAt P k w b L) (s : ByteArray) (hx : a.eval x = .string s) (hs : s.size ≤ maxLen)
    (hK : wpList P ops Q rest (a.put o.dst (.tuple #[mapGet L s.data.toList z, .bool (mapHas L s.data.toList)])) w) :
    wpList P ops Q (o :: rest) a w :=
  wpList_lookup_own_ok w hg m x t hop k e (string_keyed hk) ht heldR (hz w) (.held z) [] rfl b L.length (mapD L) hm hown (.string s) (.string s.data.toList) hx (keyOf_string_mk hk hs) (fun v ps hv => by
    unfold heldR at hv
    rw [mapD_atKey] at hv
    injection hv with hv
    injection hv with hv _
    injection hv with hv
    rw [hv, mapD_has]
    exact hK)
/-- 'm[k]' at a map of slices. -/
theorem wpList_mapAt (hg : o.guard = none) (m x : Operand) (t : TypeId) (hop : o.op = Op.lookup t m x false)
    (k e : TypeId) (hk : P.underlying k = some .string) (ht : P.underlying t = some (.map k e)) (z : Value) (hz : ∀ w : World, (zeroValue e).run P w = .ok z w) (b : Nat) (L : List (List UInt8 × Value))
    (hm : a.eval m = .map (some b)) (hown : MapAt P k w b L) (s : ByteArray) (hx : a.eval x = .string s) (hs : s.size ≤ maxLen)
    (hK : wpList P ops Q rest (a.put o.dst (mapGet L s.data.toList z)) w) :
    wpList P ops Q (o :: rest) a w := by
  refine wpList_plain hg fun K' hK' => ?_
  obtain ⟨v, ps, hrun, hv⟩ := World.ownsMap.lookup hown (string_keyed hk) ht (hz w) (zd := .held z) (zp := []) rfl (keyOf_string_mk hk hs)
  unfold heldR at hv
  rw [mapD_atKey] at hv
  injection hv with hv
  injection hv with hv _
  injection hv with hv
  subst hv
  unfold Oper.wp
  simp [execOp, hop, hm, hx, hrun, Result.andThen]
  exact hK' _ _ hK
/-- 'm[k] = v'. -/
theorem wpList_mapPut (hg : o.guard = none) (m x v : Operand) (t : TypeId) (hop : o.op = Op.mapUpdate t m x v)
    (k e : TypeId) (hk : P.underlying k = some .string) (ht : P.underlying t = some (.map k e)) (b : Nat) (L : List (List UInt8 × Value))
    (hm : a.eval m = .map (some b)) (hown : MapAt P k w b L) (hn : L.length < maxLen) (s : ByteArray) (val : Value) (hx : a.eval x = .string s) (hv : a.eval v = val) (hs : s.size ≤ maxLen)
    (hK : ∀ w', MapAt P k w' b (L ++ [(s.data.toList, val)]) → w.grownBy w' (some b) → wpList P ops Q rest (a.put o.dst undef) w') :
    wpList P ops Q (o :: rest) a w :=
  wpList_mapUpdate_own w hg m x v t hop k e (string_keyed hk) ht heldR b L.length (mapD L) hm hown hn (.string s) val (.string s.data.toList) hx hv (keyOf_string_mk hk hs) (.held val) [] rfl (fun w' h1 h2 => hK w' (by unfold MapAt; rw [mapD_snoc, List.length_append]; exact h1) h2)
end
end Go.Proofs.YtdgegebplebeoaaGreatDoor
