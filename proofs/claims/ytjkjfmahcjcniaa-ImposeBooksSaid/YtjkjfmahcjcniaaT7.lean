/-
  Maps from numbers to values: what a map reads as, entry by entry.
-/
import Derived.Test.YtjkjfmahcjcniaaT6
import Derived.WalkKit
import Derived.Maps.OwnSet
import Derived.Maps.OwnOps
import Derived.Maps.Views
import Derived.StringKeys
import Derived.Deep.Quiet
namespace Go.Proofs.Ytjkjfmahcjcniaa
open Go.RowKit Go.Maps Go.WideMaps

/-- How an element reads here: as itself. -/
def iheldR (v : Value) : Option (DataW Value × List MemPlace) := some (.held v, [])
def iputE (D : DataW Value) (p : Int × Value) : DataW Value := D.put (.int .i64 p.1) (.held p.2)
def imapD (L : List (Int × Value)) : DataW Value := L.foldl iputE (.map [])
def igetE (key : Int) (v : Value) (p : Int × Value) : Value := if p.1 = key then p.2 else v
def imapGet (L : List (Int × Value)) (key : Int) (z : Value) : Value := L.foldl (igetE key) z
def imapHas (L : List (Int × Value)) (key : Int) : Bool := L.any fun p => decide (p.1 = key)
theorem imapD_snoc (L : List (Int × Value)) (p : Int × Value) : imapD (L ++ [p]) = (imapD L).put (.int .i64 p.1) (.held p.2) := by
  unfold imapD; rw [List.foldl_append]; rfl
theorem ifold_isMap : ∀ (L : List (Int × Value)) (D : DataW Value), IsMap D → IsMap (L.foldl iputE D)
  | [], _, h => h
  | _ :: L, _, h => ifold_isMap L _ (h.put _ _)
theorem imapD_is (L : List (Int × Value)) : IsMap (imapD L) := ifold_isMap L _ isMap_empty
theorem ifold_atKey (key : Int) (z0 : Value) : ∀ (L : List (Int × Value)) (D : DataW Value) (z : Value), IsMap D → D.atKey (.int .i64 key) (.held z0) = .held z → (L.foldl iputE D).atKey (.int .i64 key) (.held z0) = .held (L.foldl (igetE key) z)
  | [], _, _, _, h => h
  | p :: L, D, z, hD, h => by
    refine ifold_atKey key z0 L (iputE D p) (igetE key z p) (hD.put _ _) ?_
    unfold iputE igetE
    by_cases e : p.1 = key
    · rw [if_pos e, e]; exact atKey_put_same hD (by simp [WideAt.IsKeyLit]) _ _
    · rw [if_neg e, atKey_put_other (fun h' => e (by injection h' with _ h'; exact h'.symm))]; exact h
theorem imapD_atKey (L : List (Int × Value)) (key : Int) (z : Value) : (imapD L).atKey (.int .i64 key) (.held z) = .held (imapGet L key z) := ifold_atKey key z L _ z isMap_empty rfl
theorem ifold_has (key : Int) : ∀ (L : List (Int × Value)) (D : DataW Value), IsMap D → Go.Maps.has (L.foldl iputE D) (.int .i64 key) = (Go.Maps.has D (.int .i64 key) || imapHas L key)
  | [], _, _ => by simp [imapHas]
  | p :: L, D, hD => by
    refine (ifold_has key L (iputE D p) (hD.put _ _)).trans ?_
    unfold iputE imapHas
    by_cases e : p.1 = key
    · rw [e, has_put_same hD (by simp [WideAt.IsKeyLit])]; simp [e]
    · rw [has_put_other (fun h' => e (by injection h' with _ h'; exact h'.symm))]; simp [e]
theorem imapD_has (L : List (Int × Value)) (key : Int) : Go.Maps.has (imapD L) (.int .i64 key) = imapHas L key := by
  unfold imapD; rw [ifold_has key L _ isMap_empty]; rfl
theorem imapHas_get {L : List (Int × Value)} {key : Int} {z : Value} (h : imapHas L key = false) : imapGet L key z = z := by
  induction L with
  | nil => rfl
  | cons p L ih =>
    unfold imapHas at h ih
    simp only [List.any_cons, Bool.or_eq_false_iff, decide_eq_false_iff_not] at h
    unfold imapGet at ih ⊢
    rw [List.foldl_cons]
    rw [show igetE key z p = z by unfold igetE; rw [if_neg h.1]]
    exact ih h.2
/-- Block b is a map that reads as the entries L. -/
def IMapAt (P : Program) (k : TypeId) (w : World) (b : Nat) (L : List (Int × Value)) : Prop := w.ownsMap P k iheldR b L.length (imapD L)
section
variable {P : Program} {k : TypeId} {w w' : World} {b : Nat} {L : List (Int × Value)}
theorem IMapAt.made (w : World) (P : Program) (k : TypeId) : IMapAt P k (w.alloc (.map #[] 0)) w.heap.size [] := World.ownsMap_made w P k iheldR
theorem IMapAt.lt (h : IMapAt P k w b L) : b < w.heap.size := World.ownsMap.lt h
theorem IMapAt.below (h : IMapAt P k w b L) (hb : Below w.heap.size w w') : IMapAt P k w' b L := by
  have hlt := h.lt
  obtain ⟨es, clock, e, F, hs, hD⟩ := h
  exact ⟨es, clock, (hb.block b hlt).trans e, F, hs, hD⟩
theorem IMapAt.alloc (h : IMapAt P k w b L) (o : Obj) : IMapAt P k (w.alloc o) b L := h.below ((Below.refl _ _).alloc (Nat.le_refl _) o)
theorem IMapAt.drew (h : IMapAt P k w b L) : IMapAt P k w.drew b L := h
theorem IMapAt.drewN (h : IMapAt P k w b L) (n : Nat) : IMapAt P k (w.drewN n) b L := h
theorem IMapAt.setCell (h : IMapAt P k w b L) {p : Addr} (hp : b ≠ p.block) (u : Value) : IMapAt P k (w.setCell p u) b L := by
  obtain ⟨es, clock, e, F, hs, hD⟩ := h
  exact ⟨es, clock, (Below.heap_setCell _ _ _ _ hp).trans e, F, hs, hD⟩
theorem IMapAt.kept {row : Option Nat} (h : IMapAt P k w b L) (hg : w.grownBy w' row) (hne : some b ≠ row) : IMapAt P k w' b L := World.ownsMap.kept h hg hne
end
section
variable {P : Program} (w : World) {ops : Array Oper} {rest : List Oper} {o : Oper} {a : Act} {Q : Exit → Act → World → Prop}
/-- 'v, ok := m[k]' at a map of slices. -/
theorem wpList_imapOk (hg : o.guard = none) (m x : Operand) (t : TypeId) (hop : o.op = Op.lookup t m x true)
    (k e : TypeId) (hk : P.underlying k = some (.int .i64)) (ht : P.underlying t = some (.map k e)) (z : Value) (hz : ∀ w : World, (zeroValue e).run P w = .ok z w) (b : Nat) (L : List (Int × Value))
    (hm : a.eval m = .map (some b)) (hown : IMapAt P k w b L) (s : Int) (hx : a.eval x = .int .i64 s) (hs : (Lit.int .i64 s).wf = true)
    (hK : wpList P ops Q rest (a.put o.dst (.tuple #[imapGet L s z, .bool (imapHas L s)])) w) :
    wpList P ops Q (o :: rest) a w :=
  wpList_lookup_own_ok w hg m x t hop k e (int_keyed hk) ht iheldR (hz w) (.held z) [] rfl b L.length (imapD L) hm hown (.int .i64 s) (.int .i64 s) hx (keyOf_int_mk hk hs) (fun v ps hv => by
    unfold iheldR at hv
    rw [imapD_atKey] at hv
    injection hv with hv
    injection hv with hv _
    injection hv with hv
    rw [hv, imapD_has]
    exact hK)
/-- 'm[k]' at a map of slices. -/
theorem wpList_imapAt (hg : o.guard = none) (m x : Operand) (t : TypeId) (hop : o.op = Op.lookup t m x false)
    (k e : TypeId) (hk : P.underlying k = some (.int .i64)) (ht : P.underlying t = some (.map k e)) (z : Value) (hz : ∀ w : World, (zeroValue e).run P w = .ok z w) (b : Nat) (L : List (Int × Value))
    (hm : a.eval m = .map (some b)) (hown : IMapAt P k w b L) (s : Int) (hx : a.eval x = .int .i64 s) (hs : (Lit.int .i64 s).wf = true)
    (hK : wpList P ops Q rest (a.put o.dst (imapGet L s z)) w) :
    wpList P ops Q (o :: rest) a w := by
  refine wpList_plain hg fun K' hK' => ?_
  obtain ⟨v, ps, hrun, hv⟩ := World.ownsMap.lookup hown (int_keyed hk) ht (hz w) (zd := .held z) (zp := []) rfl (keyOf_int_mk hk hs)
  unfold iheldR at hv
  rw [imapD_atKey] at hv
  injection hv with hv
  injection hv with hv _
  injection hv with hv
  subst hv
  unfold Oper.wp
  simp [execOp, hop, hm, hx, hrun, Result.andThen]
  exact hK' _ _ hK
/-- 'm[k] = v'. -/
theorem wpList_imapPut (hg : o.guard = none) (m x v : Operand) (t : TypeId) (hop : o.op = Op.mapUpdate t m x v)
    (k e : TypeId) (hk : P.underlying k = some (.int .i64)) (ht : P.underlying t = some (.map k e)) (b : Nat) (L : List (Int × Value))
    (hm : a.eval m = .map (some b)) (hown : IMapAt P k w b L) (hn : L.length < maxLen) (s : Int) (val : Value) (hx : a.eval x = .int .i64 s) (hv : a.eval v = val) (hs : (Lit.int .i64 s).wf = true)
    (hK : ∀ w', IMapAt P k w' b (L ++ [(s, val)]) → w.grownBy w' (some b) → wpList P ops Q rest (a.put o.dst undef) w') :
    wpList P ops Q (o :: rest) a w :=
  wpList_mapUpdate_own w hg m x v t hop k e (int_keyed hk) ht iheldR b L.length (imapD L) hm hown hn (.int .i64 s) val (.int .i64 s) hx hv (keyOf_int_mk hk hs) (.held val) [] rfl (fun w' h1 h2 => hK w' (by unfold IMapAt; rw [imapD_snoc, List.length_append]; exact h1) h2)
end
end Go.Proofs.Ytjkjfmahcjcniaa
