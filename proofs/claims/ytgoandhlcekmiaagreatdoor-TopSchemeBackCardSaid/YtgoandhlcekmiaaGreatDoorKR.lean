/-
  The mathematics of splitting at a byte (the first part of V2, without its sums).
-/
import Derived.Lib.SplitLaws
import Derived.Lib.Split
import Derived.Test.YtgoandhlcekmiaaGreatDoorIA
import Derived.Test.YtgoandhlcekmiaaGreatDoorProg
import Derived.Lib.ItoaNum
import Derived.Lib.Atoi
import Derived.Lib.AtoiTie
import Derived.IntWalk
namespace Go.Proofs.YtgoandhlcekmiaaGreatDoor
open Go.Lib

def splitOn (m : UInt8) : List UInt8 → List (List UInt8)
  | [] => [[]]
  | c :: r => if c = m then [] :: splitOn m r else match splitOn m r with
    | [] => [[c]]
    | h :: t => (c :: h) :: t
theorem splitOn_ne (m : UInt8) (l : List UInt8) : splitOn m l ≠ [] := by
  cases l with
  | nil => simp [splitOn]
  | cons c r =>
    unfold splitOn
    split
    · simp
    · split <;> simp
theorem splitK_one (m : UInt8) : ∀ (l : List UInt8) (k : Nat), count l [m] = k → splitK [m] 0 k l = splitOn m l
  | [], k, h => by
    have hc : count ([] : List UInt8) [m] = 0 := by rw [count_one]; try rfl
    rw [hc] at h; subst h; rfl
  | b :: l, k, h => by
    by_cases e : b = m
    · subst e
      rw [count_cons_eq] at h
      have ih := splitK_one b l (count l [b]) rfl
      obtain rfl : k = count l [b] + 1 := by omega
      have hix : index (b :: l) [b] = ((0 : Nat) : Int) := by rw [index]; simp [List.isPrefixOf]
      rw [splitK, if_neg (by rw [hix]; simp), hix]
      unfold splitOn
      rw [if_pos rfl, ← ih]
      simp
    · rw [count_cons_ne b m l e] at h
      have ih := splitK_one m l k h
      unfold splitOn
      rw [if_neg e, ← ih]
      cases k with
      | zero => rfl
      | succ k =>
        have hp : ([m] : List UInt8).isPrefixOf (b :: l) = false := by simp [List.isPrefixOf, Ne.symm e]
        have hix : index (b :: l) [m] = if index l [m] == -1 then -1 else index l [m] + 1 := by rw [index, hp]; simp
        by_cases hm : index l [m] = -1
        · rw [count_miss hm] at h; omega
        · have hge := index_ge l [m]
          obtain ⟨j, hj⟩ : ∃ j : Nat, index l [m] = j := ⟨(index l [m]).toNat, by omega⟩
          have hix' : index (b :: l) [m] = ((j + 1 : Nat) : Int) := by rw [hix, if_neg (fun e => hm (beq_iff_eq.1 e)), hj]; omega
          rw [splitK, splitK, if_neg (by rw [hix']; simp; omega), if_neg (by rw [hj]; simp), hix', hj]
          simp
theorem splitB_one (m : UInt8) (s : ByteArray) : (splitB ⟨#[m]⟩ 0 (countB s ⟨#[m]⟩) s).map (·.data.toList) = splitOn m s.data.toList := by
  rw [splitB_data]
  exact splitK_one m _ _ rfl

theorem splitOn_len (m : UInt8) : ∀ l : List UInt8, (splitOn m l).flatten.length + (splitOn m l).length = l.length + 1
  | [] => by simp [splitOn]
  | c :: r => by
    have ih := splitOn_len m r
    have hne := splitOn_ne m r
    unfold splitOn
    split
    · simp at ih ⊢; omega
    · split
      · rename_i h; exact absurd h hne
      · rename_i h t e; rw [e] at ih; simp at ih ⊢; omega
end Go.Proofs.YtgoandhlcekmiaaGreatDoor

namespace Go.Proofs.YtgoandhlcekmiaaGreatDoor
open Go.RowKit

/-- A slice of structs of the call's own; each has n cells. -/
def OwnG {α : Type} (n : Nat) (E : TypeId) (g : α → List Value) (w : World) (B : Nat) (v : Value) (L : List α) : Prop := w.ownsRow B E n v L.length (L.flatMap g)
/-- A slice of structs, read. -/
def RowsG {α : Type} (n : Nat) (g : α → List Value) (w : World) (a : Option Addr) (L : List α) : Prop :=
  ∀ k (hk : k < L.length), ∃ ad, a = some ad ∧ ad.block < w.heap.size ∧ ∀ j, j < n → w.cell? (fld (ad.add (k * n)) j) = some ((g L[k]).getD j (.int .i64 0))
/-- What is known of an element type and its slice type. -/
structure ElG (n by_ : Nat) (ST E : TypeId) (z : Value) : Prop where
  sl : Tryz.prog.underlying ST = some (.slice E)
  info : (Tryz.prog.info? E).map (fun i => (i.zero, i.size, i.bytes)) = some (some z, n, by_)
  zs : z.cells.size = n
  pos : 0 < n
  by64 : by_ ≤ 64
theorem flatG_len {α : Type} {n : Nat} {g : α → List Value} (hg : ∀ x, (g x).length = n) : ∀ L : List α, (L.flatMap g).length = L.length * n
  | [] => by simp
  | x :: L => by rw [List.flatMap_cons, List.length_append, hg x, flatG_len hg L, List.length_cons, Nat.succ_mul]; omega
theorem flatG_at {α : Type} {n : Nat} {g : α → List Value} (hg : ∀ x, (g x).length = n) : ∀ (L : List α) (k j : Nat) (hk : k < L.length), j < n → (L.flatMap g)[k * n + j]? = some ((g L[k]).getD j (.int .i64 0))
  | [], _, _, hk, _ => absurd hk (Nat.not_lt_zero _)
  | x :: L, 0, j, _, hj => by
    rw [List.flatMap_cons, Nat.zero_mul, Nat.zero_add, List.getElem?_append_left (by rw [hg x]; exact hj), List.getD_eq_getElem?_getD, List.getElem?_eq_getElem (by rw [hg x]; exact hj)]
    simp [List.getElem?_eq_getElem (show j < (g x).length by rw [hg x]; exact hj)]
  | x :: L, k + 1, j, hk, hj => by
    rw [List.flatMap_cons, List.getElem?_append_right (by rw [hg x, Nat.succ_mul]; omega), hg x, show (k + 1) * n + j - n = k * n + j by rw [Nat.succ_mul]; omega]
    exact flatG_at hg L k j (by simpa using hk) hj
theorem flatG_one {α : Type} {g : α → List Value} (ho : ∀ x, ∀ u ∈ g x, u.oneCell' = true) (L : List α) : ∀ u ∈ L.flatMap g, u.oneCell' = true := by
  intro u hu
  obtain ⟨x, _, hx⟩ := List.mem_flatMap.1 hu
  exact ho x u hx
section
variable {α : Type} {n by_ : Nat} {ST E : TypeId} {z : Value} {g : α → List Value} {w w' : World} {B B' : Nat} {v : Value} {L : List α} {a : Option Addr}
theorem RowsG.below (h : RowsG n g w a L) (hb : Below w.heap.size w w') : RowsG n g w' a L := fun k hk => by
  obtain ⟨ad, e, hlt, hs⟩ := h k hk
  exact ⟨ad, e, Nat.lt_of_lt_of_le hlt hb.size, fun j hj => (hb.cell (by rw [fld_block, add_block]; exact hlt)).trans (hs j hj)⟩
theorem RowsG.alloc (h : RowsG n g w a L) (o : Obj) : RowsG n g (w.alloc o) a L := h.below ((Below.refl _ _).alloc (Nat.le_refl _) o)
theorem RowsG.drop_none (h : RowsG n g w none L) : L = [] := by
  cases L with
  | nil => rfl
  | cons x r => obtain ⟨ad, e, _⟩ := h 0 (Nat.succ_pos _); cases e
theorem OwnG.nil (w : World) (B : Nat) : OwnG n E g w B (.slice none 0 0) [] := World.ownsRow_nil _ _ _ _
theorem OwnG.rows (h : OwnG n E g w B v L) (hg : ∀ x, (g x).length = n) : ∃ (a : Option Addr) (c : Nat), v = .slice a L.length c ∧ RowsG n g w a L ∧ (a = none → c = 0) ∧ ∀ ad, a = some ad → B ≤ ad.block := by
  have h' : w.ownsRow B E n v L.length (L.flatMap g) := h
  rcases h'.2 with ⟨e1, e2⟩ | ⟨gg, cap, cur, e1, hB, hh, hc, hm, _⟩
  · exact ⟨none, 0, by rw [e1, e2], fun k hk => by omega, fun _ => rfl, fun _ e => (by cases e)⟩
  · subst e1
    refine ⟨_, cap, rfl, fun k hk => ⟨_, rfl, (h'.lt gg rfl).2, fun j hj => ?_⟩, fun e => (by cases e), fun ad e => (by cases e; exact hB)⟩
    rw [add0, fld_own]
    have e1 := h'.cells (g := gg) rfl (k * n + j) ((g L[k]).getD j (.int .i64 0)) (flatG_at hg L k j hk hj)
    rw [add0] at e1; exact e1
theorem OwnG.lt (h : OwnG n E g w B v L) : ∀ k, v.ownBlock = some k → B ≤ k ∧ k < w.heap.size := World.ownsRow.lt h
theorem OwnG.below (h : OwnG n E g w B v L) (hb : Below w.heap.size w w') : OwnG n E g w' B v L := by
  rcases h.2 with ⟨e1, e2⟩ | ⟨gg, cap, cur, e1, e2, e3, e4⟩
  · exact ⟨h.1, Or.inl ⟨e1, e2⟩⟩
  · exact ⟨h.1, Or.inr ⟨gg, cap, cur, e1, e2, (hb.block gg ((h.lt gg (by rw [e1]; try rfl)).2)).trans e3, e4⟩⟩
theorem OwnG.mono (h : OwnG n E g w B v L) (hB : B' ≤ B) : OwnG n E g w B' v L := by
  rcases h.2 with ⟨e1, e2⟩ | ⟨gg, cap, cur, e1, e2, e3, e4⟩
  · exact ⟨h.1, Or.inl ⟨e1, e2⟩⟩
  · exact ⟨h.1, Or.inr ⟨gg, cap, cur, e1, Nat.le_trans hB e2, e3, e4⟩⟩
theorem OwnG.drew (h : OwnG n E g w B v L) : OwnG n E g w.drew B v L := h
theorem OwnG.alloc (h : OwnG n E g w B v L) (o : Obj) : OwnG n E g (w.alloc o) B v L := h.below ((Below.refl _ _).alloc (Nat.le_refl _) o)
theorem OwnG.set (h : OwnG n E g w B v L) {p : Addr} (hp : v.ownBlock ≠ some p.block) (u : Value) : OwnG n E g (w.setCell p u) B v L := by
  rcases h.2 with ⟨e1, e2⟩ | ⟨gg, cap, cur, e1, e2, e3, e4⟩
  · exact ⟨h.1, Or.inl ⟨e1, e2⟩⟩
  · exact ⟨h.1, Or.inr ⟨gg, cap, cur, e1, e2, (Below.heap_setCell _ _ _ _ (fun e => hp (by rw [e1]; show some gg = _; rw [e]))).trans e3, e4⟩⟩
theorem OwnG.grown (h : OwnG n E g w B v L) {row : Option Nat} (hg : w.grownBy w' row) (hne : ∀ q, v.ownBlock = some q → some q ≠ row) : OwnG n E g w' B v L := by
  rcases h.2 with ⟨e1, e2⟩ | ⟨gg, cap, cur, e1, e2, e3, e4⟩
  · exact ⟨h.1, Or.inl ⟨e1, e2⟩⟩
  · exact ⟨h.1, Or.inr ⟨gg, cap, cur, e1, e2, (hg.block gg ((h.lt gg (by rw [e1]; try rfl)).2) (hne gg (by rw [e1]; try rfl))).trans e3, e4⟩⟩
/-- 'append(l, x)' at a slice of the call's own, x lying in a block made ahead of it. -/
theorem wpList_appG1 (T : ElG n by_ ST E z) (hg : ∀ x, (g x).length = n) (ho1 : ∀ x, ∀ u ∈ g x, u.oneCell' = true) {ops : Array Oper} {rest : List Oper} {o : Oper} {a : Act} {Q : Exit → Act → World → Prop} (w0 : World) (x : α) (cs : Array Value) (hcs : cs = (g x).toArray) (hgd : o.guard = none) (s xo : Operand)
    (ho : o.op = .call { callee := .builtin .append, args := #[s, xo], argTypes := #[ST, ST] }) (B : Nat) (v : Value) (L : List α) (hs : a.eval s = v) (hown : OwnG n E g w0 B v L)
    (hx : a.eval xo = .slice (some ⟨w0.heap.size, 0, none⟩) 1 1) (hl : L.length ≤ 1000000) (hB : B ≤ w0.heap.size)
    (h : ∀ v' w', OwnG n E g w' B v' (L ++ [x]) → w0.grownBy w' v.ownBlock → Below B w0 w' → (v'.ownBlock = v.ownBlock ∨ ∃ q, v'.ownBlock = some q ∧ w0.heap.size ≤ q) → wpList Tryz.prog ops Q rest (a.put o.dst v') w') :
    wpList Tryz.prog ops Q (o :: rest) a (w0.alloc (.cells cs E)) := by
  obtain ⟨i0, hi0, hz0, hz1, hz2⟩ := info_parts T.info
  subst hcs
  have hbl := T.by64
  refine wpList_append_lies _ hgd s xo ST ho B E i0 z n by_ T.sl hi0 hz0 hz1 hz2 T.zs T.pos v L.length (L.flatMap g) hs (World.ownsRow.alloc hown _) ⟨w0.heap.size, 0, none⟩ 1 1 (g x) hx (by simp [hg x])
    (by simpa using World.news_of_block (cs := (g x).toArray) (t := E) (fr := (0, 0)) (heap_alloc_new w0 _)) (ho1 x) (by omega) (by unfold maxLen; omega) (Nat.le_trans (Nat.mul_le_mul_left _ hbl) (by omega)) (by simp; omega) (w0.heap.size + 1) (by simp) ?_
  intro gg cap w' hown' hgrow' hor _
  rw [show L.flatMap g ++ g x = (L ++ [x]).flatMap g by simp] at hown'
  refine h (.slice (some ⟨gg, 0, none⟩) (L.length + 1) cap) w' (by unfold OwnG; rw [List.length_append]; exact hown') ((World.grownBy_alloc w0 _ _).trans hgrow') (((Below.refl B w0).alloc hB _).grown hgrow' (by simp; omega) (fun k hk => (hown.lt k hk).1)) ?_
  rcases hor with hor | hor
  · exact Or.inl hor.symm
  · exact Or.inr ⟨gg, rfl, by omega⟩
/-- 'append(l, m...)' at a slice of the call's own. -/
theorem wpList_appG (T : ElG n by_ ST E z) (hg : ∀ x, (g x).length = n) (ho1 : ∀ x, ∀ u ∈ g x, u.oneCell' = true) {ops : Array Oper} {rest : List Oper} {o : Oper} {a : Act} {Q : Exit → Act → World → Prop} (w : World) (hgd : o.guard = none) (s xo : Operand)
    (ho : o.op = .call { callee := .builtin .append, args := #[s, xo], argTypes := #[ST, ST] }) (B : Nat) (v : Value) (L : List α) (hs : a.eval s = v) (hown : OwnG n E g w B v L)
    (b : Option Addr) (M : List α) (m c : Nat) (hm : m = M.length) (hx : a.eval xo = .slice b m c) (hM : RowsG n g w b M) (hbc : b = none → c = 0) (hl : L.length ≤ 1000000) (hl2 : M.length ≤ 1000000) (hB : B ≤ w.heap.size)
    (h : ∀ v' w', OwnG n E g w' B v' (L ++ M) → w.grownBy w' v.ownBlock → Below B w w' → (v'.ownBlock = v.ownBlock ∨ v'.ownBlock = some w.heap.size) → wpList Tryz.prog ops Q rest (a.put o.dst v') w') :
    wpList Tryz.prog ops Q (o :: rest) a w := by
  subst hm
  obtain ⟨i0, hi0, hz0, hz1, hz2⟩ := info_parts T.info
  have hbl := T.by64
  cases b with
  | none =>
    have hM0 := hM.drop_none
    subst hM0
    have hc := hbc rfl
    subst hc
    refine wpList_append_own_none hgd s xo ST ho B E i0 n T.sl hi0 v L.length (L.flatMap g) hs hown hx (h v w (by rw [List.append_nil]; exact hown) ⟨rfl, rfl, rfl, Nat.le_refl _, fun _ _ _ => rfl⟩ (Below.refl _ _) (Or.inl rfl))
  | some ad =>
    refine wpList_plain hgd fun K hK => ?_
    obtain ⟨v', w', hr, h2, h3, h4, h5⟩ := run_append_own_at (P := Tryz.prog) w B ST o.type E i0 z n by_ T.sl hi0 hz0 hz1 hz2 T.zs T.pos v L.length (L.flatMap g) hown ad M.length c (M.flatMap g)
      (flatG_len hg M) (fun j u hj => by
        have hjl : j < M.length * n := by
          have := (List.getElem?_eq_some_iff.1 hj).1
          simpa [flatG_len hg M] using this
        have hn := T.pos
        have hk : j / n < M.length := Nat.div_lt_of_lt_mul (by rw [Nat.mul_comm]; exact hjl)
        have hjn : j % n < n := Nat.mod_lt _ hn
        have ej : j / n * n + j % n = j := by rw [Nat.mul_comm]; exact Nat.div_add_mod j n
        obtain ⟨ad', e, _, hs⟩ := hM (j / n) hk
        cases e
        have e1 := hs (j % n) hjn
        have e2 := flatG_at hg M (j / n) (j % n) hk hjn
        rw [ej] at e2
        rw [e2] at hj
        have e3 : fld (ad.add (j / n * n)) (j % n) = ad.add j := by
          rcases Nat.eq_zero_or_pos (j % n) with h0 | h0
          · rw [h0]; show ad.add _ = _; rw [← ej, h0, Nat.add_zero, Nat.mul_div_cancel _ hn]
          · obtain ⟨q, hq⟩ : ∃ q, j % n = q + 1 := ⟨j % n - 1, by omega⟩
            rw [hq]
            show (⟨(ad.add (j / n * n)).block, (ad.add (j / n * n)).off + (q + 1), none⟩ : Addr) = ad.add j
            rw [← hq]
            unfold Addr.add
            by_cases hz : j / n * n = 0
            · rw [if_pos hz, if_neg (by omega)]
              have : j % n = j := by omega
              rw [this]
            · rw [if_neg hz, if_neg (by omega)]
              show (⟨ad.block, ad.off + j / n * n + j % n, none⟩ : Addr) = ⟨ad.block, ad.off + j, none⟩
              rw [Nat.add_assoc, ej]
        rw [← e3, e1]; exact hj) (flatG_one ho1 M) (by unfold maxLen; omega) (Nat.le_trans (Nat.mul_le_mul_left _ hbl) (by omega)) hB
    unfold Oper.wp execOp
    simp only [ho, resolve, invoke, builtin, Sem.run_bind, Sem.run_pure, Result.andThen_ok, List.map_toArray, List.map_cons, List.map_nil, hs, hx, hr]
    refine hK _ _ (h v' w' ?_ h3 ((Below.refl B w).grown h3 hB (fun k hk => (hown.lt k hk).1)) h5)
    unfold OwnG
    rw [List.flatMap_append, List.length_append]
    exact h2
end
end Go.Proofs.YtgoandhlcekmiaaGreatDoor

namespace Go.Proofs.YtgoandhlcekmiaaGreatDoor

theorem dec_cons (acc : Nat) (c : UInt8) (r : List UInt8) : Lib.decFrom acc (c :: r) = match Lib.digitVal c with | some d => Lib.decFrom (acc * 10 + d) r | none => none := rfl
theorem dec_app : ∀ (a b : List UInt8) (acc : Nat), Lib.decFrom acc (a ++ b) = (Lib.decFrom acc a).bind fun m => Lib.decFrom m b
  | [], _, _ => rfl
  | c :: a, b, acc => by
    rw [List.cons_append, dec_cons, dec_cons]
    cases Lib.digitVal c with
    | none => rfl
    | some d => exact dec_app a b _
theorem ofNat_d {r : Nat} (h : r < 10) : (UInt8.ofNat (48 + r)).toNat = 48 + r := by rw [UInt8.toNat_ofNat']; omega
theorem dig_of {r : Nat} (h : r < 10) : Lib.digitVal (UInt8.ofNat (48 + r)) = some r := by
  unfold Lib.digitVal; rw [ofNat_d h, if_pos (by omega)]; congr 1; omega
theorem dig_inv {c : UInt8} {d : Nat} (h : Lib.digitVal c = some d) : d < 10 ∧ c = UInt8.ofNat (48 + d) ∧ c.toNat = 48 + d := by
  unfold Lib.digitVal at h
  split at h
  · rename_i hc
    have e : c.toNat - 48 = d := Option.some.inj h
    have h10 : d < 10 := by omega
    refine ⟨h10, ?_, by omega⟩
    rw [← UInt8.toNat_inj, ofNat_d h10]; omega
  · cases h
theorem dg_snoc {u : Nat} (h : ¬ u < 10) : Lib.decDigits u = Lib.decDigits (u / 10) ++ [UInt8.ofNat (48 + u % 10)] := by rw [Lib.decDigits, dif_neg h]
theorem dg_read (u : Nat) : Lib.decFrom 0 (Lib.decDigits u) = some u := by
  induction u using Nat.strongRecOn with
  | _ u ih =>
    by_cases h : u < 10
    · rw [Lib.decDigits_one h]
      show (match Lib.digitVal (UInt8.ofNat (48 + u)) with | some d => Lib.decFrom (0 * 10 + d) [] | none => none) = _
      rw [dig_of h]
      show some (0 * 10 + u) = _
      simp
    · rw [dg_snoc h, dec_app, ih (u / 10) (by omega)]
      show (match Lib.digitVal (UInt8.ofNat (48 + u % 10)) with | some d => Lib.decFrom (u / 10 * 10 + d) [] | none => none) = _
      rw [dig_of (Nat.mod_lt _ (by omega))]
      show some (u / 10 * 10 + u % 10) = _
      congr 1; omega
theorem dg_pos (u : Nat) : 1 ≤ (Lib.decDigits u).length := by rw [Lib.decDigits_length]; exact Lib.nDigits_pos u
theorem dg_digit {u : Nat} : ∀ c ∈ Lib.decDigits u, ∃ d, Lib.digitVal c = some d := by
  intro c hc
  obtain ⟨k, hk, rfl⟩ := List.getElem_of_mem hc
  exact Lib.digit_of_decFrom _ _ _ (dg_read u) k _ (List.getElem?_eq_getElem hk)
/-- A numeral without leading zeros is the one that is written for its value. -/
theorem dg_canon : ∀ (m : Nat) (l : List UInt8) (n : Nat), l.length = m → l ≠ [] → Lib.decFrom 0 l = some n → (l.length = 1 ∨ l.headD 0 ≠ 48) → Lib.decDigits n = l := by
  intro m
  induction m with
  | zero => intro l n h hne; exact absurd (List.length_eq_zero_iff.1 h) hne
  | succ m ih =>
    intro l n h hne hd hc
    obtain ⟨a, c, rfl⟩ : ∃ a c, l = a ++ [c] := ⟨l.dropLast, l.getLast hne, (List.dropLast_concat_getLast hne).symm⟩
    rw [dec_app] at hd
    obtain ⟨p, hp, hq⟩ := Option.bind_eq_some_iff.1 hd
    have hq : (match Lib.digitVal c with | some d => Lib.decFrom (p * 10 + d) [] | none => none) = some n := hq
    cases hv : Lib.digitVal c with
    | none => rw [hv] at hq; cases hq
    | some d =>
      rw [hv] at hq
      have hn : p * 10 + d = n := Option.some.inj hq
      obtain ⟨h10, hce, -⟩ := dig_inv hv
      by_cases ha : a = []
      · subst ha
        have hp0 : (0 : Nat) = p := Option.some.inj hp
        subst hp0
        rw [show n = d by omega, Lib.decDigits_one h10, hce]; try rfl
      · have hal : a.length = m := by simpa using h
        have hh : a.headD 0 ≠ 48 := by
          rcases hc with hc | hc
          · exfalso
            have : a.length = 0 := by simpa using hc
            exact ha (List.length_eq_zero_iff.1 this)
          · cases a with
            | nil => exact absurd rfl ha
            | cons x r => exact hc
        have hi := ih a p hal ha hp (Or.inr hh)
        have hp1 : 1 ≤ p := by
          rcases Nat.eq_zero_or_pos p with h0 | h0
          · exfalso
            rw [h0, Lib.decDigits_one (by omega)] at hi
            rw [← hi] at hh
            exact hh rfl
          · exact h0
        rw [dg_snoc (by omega), show n / 10 = p by omega, show n % 10 = d by omega, hi, hce]
theorem dg_head {u : Nat} (h1 : 1 ≤ u) : (Lib.decDigits u).headD 0 ≠ 48 := by
  induction u using Nat.strongRecOn with
  | _ u ih =>
    by_cases h : u < 10
    · rw [Lib.decDigits_one h]
      intro e
      have := congrArg UInt8.toNat e
      rw [List.headD_cons, ofNat_d h] at this
      have h48 : (48 : UInt8).toNat = 48 := rfl
      omega
    · rw [dg_snoc h]
      have := ih (u / 10) (by omega) (by omega)
      have hp := dg_pos (u / 10)
      cases hd : Lib.decDigits (u / 10) with
      | nil => rw [hd] at hp; simp at hp
      | cons x r => rw [hd] at this; exact this
theorem dg_first (u : Nat) : ∃ c r, Lib.decDigits u = c :: r ∧ 48 ≤ c.toNat ∧ c.toNat ≤ 57 := by
  have hp := dg_pos u
  cases hd : Lib.decDigits u with
  | nil => rw [hd] at hp; simp at hp
  | cons c r =>
    obtain ⟨d, hc⟩ := dg_digit (u := u) c (by rw [hd]; exact List.mem_cons_self)
    obtain ⟨h1, -, h3⟩ := dig_inv hc
    exact ⟨c, r, rfl, by omega, by omega⟩
/-- The bytes of a text behind a minus sign. -/
def trimM (t : List UInt8) : List UInt8 := if t.headD 0 = 45 then t.tail else t
theorem decNat_dg (u : Nat) : Lib.decNat (Lib.decDigits u) = some u := by
  have hp := dg_pos u
  unfold Lib.decNat
  rw [if_neg (by intro e; have := List.isEmpty_iff.1 e; rw [this] at hp; simp at hp)]
  exact dg_read u
theorem atoi_cons (b : UInt8) (r : List UInt8) : Lib.atoi (b :: r) = if (b == 45) = true then (Lib.decNat r).map fun (m : Nat) => -(m : Int) else if (b == 43) = true then (Lib.decNat r).map fun (m : Nat) => (m : Int) else (Lib.decNat (b :: r)).map fun (m : Nat) => (m : Int) := rfl
theorem trim_minus (r : List UInt8) : trimM (45 :: r) = r := by unfold trimM; exact if_pos (show (45 :: r : List UInt8).headD 0 = 45 from rfl)
/-- What is written is read again. -/
theorem atoi_itoa (v : Int) : Lib.atoi (Lib.itoa v) = some v := by
  unfold Lib.itoa
  split
  · rename_i h
    rw [atoi_cons, if_pos (by decide), decNat_dg]
    show some (-((v.natAbs : Nat) : Int)) = _
    congr 1; omega
  · rename_i h
    obtain ⟨c, r, e, h1, h2⟩ := dg_first v.toNat
    have hd := decNat_dg v.toNat
    rw [e] at hd ⊢
    rw [atoi_cons]
    have n1 : (c == 45) = false := by
      rw [beq_eq_false_iff_ne]; intro e2; rw [e2] at h1; exact absurd h1 (by decide)
    have n2 : (c == 43) = false := by
      rw [beq_eq_false_iff_ne]; intro e2; rw [e2] at h1; exact absurd h1 (by decide)
    rw [n1, n2, if_neg (by decide), if_neg (by decide), hd]
    show some ((v.toNat : Nat) : Int) = _
    congr 1; omega
/-- A number with at most so many digits, as the document writes it. -/
def numI (t : List UInt8) (d : Nat) : Option Int := match Lib.atoi t with
  | some v => if Lib.itoa v = t ∧ (trimM t).length ≤ d then some v else none
  | none => none
theorem numI_some {t : List UInt8} {d : Nat} {v : Int} (h : numI t d = some v) : Lib.itoa v = t ∧ (trimM t).length ≤ d ∧ Lib.atoi t = some v := by
  unfold numI at h
  cases ha : Lib.atoi t with
  | none => rw [ha] at h; cases h
  | some u =>
    rw [ha] at h
    simp only at h
    split at h
    · rename_i hc
      have : u = v := Option.some.inj h
      subst this
      exact ⟨hc.1, hc.2, rfl⟩
    · cases h
theorem numI_itoa {v : Int} {d : Nat} (h : (trimM (Lib.itoa v)).length ≤ d) : numI (Lib.itoa v) d = some v := by
  unfold numI
  rw [atoi_itoa]
  show (if Lib.itoa v = Lib.itoa v ∧ (trimM (Lib.itoa v)).length ≤ d then some v else none) = some v
  exact if_pos ⟨rfl, h⟩
theorem numI_of {t : List UInt8} {d : Nat} {v : Int} (h1 : Lib.itoa v = t) (h2 : (trimM t).length ≤ d) : numI t d = some v := by
  subst h1; exact numI_itoa h2
theorem numI_none {t : List UInt8} {d : Nat} (h : ∀ v, Lib.itoa v = t → (trimM t).length ≤ d → False) : numI t d = none := by
  cases hn : numI t d with
  | none => rfl
  | some v => exact (h v (numI_some hn).1 (numI_some hn).2.1).elim
/-- How a numeral that is written looks behind its sign. -/
theorem trim_itoa (v : Int) : trimM (Lib.itoa v) = Lib.decDigits v.natAbs ∧ ((Lib.itoa v).headD 0 = 45 ↔ v < 0) := by
  unfold Lib.itoa
  split
  · rename_i h
    exact ⟨trim_minus _, ⟨fun _ => h, fun _ => rfl⟩⟩
  · rename_i h
    obtain ⟨c, r, e, h1, h2⟩ := dg_first v.toNat
    have hc : c ≠ 45 := fun e2 => by rw [e2] at h1; exact absurd h1 (by decide)
    rw [show v.natAbs = v.toNat by omega, e]
    refine ⟨by unfold trimM; rw [if_neg (by exact hc)], ⟨fun h3 => absurd h3 hc, fun h3 => absurd h3 h⟩⟩
theorem num_read {t : List UInt8} {d n : Nat} (h1 : trimM t ≠ []) (h2 : (trimM t).length ≤ d) (h3 : ¬ ((trimM t).headD 0 = 48 ∧ 1 < t.length)) (h4 : Lib.decFrom 0 (trimM t) = some n) : numI t d = some (if t.headD 0 = 45 then -(n : Int) else n) := by
  by_cases hm : t.headD 0 = 45
  · rw [if_pos hm]
    obtain ⟨r, rfl⟩ : ∃ r, t = 45 :: r := by
      cases t with
      | nil => exact absurd hm (by decide)
      | cons c r => exact ⟨r, by rw [show c = 45 from hm]⟩
    have e : trimM (45 :: r) = r := trim_minus r
    rw [e] at h1 h2 h3 h4
    have hl : 1 ≤ r.length := by rcases r with _ | ⟨c, r⟩; · exact absurd rfl h1
                                 · simp
    have hh : r.headD 0 ≠ 48 := fun e2 => h3 ⟨e2, by simp; omega⟩
    have hc := dg_canon r.length r n rfl h1 h4 (Or.inr hh)
    have hn : 1 ≤ n := by
      rcases Nat.eq_zero_or_pos n with h0 | h0
      · exfalso
        rw [h0, Lib.decDigits_one (by omega)] at hc
        rw [← hc] at hh; exact hh rfl
      · exact h0
    refine numI_of ?_ (by rw [e]; exact h2)
    unfold Lib.itoa
    rw [if_pos (by omega), show (-(n : Int)).natAbs = n by omega, hc]
  · rw [if_neg hm]
    have e : trimM t = t := by unfold trimM; rw [if_neg hm]
    rw [e] at h1 h2 h3 h4
    have hc := dg_canon t.length t n rfl h1 h4 (by
      by_cases hl : t.length = 1
      · exact Or.inl hl
      · refine Or.inr fun e2 => h3 ⟨e2, ?_⟩
        have : t.length ≠ 0 := fun e3 => h1 (List.length_eq_zero_iff.1 e3)
        omega)
    refine numI_of ?_ (by rw [e]; exact h2)
    unfold Lib.itoa
    rw [if_neg (by omega), show ((n : Nat) : Int).toNat = n by omega, hc]
theorem num_empty {t : List UInt8} {d : Nat} (h : trimM t = []) : numI t d = none := numI_none fun v e _ => by
  rw [← e, (trim_itoa v).1] at h
  have := dg_pos v.natAbs
  rw [h] at this; simp at this
theorem num_long {t : List UInt8} {d : Nat} (h : d < (trimM t).length) : numI t d = none := numI_none fun _ _ h2 => by omega
theorem num_zero {t : List UInt8} {d : Nat} (h : (trimM t).headD 0 = 48 ∧ 1 < t.length) : numI t d = none := numI_none fun v e _ => by
  obtain ⟨h1, h2⟩ := trim_itoa v
  rw [e] at h1 h2
  rw [h1] at h
  rcases Nat.eq_zero_or_pos v.natAbs with h0 | h0
  · have hv : v = 0 := by omega
    subst hv
    have h0 : Lib.itoa 0 = [48] := by unfold Lib.itoa; rw [if_neg (by decide)]; exact Lib.decDigits_one (by decide)
    rw [← e, h0] at h
    exact absurd h.2 (by decide)
  · exact dg_head h0 h.1
theorem num_bad {t : List UInt8} {d : Nat} (h : Lib.decFrom 0 (trimM t) = none) : numI t d = none := numI_none fun v e _ => by
  rw [← e, (trim_itoa v).1, dg_read] at h; cases h
theorem itoa_len {v : Int} {k : Nat} (h : v.natAbs < 10 ^ (k + 1)) : (trimM (Lib.itoa v)).length ≤ k + 1 := by
  rw [(trim_itoa v).1]
  revert h
  generalize v.natAbs = u
  induction k generalizing u with
  | zero => intro h; rw [Lib.decDigits_one (by simpa using h)]; exact Nat.le_refl _
  | succ k ih =>
    intro h
    by_cases h10 : u < 10
    · rw [Lib.decDigits_one h10]; simp
    · rw [dg_snoc h10, List.length_append, List.length_singleton]
      have := ih (u / 10) (by rw [Nat.pow_succ] at h; omega)
      omega
end Go.Proofs.YtgoandhlcekmiaaGreatDoor

namespace Go.Proofs.YtgoandhlcekmiaaGreatDoor
open Go.RowKit Go.Lib

theorem splitK_over (m : UInt8) : ∀ (l : List UInt8) (k : Nat), count l [m] ≤ k → splitK [m] 0 k l = splitOn m l
  | [], k, _ => by
    have hm : index ([] : List UInt8) [m] = -1 := by rfl
    cases k with
    | zero => rfl
    | succ k => rw [splitK, if_pos (by rw [hm]; try rfl)]; rfl
  | b :: l, k, h => by
    by_cases e : b = m
    · subst e
      rw [count_cons_eq] at h
      obtain ⟨k', rfl⟩ : ∃ k', k = k' + 1 := ⟨k - 1, by omega⟩
      have ih := splitK_over b l k' (by omega)
      have hix : index (b :: l) [b] = ((0 : Nat) : Int) := by rw [index]; simp [List.isPrefixOf]
      rw [splitK, if_neg (by rw [hix]; simp), hix]
      unfold splitOn
      rw [if_pos rfl, ← ih]
      simp
    · rw [count_cons_ne b m l e] at h
      have ih := splitK_over m l k h
      unfold splitOn
      rw [if_neg e, ← ih]
      cases k with
      | zero => rfl
      | succ k =>
        have hp : ([m] : List UInt8).isPrefixOf (b :: l) = false := by simp [List.isPrefixOf, Ne.symm e]
        have hix : index (b :: l) [m] = if index l [m] == -1 then -1 else index l [m] + 1 := by rw [index, hp]; simp
        by_cases hm : index l [m] = -1
        · have hix' : index (b :: l) [m] = -1 := by rw [hix, if_pos (by rw [hm]; try rfl)]
          rw [splitK, splitK, if_pos (by rw [hix']; try rfl), if_pos (by rw [hm]; try rfl)]
        · have hge := index_ge l [m]
          obtain ⟨j, hj⟩ : ∃ j : Nat, index l [m] = j := ⟨(index l [m]).toNat, by omega⟩
          have hix' : index (b :: l) [m] = ((j + 1 : Nat) : Int) := by rw [hix, if_neg (fun e => hm (beq_iff_eq.1 e)), hj]; omega
          rw [splitK, splitK, if_neg (by rw [hix']; simp; omega), if_neg (by rw [hj]; simp), hix', hj]
          simp
theorem splitK_len (m : UInt8) : ∀ (l : List UInt8) (k : Nat), k ≤ count l [m] → (splitK [m] 0 k l).length = k + 1
  | [], k, h => by
    have hc : count ([] : List UInt8) [m] = 0 := by rw [count_one]; try rfl
    obtain rfl : k = 0 := by omega
    rfl
  | b :: l, k, h => by
    by_cases e : b = m
    · subst e
      rw [count_cons_eq] at h
      cases k with
      | zero => rfl
      | succ k =>
        have ih := splitK_len b l k (by omega)
        have hix : index (b :: l) [b] = ((0 : Nat) : Int) := by rw [index]; simp [List.isPrefixOf]
        rw [splitK, if_neg (by rw [hix]; simp), hix]
        simp [ih]
    · rw [count_cons_ne b m l e] at h
      cases k with
      | zero => rfl
      | succ k =>
        have ih := splitK_len m l (k + 1) h
        have hp : ([m] : List UInt8).isPrefixOf (b :: l) = false := by simp [List.isPrefixOf, Ne.symm e]
        have hix : index (b :: l) [m] = if index l [m] == -1 then -1 else index l [m] + 1 := by rw [index, hp]; simp
        by_cases hm : index l [m] = -1
        · rw [count_miss hm] at h; omega
        · have hge := index_ge l [m]
          obtain ⟨j, hj⟩ : ∃ j : Nat, index l [m] = j := ⟨(index l [m]).toNat, by omega⟩
          have hix' : index (b :: l) [m] = ((j + 1 : Nat) : Int) := by rw [hix, if_neg (fun e => hm (beq_iff_eq.1 e)), hj]; omega
          rw [splitK, if_neg (by rw [hj]; simp), hj] at ih
          rw [splitK, if_neg (by rw [hix']; simp; omega), hix']
          simp at ih ⊢
          exact ih
theorem splitOn_count (m : UInt8) (l : List UInt8) : (splitOn m l).length = count l [m] + 1 := by
  rw [← splitK_over m l _ (Nat.le_refl _), splitK_len m l _ (Nat.le_refl _)]
/-- So many words at most: all of them, or one too many. -/
theorem splitB_some (m : UInt8) (s : ByteArray) {N : Nat} (hN : 1 ≤ N) : (N ≤ (splitB ⟨#[m]⟩ 0 (min N (s.size + 1) - 1) s).length ↔ N ≤ (splitOn m s.data.toList).length) ∧ ((splitOn m s.data.toList).length < N → (splitB ⟨#[m]⟩ 0 (min N (s.size + 1) - 1) s).map (·.data.toList) = splitOn m s.data.toList) := by
  have hd := splitB_data ⟨#[m]⟩ 0 (min N (s.size + 1) - 1) s
  have hl : (splitB ⟨#[m]⟩ 0 (min N (s.size + 1) - 1) s).length = (splitK [m] 0 (min N (s.size + 1) - 1) s.data.toList).length := by rw [← List.length_map (f := fun x : ByteArray => x.data.toList), hd]
  have hc := splitOn_count m s.data.toList
  have hle : count s.data.toList [m] ≤ s.size := by rw [count_one]; exact Nat.le_trans List.count_le_length (by simp)
  rw [hl]
  rcases Nat.lt_or_ge (min N (s.size + 1) - 1) (count s.data.toList [m]) with h | h
  · rw [splitK_len m _ _ (Nat.le_of_lt h)]
    have hmin : min N (s.size + 1) = N := by omega
    rw [hmin] at h ⊢
    exact ⟨⟨fun _ => by omega, fun _ => by omega⟩, fun h2 => by omega⟩
  · rw [splitK_over m _ _ h]
    exact ⟨Iff.rfl, fun _ => by rw [hd]; exact splitK_over m _ _ h⟩
/-- A row of texts. -/
def tx (s : ByteArray) : List Value := [.string s]
theorem tx_len (s : ByteArray) : (tx s).length = 1 := rfl
theorem tx_one (s : ByteArray) : ∀ u ∈ tx s, u.oneCell' = true := by
  intro u hu
  rw [List.mem_singleton.1 hu]; try rfl
theorem tTx : ElG 1 16 99 9 (.string ⟨#[]⟩) := ⟨Tryz.underlying99, by kernel_rfl, rfl, by decide, by decide⟩
theorem RowsG.tx {w : World} {a : Option Addr} {L : List ByteArray} (h : RowsG 1 tx w a L) {k : Nat} (hk : k < L.length) : ∃ ad, a = some ad ∧ ad.block < w.heap.size ∧ w.cell? (ad.add k) = some (.string L[k]) := by
  obtain ⟨ad, e, hlt, hs⟩ := h k hk
  exact ⟨ad, e, hlt, by have := hs 0 (by decide); rw [Nat.mul_one] at this; exact this⟩
def bs (l : List UInt8) : ByteArray := ⟨l.toArray⟩
theorem bs_data (l : List UInt8) : (bs l).data.toList = l := rfl
theorem bs_size (l : List UInt8) : (bs l).size = l.length := by unfold bs; simp [ByteArray.size]
theorem data_bs (s : ByteArray) : bs s.data.toList = s := by unfold bs; simp
end Go.Proofs.YtgoandhlcekmiaaGreatDoor

namespace Go.Proofs.YtgoandhlcekmiaaGreatDoor
open Go.RowKit

theorem dec_bd : ∀ (k : Nat) {l : List UInt8} {m : Nat}, l.length = k → Lib.decFrom 0 l = some m → m < 10 ^ k := by
  intro k
  induction k with
  | zero =>
    intro l m h hd
    obtain rfl := List.length_eq_zero_iff.1 h
    have : (0 : Nat) = m := Option.some.inj hd
    subst this; decide
  | succ k ih =>
    intro l m h hd
    have hne : l ≠ [] := fun e => by rw [e] at h; cases h
    obtain ⟨a, c, rfl⟩ : ∃ a c, l = a ++ [c] := ⟨l.dropLast, l.getLast hne, (List.dropLast_concat_getLast hne).symm⟩
    rw [dec_app] at hd
    obtain ⟨p, hp, hq⟩ := Option.bind_eq_some_iff.1 hd
    rw [dec_cons] at hq
    have h1 := ih (by simpa using h) hp
    cases hv : Lib.digitVal c with
    | none => rw [hv] at hq; cases hq
    | some d =>
      rw [hv] at hq
      have hn : p * 10 + d = m := Option.some.inj hq
      have := (dig_inv hv).1
      rw [Nat.pow_succ]; omega
theorem dec_step {r : List UInt8} {k m : Nat} (hk : k < r.length) (h : Lib.decFrom 0 (r.take k) = some m) (h1 : 48 ≤ r[k].toNat) (h2 : r[k].toNat ≤ 57) : Lib.decFrom 0 (r.take (k + 1)) = some (m * 10 + (r[k].toNat - 48)) := by
  rw [List.take_succ_eq_append_getElem hk, dec_app, h]
  show Lib.decFrom m [r[k]] = _
  rw [dec_cons]
  have : Lib.digitVal r[k] = some (r[k].toNat - 48) := by unfold Lib.digitVal; rw [if_pos ⟨h1, h2⟩]
  rw [this]; try rfl
theorem dec_stop {r : List UInt8} {k : Nat} (hk : k < r.length) (h : ¬ (48 ≤ r[k].toNat ∧ r[k].toNat ≤ 57)) : Lib.decFrom 0 r = none := by
  cases hd : Lib.decFrom 0 r with
  | none => rfl
  | some n =>
    obtain ⟨d, hv⟩ := Lib.digit_of_decFrom r 0 n hd k _ (List.getElem?_eq_getElem hk)
    have := dig_inv hv
    exact absurd ⟨by omega, by omega⟩ h
theorem u8i_in (x : Int) (h : 0 ≤ x ∧ x ≤ 255) : IntKind.u8.wrap x = x := by
  unfold IntKind.wrap; simp [IntKind.signed, IntKind.bits]; omega
theorem pow17 : ∀ m, m < 18 → (10 : Nat) ^ m ≤ 100000000000000000 := by decide
def NumPost (w : World) (o : Option Int) (e : Ending) (w' : World) : Prop := e = .returned (.tuple #[.int .i64 (o.getD 0), .bool o.isSome]) ∧ w' = w
end Go.Proofs.YtgoandhlcekmiaaGreatDoor
