/-
  Package press: where an order of some colours stands: what is left.
-/
import Derived.Test.YtdgegebplebeoaaGreatDoorE7
namespace Go.Proofs.YtdgegebplebeoaaGreatDoor
open Go.RowKit Go.Maps Go.Shelf

theorem containsOwn_any (B : Nat) (v : Value) (O : List Int) (x : Int) (w : World) (hO : OwnR 1 3 intL w B v O) (hl : O.length ≤ 1000000) :
    Calls Tryz.prog 117 #[v, .int .i64 x] w fun e w' => e = .returned (.bool (O.contains x)) ∧ w = w' := by
  by_cases h0 : O.length = 0
  · obtain ⟨a, c, rfl, -⟩ := hO.rows int_l
    have : O = [] := List.eq_nil_of_length_eq_zero h0
    subst this
    refine (Tryz.slices_Contains_int_empty a c x w).mono ?_
    rintro e w' ⟨rfl, rfl⟩
    exact ⟨rfl, rfl⟩
  · obtain ⟨g, c, rfl, -, -⟩ := hO.form (by omega)
    refine (Tryz.slices_Contains_int g 0 O.length c O x w (Nat.le_refl _) (by omega) (fun j hj => by rw [Nat.zero_add, own_cells hO hj, getD_eqI hj])).mono ?_
    rintro e w' ⟨rfl, rfl⟩
    rw [List.take_length]
    exact ⟨rfl, rfl⟩
/-- A tree of orders under way, where it lies. -/
structure Tree where
  x : Cols
  bound : Int
  nv : Value
  ov : Value
  O : List Int
structure TreeAt (w : World) (B b : Nat) (t : Tree) : Prop where
  box : BoxAt w b #[.slice t.x.ma t.x.m.length t.x.mc, .slice t.x.da t.x.T.length t.x.dc, .int .i64 t.bound, t.nv, t.ov] 91
  cols : ColsAt w t.x
  own : OwnR 1 3 intL w B t.ov t.O
theorem TreeAt.below {w w' : World} {B b : Nat} {t : Tree} (h : TreeAt w B b t) (hb : Below w.heap.size w w') : TreeAt w' B b t := ⟨h.box.below hb, h.cols.below hb, h.own.below hb⟩
theorem TreeAt.grown {w w' : World} {B b : Nat} {t : Tree} (h : TreeAt w B b t) (hb : Below w.heap.size w w') : TreeAt w' B b t := ⟨h.box.below hb, h.cols.below hb, h.own.below hb⟩
/-- The colours of the first k that do not stand in the order. -/
def leftK (O : List Int) : Nat → List Int
  | 0 => []
  | k + 1 => if O.contains (k : Int) then leftK O k else leftK O k ++ [(k : Int)]
theorem leftK_len (O : List Int) : ∀ k, (leftK O k).length ≤ k
  | 0 => Nat.le_refl _
  | k + 1 => by
    have := leftK_len O k
    unfold leftK; split
    · omega
    · simp; omega
theorem leftK_in (O : List Int) : ∀ k, ∀ y ∈ leftK O k, (0 ≤ y ∧ y < k) ∧ y ∉ O
  | 0, y, h => by cases h
  | k + 1, y, h => by
    unfold leftK at h
    split at h
    · have := leftK_in O k y h; exact ⟨by omega, this.2⟩
    · rename_i hc
      rcases List.mem_append.1 h with h | h
      · have := leftK_in O k y h; exact ⟨by omega, this.2⟩
      · rw [List.mem_singleton.1 h]
        exact ⟨by omega, fun hm => hc (List.contains_iff_mem.2 hm)⟩
def LeftPost (w : World) (L : List Int) (e : Ending) (w' : World) : Prop := ∃ v, e = .returned v ∧ OwnR 1 3 intL w' w.heap.size v L ∧ Below w.heap.size w w'
set_option maxRecDepth 100000 in
set_option maxHeartbeats 4000000 in
theorem left_any (t : Tree) (B b : Nat) (w : World) (ht : TreeAt w B b t) (hm : t.x.m.length ≤ 100) (hol : t.O.length ≤ 100) :
    Calls Tryz.prog 95 #[.pointer (some ⟨b, 0, none⟩)] w (LeftPost w (leftK t.O t.x.m.length)) := by
  obtain ⟨⟨ma, m, mc, da, T, dc⟩, bd, nv, ov, O⟩ := t
  have hm : m.length ≤ 100 := hm
  have hol : O.length ≤ 100 := hol
  obtain ⟨oa, oc, ev, -⟩ := ht.own.rows int_l
  have ev : ov = .slice oa O.length oc := ev
  subst ev
  have HT := Lib.hid ht
  clear ht
  have b0 : w.cell? ⟨b, 0, none⟩ = some (.slice ma m.length mc) := HT.out.box.cell 0
  have hbl := HT.out.box.lt
  go_enter Tryz.func95, Tryz.ntmps95
  go_wp2_with fail
  go_loopw [3, 11] (fun v i wr => ∃ k : Nat, k ≤ m.length ∧ i = .int .i64 k ∧ OwnR 1 3 intL wr w.heap.size v (leftK O k) ∧ Below w.heap.size w wr) (fun _ i _ => m.length - (intOf i).toNat)
  case atStart => exact ⟨0, Nat.zero_le _, rfl, OwnR.nil _ _, Below.refl _ _⟩
  case round =>
    obtain ⟨k, hk, rfl, hO, hB⟩ := hrel
    by_cases hlt : k < m.length
    · have HTW := HT.out.below hB
      have c4 : wr.cell? ⟨b, 4, none⟩ = some (.slice oa O.length oc) := HTW.box.cell 4
      have hbw := HTW.box.lt
      have HC := Lib.hid (containsOwn_any B (.slice oa O.length oc) O (k : Int) wr HTW.own (by omega))
      have HL := Lib.hid (leftK_len O k)
      have HOW := Lib.hid hO
      have HBW := Lib.hid hB
      clear HTW hO
      cases hc : O.contains (k : Int)
      · have HS := Lib.hid (show leftK O (k + 1) = leftK O k ++ [(k : Int)] by show (if _ then _ else _) = _; rw [hc]; rfl)
        rw [hc] at HC
        clear hc
        go_wp2_with (first | (go_at_call 117; refine HC.out.mono ?_; rintro e w' ⟨rfl, rfl⟩) | (at_builtin; refine wpList_appX tInt int_l _ (k : Int) _ rfl rfl _ _ rfl w.heap.size _ (leftK O k) rfl HOW.out rfl (by have := HL.out; omega) HBW.out.size ?_; intro gg cg wg hOg hgg hBg))
        go_roundw
        case rel => exact ⟨k + 1, by omega, by go_num, by rw [HS.out]; exact hOg, HBW.out.trans hBg⟩
        case measure => simp [intOf] <;> omega
      · have HS := Lib.hid (show leftK O (k + 1) = leftK O k by show (if _ then _ else _) = _; rw [hc]; rfl)
        rw [hc] at HC
        clear hc
        go_wp2_with (go_at_call 117; refine HC.out.mono ?_; rintro e w' ⟨rfl, rfl⟩)
        go_roundw
        case rel => exact ⟨k + 1, by omega, by go_num, by rw [HS.out]; exact HOW.out, HBW.out⟩
        case measure => simp [intOf] <;> omega
    · obtain rfl : k = m.length := by omega
      go_wp2
      go_ret
      exact ⟨_, rfl, hO, hB⟩
end Go.Proofs.YtdgegebplebeoaaGreatDoor
