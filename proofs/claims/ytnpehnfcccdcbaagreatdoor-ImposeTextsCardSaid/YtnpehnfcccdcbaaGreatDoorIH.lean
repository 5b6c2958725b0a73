/-
  Package impose: the leaves of a place as they lie behind a fold.
-/
import Derived.Test.YtnpehnfcccdcbaaGreatDoorIG
namespace Go.Proofs.YtnpehnfcccdcbaaGreatDoor
open Go.RowKit

def turnX (o t : Int) (x : Leaf) : Leaf := ⟨x.c, x.r, xr x.o o, xr x.t t⟩
def turnL (o t : Int) (L : List Leaf) : List Leaf := if o = 1 then (L.map (turnX o t)).reverse else L.map (turnX o t)
/-- The first k leaves are turned. -/
def mixT (o t : Int) (L : List Leaf) (k : Nat) : List Leaf := (L.take k).map (turnX o t) ++ L.drop k
theorem mixT_len (o t : Int) (L : List Leaf) (k : Nat) : (mixT o t L k).length = L.length := by
  unfold mixT; rw [List.length_append, List.length_map, List.length_take, List.length_drop]; omega
theorem mixT_at {o t : Int} {L : List Leaf} {k : Nat} (hk : k < L.length) (h : k < (mixT o t L k).length) : (mixT o t L k)[k] = L[k] := by
  have e : (mixT o t L k)[k]? = L[k]? := by
    unfold mixT
    rw [List.getElem?_append_right (by simp; omega)]
    simp [Nat.min_eq_left (Nat.le_of_lt hk)]
  rw [List.getElem?_eq_getElem h, List.getElem?_eq_getElem hk] at e
  exact Option.some.inj e
theorem mixT_step {o t : Int} {L : List Leaf} {k : Nat} (hk : k < L.length) : (mixT o t L k).set k (turnX o t L[k]) = mixT o t L (k + 1) := by
  unfold mixT
  rw [List.set_append_right _ _ (by simp; omega), List.length_map, List.length_take, Nat.min_eq_left (Nat.le_of_lt hk), Nat.sub_self, List.drop_eq_getElem_cons hk, List.set_cons_zero, List.take_succ_eq_append_getElem hk, List.map_append, List.append_assoc]
  rfl
theorem mixT_zero (o t : Int) (L : List Leaf) : mixT o t L 0 = L := by simp [mixT]
theorem mixT_end {o t : Int} {L : List Leaf} {k : Nat} (hk : ¬ k < L.length) : mixT o t L k = L.map (turnX o t) := by
  unfold mixT; rw [List.take_of_length_le (by omega), List.drop_of_length_le (by omega), List.append_nil]
theorem turnL_len (o t : Int) (L : List Leaf) : (turnL o t L).length = L.length := by unfold turnL; split <;> simp
def LeafBits (x : Leaf) : Prop := Bit x.o ∧ Bit x.t
theorem turnL_bits {o t : Int} {L : List Leaf} : ∀ x ∈ turnL o t L, LeafBits x := by
  intro x hx
  have hx : x ∈ L.map (turnX o t) := by unfold turnL at hx; split at hx <;> simpa using hx
  obtain ⟨y, _, rfl⟩ := List.mem_map.1 hx
  exact ⟨xr_bit _ _, xr_bit _ _⟩
set_option maxRecDepth 100000 in
set_option maxHeartbeats 2000000 in
theorem turn_any (q : Way) (a : Option Addr) (L : List Leaf) (c : Nat) (w : World) (hL : RowsAt 4 Leaf.l w a L) (hl : L.length ≤ 1000000) (hp : 0 < L.length) (hn : a = none → c = 0) (hb : ∀ x ∈ L, LeafBits x) (ho : Bit q.o) (ht : Bit q.t) :
    Calls Tryz.prog 70 #[.agg #[.int .i64 q.c, .int .i64 q.r, .int .i64 q.o, .int .i64 q.t], .slice a L.length c] w (ClonePost 4 93 Leaf.l w (turnL q.o q.t L)) := by
  obtain ⟨qc, qr, qo, qt⟩ := q
  have ho : Bit qo := ho
  have ht : Bit qt := ht
  have HB := Lib.hid hb; have HO := Lib.hid ho; have HT := Lib.hid ht
  clear hb ho ht
  go_enter Tryz.func70, Tryz.ntmps70
  go_wp2_with fail
  refine (cloneLeaf_any a L c _ (hL.alloc _) hl hn).mono ?_
  rintro e w1 ⟨v, rfl, hown, hb1⟩
  obtain ⟨b, cap, rfl, hbb, -⟩ := hown.form hp
  have hx1 := (BoxAt.new w #[.int .i64 qc, .int .i64 qr, .int .i64 qo, .int .i64 qt] 133).below hb1
  have hB1 := ((Below.refl w.heap.size w).alloc (Nat.le_refl _) (.cells #[.int .i64 qc, .int .i64 qr, .int .i64 qo, .int .i64 qt] 133)).trans (hb1.mono (B' := w.heap.size) (by simp))
  have hbb : w.heap.size + 1 ≤ b := by simpa using hbb
  have hown := hown.mono (B' := w.heap.size) (by simp)
  clear hb1 hL
  go_wp2_with fail
  go_loopw [10] (fun i wr => ∃ k : Nat, k ≤ L.length ∧ i = .int .i64 k ∧ OwnR 4 93 Leaf.l wr w.heap.size (.slice (some ⟨b, 0, none⟩) L.length cap) (mixT qo qt L k) ∧ BoxAt wr w.heap.size #[.int .i64 qc, .int .i64 qr, .int .i64 qo, .int .i64 qt] 133 ∧ Below w.heap.size w wr) (fun i _ => L.length - (intOf i).toNat)
  case atStart => exact ⟨0, Nat.zero_le _, rfl, by rw [mixT_zero]; exact hown, hx1, hB1⟩
  case round =>
    obtain ⟨k, hk, rfl, hr, hx, hB⟩ := hrel
    clear hown hx1 hB1
    have q0 := hx.cell 2; have q1 := hx.cell 3
    simp at q0 q1
    by_cases hlt : k < L.length
    · have hk1 : k < (mixT qo qt L k).length := by rw [mixT_len]; exact hlt
      obtain ⟨a', c', e1, hrow, -, -, -, -⟩ := hr.rows leaf_l
      injection e1 with e1 e2 e3
      subst e1 e3
      have E2 := Lib.hid e2; clear e2
      obtain ⟨_, e1, hb1, x0, x1, x2, x3⟩ := hrow.leaf (k := k) hk1
      cases e1
      rw [add0] at x0 x1 x2 x3
      rw [mixT_at hlt hk1] at x0 x1 x2 x3
      obtain ⟨x, ex⟩ : ∃ x, x = L[k] := ⟨_, rfl⟩
      rw [← ex] at x0 x1 x2 x3
      have HXB := Lib.hid (HB.out L[k] (List.getElem_mem hlt))
      rw [← ex] at HXB
      have f0 := fun j => hr.free j
      have EX := Lib.hid ex; clear ex
      have hxo := bits_xor HXB.out.1 HO.out
      have hxt := bits_xor HXB.out.2 HT.out
      have hkI : (k : Int) < (L.length : Int) := by omega
      go_wp2
      go_region
      go_wp2
      go_region
      go_wp2
      go_roundw
      case rel =>
        refine ⟨k + 1, by omega, by go_num, ?_, ?_, ?_⟩
        · have hz := (hr.put leaf_l E2.out hk1 (j := 2) (by decide) ⟨x.c, x.r, xr x.o qo, x.t⟩ (xr x.o qo) (by rw [mixT_at hlt hk1, ← EX.out]; rfl)).drew.put leaf_l (by rw [List.length_set]; exact E2.out) (by rw [List.length_set]; exact hk1) (j := 3) (by decide) ⟨x.c, x.r, xr x.o qo, xr x.t qt⟩ (xr x.t qt) (by rw [List.getElem_set_self]; rfl)
          rw [List.set_set] at hz
          have hs := mixT_step (o := qo) (t := qt) hlt
          rw [← EX.out] at hs
          rw [← hs]
          exact hz.drew
        · exact ((hx.set_other (p := ⟨b, k * 4 + 2, none⟩) (by show w.heap.size ≠ b; omega) _).drew.set_other (p := ⟨b, k * 4 + 3, none⟩) (by show w.heap.size ≠ b; omega) _).drew
        · exact ((hB.setCell (p := ⟨b, k * 4 + 2, none⟩) (by show w.heap.size ≤ b; omega) _).drew.setCell (p := ⟨b, k * 4 + 3, none⟩) (by show w.heap.size ≤ b; omega) _).drew
      case measure => simp [intOf]; omega
    · have he := mixT_end (o := qo) (t := qt) hlt
      rw [he] at hr
      have HR := Lib.hid hr; clear hr he
      by_cases h1 : qo = 1
      · have HE := Lib.hid (show turnL qo qt L = (L.map (turnX qo qt)).reverse by unfold turnL; rw [if_pos h1])
        subst h1
        have hml : (L.map (turnX 1 qt)).length = L.length := List.length_map _
        go_wp2_with fail
        have hrv := revLeaf_any w.heap.size b cap (L.map (turnX 1 qt)) wr (by rw [hml]; exact HR.out) (by rw [hml]; exact hl) (by rw [hml]; exact hp)
        rw [hml] at hrv
        refine hrv.mono ?_
        rintro e w2 ⟨rfl, ho2, hg2⟩
        go_wp2
        go_ret
        exact ⟨_, rfl, by rw [HE.out]; rw [hml] at ho2; exact ho2, hB.grown hg2 hB.size (fun k e => by cases e; omega)⟩
      · have HE := Lib.hid (show turnL qo qt L = L.map (turnX qo qt) by unfold turnL; rw [if_neg h1])
        have h1' : (qo == 1) = false := by simpa using h1
        clear h1
        go_wp2
        go_ret
        exact ⟨_, rfl, by rw [HE.out]; unfold OwnR; rw [List.length_map]; have := HR.out; unfold OwnR at this; rw [List.length_map] at this; exact this, hB⟩
end Go.Proofs.YtnpehnfcccdcbaaGreatDoor
