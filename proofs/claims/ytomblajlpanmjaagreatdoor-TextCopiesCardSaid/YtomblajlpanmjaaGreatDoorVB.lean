/-
  The piece of a word between two places, and where it is barred.
-/
import Derived.Test.YtomblajlpanmjaaGreatDoorVA
namespace Go.Proofs.YtomblajlpanmjaaGreatDoor
open Go.RowKit Go.Maps

/-- The places at which a word is barred, by the rules' bars. -/
def barsOf (r : RU) (s : ByteArray) : List Int := lookE (entsN barS r.bs.l r.bs.l.length) s.data.toList
def Places (l : List Int) : Prop := l.length ≤ 60 ∧ ∀ x ∈ l, 0 ≤ x ∧ x ≤ 59
theorem cutAt_places {m : UInt8} {l : List UInt8} {x : List UInt8 × List Int} (h : cutAt m l = some x) : Places x.2 := by
  unfold cutAt at h
  by_cases c1 : 59 < l.length
  · rw [if_pos c1] at h; cases h
  · rw [if_neg c1] at h
    by_cases c2 : (splitOn m l).any List.isEmpty = true
    · rw [if_pos c2] at h; cases h
    · rw [if_neg c2] at h
      injection h with h
      rw [← h]
      have h1 := splitOn_len m l
      refine ⟨by show (placesOf 0 (splitOn m l)).length ≤ 60; rw [placesOf_len]; omega, fun y hy => ?_⟩
      obtain ⟨k, hk, rfl⟩ := List.getElem_of_mem hy
      rw [placesOf_len] at hk
      have h2 := placesOf_at (splitOn m l) 0 k (by omega)
      have h3 := sumL_le (splitOn m l) (k + 1)
      have hk2 : k < (placesOf 0 (splitOn m l)).length := by rw [placesOf_len]; omega
      rw [List.getElem?_eq_getElem hk2] at h2
      injection h2 with h2
      have hne : 0 < (splitOn m l).length := List.length_pos_iff.2 (splitOn_ne m l)
      show 0 ≤ (placesOf 0 (splitOn m l))[k] ∧ _
      rw [h2]; omega
theorem entO_places {y : Sty} {t : ByteArray} {x : List UInt8 × List Int} (h : entO y t = some x) : Places x.2 := by
  unfold entO at h
  cases hc : cutAt y.m t.data.toList with
  | none => rw [hc] at h; cases h
  | some z =>
    rw [hc] at h
    dsimp only at h
    split at h
    · injection h with h; rw [← h]; exact cutAt_places hc
    · cases h
theorem lookE_places {E : List (List UInt8 × List Int)} (h : ∀ p ∈ E, Places p.2) (key : List UInt8) : Places (lookE E key) := by
  have : ∀ (E : List (List UInt8 × List Int)) (l : List Int), (∀ p ∈ E, Places p.2) → Places l → Places (E.foldl (fun acc p => if p.1 = key then p.2 else acc) l) := by
    intro E
    induction E with
    | nil => intro l _ hl; exact hl
    | cons p E ih =>
      intro l hE hl
      rw [List.foldl_cons]
      refine ih _ (fun q hq => hE q (by simp [hq])) ?_
      split
      · exact hE p (by simp)
      · exact hl
  exact this E [] h ⟨by simp, fun x hx => by cases hx⟩
theorem entsN_places (y : Sty) (l : List ByteArray) (k : Nat) : ∀ p ∈ entsN y l k, Places p.2 := by
  intro p hp
  unfold entsN at hp
  obtain ⟨j, _, rfl⟩ := List.mem_map.1 hp
  unfold entG
  cases h : entO y (l.getD j noTx) with
  | none => exact ⟨by simp, fun x hx => by cases hx⟩
  | some x => exact entO_places h
theorem barsOf_places (r : RU) (s : ByteArray) : Places (barsOf r s) := lookE_places (entsN_places _ _ _) _
/-- A piece: the fount, the bytes, the places. -/
structure PC where
  f : FT
  a : Option Addr
  c : Nat
  t : ByteArray
  ba : Option Addr
  bc : Nat
  bl : List Int
def PC.cells (p : PC) : Array Value := #[.string p.f.name, .int .i64 p.f.body, .slice p.a p.f.sorts.length p.c, .string p.t, .slice p.ba p.bl.length p.bc]
structure PC.at_ (p : PC) (w : World) : Prop where
  sorts : SortsAt w p.a p.f.sorts
  ints : IntsAt w p.ba p.bl
  pl : p.bl.length ≤ 60 ∧ ∀ x ∈ p.bl, -100 ≤ x ∧ x ≤ 100
theorem PC.at_.below {p : PC} {w w' : World} (h : p.at_ w) (hb : Below w.heap.size w w') : p.at_ w' := ⟨h.sorts.below hb, h.ints.below hb, h.pl⟩
def minusL (l : List Int) (d : Int) : List Int := l.map (· - d)
theorem minusL_len (l : List Int) (d : Int) : (minusL l d).length = l.length := List.length_map ..
theorem minusL_take {l : List Int} {d : Int} {k : Nat} (h : k < l.length) : minusL (l.take (k + 1)) d = minusL (l.take k) d ++ [l.getD k 0 - d] := by
  unfold minusL
  rw [List.take_succ_eq_append_getElem h, List.map_append, List.getD_eq_getElem?_getD, List.getElem?_eq_getElem h]; rfl
def PiecePost (w : World) (f : FT) (a : Option Addr) (c : Nat) (t : ByteArray) (l : List Int) (e : Ending) (w' : World) : Prop :=
  Below w.heap.size w w' ∧ ∃ ba bc, e = .returned (.agg (PC.mk f a c t ba bc l).cells) ∧ IntsAt w' ba l
/-- The boxes of the call, as they lie while it goes on. -/
structure PRel (w : World) (f : FT) (a : Option Addr) (c : Nat) (t : ByteArray) (v : Value) (l : List Int) (wr : World) : Prop where
  b1 : wr.heap[w.heap.size + 1]? = some (.cells #[.string ⟨#[]⟩, .int .i64 0, .slice none 0 0, .string ⟨#[]⟩, .slice none 0 0] 175 (0, 0))
  b2 : wr.heap[w.heap.size + 2]? = some (.cells #[.string f.name, .int .i64 f.body, .slice a f.sorts.length c, .string t, v] 175 (0, 0))
  row : IRow wr (w.heap.size + 3) v l
  low : Below w.heap.size w wr
section
variable {w wr wr' : World} {f : FT} {a : Option Addr} {c : Nat} {t : ByteArray} {v : Value} {l : List Int}
theorem PRel.lo (h : PRel w f a c t v l wr) : w.heap.size + 3 ≤ wr.heap.size := by
  have := h.b2
  rcases Nat.lt_or_ge (w.heap.size + 2) wr.heap.size with h1 | h1
  · omega
  · rw [Array.getElem?_eq_none h1] at this; cases this
theorem PRel.z0 (h : PRel w f a c t v l wr) : wr.cell? ⟨w.heap.size + 1, 0, none⟩ = some (.string ⟨#[]⟩) := by rw [cell_of_row wr _ 0 _ _ (0, 0) h.b1]; rfl
theorem PRel.z1 (h : PRel w f a c t v l wr) : wr.cell? ⟨w.heap.size + 1, 1, none⟩ = some (.int .i64 0) := by rw [cell_of_row wr _ 1 _ _ (0, 0) h.b1]; rfl
theorem PRel.z2 (h : PRel w f a c t v l wr) : wr.cell? ⟨w.heap.size + 1, 2, none⟩ = some (.slice none 0 0) := by rw [cell_of_row wr _ 2 _ _ (0, 0) h.b1]; rfl
theorem PRel.z3 (h : PRel w f a c t v l wr) : wr.cell? ⟨w.heap.size + 1, 3, none⟩ = some (.string ⟨#[]⟩) := by rw [cell_of_row wr _ 3 _ _ (0, 0) h.b1]; rfl
theorem PRel.z4 (h : PRel w f a c t v l wr) : wr.cell? ⟨w.heap.size + 1, 4, none⟩ = some (.slice none 0 0) := by rw [cell_of_row wr _ 4 _ _ (0, 0) h.b1]; rfl
theorem PRel.p0 (h : PRel w f a c t v l wr) : wr.cell? ⟨w.heap.size + 2, 0, none⟩ = some (.string f.name) := by rw [cell_of_row wr _ 0 _ _ (0, 0) h.b2]; rfl
theorem PRel.p1 (h : PRel w f a c t v l wr) : wr.cell? ⟨w.heap.size + 2, 1, none⟩ = some (.int .i64 f.body) := by rw [cell_of_row wr _ 1 _ _ (0, 0) h.b2]; rfl
theorem PRel.p2 (h : PRel w f a c t v l wr) : wr.cell? ⟨w.heap.size + 2, 2, none⟩ = some (.slice a f.sorts.length c) := by rw [cell_of_row wr _ 2 _ _ (0, 0) h.b2]; rfl
theorem PRel.p3 (h : PRel w f a c t v l wr) : wr.cell? ⟨w.heap.size + 2, 3, none⟩ = some (.string t) := by rw [cell_of_row wr _ 3 _ _ (0, 0) h.b2]; rfl
theorem PRel.p4 (h : PRel w f a c t v l wr) : wr.cell? ⟨w.heap.size + 2, 4, none⟩ = some v := by rw [cell_of_row wr _ 4 _ _ (0, 0) h.b2]; rfl
theorem PRel.fz1 (h : PRel w f a c t v l wr) (j : Nat) : wr.frozen? ⟨w.heap.size + 1, j, none⟩ = false := by simp [World.frozen?, h.b1]
theorem PRel.fz2 (h : PRel w f a c t v l wr) (j : Nat) : wr.frozen? ⟨w.heap.size + 2, j, none⟩ = false := by simp [World.frozen?, h.b2]
theorem PRel.grown {v' : Value} {l' : List Int} (h : PRel w f a c t v l wr) (hb : Below (w.heap.size + 3) wr wr') (ho : IRow wr' (w.heap.size + 3) v' l') : PRel w f a c t v' l' (wr'.setCell ⟨w.heap.size + 2, 4, none⟩ v') := by
  have hlo := h.lo
  have h1 := (hb.block (w.heap.size + 1) (by omega)).trans h.b1
  have h2 := (hb.block (w.heap.size + 2) (by omega)).trans h.b2
  refine ⟨(Below.heap_setCell _ _ _ _ (by show w.heap.size + 1 ≠ w.heap.size + 2; omega)).trans h1, ?_, ho.set (by show w.heap.size + 2 < _; omega) _, (h.low.trans (hb.mono (by omega))).setCell (p := ⟨w.heap.size + 2, 4, none⟩) (Nat.le_add_right _ 2) _⟩
  have h3 := pat_set h2 4 v'
  rw [h3]; rfl
end

theorem cell_far5 {w : World} {ad : Addr} {b k : Nat} {u0 u1 u2 u3 u4 : Value} (h : b < ad.block) : (((((w.setCell ⟨b, 0, none⟩ u0).setCell ⟨b, 1, none⟩ u1).setCell ⟨b, 2, none⟩ u2).setCell ⟨b, 3, none⟩ u3).setCell ⟨b, 4, none⟩ u4).cell? (ad.add k) = w.cell? (ad.add k) := by
  have hne : ∀ j : Nat, (ad.add k) ≠ ⟨b, j, none⟩ := fun j e => by have := congrArg Addr.block e; rw [add_block] at this; simp at this; omega
  rw [World.cell?_setCell_other _ _ _ _ (fun e => hne _ e.symm), World.cell?_setCell_other _ _ _ _ (fun e => hne _ e.symm), World.cell?_setCell_other _ _ _ _ (fun e => hne _ e.symm), World.cell?_setCell_other _ _ _ _ (fun e => hne _ e.symm), World.cell?_setCell_other _ _ _ _ (fun e => hne _ e.symm)]

set_option maxRecDepth 100000 in
set_option maxHeartbeats 400000 in
theorem pieceOf_any (f : FT) (a : Option Addr) (c : Nat) (r : RU) (g b1 b2 base : Nat) (s : ByteArray) (i j : Nat) (w : World) (hij : i ≤ j) (hj : j ≤ s.size) (hs : s.size ≤ 30) (hB : BookAt w base r g b1 b2) :
    Calls Tryz.prog 92 #[setV f a c r g b1 b2, .string s, .int .i64 i, .int .i64 j] w (PiecePost w f a c (s.extract i j) (minusL (barsOf r s) i)) := by
  have hbp := barsOf_places r s
  obtain ⟨_, M, hM, hE⟩ := hB.bars
  obtain ⟨ab, cb, hget, hI, hcb, hab⟩ := hE.look s.data.toList
  have hsz : s.size ≤ maxLen := by unfold maxLen; omega
  have hi1 : (i : Int) ≤ (j : Int) := by omega
  have hj1 : (j : Int) ≤ (s.size : Int) := by omega
  change mapGet M s.data.toList (.slice none 0 0) = .slice ab (barsOf r s).length cb at hget
  change IntsAt w ab (barsOf r s) at hI
  generalize barsOf r s = bl at hbp hget hI
  have HG := Lib.hid hget
  clear hget hE hcb hab hB
  have k5 : ((((w.alloc (.cells #[.string f.name, .int .i64 f.body, .slice a f.sorts.length c, .slice (some ⟨g, 0, none⟩) r.ps.l.length r.ps.l.length, .map (some b1), .map (some b2), .int .i64 r.left, .int .i64 r.right] 150)).alloc (.cells #[.string ⟨#[]⟩, .int .i64 0, .slice none 0 0, .string ⟨#[]⟩, .slice none 0 0] 175)).alloc (.cells #[.string f.name, .int .i64 f.body, .slice a f.sorts.length c, .string (s.extract i j), .slice none 0 0] 175)).drew).cell? ⟨w.heap.size, 5, none⟩ = some (.map (some b2)) := by
    show ((((w.alloc (.cells #[.string f.name, .int .i64 f.body, .slice a f.sorts.length c, .slice (some ⟨g, 0, none⟩) r.ps.l.length r.ps.l.length, .map (some b1), .map (some b2), .int .i64 r.left, .int .i64 r.right] 150)).alloc (.cells #[.string ⟨#[]⟩, .int .i64 0, .slice none 0 0, .string ⟨#[]⟩, .slice none 0 0] 175)).alloc (.cells #[.string f.name, .int .i64 f.body, .slice a f.sorts.length c, .string (s.extract i j), .slice none 0 0] 175))).cell? ⟨w.heap.size, 5, none⟩ = _
    rw [World.cell?_alloc_old _ _ _ (by simp; omega), World.cell?_alloc_old _ _ _ (by simp), cell_of_row _ w.heap.size 5 _ _ (0, 0) (heap_alloc_new w _)]; rfl
  have hb0 : Below w.heap.size w ((((w.alloc (.cells #[.string f.name, .int .i64 f.body, .slice a f.sorts.length c, .slice (some ⟨g, 0, none⟩) r.ps.l.length r.ps.l.length, .map (some b1), .map (some b2), .int .i64 r.left, .int .i64 r.right] 150)).alloc (.cells #[.string ⟨#[]⟩, .int .i64 0, .slice none 0 0, .string ⟨#[]⟩, .slice none 0 0] 175)).alloc (.cells #[.string f.name, .int .i64 f.body, .slice a f.sorts.length c, .string (s.extract i j), .slice none 0 0] 175)).drew) := ((((Below.refl w.heap.size w).alloc (Nat.le_refl _) _).alloc (by simp) _).alloc (by simp; omega) _).drew
  have P3 : PRel w f a c (s.extract i j) (.slice none 0 0) [] ((((w.alloc (.cells #[.string f.name, .int .i64 f.body, .slice a f.sorts.length c, .slice (some ⟨g, 0, none⟩) r.ps.l.length r.ps.l.length, .map (some b1), .map (some b2), .int .i64 r.left, .int .i64 r.right] 150)).alloc (.cells #[.string ⟨#[]⟩, .int .i64 0, .slice none 0 0, .string ⟨#[]⟩, .slice none 0 0] 175)).alloc (.cells #[.string f.name, .int .i64 f.body, .slice a f.sorts.length c, .string (s.extract i j), .slice none 0 0] 175)).drew) := by
    refine ⟨?_, ?_, IRow.nil _ _, hb0⟩
    · show ((((w.alloc (.cells #[.string f.name, .int .i64 f.body, .slice a f.sorts.length c, .slice (some ⟨g, 0, none⟩) r.ps.l.length r.ps.l.length, .map (some b1), .map (some b2), .int .i64 r.left, .int .i64 r.right] 150)).alloc (.cells #[.string ⟨#[]⟩, .int .i64 0, .slice none 0 0, .string ⟨#[]⟩, .slice none 0 0] 175)).alloc (.cells #[.string f.name, .int .i64 f.body, .slice a f.sorts.length c, .string (s.extract i j), .slice none 0 0] 175))).heap[w.heap.size + 1]? = _
      rw [heap_alloc_old _ _ (by simp)]
      have := heap_alloc_new (w.alloc (.cells #[.string f.name, .int .i64 f.body, .slice a f.sorts.length c, .slice (some ⟨g, 0, none⟩) r.ps.l.length r.ps.l.length, .map (some b1), .map (some b2), .int .i64 r.left, .int .i64 r.right] 150)) (.cells #[.string ⟨#[]⟩, .int .i64 0, .slice none 0 0, .string ⟨#[]⟩, .slice none 0 0] 175)
      rwa [show (w.alloc (.cells #[.string f.name, .int .i64 f.body, .slice a f.sorts.length c, .slice (some ⟨g, 0, none⟩) r.ps.l.length r.ps.l.length, .map (some b1), .map (some b2), .int .i64 r.left, .int .i64 r.right] 150)).heap.size = w.heap.size + 1 by simp] at this
    · show ((((w.alloc (.cells #[.string f.name, .int .i64 f.body, .slice a f.sorts.length c, .slice (some ⟨g, 0, none⟩) r.ps.l.length r.ps.l.length, .map (some b1), .map (some b2), .int .i64 r.left, .int .i64 r.right] 150)).alloc (.cells #[.string ⟨#[]⟩, .int .i64 0, .slice none 0 0, .string ⟨#[]⟩, .slice none 0 0] 175)).alloc (.cells #[.string f.name, .int .i64 f.body, .slice a f.sorts.length c, .string (s.extract i j), .slice none 0 0] 175))).heap[w.heap.size + 2]? = _
      have := heap_alloc_new ((w.alloc (.cells #[.string f.name, .int .i64 f.body, .slice a f.sorts.length c, .slice (some ⟨g, 0, none⟩) r.ps.l.length r.ps.l.length, .map (some b1), .map (some b2), .int .i64 r.left, .int .i64 r.right] 150)).alloc (.cells #[.string ⟨#[]⟩, .int .i64 0, .slice none 0 0, .string ⟨#[]⟩, .slice none 0 0] 175)) (.cells #[.string f.name, .int .i64 f.body, .slice a f.sorts.length c, .string (s.extract i j), .slice none 0 0] 175)
      rwa [show ((w.alloc (.cells #[.string f.name, .int .i64 f.body, .slice a f.sorts.length c, .slice (some ⟨g, 0, none⟩) r.ps.l.length r.ps.l.length, .map (some b1), .map (some b2), .int .i64 r.left, .int .i64 r.right] 150)).alloc (.cells #[.string ⟨#[]⟩, .int .i64 0, .slice none 0 0, .string ⟨#[]⟩, .slice none 0 0] 175)).heap.size = w.heap.size + 2 by simp] at this
  have hM3 := hM.below hb0
  have K5 := Lib.hid k5; have HP3 := Lib.hid P3; have HM3 := Lib.hid hM3
  have HI0 := Lib.hid hI
  clear k5 hb0 P3 hM3 hM hI
  unfold setV
  go_enter Tryz.func92, Tryz.ntmps92
  go_wp2_with fail
  go_region
  have k5 := K5.out; have P3 := HP3.out; have hM3 := HM3.out
  clear K5 HP3 HM3
  generalize hW3 : (((w.alloc (.cells #[.string f.name, .int .i64 f.body, .slice a f.sorts.length c, .slice (some ⟨g, 0, none⟩) r.ps.l.length r.ps.l.length, .map (some b1), .map (some b2), .int .i64 r.left, .int .i64 r.right] 150)).alloc (.cells #[.string ⟨#[]⟩, .int .i64 0, .slice none 0 0, .string ⟨#[]⟩, .slice none 0 0] 175)).alloc (.cells #[.string f.name, .int .i64 f.body, .slice a f.sorts.length c, .string (s.extract i j), .slice none 0 0] 175)).drew = W3 at k5 P3 hM3 ⊢
  generalize hT0 : s.extract i j = t at P3 hW3 ⊢
  have HT0 := Lib.hid hT0
  clear hW3 hT0
  go_wp2_with (at_lookup; refine wpList_mapAt _ rfl _ _ _ rfl 9 63 Tryz.underlying9 Tryz.underlying107 (.slice none 0 0) zeroInts b2 M rfl hM3 s rfl hsz ?_; rw [HG.out])
  go_loopw [25] (fun v25 wr => ∃ (k : Nat) (v : Value), k ≤ bl.length ∧ v25 = .int .i64 k ∧ PRel w f a c t v (minusL (bl.take k) i) wr) (fun v25 _ => bl.length - (intOf v25).toNat)
  case atStart => exact ⟨0, _, Nat.zero_le _, rfl, by simpa [minusL] using P3⟩
  case round =>
    obtain ⟨k, v, hk, rfl, P⟩ := hrel
    clear P3 hM3 k5
    have hI := HI0.out.below P.low
    have hPlo := P.lo
    by_cases hlt : k < bl.length
    · obtain ⟨_, e1, hp1, hc1⟩ := hI.at_ hlt
      cases e1
      have hkl : (k : Int) < (bl.length : Int) := by omega
      have hbl60 : (bl.length : Int) ≤ 60 := by have := hbp.1; omega
      have hmem : bl.getD k 0 ∈ bl := by rw [List.getD_eq_getElem?_getD, List.getElem?_eq_getElem hlt]; exact List.getElem_mem hlt
      obtain ⟨hx1, hx2⟩ := hbp.2 _ hmem
      have HT := Lib.hid (minusL_take (d := (i : Int)) hlt)
      have hln : (minusL (bl.take k) (i : Int)).length ≤ 1000000 := by rw [minusL_len]; simp; have := hbp.1; omega
      have hrow := P.row
      have p4 := P.p4
      have HP := Lib.hid P
      generalize bl.getD k 0 = x at hc1 hx1 hx2 HT
      clear hmem P
      obtain ⟨a9, d9, hv9, _⟩ := hrow.shape
      generalize minusL (bl.take k) (i : Int) = lk at hrow HT hln HP hv9
      subst hv9
      go_wp2_with (at_builtin; refine wpList_app1 wr _ rfl _ _ rfl (w.heap.size + 3) _ lk rfl hrow rfl hln hPlo ?_; intro g9 c9 w9 hrow9 hgrow9 hb9; have hfz := HP.out.fz2; have z9 := (hb9.cell (p := ⟨w.heap.size + 2, 4, none⟩) (by show w.heap.size + 2 < _; omega)).trans HP.out.p4; have y9 := (hb9.frozen (p := ⟨w.heap.size + 2, 4, none⟩) (by show w.heap.size + 2 < _; omega)).trans (HP.out.fz2 4))
      have P9 := HP.out.grown hb9 (v' := .slice (some ⟨g9, 0, none⟩) (lk.length + 1) c9) hrow9
      have HP9 := Lib.hid P9
      clear P9 HP hfz z9 y9
      go_roundw
      case rel => exact ⟨k + 1, _, by omega, by go_num, by rw [HT.out]; exact HP9.out⟩
      case measure => simp [intOf]; omega
    · obtain rfl : k = bl.length := by omega
      rw [List.take_length] at P
      have p0 := P.p0; have p1 := P.p1; have p2 := P.p2; have p3 := P.p3; have p4 := P.p4
      have z0 := P.z0; have z1 := P.z1; have z2 := P.z2; have z3 := P.z3; have z4 := P.z4
      have hfz := P.fz1
      obtain ⟨a9, d9, hv9, hI9, hd9, ha9, hA9⟩ := P.row.shape2
      subst hv9
      rw [minusL_len] at *
      go_wp2
      obtain rfl := HT0.out
      refine bodyPost_ret (v := .agg (PC.mk f a c (s.extract i j) a9 d9 (minusL bl i)).cells) ?_ rfl ?_
      · simp [results, Tryz.results92, go_sem, PC.cells, z0, z1, z2, z3, z4, minusL_len]
      · refine ⟨((((P.low.setCell (Nat.le_add_right _ 1) _).setCell (Nat.le_add_right _ 1) _).setCell (Nat.le_add_right _ 1) _).setCell (Nat.le_add_right _ 1) _).setCell (Nat.le_add_right _ 1) _, a9, d9, rfl, ?_⟩
        intro k hk
        obtain ⟨ad, e, hl9, hc9⟩ := hI9 k hk
        have hbk := hA9 ad e
        exact ⟨ad, e, by simpa [World.setCell] using hl9, by
          rw [cell_far5 (by omega)]; exact hc9⟩
end Go.Proofs.YtomblajlpanmjaaGreatDoor
