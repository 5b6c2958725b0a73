/-
  A sort is taken into what is known; nothing known; the test of a fount's frame.
-/
import Derived.Test.YtjkcomafgkabeaaDoorA5
namespace Go.Proofs.YtjkcomafgkabeaaDoor
open Go.RowKit Go.Maps

/-- Of what was there nothing has turned but the blocks b1 and b2. -/
structure But2 (w w' : World) (b1 b2 : Nat) : Prop where
  os : w'.os = w.os
  tape : w'.tape = w.tape
  output : w'.output = w.output
  size : w.heap.size ≤ w'.heap.size
  block : ∀ k, k < w.heap.size → k ≠ b1 → k ≠ b2 → w'.heap[k]? = w.heap[k]?
theorem But2.refl (w : World) (b1 b2 : Nat) : But2 w w b1 b2 := ⟨rfl, rfl, rfl, Nat.le_refl _, fun _ _ _ _ => rfl⟩
theorem But2.alloc {a w : World} {b1 b2 : Nat} (h : But2 a w b1 b2) (o : Obj) : But2 a (w.alloc o) b1 b2 :=
  ⟨h.os, h.tape, h.output, Nat.le_trans h.size (by simp), fun k hk h1 h2 => (Below.heap_alloc w o k (Nat.lt_of_lt_of_le hk h.size)).trans (h.block k hk h1 h2)⟩
theorem But2.grown1 {a w w' : World} {b1 b2 : Nat} (h : But2 a w b1 b2) (hg : w.grownBy w' (some b1)) : But2 a w' b1 b2 :=
  ⟨hg.os.trans h.os, hg.tape.trans h.tape, hg.output.trans h.output, Nat.le_trans h.size hg.size, fun k hk h1 h2 => (hg.block k (Nat.lt_of_lt_of_le hk h.size) (fun e => h1 (by injection e))).trans (h.block k hk h1 h2)⟩
theorem But2.grown2 {a w w' : World} {b1 b2 : Nat} (h : But2 a w b1 b2) (hg : w.grownBy w' (some b2)) : But2 a w' b1 b2 :=
  ⟨hg.os.trans h.os, hg.tape.trans h.tape, hg.output.trans h.output, Nat.le_trans h.size hg.size, fun k hk h1 h2 => (hg.block k (Nat.lt_of_lt_of_le hk h.size) (fun e => h2 (by injection e))).trans (h.block k hk h1 h2)⟩
theorem But2.below {w w' : World} {b1 b2 B : Nat} (h : But2 w w' b1 b2) (h1 : B ≤ b1) (h2 : B ≤ b2) (hB : B ≤ w.heap.size) : Below B w w' :=
  ⟨h.os, h.tape, h.output, h.size, fun k hk => h.block k (by omega) (by omega) (by omega)⟩
theorem But2.cell {w w' : World} {b1 b2 : Nat} (h : But2 w w' b1 b2) {b o : Nat} (hb : b < w.heap.size) (h1 : b ≠ b1) (h2 : b ≠ b2) : w'.cell? ⟨b, o, none⟩ = w.cell? ⟨b, o, none⟩ :=
  World.cell?_of_block (w := w) (h.block b hb h1 h2)
theorem But2.frozen {w w' : World} {b1 b2 : Nat} (h : But2 w w' b1 b2) {b o : Nat} (hb : b < w.heap.size) (h1 : b ≠ b1) (h2 : b ≠ b2) : w'.frozen? ⟨b, o, none⟩ = w.frozen? ⟨b, o, none⟩ :=
  World.frozen?_of_block (w := w) (h.block b hb h1 h2)

theorem grown_cell {W w' : World} {g b o : Nat} (h : W.grownBy w' (some g)) (hb : b < W.heap.size) (hne : b ≠ g) : w'.cell? ⟨b, o, none⟩ = W.cell? ⟨b, o, none⟩ :=
  World.cell?_of_block (w := W) (h.block b hb (fun e => hne (by injection e)))
theorem ownsMap_grown {w w' : World} {b g n : Nat} {k e : TypeId} {D : DataW Unit} (h : w.ownsMap Tryd.prog k (plainElem Tryd.prog e) b n D) (hg : w.grownBy w' (some g)) (hne : b ≠ g) : w'.ownsMap Tryd.prog k (plainElem Tryd.prog e) b n D :=
  h.kept hg (fun e => hne (by injection e))
theorem wf_nat (n : Nat) (h : n < 9223372036854775808) : (Lit.int .i64 (n : Int)).wf = true := WalkArith.wf_i64 (by omega)

theorem nameErr_zero {l : List TS} {s : ByteArray} (h : l.any (sameName s) = false) (h1 : isNameB s = true) : nameErr l s = 0 := nameErr_ok h1 h

set_option maxRecDepth 100000 in
set_option maxHeartbeats 1000000 in
theorem add_any (b1 b2 : Nat) (l : List TS) (x : TS) (w : World) (hs1 : x.name.size ≤ maxLen) (hs2 : x.text.size ≤ maxLen) (hK : KnownAt w b1 b2 l) (he : sortErr l x = 0) (hlen : l.length < 1000) :
    Calls Tryd.prog 98 #[.agg #[.map (some b1), .map (some b2)], .agg #[.string x.name, .string x.text, .int .i64 x.kind, .int .i64 x.width]] w fun e w' => e = .returned (.tuple #[]) ∧ KnownAt w' b1 b2 (l ++ [x]) ∧ But2 w w' b1 b2 := by
  have hlt := hK.lt
  obtain ⟨hne, D1, D2, ho1, ho2, hi1, hz1, hi2, hx0⟩ := hK
  obtain ⟨e1, e2, e3, e4, e5⟩ := sortErr_zero he
  obtain ⟨f1, f2, f3⟩ := textErr_zero e5
  have hkey1 := WideMaps.keyOf_string_mk (P := Tryd.prog) Tryd.underlying9 hs1
  have hkey2 := WideMaps.keyOf_string_mk (P := Tryd.prog) Tryd.underlying9 hs2
  have hml : l.length < maxLen := by unfold maxLen; omega
  have hwf := wf_nat l.length (by omega)
  have hi1' : IdxOk (D1.put (.string x.name.data.toList) (.lit (.int .i64 l.length))) (l ++ [x]) sameName := hi1.add (fun s => rfl) e2
  have hz1' : Maps.size (D1.put (.string x.name.data.toList) (.lit (.int .i64 l.length))) = (l ++ [x]).length := by rw [hi1.size_add e2, hz1]; simp
  have HI1 := Lib.hid hi1'; have HZ1 := Lib.hid hz1'; clear hi1' hz1' hi1
  have HZ := Lib.hid hz1; clear hz1
  have HL := Lib.hid hml; clear hml
  have e3k := e3
  clear e1 e2 e3 e4 he
  by_cases hk : x.kind = 3
  · have hi2' : IdxOk D2 (l ++ [x]) sameText := hi2.skip (fun s => by unfold sameText; rw [hk]; rfl)
    have hx1 : ∀ y ∈ l ++ [x], y.kind ≠ 3 → 0 < y.text.size := by
      intro y hy hy3
      rcases List.mem_append.1 hy with h | h
      · exact hx0 y h hy3
      · rw [List.mem_singleton.1 h] at hy3; exact absurd hk hy3
    have HI2 := Lib.hid hi2'; clear hi2' hi2
    have HX := Lib.hid hx1; clear hx1 hx0
    have hk3 : (x.kind != 3) = false := by simpa using hk
    clear hk f1 f2 f3 e5 hkey2
    go_enter Tryd.func98, Tryd.ntmps98
    go_wp2_with (first
      | (at_len; refine wpList_len_own _ rfl _ 95 rfl 9 3 Tryd.underlying95 _ b1 _ D1 rfl ((ho1.alloc _).alloc _) ?_; rw [HZ.out])
      | (at_mapUpdate; refine wpList_mapUpdate_own _ rfl _ _ _ 95 rfl 9 3 lawS Tryd.underlying95 _ b1 l.length D1 rfl ((ho1.alloc _).alloc _) HL.out _ _ _ rfl rfl hkey1 _ [] (plainElem_int Tryd.underlying3 hwf) ?_; intro w1 hown1 hgrow1; have q2 := (grown_cell hgrow1 (o := 2) (show w.heap.size + 1 < _ by simp) (by omega)).trans (show _ = some (Value.int .i64 x.kind) by go_simp); have HG := Lib.hid hgrow1; have HO := Lib.hid hown1; clear hgrow1 hown1))
    go_end0
    refine ⟨rfl, ⟨hne, _, D2, by simpa using HO.out, ?_, HI1.out, HZ1.out, HI2.out, HX.out⟩, (((But2.refl w b1 b2).alloc _).alloc _).grown1 HG.out⟩
    exact (ownsMap_grown ((ho2.alloc _).alloc _) HG.out (by omega)).mono (by simp)
  · have hk3 : (x.kind != 3) = true := by simpa using hk
    have hsame : ∀ s, sameText s x = (x.text.toList == s.toList) := fun s => by unfold sameText; rw [hk3]; rfl
    have hi2' : IdxOk (D2.put (.string x.text.data.toList) (.lit (.int .i64 l.length))) (l ++ [x]) sameText := hi2.add hsame (f3 hk)
    have hx1 : ∀ y ∈ l ++ [x], y.kind ≠ 3 → 0 < y.text.size := by
      intro y hy hy3
      rcases List.mem_append.1 hy with h | h
      · exact hx0 y h hy3
      · rw [List.mem_singleton.1 h]
        have h1 := (inB_iff.1 f1).1
        have h2 : 1 ≤ leastOf x.kind := by
          have := inB_iff.1 e3k
          unfold leastOf
          split
          · omega
          · rw [if_pos (by omega)]; omega
        omega
    have HI2 := Lib.hid hi2'; clear hi2' hi2 hsame
    have HX := Lib.hid hx1; clear hx1 hx0
    clear hk f1 f2 f3 e5
    go_enter Tryd.func98, Tryd.ntmps98
    go_wp2_with (first
      | (at_len; refine wpList_len_own _ rfl _ 95 rfl 9 3 Tryd.underlying95 _ b1 _ D1 rfl ((ho1.alloc _).alloc _) ?_; rw [HZ.out])
      | (at_mapUpdate; refine wpList_mapUpdate_own _ rfl _ _ _ 95 rfl 9 3 lawS Tryd.underlying95 _ b1 l.length D1 rfl ((ho1.alloc _).alloc _) HL.out _ _ _ rfl rfl hkey1 _ [] (plainElem_int Tryd.underlying3 hwf) ?_; intro w1 hown1 hgrow1; have q2 := (grown_cell hgrow1 (o := 2) (show w.heap.size + 1 < _ by simp) (by omega)).trans (show _ = some (Value.int .i64 x.kind) by go_simp); have q1 := (grown_cell hgrow1 (o := 1) (show w.heap.size + 1 < _ by simp) (by omega)).trans (show _ = some (Value.string x.text) by go_simp); have q3 := (grown_cell hgrow1 (o := 1) (show w.heap.size < _ by simp <;> omega) (by omega)).trans (show _ = some (Value.map (some b2)) by go_simp); have HG := Lib.hid hgrow1; have HO := Lib.hid hown1; clear hgrow1 hown1)
      | (at_mapUpdate; refine wpList_mapUpdate_own _ rfl _ _ _ 95 rfl 9 3 lawS Tryd.underlying95 _ b2 l.length D2 rfl (ownsMap_grown ((ho2.alloc _).alloc _) HG.out (by omega)) HL.out _ _ _ rfl rfl hkey2 _ [] (plainElem_int Tryd.underlying3 hwf) ?_; intro w2 hown2 hgrow2))
    go_end0
    refine ⟨rfl, ⟨hne, _, _, ?_, by simpa using hown2, HI1.out, HZ1.out, HI2.out, HX.out⟩, ((((But2.refl w b1 b2).alloc _).alloc _).grown1 HG.out).grown2 hgrow2⟩
    have := ownsMap_grown HO.out hgrow2 hne
    simpa using this
end Go.Proofs.YtjkcomafgkabeaaDoor
