/-
  The reader of lines: its state in memory; the end of a word.
-/
import Derived.Test.YtomblajlpanmjaaGreatDoorW2
import Derived.Deep.RegionLaw
import Derived.Deep.AppendLies
import Derived.Lib.AppendStr
import Derived.Laws.IdiomStrings
namespace Go.Proofs.YtomblajlpanmjaaGreatDoor
open Go.RowKit Go.Maps Go.Shelf

def byV (l : List UInt8) : List Value := l.map fun b => Value.int .u8 b.toNat
theorem info_str : (Tryz.prog.info? 9).map (fun i => (i.zero, i.size, i.bytes)) = some (some (.string ByteArray.empty), 1, 16) := by kernel_rfl
theorem info_u8 : (Tryz.prog.info? 5).map (fun i => (i.zero, i.size, i.bytes)) = some (some (.int .u8 0), 1, 1) := by kernel_rfl
section
variable {w w' : World} {base e n size : Nat} {v : Value} {xs : List Value}
theorem own_put (h : w.ownsRow base e size v n xs) {b : Nat} {T : TypeId} {cs : Array Value} {fr : Nat × Nat} (hb : w.heap[b]? = some (.cells cs T fr)) (hne : T ≠ e) (j : Nat) (u : Value) : (w.setCell ⟨b, j, none⟩ u).ownsRow base e size v n xs := by
  rcases h.2 with ⟨e1, e2⟩ | ⟨g, cap, cur, e1, e2, e3, e4⟩
  · exact ⟨h.1, Or.inl ⟨e1, e2⟩⟩
  · refine ⟨h.1, Or.inr ⟨g, cap, cur, e1, e2, (Below.heap_setCell _ _ _ _ (fun eb => ?_)).trans e3, e4⟩⟩
    subst eb
    rw [hb] at e3
    injection e3 with e3
    injection e3 with _ e5
    exact hne e5
theorem own_apart {base2 e2 n2 size2 : Nat} {v2 : Value} {xs2 : List Value} (h : w.ownsRow base e size v n xs) (h2 : w.ownsRow base2 e2 size2 v2 n2 xs2) (hne : e ≠ e2) : v.ownBlock = none ∨ v.ownBlock ≠ v2.ownBlock := by
  rcases h.2 with ⟨e1, _⟩ | ⟨g, cap, cur, e1, _, e3, _⟩
  · left; rw [e1]; rfl
  · right
    rcases h2.2 with ⟨f1, _⟩ | ⟨g2, cap2, cur2, f1, _, f3, _⟩
    · rw [e1, f1]; intro h; cases h
    · rw [e1, f1]
      intro hh
      have : g = g2 := by simpa [Value.ownBlock] using hh
      subst this
      rw [e3] at f3
      injection f3 with f3
      injection f3 with _ f5
      exact hne f5
theorem own_off (h : w.ownsRow base e size v n xs) {b : Nat} {T : TypeId} {cs : Array Value} {fr : Nat × Nat} (hb : w.heap[b]? = some (.cells cs T fr)) (hne : T ≠ e) : v.ownBlock ≠ some b := by
  rcases h.2 with ⟨e1, _⟩ | ⟨g, cap, cur, e1, _, e3, _⟩
  · rw [e1]; intro h; cases h
  · rw [e1]
    intro hh
    have : g = b := by simpa [Value.ownBlock] using hh
    subst this
    rw [hb] at e3
    injection e3 with e3
    injection e3 with _ e5
    exact hne e5
theorem own_form (h : w.ownsRow base e size v n xs) : ∃ (A : Option Addr) (c : Nat), v = .slice A n c ∧ n ≤ c ∧ (A = none → c = 0) := by
  rcases h.2 with ⟨e1, e2⟩ | ⟨g, cap, cur, e1, _, _, hc, _⟩
  · exact ⟨none, 0, by rw [e1, e2], by omega, fun _ => rfl⟩
  · exact ⟨_, cap, e1, hc, fun e => by cases e⟩
theorem own_zero {g cap : Nat} (h : w.ownsRow base e 1 (.slice (some ⟨g, 0, none⟩) n cap) n xs) : w.ownsRow base e 1 (.slice (some ⟨g, 0, none⟩) 0 cap) 0 [] := by
  rcases h.2 with ⟨e1, _⟩ | ⟨g', cap', cur, e1, h1, h2, h3, h4, h5, _⟩
  · cases e1
  · cases e1
    exact ⟨rfl, Or.inr ⟨g, cap, cur, rfl, h1, h2, Nat.zero_le _, h4, h5, by simp⟩⟩
end
theorem heap_set2 {w : World} {b : Nat} {cs : Array Value} {T : TypeId} (h : w.heap[b]? = some (.cells cs T (0, 0))) (j : Nat) (u : Value) : (w.setCell ⟨b, j, none⟩ u).heap[b]? = some (.cells (cs.setIfInBounds j u) T (0, 0)) := heap_setCell_same w b j cs T u h
/-- The reader at block b: the fount, the words so far, the bytes of the word that goes on. -/
structure TRAt (w : World) (B b : Nat) (f : FT) (a : Option Addr) (c : Nat) (ws : List ByteArray) (cur : List UInt8) : Prop where
  out : ∃ v u, w.heap[b]? = some (.cells #[.string f.name, .int .i64 f.body, .slice a f.sorts.length c, v, u] 160 (0, 0)) ∧ w.ownsRow B 9 1 v ws.length (txs ws) ∧ w.ownsRow B 5 1 u cur.length (byV cur)
  hB : B ≤ b
def endW (st : List ByteArray × List UInt8) : List ByteArray × List UInt8 := if st.2 = [] then st else (st.1 ++ [⟨st.2.toArray⟩], [])
theorem txs_snoc (l : List ByteArray) (s : ByteArray) : txs l ++ [.string s] = txs (l ++ [s]) := by unfold txs; rw [List.map_append]; rfl

set_option maxRecDepth 100000 in
set_option maxHeartbeats 2000000 in
theorem endWord_any (f : FT) (a : Option Addr) (c : Nat) (B b : Nat) (ws : List ByteArray) (cur : List UInt8) (w : World) (h : TRAt w B b f a c ws cur) (hc : cur.length ≤ 1000000) (hw : ws.length ≤ 1000000) (hBw : B ≤ w.heap.size) :
    Calls Tryz.prog 123 #[.pointer (some ⟨b, 0, none⟩)] w fun e w' => (∃ v, e = .returned v) ∧ TRAt w' B b f a c (endW (ws, cur)).1 (endW (ws, cur)).2 ∧ Below B w w' := by
  obtain ⟨v, u, hb, hv, hu⟩ := h.out
  have hB := h.hB
  have hlt := heap_lt hb
  have c3 : w.cell? ⟨b, 3, none⟩ = some v := by rw [cell_of_row w b 3 _ _ (0, 0) hb]; rfl
  have c4 : w.cell? ⟨b, 4, none⟩ = some u := by rw [cell_of_row w b 4 _ _ (0, 0) hb]; rfl
  by_cases h0 : cur = []
  · have HE := Lib.hid (show endW (ws, cur) = (ws, cur) by unfold endW; rw [if_pos h0])
    subst h0
    obtain ⟨A, d, rfl, _, _⟩ := own_form hu
    have hu0 : ([] : List UInt8).length = 0 := rfl
    rw [hu0] at c4
    go_enter Tryz.func123, Tryz.ntmps123
    go_wp2
    go_end0
    exact ⟨⟨_, rfl⟩, by rw [HE.out]; exact h, Below.refl _ _⟩
  · have HE := Lib.hid (show endW (ws, cur) = (ws ++ [⟨cur.toArray⟩], []) by unfold endW; rw [if_neg h0])
    have hpos : 0 < cur.length := List.length_pos_iff.2 h0
    obtain ⟨s, hs⟩ : ∃ s : ByteArray, s = ⟨cur.toArray⟩ := ⟨_, rfl⟩
    rw [← hs] at HE
    rcases hu.2 with ⟨e1, e2⟩ | ⟨g, cap, cu, e1, hg, hgh, hgc, hcap, hcs, htk⟩
    · omega
    have hcell : ∀ Z : World, Z.heap[g]? = w.heap[g]? → (convert 113 9 (.slice (some ⟨g, 0, none⟩) cur.length cap)).run Tryz.prog Z = .ok (.string s) Z := fun Z hZ => by
      rw [hs]
      refine run_convert_bytes_back Z 113 9 5 ⟨g, 0, none⟩ cap cur Tryz.underlying113 Tryz.underlying5 Tryz.underlying9 (fun j hj => ?_)
      rw [Addr.add_mid, cell_of_row Z g (0 + j) _ _ (0, 0) (hZ.trans hgh), Nat.zero_add]
      have e4 : (byV cur)[j]? = some (Value.int .u8 (cur[j].toNat : Int)) := by unfold byV; rw [List.getElem?_map, List.getElem?_eq_getElem hj]; rfl
      rw [← htk, List.getElem?_take_of_lt (by omega), Array.getElem?_toList] at e4
      exact e4
    have hcv0 := hcell w rfl
    have hcv := hcell w.drew rfl
    subst e1
    have hposI : (0 : Int) < (cur.length : Int) := by omega
    clear hcell htk hs h0
    obtain ⟨i0, hi0, hz0, hz1, hz2⟩ := info_parts info_str
    obtain ⟨A, d, rfl, hdn, hAd⟩ := own_form hv
    have hB' := hB
    go_enter Tryz.func123, Tryz.ntmps123
    go_wp2_with fail
    have h63 : ws.length + 1 ≤ maxLen := by unfold maxLen; omega
    have hby : (ws.length + 1) * 16 ≤ 140737488355328 := by omega
    have z3 : w.frozen? ⟨b, 3, none⟩ = false := by simp [World.frozen?, hb]
    have z4 : w.frozen? ⟨b, 4, none⟩ = false := by simp [World.frozen?, hb]
    have zz : (w.alloc (.cells #[.string s] 9)).frozen? ⟨b, 3, none⟩ = false := (World.frozen?_alloc_past _ _ _ hlt).trans z3
    have a1 : (Value.slice A ws.length d).ownBlock ≠ some b := own_off hv hb (by decide)
    go_region_law (first
      | (refine step_append_lies _ (by rfl) _ _ _ (by rfl) B 9 i0 _ 1 16 Tryz.underlying22 hi0 hz0 hz1 hz2 rfl (by omega) _ ws.length _ (by rfl) ((hv.alloc _).drew)
          ⟨w.heap.size, 0, none⟩ 1 1 [.string s] (by rfl) (by rfl) (World.news_of_block (cs := #[.string s]) (t := 9) (fr := (0, 0)) (heap_alloc_new w _)) (by simp [Value.oneCell'])
          (by omega) h63 hby (by simp; omega) (w.heap.size + 1) (by simp) ?_; intro gg cap5 w5 hown5 hgrow hat hlt5; have z5 : w5.frozen? ⟨b, 3, none⟩ = false := (hgrow.frozen_far ⟨b, 3, none⟩ (by simp; omega) (Ne.symm a1)).trans zz; have x5 : w5.cell? ⟨b, 3, none⟩ = some (.slice A ws.length d) := (hgrow.cell_far ⟨b, 3, none⟩ (by simp; omega) (Ne.symm a1)).trans ((World.cell?_alloc_past _ _ _ hlt).trans c3)))
    all_goals
      have hb5 := (hgrow.block b (by simp; omega) (fun e => a1 e.symm)).trans ((Below.heap_alloc w _ b hlt).trans hb)
      have hu5 := ((hu.alloc (.cells #[.string s] 9)).drew).kept hgrow (own_apart hu hv (by decide))
      have hB5 := (((Below.refl B w).alloc hBw (.cells #[.string s] 9)).drew).grown hgrow (by simp; omega) (fun q hq => (hv.lt q hq).1)
      have hb6 := heap_set2 hb5 3 (.slice (some ⟨gg, 0, none⟩) (ws.length + 1) cap5)
      have hv6 := own_put hown5 hb5 (by decide) 3 (.slice (some ⟨gg, 0, none⟩) (ws.length + 1) cap5)
      have hu6 := own_put hu5 hb5 (by decide) 3 (.slice (some ⟨gg, 0, none⟩) (ws.length + 1) cap5)
      have hB6 := hB5.setCell (p := ⟨b, 3, none⟩) hB (.slice (some ⟨gg, 0, none⟩) (ws.length + 1) cap5)
      obtain ⟨w6, e6⟩ : ∃ w6, w6 = w5.setCell ⟨b, 3, none⟩ (.slice (some ⟨gg, 0, none⟩) (ws.length + 1) cap5) := ⟨_, rfl⟩
      rw [← e6] at hb6 hv6 hu6 hB6 ⊢
      have d4 : w6.cell? ⟨b, 4, none⟩ = some (.slice (some ⟨g, 0, none⟩) cur.length cap) := by rw [cell_of_row w6 b 4 _ _ (0, 0) hb6]; rfl
      have y4 : w6.frozen? ⟨b, 4, none⟩ = false := by simp [World.frozen?, hb6]
      have hcapI : (0 : Int) ≤ (cap : Int) := by omega
      have hb7 := heap_set2 hb6 4 (.slice (some ⟨g, 0, none⟩) 0 cap)
      have hv7 := own_put hv6 hb6 (by decide) 4 (.slice (some ⟨g, 0, none⟩) 0 cap)
      have hu7 := own_zero (own_put hu6 hb6 (by decide) 4 (.slice (some ⟨g, 0, none⟩) 0 cap))
      have hB7 := hB6.setCell (p := ⟨b, 4, none⟩) hB (.slice (some ⟨g, 0, none⟩) 0 cap)
      rw [txs_snoc] at hv7
      have hT : TRAt (w6.setCell ⟨b, 4, none⟩ (.slice (some ⟨g, 0, none⟩) 0 cap)) B b f a c (ws ++ [s]) [] := ⟨⟨_, _, hb7, by rw [List.length_append]; exact hv7, hu7⟩, hB⟩
      clear hb7 hv7 hu7 hb6 hv6 hu6 hB6 hb5 hu5 hB5 e6 hown5 hgrow z5 x5 hat hlt5 zz
      go_wp2
      go_end0
      exact ⟨⟨_, rfl⟩, by rw [HE.out]; exact hT, hB7⟩
end Go.Proofs.YtomblajlpanmjaaGreatDoor
