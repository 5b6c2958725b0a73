/-
  Copies of founts.
-/
import Derived.Test.YtjkcomafgkabeaaDoorN6
import Derived.Test.YtjkcomafgkabeaaDoorT3
namespace Go.Proofs.YtjkcomafgkabeaaDoor
open Go.RowKit Go.Maps

def sCells (x : TS) : List Value := [.string x.name, .string x.text, .int .i64 x.kind, .int .i64 x.width]
def sVals (l : List TS) : List Value := l.flatMap sCells
theorem sVals_len (l : List TS) : (sVals l).length = l.length * 4 := by
  unfold sVals
  induction l with
  | nil => rfl
  | cons x r ih => rw [List.flatMap_cons, List.length_append, ih, List.length_cons]; show 4 + _ = _; omega
theorem sVals_at {l : List TS} {k r : Nat} (h : k < l.length) (hr : r < 4) : (sVals l)[k * 4 + r]? = (sCells (l.getD k noTS))[r]? := by
  unfold sVals
  induction l generalizing k with
  | nil => simp at h
  | cons x t ih =>
    rw [List.flatMap_cons]
    cases k with
    | zero =>
      rw [List.getElem?_append_left (by show 0 * 4 + r < 4; omega)]
      rw [Nat.zero_mul, Nat.zero_add]; rfl
    | succ k =>
      rw [List.getElem?_append_right (by show 4 ≤ _; omega)]
      have : (k + 1) * 4 + r - (sCells x).length = k * 4 + r := by show (k + 1) * 4 + r - 4 = _; omega
      rw [this, ih (by simpa using h)]
      rfl
theorem add_add (ad : Addr) (k r : Nat) : ad.add (k * 4 + r) = if r = 0 then ad.add (k * 4) else ⟨(ad.add (k * 4)).block, (ad.add (k * 4)).off + r, none⟩ := by
  unfold Addr.add
  by_cases hr : r = 0
  · subst hr; rw [if_pos rfl]; rfl
  · rw [if_neg hr]
    by_cases hk : k * 4 = 0
    · rw [if_neg (by omega), if_pos hk, hk, Nat.zero_add]
    · rw [if_neg (by omega), if_neg hk, Nat.add_assoc]
theorem sVals_cells {w : World} {ad : Addr} {l : List TS} (h : SortsAt w (some ad) l) : ∀ j u, (sVals l)[j]? = some u → w.cell? (ad.add j) = some u := by
  intro j u hj
  have hjl : j < l.length * 4 := by
    have := (List.getElem?_eq_some_iff.1 hj).1
    rwa [sVals_len] at this
  obtain ⟨k, r, hr, rfl⟩ : ∃ k r, r < 4 ∧ j = k * 4 + r := ⟨j / 4, j % 4, Nat.mod_lt _ (by omega), by omega⟩
  have hk : k < l.length := by omega
  rw [sVals_at hk hr] at hj
  obtain ⟨_, e, _, s0, s1, s2, s3⟩ := h k hk
  cases e
  rw [add_add]
  obtain rfl | rfl | rfl | rfl : r = 0 ∨ r = 1 ∨ r = 2 ∨ r = 3 := by omega
  · rw [if_pos rfl, s0]; exact hj
  · rw [if_neg (by omega), s1]; exact hj
  · rw [if_neg (by omega), s2]; exact hj
  · rw [if_neg (by omega), s3]; exact hj
theorem sorts_of_row {w : World} {base g n cap : Nat} {l : List TS} (h : w.ownsRow base 47 4 (.slice (some ⟨g, 0, none⟩) n cap) n (sVals l)) : SortsAt w (some ⟨g, 0, none⟩) l := by
  intro k hk
  have hc : ∀ r v, r < 4 → (sCells (l.getD k noTS))[r]? = some v → w.cell? ⟨g, k * 4 + r, none⟩ = some v := fun r v hr hv =>
    (by have := h.cells (g := g) rfl (k * 4 + r) _ (by rw [sVals_at hk hr]; exact hv); rwa [add0] at this)
  have e : (⟨g, 0, none⟩ : Addr).add (k * 4) = ⟨g, k * 4, none⟩ := add0 g (k * 4)
  refine ⟨_, rfl, (h.lt g rfl).2, ?_, ?_, ?_, ?_⟩
  · rw [e]; exact hc 0 _ (by omega) rfl
  · rw [e]; exact hc 1 _ (by omega) rfl
  · rw [e]; exact hc 2 _ (by omega) rfl
  · rw [e]; exact hc 3 _ (by omega) rfl
theorem infoTS : (Tryd.prog.info? 47).map (fun i => (i.zero, i.size, i.bytes)) = some (some (.agg #[.string ⟨#[]⟩, .string ⟨#[]⟩, .int .i64 0, .int .i64 0]), 4, 48) := by kernel_rfl

theorem SortAt.far {w : World} {q p : Addr} {x : TS} (h : SortAt w q x) (hp : q.block ≠ p.block) (u : Value) : SortAt (w.setCell p u) q x := by
  have hc : ∀ r : Addr, r.block = q.block → (w.setCell p u).cell? r = w.cell? r := fun r hr => World.cell?_setCell_other _ _ _ _ (fun e => hp (by rw [← hr, ← e]))
  exact ⟨(hc _ rfl).trans h.1, (hc ⟨q.block, _, none⟩ rfl).trans h.2.1, (hc ⟨q.block, _, none⟩ rfl).trans h.2.2.1, (hc ⟨q.block, _, none⟩ rfl).trans h.2.2.2⟩
theorem SortsAt.far {w : World} {ad p : Addr} {l : List TS} (h : SortsAt w (some ad) l) (hp : ad.block ≠ p.block) (u : Value) : SortsAt (w.setCell p u) (some ad) l := by
  intro k hk
  obtain ⟨_, e, hlt, hs⟩ := h k hk
  cases e
  exact ⟨ad, rfl, by simpa [World.setCell] using hlt, hs.far (by rw [add_block]; exact hp) u⟩
def FCopyPost (w : World) (f : FT) (e : Ending) (w' : World) : Prop :=
  ∃ g cap, e = .returned (.agg #[.string f.name, .int .i64 f.body, .slice (some ⟨g, 0, none⟩) f.sorts.length cap]) ∧ f.sorts.length ≤ cap ∧ FAt w' (some ⟨g, 0, none⟩) f ∧ Below w.heap.size w w'
def zeroF : Obj := .cells #[.string ⟨#[]⟩, .int .i64 0, .slice none 0 0] 24
def copyW (w : World) (f : FT) (a : Option Addr) (c : Nat) : World := (w.alloc (boxF f a c)).alloc zeroF
theorem after_copy {f : FT} {a : Option Addr} {c : Nat} {w w1 : World} {v' : Value} {m : Nat} (hm : m = f.sorts.length) (hown : w1.ownsRow (w.heap.size + 2) 47 4 v' m (sVals f.sorts))
    (hgrow : ((copyW w f a c).alloc (.cells #[] 47)).grownBy w1 (some (w.heap.size + 2))) (hnil : ¬ v' = .slice none 0 0) :
    ∃ g cap, v' = .slice (some ⟨g, 0, none⟩) f.sorts.length cap ∧ f.sorts.length ≤ cap ∧ SortsAt w1 (some ⟨g, 0, none⟩) f.sorts ∧ w.heap.size + 2 ≤ g ∧ w1.heap[w.heap.size]? = some (boxF f a c) ∧ w1.heap[w.heap.size + 1]? = some zeroF ∧ Below w.heap.size w w1 := by
  subst hm
  have hsz : (copyW w f a c).heap.size = w.heap.size + 2 := by simp [copyW]
  have hk0 : (copyW w f a c).heap[w.heap.size]? = some (boxF f a c) := by unfold copyW; rw [Lib.alloc_old _ _ _ (by simp)]; exact heap_alloc_new _ _
  have hk1 : (copyW w f a c).heap[w.heap.size + 1]? = some zeroF := by
    have := heap_alloc_new (w.alloc (boxF f a c)) zeroF
    unfold copyW
    simpa using this
  have hB2 : Below w.heap.size w ((copyW w f a c).alloc (.cells #[] 47)) := (((Below.refl _ _).alloc (Nat.le_refl _) _).alloc (by simp) _).alloc (by simp <;> omega) _
  have hB1 : Below w.heap.size w w1 := hB2.grown hgrow (by simp [copyW]; omega) (fun k e => by cases e; omega)
  have r0 : w1.heap[w.heap.size]? = some (boxF f a c) := by
    rw [hgrow.block _ (by simp [copyW]; omega) (fun e => by injection e with e; omega), Lib.alloc_old _ _ _ (by rw [hsz]; omega)]; exact hk0
  have r1 : w1.heap[w.heap.size + 1]? = some zeroF := by
    rw [hgrow.block _ (by simp [copyW]) (fun e => by injection e with e; omega), Lib.alloc_old _ _ _ (by rw [hsz]; omega)]; exact hk1
  have hown' := hown
  rcases hown'.2 with ⟨e, _⟩ | ⟨g, cap, cur, e, hg, _, hcap, _⟩
  · exact absurd e hnil
  · subst e
    exact ⟨g, cap, rfl, hcap, sorts_of_row hown, hg, r0, r1, hB1⟩

set_option maxRecDepth 100000 in
set_option maxHeartbeats 1000000 in
theorem copyFount_any (f : FT) (a : Option Addr) (c : Nat) (w : World) (hF : FAt w a f) (hn : f.sorts.length ≤ 1000000) (hd : a = none → c = 0) :
    Calls Tryd.prog 19 #[.agg #[.string f.name, .int .i64 f.body, .slice a f.sorts.length c]] w (FCopyPost w f) := by
  obtain ⟨i0, hi, hz0, hz1, hz2⟩ := info_parts infoTS
  cases a with
  | none =>
    have hl0 : f.sorts = [] := by
      cases h : f.sorts with
      | nil => rfl
      | cons x r =>
        obtain ⟨ad, e, _⟩ := hF.at_ 0 (by rw [h]; simp); cases e
    have hd0 : c = 0 := hd rfl
    subst hd0
    have hsz : (copyW w f none 0).heap.size = w.heap.size + 2 := by simp [copyW]
    have hm := World.ownsRow_made (e := 47) (size := 4) (base := w.heap.size + 2) (copyW w f none 0) #[] 0 (by rw [hsz]; exact Nat.le_refl _) (Nat.zero_le _) rfl
    rw [hsz] at hm
    have hlen : f.sorts.length = 0 := by rw [hl0]; rfl
    rw [hlen]
    clear hsz
    go_enter Tryd.func19, Tryd.ntmps19
    go_wp2_with (at_builtin; refine wpList_append_own_none rfl _ _ 22 rfl (w.heap.size + 2) 47 i0 4 Tryd.underlying22 hi _ 0 [] rfl hm rfl ?_)
    refine bodyPost_ret (v := .agg #[.string f.name, .int .i64 f.body, .slice (some ⟨w.heap.size + 1 + 1, 0, none⟩) 0 0]) (by simp [results, Tryd.results19, go_sem]) rfl ?_
    have hBx : ∀ o1 o2 o3, Below w.heap.size w (((w.alloc o1).alloc o2).alloc o3) := fun o1 o2 o3 => (((Below.refl _ _).alloc (Nat.le_refl _) _).alloc (by simp) _).alloc (by simp <;> omega) _
    exact ⟨w.heap.size + 1 + 1, 0, by rw [hlen], by rw [hlen]; exact Nat.le_refl _, ⟨hF.ok, fun k hk => by omega, hF.tab.below (hBx _ _ _) hF.tab.1⟩, hBx _ _ _⟩
  | some ad =>
    have hF2 : FAt (copyW w f (some ad) c) (some ad) f := (hF.alloc (boxF f (some ad) c)).alloc zeroF
    have hsz : (copyW w f (some ad) c).heap.size = w.heap.size + 2 := by simp [copyW]
    have hm := World.ownsRow_made (e := 47) (size := 4) (base := w.heap.size + 2) (copyW w f (some ad) c) #[] 0 (by rw [hsz]; exact Nat.le_refl _) (Nat.zero_le _) rfl
    rw [hsz] at hm
    have hone : ∀ u ∈ sVals f.sorts, u.oneCell' = true := by
      intro u hu
      obtain ⟨x, _, hx⟩ := List.mem_flatMap.1 hu
      simp only [sCells, List.mem_cons, List.not_mem_nil, or_false] at hx
      rcases hx with rfl | rfl | rfl | rfl <;> rfl
    have HO := Lib.hid hone; have HL := Lib.hid (sVals_len f.sorts)
    have HN := Lib.hid (sVals_cells (hF2.alloc (.cells #[] 47)).at_)
    have H63 := Lib.hid (show 0 + f.sorts.length ≤ maxLen by unfold maxLen; omega)
    have HB := Lib.hid (show (0 + f.sorts.length) * 48 ≤ 140737488355328 by omega)
    clear hone hsz
    go_enter Tryd.func19, Tryd.ntmps19
    go_wp2_with (at_builtin; refine wpList_append_own _ rfl _ _ 22 rfl (w.heap.size + 2) 47 i0 (.agg #[.string ⟨#[]⟩, .string ⟨#[]⟩, .int .i64 0, .int .i64 0]) 4 48 Tryd.underlying22 hi hz0 hz1 hz2 rfl (by decide) _ 0 [] rfl hm ad f.sorts.length c (sVals f.sorts) rfl HL.out HN.out HO.out H63.out HB.out (by simp) ?_; intro v' w1 hown1 hgrow1 hnil1; obtain ⟨g, cap, ev, hcap, hsorts, hg, r0, r1, hB1⟩ := after_copy (a := some ad) (c := c) (Nat.zero_add _) hown1 hgrow1 (fun e => by have := (hnil1.1 e).1; cases this); subst ev; have x0 : w1.cell? ⟨w.heap.size, 0, none⟩ = some (.string f.name) := Lib.cell_of_heap r0 0; have x1 : w1.cell? ⟨w.heap.size, 1, none⟩ = some (.int .i64 f.body) := Lib.cell_of_heap r0 1; have x2 : w1.cell? ⟨w.heap.size, 2, none⟩ = some (.slice (some ad) f.sorts.length c) := Lib.cell_of_heap r0 2; have y0 : w1.cell? ⟨w.heap.size + 1, 0, none⟩ = some (.string ⟨#[]⟩) := Lib.cell_of_heap r1 0; have y1 : w1.cell? ⟨w.heap.size + 1, 1, none⟩ = some (.int .i64 0) := Lib.cell_of_heap r1 1; have y2 : w1.cell? ⟨w.heap.size + 1, 2, none⟩ = some (.slice none 0 0) := Lib.cell_of_heap r1 2; have fx : w1.frozen? ⟨w.heap.size, 2, none⟩ = false := Lib.frozen_of_heap r0 2; have fy0 : w1.frozen? ⟨w.heap.size + 1, 0, none⟩ = false := Lib.frozen_of_heap r1 0; have fy1 : w1.frozen? ⟨w.heap.size + 1, 1, none⟩ = false := Lib.frozen_of_heap r1 1; have fy2 : w1.frozen? ⟨w.heap.size + 1, 2, none⟩ = false := Lib.frozen_of_heap r1 2)
    refine bodyPost_ret (v := .agg #[.string f.name, .int .i64 f.body, .slice (some ⟨g, 0, none⟩) f.sorts.length cap]) (by simp [results, Tryd.results19, go_sem, y0, y1, y2]) rfl ?_
    have hBx := (((hB1.setCell (p := ⟨w.heap.size, 2, none⟩) (Nat.le_refl _) (.slice (some ⟨g, 0, none⟩) f.sorts.length cap)).setCell (p := ⟨w.heap.size + 1, 0, none⟩) (Nat.le_succ _) (.string f.name)).setCell (p := ⟨w.heap.size + 1, 1, none⟩) (Nat.le_succ _) (.int .i64 f.body)).setCell (p := ⟨w.heap.size + 1, 2, none⟩) (Nat.le_succ _) (.slice (some ⟨g, 0, none⟩) f.sorts.length cap)
    refine ⟨g, cap, rfl, hcap, ⟨hF.ok, ?_, hF.tab.below hBx hF.tab.1⟩, hBx⟩
    exact (((hsorts.far (by show g ≠ w.heap.size; omega) _).far (by show g ≠ w.heap.size + 1; omega) _).far (by show g ≠ w.heap.size + 1; omega) _).far (by show g ≠ w.heap.size + 1; omega) _
end Go.Proofs.YtjkcomafgkabeaaDoor
