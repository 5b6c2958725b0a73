/-
  law02's awake: the examples are so.
-/
import Derived.Test.YtomblajlpanmjaaGreatDoorW8
namespace Go.Proofs.YtomblajlpanmjaaGreatDoor
open Go.RowKit Go.Maps Go.Shelf

set_option maxRecDepth 100000 in
set_option maxHeartbeats 1000000 in
theorem House_any (w : World) : Calls Tryz.prog 50 #[] w fun e w' => ∃ a1 a2, e = .returned (.agg (houseR a1 3 a2 1).cells) ∧ (houseR a1 3 a2 1).at_ w' ∧ Below w.heap.size w w' := by
  go_enter Tryz.func50, Tryz.ntmps50
  go_wp2
  obtain ⟨w3, e3⟩ : ∃ w3, w3 = (((w.alloc (.cells #[.slice (some ⟨w.heap.size + 1, 0, none⟩) 3 3, .slice none 0 0, .slice (some ⟨w.heap.size + 1 + 1, 0, none⟩) 1 1, .int .i64 2, .int .i64 2] 24)).alloc (.cells #[.string ⟨#[97, 49, 98]⟩, .string ⟨#[50, 98, 108]⟩, .string ⟨#[98, 51, 108]⟩] 9)).alloc (.cells #[.string ⟨#[115, 104, 101, 108, 102, 124, 102, 117, 108]⟩] 9)) := ⟨_, rfl⟩
  have hb := heap_keep (o := (.cells #[.string ⟨#[115, 104, 101, 108, 102, 124, 102, 117, 108]⟩] 9)) (heap_keep (o := (.cells #[.string ⟨#[97, 49, 98]⟩, .string ⟨#[50, 98, 108]⟩, .string ⟨#[98, 51, 108]⟩] 9)) (heap_new w (.cells #[.slice (some ⟨w.heap.size + 1, 0, none⟩) 3 3, .slice none 0 0, .slice (some ⟨w.heap.size + 1 + 1, 0, none⟩) 1 1, .int .i64 2, .int .i64 2] 24)))
  have ht1 := (texts_alloc houseP (w.alloc (.cells #[.slice (some ⟨w.heap.size + 1, 0, none⟩) 3 3, .slice none 0 0, .slice (some ⟨w.heap.size + 1 + 1, 0, none⟩) 1 1, .int .i64 2, .int .i64 2] 24))).below ((Below.refl _ _).alloc (Nat.le_refl _) (.cells #[.string ⟨#[115, 104, 101, 108, 102, 124, 102, 117, 108]⟩] 9))
  have ht2 := texts_alloc houseB ((w.alloc (.cells #[.slice (some ⟨w.heap.size + 1, 0, none⟩) 3 3, .slice none 0 0, .slice (some ⟨w.heap.size + 1 + 1, 0, none⟩) 1 1, .int .i64 2, .int .i64 2] 24)).alloc (.cells #[.string ⟨#[97, 49, 98]⟩, .string ⟨#[50, 98, 108]⟩, .string ⟨#[98, 51, 108]⟩] 9))
  have hB : Below w.heap.size w (((w.alloc (.cells #[.slice (some ⟨w.heap.size + 1, 0, none⟩) 3 3, .slice none 0 0, .slice (some ⟨w.heap.size + 1 + 1, 0, none⟩) 1 1, .int .i64 2, .int .i64 2] 24)).alloc (.cells #[.string ⟨#[97, 49, 98]⟩, .string ⟨#[50, 98, 108]⟩, .string ⟨#[98, 51, 108]⟩] 9)).alloc (.cells #[.string ⟨#[115, 104, 101, 108, 102, 124, 102, 117, 108]⟩] 9)) := (((Below.refl w.heap.size w).alloc (Nat.le_refl _) _).alloc (by simp) _).alloc (by simp; omega) _
  simp only [World.size_alloc] at ht1 ht2
  rw [← e3]
  change w3 = _ at e3
  have hb' : w3.heap[w.heap.size]? = some (.cells #[.slice (some ⟨w.heap.size + 1, 0, none⟩) 3 3, .slice none 0 0, .slice (some ⟨w.heap.size + 1 + 1, 0, none⟩) 1 1, .int .i64 2, .int .i64 2] 24 (0, 0)) := by rw [e3]; exact hb
  have ht1' : TextsAt w3 (some ⟨w.heap.size + 1, 0, none⟩) houseP := by rw [e3]; exact ht1
  have ht2' : TextsAt w3 (some ⟨w.heap.size + 1 + 1, 0, none⟩) houseB := by rw [e3]; exact ht2
  have hB' : Below w.heap.size w w3 := by rw [e3]; exact hB
  clear e3 hb ht1 ht2 hB
  have c0 : w3.cell? ⟨w.heap.size, 0, none⟩ = some (.slice (some ⟨w.heap.size + 1, 0, none⟩) 3 3) := cell_of_row w3 _ 0 _ _ (0, 0) hb'
  have c1 : w3.cell? ⟨w.heap.size, 1, none⟩ = some (.slice none 0 0) := cell_of_row w3 _ 1 _ _ (0, 0) hb'
  have c2 : w3.cell? ⟨w.heap.size, 2, none⟩ = some (.slice (some ⟨w.heap.size + 1 + 1, 0, none⟩) 1 1) := cell_of_row w3 _ 2 _ _ (0, 0) hb'
  have c3 : w3.cell? ⟨w.heap.size, 3, none⟩ = some (.int .i64 2) := cell_of_row w3 _ 3 _ _ (0, 0) hb'
  have c4 : w3.cell? ⟨w.heap.size, 4, none⟩ = some (.int .i64 2) := cell_of_row w3 _ 4 _ _ (0, 0) hb'
  refine bodyPost_ret (v := .agg #[.slice (some ⟨w.heap.size + 1, 0, none⟩) 3 3, .slice none 0 0, .slice (some ⟨w.heap.size + 1 + 1, 0, none⟩) 1 1, .int .i64 2, .int .i64 2]) (by simp [results, Tryz.results50, go_sem, c0, c1, c2, c3, c4]) rfl ?_
  refine ⟨some ⟨w.heap.size + 1, 0, none⟩, some ⟨w.heap.size + 1 + 1, 0, none⟩, rfl, ⟨⟨ht1', (show 3 ≤ maxLen by decide), fun k hk => ?_⟩, ⟨fun k hk => (by cases hk), (show 0 ≤ maxLen by decide), fun k hk => (by cases hk)⟩, ⟨ht2', (show 1 ≤ maxLen by decide), fun k hk => ?_⟩⟩, hB'⟩
  · have : ∀ j, j < 3 → (houseP.getD j noTx).size ≤ maxLen := by decide
    exact this k hk
  · have : ∀ j, j < 1 → (houseB.getD j noTx).size ≤ maxLen := by decide
    exact this k hk
theorem faceOk : OkF faceF := by
  refine ⟨by decide, (show 13 ≤ maxLen by decide), ?_⟩
  have : ∀ x ∈ faceF.sorts, x.name.size ≤ 100 ∧ x.text.size ≤ 100 := by decide +kernel
  intro x hx
  have h := this x hx
  unfold maxLen
  omega
theorem faceAt {w : World} {g : Nat} (hs : SortsAt w (some ⟨g, 0, none⟩) faceF.sorts) (hT : TabOk w) : FAt w (some ⟨g, 0, none⟩) faceF := ⟨faceOk, hs, hT⟩
theorem ex_sorts (g cap : Nat) (a1 a2 : Option Addr) (w : World) (hs : SortsAt w (some ⟨g, 0, none⟩) faceF.sorts) (hT : TabOk w) (hR : (houseR a1 3 a2 1).at_ w) :
    Calls Tryz.prog 48 #[.agg #[.string faceN, .int .i64 12, .slice (some ⟨g, 0, none⟩) 13 cap], .agg (houseR a1 3 a2 1).cells, .string shelfful] w fun e w' => ∃ v, e = .returned (.tuple #[v, .int .i64 0]) ∧ IRow w' w.heap.size v [5, 6, 0, 3, 1, 1, 4, 3] ∧ Below w.heap.size w w' := by
  have h := sortsOf_fn faceF (some ⟨g, 0, none⟩) cap (houseR a1 3 a2 1) shelfful w (faceAt hs hT) hR (by decide)
  rw [show faceF.sorts.length = 13 from rfl, show faceF.name = faceN from rfl, show faceF.body = 12 from rfl] at h
  refine Calls.mono h ?_
  intro e w' h
  have hb := h.1
  have hp : ∃ v l, longWay.S (wordP faceF none 0 (houseR a1 3 a2 1) shelfful 0 shelfful.size) = some l ∧ e = .returned (.tuple #[v, .int .i64 0]) ∧ IRow w' w.heap.size v l := by
    have h2 := h.2
    rwa [if_pos (ex5 a1 3 a2 1)] at h2
  obtain ⟨v, l, h1, h2, h3⟩ := hp
  have h4 := ex6 a1 3 a2 1
  rw [h1] at h4
  injection h4 with h4
  subst h4
  exact ⟨v, h2, h3, hb⟩
theorem ex_few (g cap : Nat) (a1 a2 : Option Addr) (w : World) (hs : SortsAt w (some ⟨g, 0, none⟩) faceF.sorts) (hT : TabOk w) (hR : (houseR a1 3 a2 1).at_ w) :
    Calls Tryz.prog 52 #[.agg #[.string faceN, .int .i64 12, .slice (some ⟨g, 0, none⟩) 13 cap], .agg (houseR a1 3 a2 1).cells, .string ffl] w fun e w' => ∃ v, e = .returned (.tuple #[v, .int .i64 0]) ∧ IRow w' w.heap.size v [1, 11] ∧ Below w.heap.size w w' := by
  have h := fewestSorts_fn faceF (some ⟨g, 0, none⟩) cap (houseR a1 3 a2 1) ffl w (faceAt hs hT) hR (by decide)
  rw [show faceF.sorts.length = 13 from rfl, show faceF.name = faceN from rfl, show faceF.body = 12 from rfl] at h
  refine Calls.mono h ?_
  intro e w' h
  have hb := h.1
  have hp : ∃ v l, fewWay.S (wordP faceF none 0 (houseR a1 3 a2 1) ffl 0 ffl.size) = some l ∧ e = .returned (.tuple #[v, .int .i64 0]) ∧ IRow w' w.heap.size v l := by
    have h2 := h.2
    rwa [if_pos (ex7 a1 3 a2 1)] at h2
  obtain ⟨v, l, h1, h2, h3⟩ := hp
  have h4 := ex8 a1 3 a2 1
  rw [h1] at h4
  injection h4 with h4
  subst h4
  exact ⟨v, h2, h3, hb⟩
theorem ex_hyph (a1 a2 : Option Addr) (w : World) (hR : (houseR a1 3 a2 1).at_ w) :
    Calls Tryz.prog 51 #[.agg (houseR a1 3 a2 1).cells, .string table] w fun e w' => e = .returned (.tuple #[.string ⟨#[116, 97, 98, 45, 108, 101]⟩, .int .i64 0]) ∧ Below w.heap.size w w' := by
  refine Calls.mono (hyphened_ok (houseR a1 3 a2 1) table w hR (by decide)) ?_
  rintro e w' ⟨hb, hp⟩
  rw [if_pos (ex3 a1 3 a2 1), ex4] at hp
  exact ⟨hp, hb⟩
theorem ex_back (g cap : Nat) (A D : Option Addr) (a1 a2 : Option Addr) (w : World) (hs : SortsAt w (some ⟨g, 0, none⟩) faceF.sorts) (hT : TabOk w) (hL : LinesAt w A (awakeL a1 3 a2 4)) (hD : BoolsAt w D [true, false]) :
    Calls Tryz.prog 38 #[.agg #[.string faceN, .int .i64 12, .slice (some ⟨g, 0, none⟩) 13 cap], .slice A 2 2, .slice D 2 2] w fun e w' => ∃ v, e = .returned (.tuple #[v, .int .i64 0]) ∧ w'.ownsRow w.heap.size 9 1 v 2 (txs [⟨#[101, 102, 102, 105, 101]⟩, ⟨#[108]⟩]) ∧ Below w.heap.size w w' := by
  have hO : OkL (awakeL a1 3 a2 4) := by
    refine ⟨(show 2 ≤ maxLen by decide), fun k hk => ?_⟩
    match k, hk with
    | 0, _ => exact ⟨(show 3 ≤ maxLen by decide), Nat.le_refl 3⟩
    | 1, _ => exact ⟨(show 4 ≤ maxLen by decide), Nat.le_refl 4⟩
    | k + 2, h => exact absurd (show k + 2 < 2 from h) (by omega)
  refine Calls.mono (show Calls Tryz.prog 38 #[.agg #[.string faceN, .int .i64 12, .slice (some ⟨g, 0, none⟩) 13 cap], .slice A 2 2, .slice D 2 2] w (BackPost w faceF (awakeL a1 3 a2 4) [true, false]) from readBack_any faceF (some ⟨g, 0, none⟩) cap A (awakeL a1 3 a2 4) 2 D [true, false] 2 w (faceAt hs hT) hL hO (Nat.le_refl 2) hD (show 2 ≤ maxLen by decide)) ?_
  rintro e w' ⟨hb, hp⟩
  rw [if_pos (ex9 a1 3 a2 4), ex10] at hp
  obtain ⟨v, h1, h2⟩ := hp
  exact ⟨v, h1, h2, hb⟩
theorem ints_cells {w : World} {g : Nat} {l : List Int} (h : w.heap[g]? = some (.cells (vals l).toArray 3 (0, 0))) : IntsAt w (some ⟨g, 0, none⟩) l := fun k hk => by
  refine ⟨_, rfl, heap_lt h, ?_⟩
  rw [add0, cell_of_row w g k _ _ (0, 0) h]
  simpa using vals_at hk
def awakeW (w : World) : World := ((((w.alloc (.cells #[.int .i64 0, .int .i64 1, .int .i64 7] 3)).alloc (.cells #[.int .i64 9, .int .i64 0, .int .i64 12, .int .i64 3] 3)).alloc (.cells #[.int .i64 1, .slice (some ⟨w.heap.size, 0, none⟩) 3 3, .int .i64 1, .slice (some ⟨w.heap.size + 1, 0, none⟩) 4 4] 80)).alloc (.cells #[.bool true, .bool false] 4))
theorem awake_mem (w : World) : LinesAt (awakeW w) (some ⟨w.heap.size + 1 + 1, 0, none⟩) (awakeL (some ⟨w.heap.size, 0, none⟩) 3 (some ⟨w.heap.size + 1, 0, none⟩) 4) ∧ BoolsAt (awakeW w) (some ⟨w.heap.size + 1 + 1 + 1, 0, none⟩) [true, false] := by
  have h1 : (awakeW w).heap[w.heap.size]? = some (.cells #[.int .i64 0, .int .i64 1, .int .i64 7] 3 (0, 0)) := heap_keep (heap_keep (heap_keep (heap_new w (.cells #[.int .i64 0, .int .i64 1, .int .i64 7] 3))))
  have h2 : (awakeW w).heap[w.heap.size + 1]? = some (.cells #[.int .i64 9, .int .i64 0, .int .i64 12, .int .i64 3] 3 (0, 0)) := by
    have h := heap_new (w.alloc (.cells #[.int .i64 0, .int .i64 1, .int .i64 7] 3)) (.cells #[.int .i64 9, .int .i64 0, .int .i64 12, .int .i64 3] 3)
    rw [World.size_alloc] at h
    exact heap_keep (heap_keep h)
  have h3 : (awakeW w).heap[w.heap.size + 1 + 1]? = some (.cells #[.int .i64 1, .slice (some ⟨w.heap.size, 0, none⟩) 3 3, .int .i64 1, .slice (some ⟨w.heap.size + 1, 0, none⟩) 4 4] 80 (0, 0)) := by
    have h := heap_new ((w.alloc (.cells #[.int .i64 0, .int .i64 1, .int .i64 7] 3)).alloc (.cells #[.int .i64 9, .int .i64 0, .int .i64 12, .int .i64 3] 3)) (.cells #[.int .i64 1, .slice (some ⟨w.heap.size, 0, none⟩) 3 3, .int .i64 1, .slice (some ⟨w.heap.size + 1, 0, none⟩) 4 4] 80)
    rw [World.size_alloc, World.size_alloc] at h
    exact heap_keep h
  have h4 : (awakeW w).heap[w.heap.size + 1 + 1 + 1]? = some (.cells #[.bool true, .bool false] 4 (0, 0)) := by
    have h := heap_new (((w.alloc (.cells #[.int .i64 0, .int .i64 1, .int .i64 7] 3)).alloc (.cells #[.int .i64 9, .int .i64 0, .int .i64 12, .int .i64 3] 3)).alloc (.cells #[.int .i64 1, .slice (some ⟨w.heap.size, 0, none⟩) 3 3, .int .i64 1, .slice (some ⟨w.heap.size + 1, 0, none⟩) 4 4] 80)) (.cells #[.bool true, .bool false] 4)
    rw [World.size_alloc, World.size_alloc, World.size_alloc] at h
    exact h
  refine ⟨fun k hk => ?_, fun k hk => ?_⟩
  · match k, hk with
    | 0, _ => exact ⟨_, rfl, heap_lt h3, ⟨cell_of_row _ _ 0 _ _ (0, 0) h3, cell_of_row _ _ 1 _ _ (0, 0) h3⟩, ints_cells (l := [0, 1, 7]) h1⟩
    | 1, _ => exact ⟨_, rfl, heap_lt h3, ⟨cell_of_row _ _ 2 _ _ (0, 0) h3, cell_of_row _ _ 3 _ _ (0, 0) h3⟩, ints_cells (l := [9, 0, 12, 3]) h2⟩
    | k + 2, h => exact absurd (show k + 2 < 2 from h) (by omega)
  · match k, hk with
    | 0, _ => exact ⟨_, rfl, heap_lt h4, cell_of_row _ _ 0 _ _ (0, 0) h4⟩
    | 1, _ => exact ⟨_, rfl, heap_lt h4, cell_of_row _ _ 1 _ _ (0, 0) h4⟩
    | k + 2, h => exact absurd (show k + 2 < 2 from h) (by omega)
theorem same_ints (L : List Int) (A : Option Addr) (d : Nat) (g c : Nat) (W : World) (hl : L.length ≤ maxLen) (h1 : IntsAt W A L) (h2 : W.heap[g]? = some (.cells (vals L).toArray 3 (0, 0))) :
    Calls Tryz.prog 40 #[.slice A L.length d, .slice (some ⟨g, 0, none⟩) L.length c] W fun e w' => e = .returned (.bool true) ∧ Drew W w' :=
  (ints_any A L d (some ⟨g, 0, none⟩) L c W h1 (ints_cells h2) hl hl).mono fun e w' h => ⟨h.1.trans (by rw [decide_eq_true rfl]), h.2⟩
theorem same_texts (L : List ByteArray) (A : Option Addr) (d : Nat) (g c : Nat) (W : World) (hl : L.length ≤ maxLen) (h1 : TextsAt W A L) (h2 : TextsAt W (some ⟨g, 0, none⟩) L) :
    Calls Tryz.prog 39 #[.slice A L.length d, .slice (some ⟨g, 0, none⟩) L.length c] W fun e w' => e = .returned (.bool true) ∧ Drew W w' :=
  (texts_any A L d (some ⟨g, 0, none⟩) L c W h1 h2 hl hl).mono fun e w' h => by
    obtain ⟨⟨q, hq, hi⟩, hD⟩ := h
    rw [hi.2 rfl] at hq
    exact ⟨hq, hD⟩
theorem texts_own {w : World} {base n : Nat} {v : Value} {l : List ByteArray} (h : w.ownsRow base 9 1 v n (txs l)) (hn : n = l.length) {A : Option Addr} {d : Nat} (hv : v = .slice A n d) : TextsAt w A l := by
  subst hv
  rcases h.2 with ⟨e1, e2⟩ | ⟨g, cap, cur, e1, _⟩
  · intro k hk; omega
  · cases e1
    exact texts_of_row h
set_option maxRecDepth 100000 in
set_option maxHeartbeats 2000000 in
theorem awake_any (w : World) (hT : TabOk w) : Calls Tryz.prog 8 #[] w fun e w' => e = .returned (.bool true) ∧ Below w.heap.size w w' := by
  go_enter Tryz.func8, Tryz.ntmps8
  go_wp2_with fail
  refine (Face_any _).mono ?_
  rintro e w1 ⟨g1, k1, rfl, hs1, -, hb1⟩
  have hT1 := hT.below hb1 hT.1
  have hz1 := hb1.size
  go_wp2_with fail
  refine (House_any _).mono ?_
  rintro e w2 ⟨p1, p2, rfl, hr2, hb2⟩
  have hs2 := hs1.below hb2
  have hT2 := hT1.below hb2 hT1.1
  have hB2 := hb1.trans (hb2.mono hz1)
  clear hs1 hb1 hb2 hT1
  go_wp2_with fail
  refine (ex_sorts g1 k1 p1 p2 _ hs2 hT2 hr2).mono ?_
  rintro e w3 ⟨v1, rfl, hv1, hb3⟩
  have hT3 := hT2.below hb3 hT2.1
  have hB3 := hB2.trans (hb3.mono hB2.size)
  clear hs2 hb3 hB2 hT2 hr2
  go_wp2_with fail
  refine (House_any _).mono ?_
  rintro e w4 ⟨p3, p4, rfl, hr4, hb4⟩
  have hT4 := hT3.below hb4 hT3.1
  have hv4 := hv1.below hb4
  have hB4 := hB3.trans (hb4.mono hB3.size)
  clear hv1 hb4 hB3 hT3
  go_wp2_with fail
  refine (ex_hyph p3 p4 _ hr4).mono ?_
  rintro e w5 ⟨rfl, hb5⟩
  have hT5 := hT4.below hb5 hT4.1
  have hv5 := hv4.below hb5
  have hB5 := hB4.trans (hb5.mono hB4.size)
  clear hv4 hb5 hB4 hT4 hr4
  go_wp2_with fail
  refine (Face_any _).mono ?_
  rintro e w6 ⟨g2, k2, rfl, hs6, -, hb6⟩
  have hT6 := hT5.below hb6 hT5.1
  have hv6 := hv5.below hb6
  have hB6 := hB5.trans (hb6.mono hB5.size)
  clear hv5 hb6 hB5 hT5
  go_wp2_with fail
  refine (House_any _).mono ?_
  rintro e w7 ⟨p5, p6, rfl, hr7, hb7⟩
  have hs7 := hs6.below hb7
  have hT7 := hT6.below hb7 hT6.1
  have hv7 := hv6.below hb7
  have hB7 := hB6.trans (hb7.mono hB6.size)
  clear hv6 hb7 hB6 hT6 hs6
  go_wp2_with fail
  refine (ex_few g2 k2 p5 p6 _ hs7 hT7 hr7).mono ?_
  rintro e w8 ⟨v2, rfl, hv8, hb8⟩
  have hT8 := hT7.below hb8 hT7.1
  have hu8 := hv7.below hb8
  have hB8 := hB7.trans (hb8.mono hB7.size)
  clear hv7 hb8 hB7 hT7 hs7 hr7
  go_wp2_with fail
  refine (Face_any _).mono ?_
  rintro e w9 ⟨g3, k3, rfl, hs9, -, hb9⟩
  have hT9 := hT8.below hb9 hT8.1
  have hu9 := hu8.below hb9
  have hv9 := hv8.below hb9
  have hB9 := hB8.trans (hb9.mono hB8.size)
  clear hu8 hv8 hb9 hB8 hT8
  have hm := awake_mem w9
  have hbw : Below w9.heap.size w9 (awakeW w9) := ((((Below.refl _ _).alloc (Nat.le_refl _) _).alloc (by simp) _).alloc (by simp; omega) _).alloc (by simp; omega) _
  have HRB := Lib.hid (ex_back g3 k3 (some ⟨w9.heap.size + 1 + 1, 0, none⟩) (some ⟨w9.heap.size + 1 + 1 + 1, 0, none⟩) (some ⟨w9.heap.size, 0, none⟩) (some ⟨w9.heap.size + 1, 0, none⟩) (awakeW w9) (hs9.below hbw) (hT9.below hbw hT9.1) hm.1 hm.2)
  have hB9w := hB9.trans (hbw.mono hB9.size)
  have hua := hu9.below hbw
  have hva := hv9.below hbw
  clear hu9 hv9 hB9 hs9 hm hT9 hbw hT
  unfold awakeW at HRB hB9w hua hva
  go_wp2_with fail
  refine HRB.out.mono ?_
  rintro e w10 ⟨v3, rfl, hv10, hb10⟩
  have hub := hua.below hb10
  have hvb := hva.below hb10
  have hB10 := hB9w.trans (hb10.mono hB9w.size)
  obtain ⟨A1, d1, rfl, hI1, -, -⟩ := hub.shape
  obtain ⟨A2, d2, rfl, hI2, -, -⟩ := hvb.shape
  obtain ⟨A3, d3, rfl, hd3, hA3⟩ := own_form hv10
  have hI3 : TextsAt w10 A3 [⟨#[101, 102, 102, 105, 101]⟩, ⟨#[108]⟩] := texts_own hv10 rfl rfl
  clear HRB hB9w hua hva hub hvb hb10 hv10 hd3 hA3
  go_wp2_with fail
  refine Calls.mono (same_ints [5, 6, 0, 3, 1, 1, 4, 3] A1 d1 w10.heap.size 8 _ (by decide) (hI1.alloc _) (heap_new _ _)) ?_
  rintro e w11 ⟨rfl, hD11⟩
  have hbd : Below w10.heap.size w10 w11 := hD11.below ((Below.refl _ _).alloc (Nat.le_refl _) _)
  have hJ2 := hI2.below hbd
  have hJ3 := hI3.below hbd
  have hB11 := hB10.trans (hbd.mono hB10.size)
  clear hI1 hI2 hI3 hbd hB10 hD11
  go_wp2_with fail
  refine Calls.mono (same_ints [1, 11] A2 d2 w11.heap.size 2 _ (by decide) (hJ2.alloc _) (heap_new _ _)) ?_
  rintro e w12 ⟨rfl, hD12⟩
  have hbd : Below w11.heap.size w11 w12 := hD12.below ((Below.refl _ _).alloc (Nat.le_refl _) _)
  have hK3 := hJ3.below hbd
  have hB12 := hB11.trans (hbd.mono hB11.size)
  clear hJ2 hJ3 hbd hB11 hD12
  go_wp2_with fail
  refine Calls.mono (same_texts [⟨#[101, 102, 102, 105, 101]⟩, ⟨#[108]⟩] A3 d3 w12.heap.size 2 _ (by decide) (hK3.alloc _) (texts_alloc [⟨#[101, 102, 102, 105, 101]⟩, ⟨#[108]⟩] w12)) ?_
  rintro e w13 ⟨rfl, hD13⟩
  have hbd : Below w12.heap.size w12 w13 := hD13.below ((Below.refl _ _).alloc (Nat.le_refl _) _)
  have hB13 := hB12.trans (hbd.mono hB12.size)
  clear hK3 hbd hB12 hD13
  go_wp2
  go_ret
  exact ⟨rfl, hB13⟩
end Go.Proofs.YtomblajlpanmjaaGreatDoor
