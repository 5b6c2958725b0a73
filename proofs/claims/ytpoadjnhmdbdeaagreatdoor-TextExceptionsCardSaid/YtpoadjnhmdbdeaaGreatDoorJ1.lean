/-
  Walk of TextExceptions.
-/
import Derived.Test.YtpoadjnhmdbdeaaGreatDoorZY
namespace Go.Proofs.YtpoadjnhmdbdeaaGreatDoor
open Go.RowKit Go.Maps Go.Shelf

structure TwoKnow (w : World) (r : RU) (m0 m1 : ByteArray) (wr : World) : Prop where
  box : wr.heap[w.heap.size]? = some (.cells #[.slice r.ps.a r.ps.l.length r.ps.c, .slice r.es.a r.es.l.length r.es.c, .slice r.bs.a r.bs.l.length r.bs.c, .int .i64 r.left, .int .i64 r.right] 24 (0, 0))
  two : wr.heap[w.heap.size + 1]? = some (.cells #[.string m0, .string m1] 100 (0, 0))
  low : Below w.heap.size w wr
theorem TwoKnow.below {w : World} {r : RU} {m0 m1 : ByteArray} {wr wr' : World} (h : TwoKnow w r m0 m1 wr) (hb : Below wr.heap.size wr wr') : TwoKnow w r m0 m1 wr' := ⟨(hb.block _ (heap_lt h.box)).trans h.box, (hb.block _ (heap_lt h.two)).trans h.two, h.low.trans (hb.mono h.low.size)⟩
theorem TwoKnow.c {w : World} {r : RU} {m0 m1 : ByteArray} {wr : World} (h : TwoKnow w r m0 m1 wr) : wr.cell? ⟨w.heap.size, 0, none⟩ = some (.slice r.ps.a r.ps.l.length r.ps.c) ∧ wr.cell? ⟨w.heap.size, 1, none⟩ = some (.slice r.es.a r.es.l.length r.es.c) ∧ wr.cell? ⟨w.heap.size, 2, none⟩ = some (.slice r.bs.a r.bs.l.length r.bs.c) ∧ wr.cell? ⟨w.heap.size, 3, none⟩ = some (.int .i64 r.left) ∧ wr.cell? ⟨w.heap.size, 4, none⟩ = some (.int .i64 r.right) :=
  ⟨cell_of_row wr _ 0 _ _ (0, 0) h.box, cell_of_row wr _ 1 _ _ (0, 0) h.box, cell_of_row wr _ 2 _ _ (0, 0) h.box, cell_of_row wr _ 3 _ _ (0, 0) h.box, cell_of_row wr _ 4 _ _ (0, 0) h.box⟩
theorem TwoKnow.d {w : World} {r : RU} {m0 m1 : ByteArray} {wr : World} (h : TwoKnow w r m0 m1 wr) : wr.cell? ⟨w.heap.size + 1, 0, none⟩ = some (.string m0) ∧ wr.cell? ⟨w.heap.size + 1, 1, none⟩ = some (.string m1) :=
  ⟨cell_of_row wr _ 0 _ _ (0, 0) h.two, cell_of_row wr _ 1 _ _ (0, 0) h.two⟩

def catN (l : List ByteArray) : Nat → ByteArray
  | 0 => ⟨#[]⟩
  | k + 1 => catN l k ++ l.getD k noTx
theorem catN_bs (l : List (List UInt8)) : ∀ k, k ≤ l.length → (catN (l.map bs) k).data.toList = (l.take k).flatten
  | 0, _ => by simp [catN]
  | k + 1, h => by
    have ih := catN_bs l k (by omega)
    have hk : k < l.length := by omega
    unfold catN
    rw [ByteArray.data_append, Array.toList_append, ih, List.take_succ_eq_append_getElem hk, List.flatten_append]
    have e : (l.map bs).getD k noTx = bs l[k] := by rw [List.getD_eq_getElem?_getD, List.getElem?_map, List.getElem?_eq_getElem hk]; rfl
    rw [e]
    simp [bs]
theorem split_flat_le (m : UInt8) : ∀ l : List UInt8, (splitOn m l).flatten.length ≤ l.length
  | [] => Nat.le_refl _
  | c :: l => by
    have ih := split_flat_le m l
    by_cases h : c = m
    · subst h
      rw [splitOn_cons_eq]
      simp only [List.flatten_cons, List.length_append, List.length_nil, List.length_cons]
      omega
    · rw [splitOn_cons_ne h]
      rw [splitOn_form] at ih
      simp only [List.flatten_cons, List.length_append, List.length_cons] at ih ⊢
      omega
theorem split_len_le (m : UInt8) : ∀ l : List UInt8, (splitOn m l).length ≤ l.length + 1
  | [] => Nat.le_refl _
  | c :: l => by
    have ih := split_len_le m l
    by_cases h : c = m
    · subst h
      rw [splitOn_cons_eq]
      simp only [List.length_cons]
      omega
    · rw [splitOn_cons_ne h]
      rw [splitOn_form] at ih
      simp only [List.length_cons] at ih ⊢
      omega
theorem catN_size (m : UInt8) (t : ByteArray) {k : Nat} (hk : k ≤ (splitOn m t.data.toList).length) : (catN ((splitOn m t.data.toList).map bs) k).size ≤ t.size := by
  have h := congrArg List.length (catN_bs (splitOn m t.data.toList) k hk)
  rw [Array.length_toList (xs := (catN ((splitOn m t.data.toList).map bs) k).data)] at h
  have h2 : ((splitOn m t.data.toList).take k).flatten.length ≤ (splitOn m t.data.toList).flatten.length := by
    rw [← List.take_append_drop k (splitOn m t.data.toList), List.flatten_append, List.length_append, List.take_left']
    · omega
    · rw [List.length_take]; omega
  have h3 := split_flat_le m t.data.toList
  rw [Array.length_toList (xs := t.data)] at h3
  show (catN ((splitOn m t.data.toList).map bs) k).data.size ≤ t.data.size
  omega
theorem small_snoc {l : List ByteArray} {m : ByteArray} (h : TXSmall l) (hm : m.size ≤ 1000) : TXSmall (l ++ [m]) := by
  intro k hk
  rw [List.length_append, List.length_singleton] at hk
  by_cases h1 : k < l.length
  · rw [getD_snoc h1]; exact h k h1
  · obtain rfl : k = l.length := by omega
    rw [getD_last]; exact hm
theorem sizes_small {l : List ByteArray} (h : TXSmall l) : SizesOk l := fun k hk => Nat.le_trans (h k hk) (by decide)
/-- Rules whose rows are known. -/
theorem at_of_rows {w : World} {base : Nat} {x : RU} (o1 : w.ownsRow base 9 1 x.ps.val x.ps.l.length (txs x.ps.l)) (o2 : w.ownsRow base 9 1 x.es.val x.es.l.length (txs x.es.l)) (o3 : w.ownsRow base 9 1 x.bs.val x.bs.l.length (txs x.bs.l)) (hS : RSmall x) (hl : x.ps.l.length ≤ 1000 ∧ x.es.l.length ≤ 1000 ∧ x.bs.l.length ≤ 1000) : x.at_ w := by
  refine ⟨⟨texts_own o1 rfl rfl, ?_, sizes_small hS.1⟩, ⟨texts_own o2 rfl rfl, ?_, sizes_small hS.2.1⟩, ⟨texts_own o3 rfl rfl, ?_, sizes_small hS.2.2⟩⟩
  · unfold maxLen; omega
  · unfold maxLen; omega
  · unfold maxLen; omega
theorem lvTo_len {r : RU} {s : ByteArray} (he : ruleErr r s = 0) : (lvTo (patG r.ps.l) (lowS s) r.ps.l.length).length = s.size + 1 := by
  obtain ⟨_, hok⟩ := checkR_pats (rules_ok he).1
  have h := (lvTo_ok (fn := patG r.ps.l) (s := lowS s) (m := r.ps.l.length) (fun j hj k => ((hok j hj).digs k).2) _ (Nat.le_refl _)).1
  rw [lowS_size] at h
  exact h
theorem ruleErr_new {r x : RU} {s : ByteArray} (he : ruleErr r s = 0) (hx : (checkR x).2 = 0) : ruleErr x s = 0 := by
  unfold ruleErr
  rw [if_neg (by simp [hx])]
  exact (rules_ok he).2

set_option maxRecDepth 100000 in
set_option maxHeartbeats 4000000 in
theorem exceptions_walk (r : RU) (s m0 m1 : ByteArray) (w : World) (hR : r.at_ w) (hT : TabOk w) (hc : capR r) (hs : s.size ≤ maxLen) :
    Calls Tryz.prog 12 #[.agg r.cells, .string s, .agg #[.string m0, .string m1]] w fun e w' => e = .returned (.bool true) ∧ Below w.heap.size w w' := by
  have hK0 : TwoKnow w r m0 m1 ((w.alloc (.cells #[.slice r.ps.a r.ps.l.length r.ps.c, .slice r.es.a r.es.l.length r.es.c, .slice r.bs.a r.bs.l.length r.bs.c, .int .i64 r.left, .int .i64 r.right] 24)).alloc (.cells #[.string m0, .string m1] 100)) := by
    refine ⟨heap_keep (heap_new _ _), ?_, ((Below.refl _ _).alloc (Nat.le_refl _) _).alloc (by simp) _⟩
    have h := heap_new (w.alloc (.cells #[.slice r.ps.a r.ps.l.length r.ps.c, .slice r.es.a r.es.l.length r.es.c, .slice r.bs.a r.bs.l.length r.bs.c, .int .i64 r.left, .int .i64 r.right] 24)) (.cells #[.string m0, .string m1] 100)
    rw [World.size_alloc] at h
    exact h
  unfold RU.cells
  go_enter Tryz.func12, Tryz.ntmps12
  go_wp2_with fail
  refine (awake_any _ (hT.below hK0.low hT.1)).mono ?_
  rintro e w2 ⟨rfl, hb2⟩
  have hK2 := hK0.below hb2
  clear hK0 hb2
  obtain ⟨c0, c1, c2, c3, c4⟩ := hK2.c
  obtain ⟨d0, d1⟩ := hK2.d
  go_wp2_with fail
  refine (Short_any r _ (hR.below hK2.low)).mono ?_
  rintro e w3 ⟨rfl, hb3⟩
  have hK3 := hK2.below hb3
  clear hK2 hb3 c0 c1 c2 c3 c4 d0 d1
  obtain ⟨c0, c1, c2, c3, c4⟩ := hK3.c
  obtain ⟨d0, d1⟩ := hK3.d
  cases hsh : shortR r
  · have hlow := hK3.low
    go_wp2
    go_ret
    exact ⟨rfl, hlow⟩
  by_cases h40 : 40 < s.size
  · have hlow := hK3.low
    have g1 : decide ((40 : Int) < (s.size : Int)) = true := decide_eq_true (by omega)
    have i1 : (40 : Int) < (s.size : Int) := by omega
    go_wp2
    go_ret
    exact ⟨rfl, hlow⟩
  have g1 : decide ((40 : Int) < (s.size : Int)) = false := decide_eq_false (by omega)
  have i1 : ¬ (40 : Int) < (s.size : Int) := by omega
  by_cases h41 : 40 < m0.size
  · have hlow := hK3.low
    have g2 : decide ((40 : Int) < (m0.size : Int)) = true := decide_eq_true (by omega)
    have i2 : (40 : Int) < (m0.size : Int) := by omega
    go_wp2
    go_ret
    exact ⟨rfl, hlow⟩
  have g2 : decide ((40 : Int) < (m0.size : Int)) = false := decide_eq_false (by omega)
  have i2 : ¬ (40 : Int) < (m0.size : Int) := by omega
  by_cases h42 : 40 < m1.size
  · have hlow := hK3.low
    have g3 : decide ((40 : Int) < (m1.size : Int)) = true := decide_eq_true (by omega)
    have i3 : (40 : Int) < (m1.size : Int) := by omega
    go_wp2
    go_ret
    exact ⟨rfl, hlow⟩
  have g3 : decide ((40 : Int) < (m1.size : Int)) = false := decide_eq_false (by omega)
  have i3 : ¬ (40 : Int) < (m1.size : Int) := by omega
  obtain ⟨hSm, hl1, hl2, hl3⟩ := small_short hsh
  go_wp2_with fail
  refine (rulesErr_any r s _ (hR.below hK3.low) hSm hs).mono ?_
  rintro e w4 ⟨rfl, hb4⟩
  have hK4 := hK3.below hb4
  clear hK3 hb4 c0 c1 c2 c3 c4 d0 d1 g1 g2 g3 i1 i2 i3
  by_cases he : ruleErr r s = 0
  · rw [he]
    obtain ⟨c0, c1, c2, c3, c4⟩ := hK4.c
    obtain ⟨d0, d1⟩ := hK4.d
    have hz : SizesOk r.ps.l ∧ SizesOk r.es.l ∧ SizesOk r.bs.l := ⟨hR.1.2.2, hR.2.1.2.2, hR.2.2.2.2⟩
    have hl : r.ps.l.length ≤ 1000 ∧ r.es.l.length ≤ 1000 ∧ r.bs.l.length ≤ 1000 := ⟨by omega, by omega, by omega⟩
    have HCP := Lib.hid (fun W (h : r.at_ W) => copyRules_any r W h hc hl.1 hl.2.1 hl.2.2)
    have HR := Lib.hid (fun W (h : TwoKnow w r m0 m1 W) => hR.below h.low)
    clear hR hT hc hsh
    unfold RU.cells at HCP
    go_wp2_with fail
    refine (HCP.out _ (HR.out _ hK4)).mono ?_
    rintro e w5 ⟨r1, rfl, hS1, hO1, hb5⟩
    have hA1 := own_at hS1 hO1 hz hl
    have hK5 := hK4.below hb5
    clear hK4 hb5 hO1 c0 c1 c2 c3 c4 d0 d1
    obtain ⟨c0, c1, c2, c3, c4⟩ := hK5.c
    obtain ⟨d0, d1⟩ := hK5.d
    have HH := hyphens_same w5 hS1 hA1 he hs
    unfold RU.cells at HH
    go_wp2_with fail
    refine HH.mono ?_
    rintro e w6 ⟨⟨A1, k1, rfl, hI1⟩, hb6⟩
    have hK6 := hK5.below hb6
    clear hK5 hb6 c0 c1 c2 c3 c4 d0 d1 hA1 HH hS1
    obtain ⟨c0, c1, c2, c3, c4⟩ := hK6.c
    obtain ⟨d0, d1⟩ := hK6.d
    go_wp2_with fail
    refine (HCP.out _ (HR.out _ hK6)).mono ?_
    rintro e w7 ⟨r2, rfl, hS1, hO1, hb7⟩
    have hA1 := own_at hS1 hO1 hz hl
    have hK7 := hK6.below hb7
    have hI1 := hI1.below hb7
    clear hK6 hb7 hO1 c0 c1 c2 c3 c4 d0 d1
    obtain ⟨c0, c1, c2, c3, c4⟩ := hK7.c
    obtain ⟨d0, d1⟩ := hK7.d
    have HH := levels_same w7 hS1 hA1 he hs
    unfold RU.cells at HH
    go_wp2_with fail
    refine HH.mono ?_
    rintro e w8 ⟨⟨h2, rfl, hL2⟩, hb8⟩
    have hK8 := hK7.below hb8
    have hI1 := hI1.below hb8
    clear hK7 hb8 c0 c1 c2 c3 c4 d0 d1 hA1 HH hS1
    obtain ⟨c0, c1, c2, c3, c4⟩ := hK8.c
    obtain ⟨d0, d1⟩ := hK8.d
    go_wp2_with fail
    refine (HCP.out _ (HR.out _ hK8)).mono ?_
    rintro e w9 ⟨rx, rfl, hSx, hOx, hb9⟩
    have hK9 := hK8.below hb9
    obtain ⟨d0', d1'⟩ := hK9.d
    clear c0 c1 c2 c3 c4 d0 d1
    have d0 := d0'
    have d1 := d1'
    clear d0' d1'
    have hz9 := hb9.size
    have hz9b := heap_lt hK9.two
    have hz8 := heap_lt hK8.two
    obtain ⟨o1, o2, o3, ap1, ap2, ap3⟩ := hOx
    have hln : rx.es.l.length ≤ 42 := by rw [hSx.2.1]; exact hl2
    have hnews : ((w9.alloc (.cells #[.slice rx.ps.a rx.ps.l.length rx.ps.c, .slice rx.es.a rx.es.l.length rx.es.c, .slice rx.bs.a rx.bs.l.length rx.bs.c, .int .i64 rx.left, .int .i64 rx.right] 24)).alloc (.cells #[.string m0] 9)).heap[w9.heap.size + 1]? = some (.cells #[.string m0] 9 (0, 0)) := by
      have h := heap_new (w9.alloc (.cells #[.slice rx.ps.a rx.ps.l.length rx.ps.c, .slice rx.es.a rx.es.l.length rx.es.c, .slice rx.bs.a rx.bs.l.length rx.bs.c, .int .i64 rx.left, .int .i64 rx.right] 24)) (.cells #[.string m0] 9)
      rw [World.size_alloc] at h
      exact h
    have hbox := heap_keep (o := .cells #[.string m0] 9) (heap_new w9 (.cells #[.slice rx.ps.a rx.ps.l.length rx.ps.c, .slice rx.es.a rx.es.l.length rx.es.c, .slice rx.bs.a rx.bs.l.length rx.bs.c, .int .i64 rx.left, .int .i64 rx.right] 24))
    obtain ⟨i0, hi0, hq0, hq1, hq2⟩ := info_parts info_str
    have hh1 : rx.es.l.length + 1 ≤ maxLen := by unfold maxLen; omega
    have hh2 : (rx.es.l.length + 1) * 16 ≤ 140737488355328 := by omega
    have hN := hh2
    have off1 : (Value.slice rx.es.a rx.es.l.length rx.es.c).ownBlock ≠ some w9.heap.size := fun e => by
      have := (o2.lt _ e).2
      omega
    go_wp2_with (at_builtin; refine wpList_append_own _ rfl _ _ 22 rfl w8.heap.size 9 i0 _ 1 16 Tryz.underlying22 hi0 hq0 hq1 hq2 rfl (by decide) _ rx.es.l.length _ rfl ((o2.alloc _).alloc _) ⟨w9.heap.size + 1, 0, none⟩ 1 1 [.string m0] rfl rfl (World.news_of_block (cs := #[.string m0]) (t := 9) (fr := (0, 0)) hnews) (by simp [Value.oneCell']) hh1 hh2 (by simp; omega) ?_; intro v11 w11 hown11 hgrow hnil; obtain ⟨g11, k11, rfl⟩ := own_pos hown11; have hbx := (hgrow.block w9.heap.size (by simp; omega) (fun e => off1 e.symm)).trans hbox; have z1 : w11.frozen? ⟨w9.heap.size, 1, none⟩ = false := (by simp [World.frozen?, hbx]); have x0 := cell_of_row w11 _ 0 _ _ (0, 0) hbx; have x1 := cell_of_row w11 _ 1 _ _ (0, 0) hbx; have x2 := cell_of_row w11 _ 2 _ _ (0, 0) hbx; have x3 := cell_of_row w11 _ 3 _ _ (0, 0) hbx; have x4 := cell_of_row w11 _ 4 _ _ (0, 0) hbx)
    have hB10 := (hb9.alloc hz9 (.cells #[.slice rx.ps.a rx.ps.l.length rx.ps.c, .slice rx.es.a rx.es.l.length rx.es.c, .slice rx.bs.a rx.bs.l.length rx.bs.c, .int .i64 rx.left, .int .i64 rx.right] 24)).alloc (by simp; omega) (.cells #[.string m0] 9)
    have hB11 := (hB10.grown hgrow hB10.size (fun q hq => (o2.lt q hq).1)).setCell (p := ⟨w9.heap.size, 1, none⟩) hz9 (.slice (some ⟨g11, 0, none⟩) (rx.es.l.length + 1) k11)
    have hbx2 := heap_set2 hbx 1 (.slice (some ⟨g11, 0, none⟩) (rx.es.l.length + 1) k11)
    have p2 := own_put hown11 hbx (by decide) 1 (.slice (some ⟨g11, 0, none⟩) (rx.es.l.length + 1) k11)
    have p1 := own_put (((o1.alloc (.cells #[.slice rx.ps.a rx.ps.l.length rx.ps.c, .slice rx.es.a rx.es.l.length rx.es.c, .slice rx.bs.a rx.bs.l.length rx.bs.c, .int .i64 rx.left, .int .i64 rx.right] 24)).alloc (.cells #[.string m0] 9)).kept hgrow (Or.inr ap1)) hbx (by decide) 1 (.slice (some ⟨g11, 0, none⟩) (rx.es.l.length + 1) k11)
    have p3 := own_put (((o3.alloc (.cells #[.slice rx.ps.a rx.ps.l.length rx.ps.c, .slice rx.es.a rx.es.l.length rx.es.c, .slice rx.bs.a rx.bs.l.length rx.bs.c, .int .i64 rx.left, .int .i64 rx.right] 24)).alloc (.cells #[.string m0] 9)).kept hgrow (Or.inr ap3.symm)) hbx (by decide) 1 (.slice (some ⟨g11, 0, none⟩) (rx.es.l.length + 1) k11)
    rw [txs_snoc] at p2
    obtain ⟨X, hX⟩ : ∃ X : RU, X = ⟨rx.ps, ⟨some ⟨g11, 0, none⟩, k11, rx.es.l ++ [m0]⟩, rx.bs, rx.left, rx.right⟩ := ⟨_, rfl⟩
    have hXs : RSmall X := by
      rw [hX]
      exact ⟨by rw [hSx.1]; exact hSm.1, small_snoc (by rw [hSx.2.1]; exact hSm.2.1) (by omega), by rw [hSx.2.2.1]; exact hSm.2.2⟩
    have hXl : X.es.l.length = rx.es.l.length + 1 := by rw [hX]; simp
    obtain ⟨w12, e12⟩ : ∃ w12, w12 = w11.setCell ⟨w9.heap.size, 1, none⟩ (.slice (some ⟨g11, 0, none⟩) (rx.es.l.length + 1) k11) := ⟨_, rfl⟩
    rw [← e12] at hB11 hbx2 p1 p2 p3 ⊢
    have hXa : X.at_ w12 := by
      refine at_of_rows (base := w8.heap.size) ?_ ?_ ?_ hXs ⟨?_, ?_, ?_⟩
      · rw [hX]; exact p1
      · rw [hX]
        show w12.ownsRow _ _ 1 (.slice (some ⟨g11, 0, none⟩) (rx.es.l ++ [m0]).length k11) (rx.es.l ++ [m0]).length _
        rw [List.length_append]
        exact p2
      · rw [hX]; exact p3
      · rw [hX]; show rx.ps.l.length ≤ 1000; rw [hSx.1]; omega
      · rw [hXl]; omega
      · rw [hX]; show rx.bs.l.length ≤ 1000; rw [hSx.2.2.1]; omega
    have HE := refErr_any X w12 hXa hXs.1 hXs.2.1 hXs.2.2
    unfold RU.cells at HE
    have hK12 := hK8.below hB11
    have hI12 := hI1.below hB11
    have hL12 : RowX w12 h2 (lvTo (patG r.ps.l) (lowS s) r.ps.l.length) := (hB11.block _ (heap_lt hL2)).trans hL2
    have hXe : X.es.l = r.es.l ++ [m0] := by rw [hX]; show rx.es.l ++ [m0] = _; rw [hSx.2.1]
    have hXp : X.ps.l = r.ps.l := by rw [hX]; exact hSx.1
    have hXf : X.left = r.left := by rw [hX]; exact hSx.2.2.2.1
    have hXr : X.right = r.right := by rw [hX]; exact hSx.2.2.2.2
    have v0 : Value.slice rx.ps.a rx.ps.l.length rx.ps.c = .slice X.ps.a X.ps.l.length X.ps.c := by rw [hX]
    have v1 : Value.slice (some ⟨g11, 0, none⟩) (rx.es.l.length + 1) k11 = .slice X.es.a X.es.l.length X.es.c := by rw [hX]; simp
    have v2 : Value.slice rx.bs.a rx.bs.l.length rx.bs.c = .slice X.bs.a X.bs.l.length X.bs.c := by rw [hX]
    have v3 : Value.int .i64 rx.left = .int .i64 X.left := by rw [hX]
    have v4 : Value.int .i64 rx.right = .int .i64 X.right := by rw [hX]
    have hbx3 : w12.heap[w9.heap.size]? = some (.cells #[.slice X.ps.a X.ps.l.length X.ps.c, .slice X.es.a X.es.l.length X.es.c, .slice X.bs.a X.bs.l.length X.bs.c, .int .i64 X.left, .int .i64 X.right] 24 (0, 0)) := by
      rw [← v0, ← v1, ← v2, ← v3, ← v4]
      exact hbx2
    rw [v0, v1, v2, v3, v4]
    have hzb := heap_lt hbx3
    clear v0 v1 v2 v3 v4 hX p1 p2 p3 hB10 hB11 hbx2 hbx hgrow hown11 o1 o2 o3 ap1 ap2 ap3 e12 hbox hnews z1 x0 x1 x2 x3 x4 hI1 hL2 hK8 hK9 hb9 d0 d1 off1 hSx
    refine HE.mono ?_
    rintro e w13 ⟨rfl, hb13⟩
    have hK13 := hK12.below hb13
    have hL13 : RowX w13 h2 (lvTo (patG r.ps.l) (lowS s) r.ps.l.length) := (hb13.block _ (heap_lt hL12)).trans hL12
    have hI13 := hI12.below hb13
    have hX13 := hXa.below hb13
    have hbX := (hb13.block _ (heap_lt hbx3)).trans hbx3
    clear hb13 hK12 hL12 hI12 hXa hbx3 HE
    by_cases hx : (checkR X).2 = 0
    · rw [hx]
      have hrx := ruleErr_new he hx
      have HAD := Lib.hid (fun (h : (splitOn 45 m0.data.toList).flatten ≠ (lowS s).data.toList) => hyph_add (r := r) (x := X) (m := m0) (s := s) hXp hXe hXf hXr hx h)
      clear hXp hXe hXf hXr hXl
      obtain ⟨d0, d1⟩ := hK13.d
      go_wp2_with fail
      clear d0 d1
      refine (cut_any m0 45 _ (by omega)).mono ?_
      rintro e w14 ⟨hb14, v, rfl, hTr⟩
      obtain ⟨A, c, rfl, hTx, -, -⟩ := hTr.shape
      have hK14 := hK13.below hb14
      have hL14 : RowX w14 h2 (lvTo (patG r.ps.l) (lowS s) r.ps.l.length) := (hb14.block _ (heap_lt hL13)).trans hL13
      have hI14 := hI13.below hb14
      have hX14 := hX13.below hb14
      have hbX14 := (hb14.block _ (heap_lt hbX)).trans hbX
      clear hb14 hK13 hL13 hI13 hX13 hbX hTr hx
      obtain ⟨P, hP⟩ : ∃ P, P = (splitOn 45 m0.data.toList).map bs := ⟨_, rfl⟩
      have HCZ := Lib.hid (fun k (hk : k ≤ P.length) => show (catN P k).size ≤ m0.size by rw [hP]; rw [hP, List.length_map] at hk; exact catN_size 45 m0 hk)
      have HCF := Lib.hid (show (catN P P.length).data.toList = (splitOn 45 m0.data.toList).flatten by rw [hP, List.length_map, catN_bs _ _ (Nat.le_refl _), List.take_length])
      have hPl : P.length ≤ 41 := by
        have h := split_len_le 45 m0.data.toList
        rw [Array.length_toList (xs := m0.data)] at h
        have h2 : m0.data.size = m0.size := rfl
        rw [hP, List.length_map]
        omega
      rw [← hP] at hTx ⊢
      clear hP
      go_wp2_with fail
      go_loopw [12, 14] (fun v12 i wr => ∃ k : Nat, k ≤ P.length ∧ i = .int .i64 k ∧ v12 = .string (catN P k) ∧ Below w14.heap.size w14 wr) (fun _ i _ => P.length - (intOf i).toNat)
      case atStart => exact ⟨0, Nat.zero_le _, rfl, rfl, Below.refl _ _⟩
      case round =>
        obtain ⟨k, hk, rfl, rfl, hB⟩ := hrel
        by_cases hlt : k < P.length
        · have hkl : (k : Int) < (P.length : Int) := by omega
          obtain ⟨p1, rfl, hp1', hc1⟩ := (hTx.below hB) k hlt
          have hcz := HCZ.out (k + 1) (by omega)
          obtain ⟨t, et⟩ : ∃ t, t = P.getD k noTx := ⟨_, rfl⟩
          have hcn : catN P k ++ t = catN P (k + 1) := by rw [et]; rfl
          rw [← et] at hc1
          rw [← hcn, ByteArray.size_append] at hcz
          have hcm : ¬ 9223372036854775807 < (catN P k).size + t.size := by omega
          obtain ⟨z, ez⟩ : ∃ z, z = catN P k := ⟨_, rfl⟩
          rw [← ez] at hcz hcm hcn ⊢
          have HZ := Lib.hid hcn
          clear et ez hcn hcz
          go_wp2
          go_roundw
          case rel => exact ⟨k + 1, by omega, by go_num, by rw [HZ.out], hB⟩
          case measure => simp [intOf]; omega
        · obtain rfl : k = P.length := by omega
          have hcz := HCZ.out P.length (Nat.le_refl _)
          have HCF2 := HCF
          clear HCF HCZ
          obtain ⟨own, eo⟩ : ∃ own, own = catN P P.length := ⟨_, rfl⟩
          rw [← eo] at hcz HCF2 ⊢
          clear eo
          have hK15 := hK14.below hB
          have hL15 : RowX wr h2 (lvTo (patG r.ps.l) (lowS s) r.ps.l.length) := (hB.block _ (heap_lt hL14)).trans hL14
          have hI15 := hI14.below hB
          have hX15 := hX14.below hB
          have hbX15 := (hB.block _ (heap_lt hbX14)).trans hbX14
          clear hK14 hL14 hI14 hX14 hbX14 hB hTx
          have x0 : wr.cell? ⟨w9.heap.size, 0, none⟩ = some (.slice X.ps.a X.ps.l.length X.ps.c) := cell_of_row wr _ 0 _ _ (0, 0) hbX15
          have x1 : wr.cell? ⟨w9.heap.size, 1, none⟩ = some (.slice X.es.a X.es.l.length X.es.c) := cell_of_row wr _ 1 _ _ (0, 0) hbX15
          have x2 : wr.cell? ⟨w9.heap.size, 2, none⟩ = some (.slice X.bs.a X.bs.l.length X.bs.c) := cell_of_row wr _ 2 _ _ (0, 0) hbX15
          have x3 : wr.cell? ⟨w9.heap.size, 3, none⟩ = some (.int .i64 X.left) := cell_of_row wr _ 3 _ _ (0, 0) hbX15
          have x4 : wr.cell? ⟨w9.heap.size, 4, none⟩ = some (.int .i64 X.right) := cell_of_row wr _ 4 _ _ (0, 0) hbX15
          have HH := hyphens_same wr (r := X) (r1 := X) ⟨rfl, rfl, rfl, rfl, rfl⟩ hX15 hrx hs
          unfold RU.cells at HH
          go_wp2_with fail
          refine HH.mono ?_
          rintro e w16 ⟨⟨A2, k2, rfl, hJ16⟩, hb16⟩
          have hK16 := hK15.below hb16
          have hL16 : RowX w16 h2 (lvTo (patG r.ps.l) (lowS s) r.ps.l.length) := (hb16.block _ (heap_lt hL15)).trans hL15
          have hI16 := hI15.below hb16
          clear hK15 hL15 hI15 hX15 hbX15 hb16 x0 x1 x2 x3 x4 HH
          go_wp2_with fail
          refine (same_any own s _ (by omega)).mono ?_
          rintro e w17 ⟨⟨q, rfl, hq⟩, hb17⟩
          have hK17 := hK16.below hb17
          have hL17 : RowX w17 h2 (lvTo (patG r.ps.l) (lowS s) r.ps.l.length) := (hb17.block _ (heap_lt hL16)).trans hL16
          have hI17 := hI16.below hb17
          have hJ17 := hJ16.below hb17
          clear hK16 hL16 hI16 hJ16 hb17
          cases q
          · have hEq : ruleHyph X s = ruleHyph r s := HAD.out (by rw [← HCF2.out]; exact hq rfl)
            rw [hEq] at hJ17 ⊢
            have hHl := (hyph_bounds he).2.1
            have HI := ints_any A1 (ruleHyph r s) k1 A2 (ruleHyph r s) k2 w17 hI17 hJ17 (by unfold maxLen; omega) (by unfold maxLen; omega)
            rw [decide_eq_true rfl] at HI
            clear hI17 hJ17 hEq hq
            go_wp2_with fail
            refine HI.mono ?_
            rintro e w18 ⟨rfl, hD18⟩
            have hb18 : Below w17.heap.size w17 w18 := hD18.below (Below.refl _ _)
            have hKt := hK17.below hb18
            have hLt : RowX w18 h2 (lvTo (patG r.ps.l) (lowS s) r.ps.l.length) := (hb18.block _ (heap_lt hL17)).trans hL17
            clear hK17 hL17 hb18 hD18 HI
            obtain ⟨c0, c1, c2, c3, c4⟩ := hKt.c
            obtain ⟨d0, d1⟩ := hKt.d
            go_wp2_with fail
            refine (HCP.out _ (HR.out _ hKt)).mono ?_
            rintro e w19 ⟨ry, rfl, hSy, hOy, hb19⟩
            have hK19 := hKt.below hb19
            clear c0 c1 c2 c3 c4 d0 d1
            obtain ⟨d0, d1⟩ := hK19.d
            have hz19 := hb19.size
            have hz19b := heap_lt hK19.two
            have hz18 := heap_lt hKt.two
            obtain ⟨o1, o2, o3, ap1, ap2, ap3⟩ := hOy
            have hln : ry.ps.l.length ≤ 62 := by rw [hSy.1]; exact hl1
            have hnews : ((w19.alloc (.cells #[.slice ry.ps.a ry.ps.l.length ry.ps.c, .slice ry.es.a ry.es.l.length ry.es.c, .slice ry.bs.a ry.bs.l.length ry.bs.c, .int .i64 ry.left, .int .i64 ry.right] 24)).alloc (.cells #[.string m1] 9)).heap[w19.heap.size + 1]? = some (.cells #[.string m1] 9 (0, 0)) := by
              have h := heap_new (w19.alloc (.cells #[.slice ry.ps.a ry.ps.l.length ry.ps.c, .slice ry.es.a ry.es.l.length ry.es.c, .slice ry.bs.a ry.bs.l.length ry.bs.c, .int .i64 ry.left, .int .i64 ry.right] 24)) (.cells #[.string m1] 9)
              rw [World.size_alloc] at h
              exact h
            have hbox := heap_keep (o := .cells #[.string m1] 9) (heap_new w19 (.cells #[.slice ry.ps.a ry.ps.l.length ry.ps.c, .slice ry.es.a ry.es.l.length ry.es.c, .slice ry.bs.a ry.bs.l.length ry.bs.c, .int .i64 ry.left, .int .i64 ry.right] 24))
            obtain ⟨i0, hi0, hq0, hq1, hq2⟩ := info_parts info_str
            have hh1 : ry.ps.l.length + 1 ≤ maxLen := by unfold maxLen; omega
            have hh2 : (ry.ps.l.length + 1) * 16 ≤ 140737488355328 := by omega
            have off1 : (Value.slice ry.ps.a ry.ps.l.length ry.ps.c).ownBlock ≠ some w19.heap.size := fun e => by
              have := (o1.lt _ e).2
              omega
            go_wp2_with (at_builtin; refine wpList_append_own _ rfl _ _ 22 rfl w18.heap.size 9 i0 _ 1 16 Tryz.underlying22 hi0 hq0 hq1 hq2 rfl (by decide) _ ry.ps.l.length _ rfl ((o1.alloc _).alloc _) ⟨w19.heap.size + 1, 0, none⟩ 1 1 [.string m1] rfl rfl (World.news_of_block (cs := #[.string m1]) (t := 9) (fr := (0, 0)) hnews) (by simp [Value.oneCell']) hh1 hh2 (by simp; omega) ?_; intro v21 w21 hown21 hgrow hnil; obtain ⟨g21, k21, rfl⟩ := own_pos hown21; have hbx := (hgrow.block w19.heap.size (by simp; omega) (fun e => off1 e.symm)).trans hbox; have z1 : w21.frozen? ⟨w19.heap.size, 0, none⟩ = false := (by simp [World.frozen?, hbx]); have x0 := cell_of_row w21 _ 0 _ _ (0, 0) hbx; have x1 := cell_of_row w21 _ 1 _ _ (0, 0) hbx; have x2 := cell_of_row w21 _ 2 _ _ (0, 0) hbx; have x3 := cell_of_row w21 _ 3 _ _ (0, 0) hbx; have x4 := cell_of_row w21 _ 4 _ _ (0, 0) hbx)
            have hB20 := (hb19.alloc hz19 (.cells #[.slice ry.ps.a ry.ps.l.length ry.ps.c, .slice ry.es.a ry.es.l.length ry.es.c, .slice ry.bs.a ry.bs.l.length ry.bs.c, .int .i64 ry.left, .int .i64 ry.right] 24)).alloc (by simp; omega) (.cells #[.string m1] 9)
            have hB21 := (hB20.grown hgrow hB20.size (fun q hq => (o1.lt q hq).1)).setCell (p := ⟨w19.heap.size, 0, none⟩) hz19 (.slice (some ⟨g21, 0, none⟩) (ry.ps.l.length + 1) k21)
            have hbx2 := heap_set2 hbx 0 (.slice (some ⟨g21, 0, none⟩) (ry.ps.l.length + 1) k21)
            have p1 := own_put hown21 hbx (by decide) 0 (.slice (some ⟨g21, 0, none⟩) (ry.ps.l.length + 1) k21)
            have p2 := own_put (((o2.alloc (.cells #[.slice ry.ps.a ry.ps.l.length ry.ps.c, .slice ry.es.a ry.es.l.length ry.es.c, .slice ry.bs.a ry.bs.l.length ry.bs.c, .int .i64 ry.left, .int .i64 ry.right] 24)).alloc (.cells #[.string m1] 9)).kept hgrow (Or.inr ap1.symm)) hbx (by decide) 0 (.slice (some ⟨g21, 0, none⟩) (ry.ps.l.length + 1) k21)
            have p3 := own_put (((o3.alloc (.cells #[.slice ry.ps.a ry.ps.l.length ry.ps.c, .slice ry.es.a ry.es.l.length ry.es.c, .slice ry.bs.a ry.bs.l.length ry.bs.c, .int .i64 ry.left, .int .i64 ry.right] 24)).alloc (.cells #[.string m1] 9)).kept hgrow (Or.inr ap2.symm)) hbx (by decide) 0 (.slice (some ⟨g21, 0, none⟩) (ry.ps.l.length + 1) k21)
            rw [txs_snoc] at p1
            obtain ⟨Y, hY⟩ : ∃ Y : RU, Y = ⟨⟨some ⟨g21, 0, none⟩, k21, ry.ps.l ++ [m1]⟩, ry.es, ry.bs, ry.left, ry.right⟩ := ⟨_, rfl⟩
            have hYs : RSmall Y := by
              rw [hY]
              exact ⟨small_snoc (by rw [hSy.1]; exact hSm.1) (by omega), by rw [hSy.2.1]; exact hSm.2.1, by rw [hSy.2.2.1]; exact hSm.2.2⟩
            have hYl : Y.ps.l.length = ry.ps.l.length + 1 := by rw [hY]; simp
            obtain ⟨w22, e22⟩ : ∃ w22, w22 = w21.setCell ⟨w19.heap.size, 0, none⟩ (.slice (some ⟨g21, 0, none⟩) (ry.ps.l.length + 1) k21) := ⟨_, rfl⟩
            rw [← e22] at hB21 hbx2 p1 p2 p3 ⊢
            have hYa : Y.at_ w22 := by
              refine at_of_rows (base := w18.heap.size) ?_ ?_ ?_ hYs ⟨?_, ?_, ?_⟩
              · rw [hY]
                show w22.ownsRow _ _ 1 (.slice (some ⟨g21, 0, none⟩) (ry.ps.l ++ [m1]).length k21) (ry.ps.l ++ [m1]).length _
                rw [List.length_append]
                exact p1
              · rw [hY]; exact p2
              · rw [hY]; exact p3
              · rw [hYl]; omega
              · rw [hY]; show ry.es.l.length ≤ 1000; rw [hSy.2.1]; omega
              · rw [hY]; show ry.bs.l.length ≤ 1000; rw [hSy.2.2.1]; omega
            have HE := refErr_any Y w22 hYa hYs.1 hYs.2.1 hYs.2.2
            unfold RU.cells at HE
            have hL22 : RowX w22 h2 (lvTo (patG r.ps.l) (lowS s) r.ps.l.length) := (hB21.block _ (heap_lt hLt)).trans hLt
            have hlow22 := (hKt.low).trans (hB21.mono hKt.low.size)
            have hYp : Y.ps.l = r.ps.l ++ [m1] := by rw [hY]; show ry.ps.l ++ [m1] = _; rw [hSy.1]
            have v0 : Value.slice (some ⟨g21, 0, none⟩) (ry.ps.l.length + 1) k21 = .slice Y.ps.a Y.ps.l.length Y.ps.c := by rw [hY]; simp
            have v1 : Value.slice ry.es.a ry.es.l.length ry.es.c = .slice Y.es.a Y.es.l.length Y.es.c := by rw [hY]
            have v2 : Value.slice ry.bs.a ry.bs.l.length ry.bs.c = .slice Y.bs.a Y.bs.l.length Y.bs.c := by rw [hY]
            have v3 : Value.int .i64 ry.left = .int .i64 Y.left := by rw [hY]
            have v4 : Value.int .i64 ry.right = .int .i64 Y.right := by rw [hY]
            have hbx3 : w22.heap[w19.heap.size]? = some (.cells #[.slice Y.ps.a Y.ps.l.length Y.ps.c, .slice Y.es.a Y.es.l.length Y.es.c, .slice Y.bs.a Y.bs.l.length Y.bs.c, .int .i64 Y.left, .int .i64 Y.right] 24 (0, 0)) := by
              rw [← v0, ← v1, ← v2, ← v3, ← v4]
              exact hbx2
            rw [v0, v1, v2, v3, v4]
            clear v0 v1 v2 v3 v4 hY p1 p2 p3 hB20 hB21 hbx2 hbx hgrow hown21 o1 o2 o3 ap1 ap2 ap3 e22 hbox hnews z1 x0 x1 x2 x3 x4 hLt hKt hK19 hb19 d0 d1 off1 hSy
            refine HE.mono ?_
            rintro e w23 ⟨rfl, hb23⟩
            have hbY := (hb23.block _ (heap_lt hbx3)).trans hbx3
            have hYb := hYa.below hb23
            have hL23 : RowX w23 h2 (lvTo (patG r.ps.l) (lowS s) r.ps.l.length) := (hb23.block _ (heap_lt hL22)).trans hL22
            have hlow23 := hlow22.trans (hb23.mono hlow22.size)
            clear hbx3 hYa hL22 hb23 HE hlow22
            by_cases hy : (checkR Y).2 = 0
            · rw [hy]
              have hre := ruleErr_new he hy
              have HLV := levels_same w23 (r := Y) (r1 := Y) ⟨rfl, rfl, rfl, rfl, rfl⟩ hYb hre hs
              have hlen1 := lvTo_len he
              have hlen2 := lvTo_len hre
              have hge := fun j => lv_add (s := lowS s) hYp j
              clear hYp hYl
              obtain ⟨L, eL⟩ : ∃ L, L = lvTo (patG r.ps.l) (lowS s) r.ps.l.length := ⟨_, rfl⟩
              obtain ⟨M, eM⟩ : ∃ M, M = lvTo (patG Y.ps.l) (lowS s) Y.ps.l.length := ⟨_, rfl⟩
              rw [← eL] at hlen1 hL23
              rw [← eM] at hlen2 HLV
              rw [← eL, ← eM] at hge
              have hge2 := Lib.hid hge
              clear eL eM hre hy hge
              have x0 : w23.cell? ⟨w19.heap.size, 0, none⟩ = some (.slice Y.ps.a Y.ps.l.length Y.ps.c) := cell_of_row w23 _ 0 _ _ (0, 0) hbY
              have x1 : w23.cell? ⟨w19.heap.size, 1, none⟩ = some (.slice Y.es.a Y.es.l.length Y.es.c) := cell_of_row w23 _ 1 _ _ (0, 0) hbY
              have x2 : w23.cell? ⟨w19.heap.size, 2, none⟩ = some (.slice Y.bs.a Y.bs.l.length Y.bs.c) := cell_of_row w23 _ 2 _ _ (0, 0) hbY
              have x3 : w23.cell? ⟨w19.heap.size, 3, none⟩ = some (.int .i64 Y.left) := cell_of_row w23 _ 3 _ _ (0, 0) hbY
              have x4 : w23.cell? ⟨w19.heap.size, 4, none⟩ = some (.int .i64 Y.right) := cell_of_row w23 _ 4 _ _ (0, 0) hbY
              unfold RU.cells at HLV
              go_wp2_with fail
              refine HLV.mono ?_
              rintro e w24 ⟨⟨h3, rfl, hM24⟩, hb24⟩
              have hL24 : RowX w24 h2 L := (hb24.block _ (heap_lt hL23)).trans hL23
              have hlow24 := hlow23.trans (hb24.mono hlow23.size)
              clear hL23 hb24 HLV hlow23 x0 x1 x2 x3 x4 hbY hYb
              have hs2 : s.size ≤ 40 := by omega
              go_wp2_with fail
              go_loopw [20] (fun i wr => ∃ k : Nat, k ≤ s.size + 1 ∧ i = .int .i64 k ∧ RowX wr h2 L ∧ RowX wr h3 M ∧ Below w.heap.size w wr) (fun i _ => s.size + 1 - (intOf i).toNat)
              case atStart => exact ⟨0, Nat.zero_le _, rfl, hL24, hM24, hlow24⟩
              case round =>
                obtain ⟨k, hk, rfl, hLr, hMr, hB⟩ := hrel
                by_cases hlt : k < s.size + 1
                · have hkl : (k : Int) < (s.size : Int) + 1 := by omega
                  have q1 := hLr.cell (j := k) (by omega)
                  have q2 := hMr.cell (j := k) (by omega)
                  have hg := hge2.out k
                  obtain ⟨x, ex⟩ : ∃ x, x = L.getD k 0 := ⟨_, rfl⟩
                  obtain ⟨y, ey⟩ : ∃ y, y = M.getD k 0 := ⟨_, rfl⟩
                  rw [← ex] at q1
                  rw [← ey] at q2
                  rw [← ex, ← ey] at hg
                  have n1 : ¬ (y < x) := by omega
                  have n2 : decide (y < x) = false := decide_eq_false n1
                  clear ex ey
                  go_wp2_with fail
                  go_quiet (fail)
                  go_wp2
                  go_roundw
                  case rel => exact ⟨k + 1, by omega, by go_num, hLr.drewN _, hMr.drewN _, below_drewN hB _⟩
                  case measure => simp [intOf]; omega
                · go_wp2
                  go_ret
                  exact ⟨rfl, hB⟩
            · have hb : ((checkR Y).2 != 0) = true := by simpa using hy
              go_wp2
              go_ret
              exact ⟨rfl, hlow23⟩
          · have hKt := hK17
            have hLt := hL17
            clear hK17 hL17 hI17 hJ17 hq
            obtain ⟨c0, c1, c2, c3, c4⟩ := hKt.c
            obtain ⟨d0, d1⟩ := hKt.d
            go_wp2_with fail
            refine (HCP.out _ (HR.out _ hKt)).mono ?_
            rintro e w19 ⟨ry, rfl, hSy, hOy, hb19⟩
            have hK19 := hKt.below hb19
            clear c0 c1 c2 c3 c4 d0 d1
            obtain ⟨d0, d1⟩ := hK19.d
            have hz19 := hb19.size
            have hz19b := heap_lt hK19.two
            have hz18 := heap_lt hKt.two
            obtain ⟨o1, o2, o3, ap1, ap2, ap3⟩ := hOy
            have hln : ry.ps.l.length ≤ 62 := by rw [hSy.1]; exact hl1
            have hnews : ((w19.alloc (.cells #[.slice ry.ps.a ry.ps.l.length ry.ps.c, .slice ry.es.a ry.es.l.length ry.es.c, .slice ry.bs.a ry.bs.l.length ry.bs.c, .int .i64 ry.left, .int .i64 ry.right] 24)).alloc (.cells #[.string m1] 9)).heap[w19.heap.size + 1]? = some (.cells #[.string m1] 9 (0, 0)) := by
              have h := heap_new (w19.alloc (.cells #[.slice ry.ps.a ry.ps.l.length ry.ps.c, .slice ry.es.a ry.es.l.length ry.es.c, .slice ry.bs.a ry.bs.l.length ry.bs.c, .int .i64 ry.left, .int .i64 ry.right] 24)) (.cells #[.string m1] 9)
              rw [World.size_alloc] at h
              exact h
            have hbox := heap_keep (o := .cells #[.string m1] 9) (heap_new w19 (.cells #[.slice ry.ps.a ry.ps.l.length ry.ps.c, .slice ry.es.a ry.es.l.length ry.es.c, .slice ry.bs.a ry.bs.l.length ry.bs.c, .int .i64 ry.left, .int .i64 ry.right] 24))
            obtain ⟨i0, hi0, hq0, hq1, hq2⟩ := info_parts info_str
            have hh1 : ry.ps.l.length + 1 ≤ maxLen := by unfold maxLen; omega
            have hh2 : (ry.ps.l.length + 1) * 16 ≤ 140737488355328 := by omega
            have off1 : (Value.slice ry.ps.a ry.ps.l.length ry.ps.c).ownBlock ≠ some w19.heap.size := fun e => by
              have := (o1.lt _ e).2
              omega
            go_wp2_with (at_builtin; refine wpList_append_own _ rfl _ _ 22 rfl w17.heap.size 9 i0 _ 1 16 Tryz.underlying22 hi0 hq0 hq1 hq2 rfl (by decide) _ ry.ps.l.length _ rfl ((o1.alloc _).alloc _) ⟨w19.heap.size + 1, 0, none⟩ 1 1 [.string m1] rfl rfl (World.news_of_block (cs := #[.string m1]) (t := 9) (fr := (0, 0)) hnews) (by simp [Value.oneCell']) hh1 hh2 (by simp; omega) ?_; intro v21 w21 hown21 hgrow hnil; obtain ⟨g21, k21, rfl⟩ := own_pos hown21; have hbx := (hgrow.block w19.heap.size (by simp; omega) (fun e => off1 e.symm)).trans hbox; have z1 : w21.frozen? ⟨w19.heap.size, 0, none⟩ = false := (by simp [World.frozen?, hbx]); have x0 := cell_of_row w21 _ 0 _ _ (0, 0) hbx; have x1 := cell_of_row w21 _ 1 _ _ (0, 0) hbx; have x2 := cell_of_row w21 _ 2 _ _ (0, 0) hbx; have x3 := cell_of_row w21 _ 3 _ _ (0, 0) hbx; have x4 := cell_of_row w21 _ 4 _ _ (0, 0) hbx)
            have hB20 := (hb19.alloc hz19 (.cells #[.slice ry.ps.a ry.ps.l.length ry.ps.c, .slice ry.es.a ry.es.l.length ry.es.c, .slice ry.bs.a ry.bs.l.length ry.bs.c, .int .i64 ry.left, .int .i64 ry.right] 24)).alloc (by simp; omega) (.cells #[.string m1] 9)
            have hB21 := (hB20.grown hgrow hB20.size (fun q hq => (o1.lt q hq).1)).setCell (p := ⟨w19.heap.size, 0, none⟩) hz19 (.slice (some ⟨g21, 0, none⟩) (ry.ps.l.length + 1) k21)
            have hbx2 := heap_set2 hbx 0 (.slice (some ⟨g21, 0, none⟩) (ry.ps.l.length + 1) k21)
            have p1 := own_put hown21 hbx (by decide) 0 (.slice (some ⟨g21, 0, none⟩) (ry.ps.l.length + 1) k21)
            have p2 := own_put (((o2.alloc (.cells #[.slice ry.ps.a ry.ps.l.length ry.ps.c, .slice ry.es.a ry.es.l.length ry.es.c, .slice ry.bs.a ry.bs.l.length ry.bs.c, .int .i64 ry.left, .int .i64 ry.right] 24)).alloc (.cells #[.string m1] 9)).kept hgrow (Or.inr ap1.symm)) hbx (by decide) 0 (.slice (some ⟨g21, 0, none⟩) (ry.ps.l.length + 1) k21)
            have p3 := own_put (((o3.alloc (.cells #[.slice ry.ps.a ry.ps.l.length ry.ps.c, .slice ry.es.a ry.es.l.length ry.es.c, .slice ry.bs.a ry.bs.l.length ry.bs.c, .int .i64 ry.left, .int .i64 ry.right] 24)).alloc (.cells #[.string m1] 9)).kept hgrow (Or.inr ap2.symm)) hbx (by decide) 0 (.slice (some ⟨g21, 0, none⟩) (ry.ps.l.length + 1) k21)
            rw [txs_snoc] at p1
            obtain ⟨Y, hY⟩ : ∃ Y : RU, Y = ⟨⟨some ⟨g21, 0, none⟩, k21, ry.ps.l ++ [m1]⟩, ry.es, ry.bs, ry.left, ry.right⟩ := ⟨_, rfl⟩
            have hYs : RSmall Y := by
              rw [hY]
              exact ⟨small_snoc (by rw [hSy.1]; exact hSm.1) (by omega), by rw [hSy.2.1]; exact hSm.2.1, by rw [hSy.2.2.1]; exact hSm.2.2⟩
            have hYl : Y.ps.l.length = ry.ps.l.length + 1 := by rw [hY]; simp
            obtain ⟨w22, e22⟩ : ∃ w22, w22 = w21.setCell ⟨w19.heap.size, 0, none⟩ (.slice (some ⟨g21, 0, none⟩) (ry.ps.l.length + 1) k21) := ⟨_, rfl⟩
            rw [← e22] at hB21 hbx2 p1 p2 p3 ⊢
            have hYa : Y.at_ w22 := by
              refine at_of_rows (base := w17.heap.size) ?_ ?_ ?_ hYs ⟨?_, ?_, ?_⟩
              · rw [hY]
                show w22.ownsRow _ _ 1 (.slice (some ⟨g21, 0, none⟩) (ry.ps.l ++ [m1]).length k21) (ry.ps.l ++ [m1]).length _
                rw [List.length_append]
                exact p1
              · rw [hY]; exact p2
              · rw [hY]; exact p3
              · rw [hYl]; omega
              · rw [hY]; show ry.es.l.length ≤ 1000; rw [hSy.2.1]; omega
              · rw [hY]; show ry.bs.l.length ≤ 1000; rw [hSy.2.2.1]; omega
            have HE := refErr_any Y w22 hYa hYs.1 hYs.2.1 hYs.2.2
            unfold RU.cells at HE
            have hL22 : RowX w22 h2 (lvTo (patG r.ps.l) (lowS s) r.ps.l.length) := (hB21.block _ (heap_lt hLt)).trans hLt
            have hlow22 := (hKt.low).trans (hB21.mono hKt.low.size)
            have hYp : Y.ps.l = r.ps.l ++ [m1] := by rw [hY]; show ry.ps.l ++ [m1] = _; rw [hSy.1]
            have v0 : Value.slice (some ⟨g21, 0, none⟩) (ry.ps.l.length + 1) k21 = .slice Y.ps.a Y.ps.l.length Y.ps.c := by rw [hY]; simp
            have v1 : Value.slice ry.es.a ry.es.l.length ry.es.c = .slice Y.es.a Y.es.l.length Y.es.c := by rw [hY]
            have v2 : Value.slice ry.bs.a ry.bs.l.length ry.bs.c = .slice Y.bs.a Y.bs.l.length Y.bs.c := by rw [hY]
            have v3 : Value.int .i64 ry.left = .int .i64 Y.left := by rw [hY]
            have v4 : Value.int .i64 ry.right = .int .i64 Y.right := by rw [hY]
            have hbx3 : w22.heap[w19.heap.size]? = some (.cells #[.slice Y.ps.a Y.ps.l.length Y.ps.c, .slice Y.es.a Y.es.l.length Y.es.c, .slice Y.bs.a Y.bs.l.length Y.bs.c, .int .i64 Y.left, .int .i64 Y.right] 24 (0, 0)) := by
              rw [← v0, ← v1, ← v2, ← v3, ← v4]
              exact hbx2
            rw [v0, v1, v2, v3, v4]
            clear v0 v1 v2 v3 v4 hY p1 p2 p3 hB20 hB21 hbx2 hbx hgrow hown21 o1 o2 o3 ap1 ap2 ap3 e22 hbox hnews z1 x0 x1 x2 x3 x4 hLt hKt hK19 hb19 d0 d1 off1 hSy
            refine HE.mono ?_
            rintro e w23 ⟨rfl, hb23⟩
            have hbY := (hb23.block _ (heap_lt hbx3)).trans hbx3
            have hYb := hYa.below hb23
            have hL23 : RowX w23 h2 (lvTo (patG r.ps.l) (lowS s) r.ps.l.length) := (hb23.block _ (heap_lt hL22)).trans hL22
            have hlow23 := hlow22.trans (hb23.mono hlow22.size)
            clear hbx3 hYa hL22 hb23 HE hlow22
            by_cases hy : (checkR Y).2 = 0
            · rw [hy]
              have hre := ruleErr_new he hy
              have HLV := levels_same w23 (r := Y) (r1 := Y) ⟨rfl, rfl, rfl, rfl, rfl⟩ hYb hre hs
              have hlen1 := lvTo_len he
              have hlen2 := lvTo_len hre
              have hge := fun j => lv_add (s := lowS s) hYp j
              clear hYp hYl
              obtain ⟨L, eL⟩ : ∃ L, L = lvTo (patG r.ps.l) (lowS s) r.ps.l.length := ⟨_, rfl⟩
              obtain ⟨M, eM⟩ : ∃ M, M = lvTo (patG Y.ps.l) (lowS s) Y.ps.l.length := ⟨_, rfl⟩
              rw [← eL] at hlen1 hL23
              rw [← eM] at hlen2 HLV
              rw [← eL, ← eM] at hge
              have hge2 := Lib.hid hge
              clear eL eM hre hy hge
              have x0 : w23.cell? ⟨w19.heap.size, 0, none⟩ = some (.slice Y.ps.a Y.ps.l.length Y.ps.c) := cell_of_row w23 _ 0 _ _ (0, 0) hbY
              have x1 : w23.cell? ⟨w19.heap.size, 1, none⟩ = some (.slice Y.es.a Y.es.l.length Y.es.c) := cell_of_row w23 _ 1 _ _ (0, 0) hbY
              have x2 : w23.cell? ⟨w19.heap.size, 2, none⟩ = some (.slice Y.bs.a Y.bs.l.length Y.bs.c) := cell_of_row w23 _ 2 _ _ (0, 0) hbY
              have x3 : w23.cell? ⟨w19.heap.size, 3, none⟩ = some (.int .i64 Y.left) := cell_of_row w23 _ 3 _ _ (0, 0) hbY
              have x4 : w23.cell? ⟨w19.heap.size, 4, none⟩ = some (.int .i64 Y.right) := cell_of_row w23 _ 4 _ _ (0, 0) hbY
              unfold RU.cells at HLV
              go_wp2_with fail
              refine HLV.mono ?_
              rintro e w24 ⟨⟨h3, rfl, hM24⟩, hb24⟩
              have hL24 : RowX w24 h2 L := (hb24.block _ (heap_lt hL23)).trans hL23
              have hlow24 := hlow23.trans (hb24.mono hlow23.size)
              clear hL23 hb24 HLV hlow23 x0 x1 x2 x3 x4 hbY hYb
              have hs2 : s.size ≤ 40 := by omega
              go_wp2_with fail
              go_loopw [20] (fun i wr => ∃ k : Nat, k ≤ s.size + 1 ∧ i = .int .i64 k ∧ RowX wr h2 L ∧ RowX wr h3 M ∧ Below w.heap.size w wr) (fun i _ => s.size + 1 - (intOf i).toNat)
              case atStart => exact ⟨0, Nat.zero_le _, rfl, hL24, hM24, hlow24⟩
              case round =>
                obtain ⟨k, hk, rfl, hLr, hMr, hB⟩ := hrel
                by_cases hlt : k < s.size + 1
                · have hkl : (k : Int) < (s.size : Int) + 1 := by omega
                  have q1 := hLr.cell (j := k) (by omega)
                  have q2 := hMr.cell (j := k) (by omega)
                  have hg := hge2.out k
                  obtain ⟨x, ex⟩ : ∃ x, x = L.getD k 0 := ⟨_, rfl⟩
                  obtain ⟨y, ey⟩ : ∃ y, y = M.getD k 0 := ⟨_, rfl⟩
                  rw [← ex] at q1
                  rw [← ey] at q2
                  rw [← ex, ← ey] at hg
                  have n1 : ¬ (y < x) := by omega
                  have n2 : decide (y < x) = false := decide_eq_false n1
                  clear ex ey
                  go_wp2_with fail
                  go_quiet (fail)
                  go_wp2
                  go_roundw
                  case rel => exact ⟨k + 1, by omega, by go_num, hLr.drewN _, hMr.drewN _, below_drewN hB _⟩
                  case measure => simp [intOf]; omega
                · go_wp2
                  go_ret
                  exact ⟨rfl, hB⟩
            · have hb : ((checkR Y).2 != 0) = true := by simpa using hy
              go_wp2
              go_ret
              exact ⟨rfl, hlow23⟩
    · have hb : ((checkR X).2 == 0) = false := by rw [beq_eq_false_iff_ne]; exact hx
      have hKt := hK13
      have hLt := hL13
      clear hK13 hL13 hI13 hX13 hbX
      obtain ⟨c0, c1, c2, c3, c4⟩ := hKt.c
      obtain ⟨d0, d1⟩ := hKt.d
      go_wp2_with fail
      refine (HCP.out _ (HR.out _ hKt)).mono ?_
      rintro e w19 ⟨ry, rfl, hSy, hOy, hb19⟩
      have hK19 := hKt.below hb19
      clear c0 c1 c2 c3 c4 d0 d1
      obtain ⟨d0, d1⟩ := hK19.d
      have hz19 := hb19.size
      have hz19b := heap_lt hK19.two
      have hz18 := heap_lt hKt.two
      obtain ⟨o1, o2, o3, ap1, ap2, ap3⟩ := hOy
      have hln : ry.ps.l.length ≤ 62 := by rw [hSy.1]; exact hl1
      have hnews : ((w19.alloc (.cells #[.slice ry.ps.a ry.ps.l.length ry.ps.c, .slice ry.es.a ry.es.l.length ry.es.c, .slice ry.bs.a ry.bs.l.length ry.bs.c, .int .i64 ry.left, .int .i64 ry.right] 24)).alloc (.cells #[.string m1] 9)).heap[w19.heap.size + 1]? = some (.cells #[.string m1] 9 (0, 0)) := by
        have h := heap_new (w19.alloc (.cells #[.slice ry.ps.a ry.ps.l.length ry.ps.c, .slice ry.es.a ry.es.l.length ry.es.c, .slice ry.bs.a ry.bs.l.length ry.bs.c, .int .i64 ry.left, .int .i64 ry.right] 24)) (.cells #[.string m1] 9)
        rw [World.size_alloc] at h
        exact h
      have hbox := heap_keep (o := .cells #[.string m1] 9) (heap_new w19 (.cells #[.slice ry.ps.a ry.ps.l.length ry.ps.c, .slice ry.es.a ry.es.l.length ry.es.c, .slice ry.bs.a ry.bs.l.length ry.bs.c, .int .i64 ry.left, .int .i64 ry.right] 24))
      obtain ⟨i0, hi0, hq0, hq1, hq2⟩ := info_parts info_str
      have hh1 : ry.ps.l.length + 1 ≤ maxLen := by unfold maxLen; omega
      have hh2 : (ry.ps.l.length + 1) * 16 ≤ 140737488355328 := by omega
      have off1 : (Value.slice ry.ps.a ry.ps.l.length ry.ps.c).ownBlock ≠ some w19.heap.size := fun e => by
        have := (o1.lt _ e).2
        omega
      go_wp2_with (at_builtin; refine wpList_append_own _ rfl _ _ 22 rfl w13.heap.size 9 i0 _ 1 16 Tryz.underlying22 hi0 hq0 hq1 hq2 rfl (by decide) _ ry.ps.l.length _ rfl ((o1.alloc _).alloc _) ⟨w19.heap.size + 1, 0, none⟩ 1 1 [.string m1] rfl rfl (World.news_of_block (cs := #[.string m1]) (t := 9) (fr := (0, 0)) hnews) (by simp [Value.oneCell']) hh1 hh2 (by simp; omega) ?_; intro v21 w21 hown21 hgrow hnil; obtain ⟨g21, k21, rfl⟩ := own_pos hown21; have hbx := (hgrow.block w19.heap.size (by simp; omega) (fun e => off1 e.symm)).trans hbox; have z1 : w21.frozen? ⟨w19.heap.size, 0, none⟩ = false := (by simp [World.frozen?, hbx]); have x0 := cell_of_row w21 _ 0 _ _ (0, 0) hbx; have x1 := cell_of_row w21 _ 1 _ _ (0, 0) hbx; have x2 := cell_of_row w21 _ 2 _ _ (0, 0) hbx; have x3 := cell_of_row w21 _ 3 _ _ (0, 0) hbx; have x4 := cell_of_row w21 _ 4 _ _ (0, 0) hbx)
      have hB20 := (hb19.alloc hz19 (.cells #[.slice ry.ps.a ry.ps.l.length ry.ps.c, .slice ry.es.a ry.es.l.length ry.es.c, .slice ry.bs.a ry.bs.l.length ry.bs.c, .int .i64 ry.left, .int .i64 ry.right] 24)).alloc (by simp; omega) (.cells #[.string m1] 9)
      have hB21 := (hB20.grown hgrow hB20.size (fun q hq => (o1.lt q hq).1)).setCell (p := ⟨w19.heap.size, 0, none⟩) hz19 (.slice (some ⟨g21, 0, none⟩) (ry.ps.l.length + 1) k21)
      have hbx2 := heap_set2 hbx 0 (.slice (some ⟨g21, 0, none⟩) (ry.ps.l.length + 1) k21)
      have p1 := own_put hown21 hbx (by decide) 0 (.slice (some ⟨g21, 0, none⟩) (ry.ps.l.length + 1) k21)
      have p2 := own_put (((o2.alloc (.cells #[.slice ry.ps.a ry.ps.l.length ry.ps.c, .slice ry.es.a ry.es.l.length ry.es.c, .slice ry.bs.a ry.bs.l.length ry.bs.c, .int .i64 ry.left, .int .i64 ry.right] 24)).alloc (.cells #[.string m1] 9)).kept hgrow (Or.inr ap1.symm)) hbx (by decide) 0 (.slice (some ⟨g21, 0, none⟩) (ry.ps.l.length + 1) k21)
      have p3 := own_put (((o3.alloc (.cells #[.slice ry.ps.a ry.ps.l.length ry.ps.c, .slice ry.es.a ry.es.l.length ry.es.c, .slice ry.bs.a ry.bs.l.length ry.bs.c, .int .i64 ry.left, .int .i64 ry.right] 24)).alloc (.cells #[.string m1] 9)).kept hgrow (Or.inr ap2.symm)) hbx (by decide) 0 (.slice (some ⟨g21, 0, none⟩) (ry.ps.l.length + 1) k21)
      rw [txs_snoc] at p1
      obtain ⟨Y, hY⟩ : ∃ Y : RU, Y = ⟨⟨some ⟨g21, 0, none⟩, k21, ry.ps.l ++ [m1]⟩, ry.es, ry.bs, ry.left, ry.right⟩ := ⟨_, rfl⟩
      have hYs : RSmall Y := by
        rw [hY]
        exact ⟨small_snoc (by rw [hSy.1]; exact hSm.1) (by omega), by rw [hSy.2.1]; exact hSm.2.1, by rw [hSy.2.2.1]; exact hSm.2.2⟩
      have hYl : Y.ps.l.length = ry.ps.l.length + 1 := by rw [hY]; simp
      obtain ⟨w22, e22⟩ : ∃ w22, w22 = w21.setCell ⟨w19.heap.size, 0, none⟩ (.slice (some ⟨g21, 0, none⟩) (ry.ps.l.length + 1) k21) := ⟨_, rfl⟩
      rw [← e22] at hB21 hbx2 p1 p2 p3 ⊢
      have hYa : Y.at_ w22 := by
        refine at_of_rows (base := w13.heap.size) ?_ ?_ ?_ hYs ⟨?_, ?_, ?_⟩
        · rw [hY]
          show w22.ownsRow _ _ 1 (.slice (some ⟨g21, 0, none⟩) (ry.ps.l ++ [m1]).length k21) (ry.ps.l ++ [m1]).length _
          rw [List.length_append]
          exact p1
        · rw [hY]; exact p2
        · rw [hY]; exact p3
        · rw [hYl]; omega
        · rw [hY]; show ry.es.l.length ≤ 1000; rw [hSy.2.1]; omega
        · rw [hY]; show ry.bs.l.length ≤ 1000; rw [hSy.2.2.1]; omega
      have HE := refErr_any Y w22 hYa hYs.1 hYs.2.1 hYs.2.2
      unfold RU.cells at HE
      have hL22 : RowX w22 h2 (lvTo (patG r.ps.l) (lowS s) r.ps.l.length) := (hB21.block _ (heap_lt hLt)).trans hLt
      have hlow22 := (hKt.low).trans (hB21.mono hKt.low.size)
      have hYp : Y.ps.l = r.ps.l ++ [m1] := by rw [hY]; show ry.ps.l ++ [m1] = _; rw [hSy.1]
      have v0 : Value.slice (some ⟨g21, 0, none⟩) (ry.ps.l.length + 1) k21 = .slice Y.ps.a Y.ps.l.length Y.ps.c := by rw [hY]; simp
      have v1 : Value.slice ry.es.a ry.es.l.length ry.es.c = .slice Y.es.a Y.es.l.length Y.es.c := by rw [hY]
      have v2 : Value.slice ry.bs.a ry.bs.l.length ry.bs.c = .slice Y.bs.a Y.bs.l.length Y.bs.c := by rw [hY]
      have v3 : Value.int .i64 ry.left = .int .i64 Y.left := by rw [hY]
      have v4 : Value.int .i64 ry.right = .int .i64 Y.right := by rw [hY]
      have hbx3 : w22.heap[w19.heap.size]? = some (.cells #[.slice Y.ps.a Y.ps.l.length Y.ps.c, .slice Y.es.a Y.es.l.length Y.es.c, .slice Y.bs.a Y.bs.l.length Y.bs.c, .int .i64 Y.left, .int .i64 Y.right] 24 (0, 0)) := by
        rw [← v0, ← v1, ← v2, ← v3, ← v4]
        exact hbx2
      rw [v0, v1, v2, v3, v4]
      clear v0 v1 v2 v3 v4 hY p1 p2 p3 hB20 hB21 hbx2 hbx hgrow hown21 o1 o2 o3 ap1 ap2 ap3 e22 hbox hnews z1 x0 x1 x2 x3 x4 hLt hKt hK19 hb19 d0 d1 off1 hSy
      refine HE.mono ?_
      rintro e w23 ⟨rfl, hb23⟩
      have hbY := (hb23.block _ (heap_lt hbx3)).trans hbx3
      have hYb := hYa.below hb23
      have hL23 : RowX w23 h2 (lvTo (patG r.ps.l) (lowS s) r.ps.l.length) := (hb23.block _ (heap_lt hL22)).trans hL22
      have hlow23 := hlow22.trans (hb23.mono hlow22.size)
      clear hbx3 hYa hL22 hb23 HE hlow22
      by_cases hy : (checkR Y).2 = 0
      · rw [hy]
        have hre := ruleErr_new he hy
        have HLV := levels_same w23 (r := Y) (r1 := Y) ⟨rfl, rfl, rfl, rfl, rfl⟩ hYb hre hs
        have hlen1 := lvTo_len he
        have hlen2 := lvTo_len hre
        have hge := fun j => lv_add (s := lowS s) hYp j
        clear hYp hYl
        obtain ⟨L, eL⟩ : ∃ L, L = lvTo (patG r.ps.l) (lowS s) r.ps.l.length := ⟨_, rfl⟩
        obtain ⟨M, eM⟩ : ∃ M, M = lvTo (patG Y.ps.l) (lowS s) Y.ps.l.length := ⟨_, rfl⟩
        rw [← eL] at hlen1 hL23
        rw [← eM] at hlen2 HLV
        rw [← eL, ← eM] at hge
        have hge2 := Lib.hid hge
        clear eL eM hre hy hge
        have x0 : w23.cell? ⟨w19.heap.size, 0, none⟩ = some (.slice Y.ps.a Y.ps.l.length Y.ps.c) := cell_of_row w23 _ 0 _ _ (0, 0) hbY
        have x1 : w23.cell? ⟨w19.heap.size, 1, none⟩ = some (.slice Y.es.a Y.es.l.length Y.es.c) := cell_of_row w23 _ 1 _ _ (0, 0) hbY
        have x2 : w23.cell? ⟨w19.heap.size, 2, none⟩ = some (.slice Y.bs.a Y.bs.l.length Y.bs.c) := cell_of_row w23 _ 2 _ _ (0, 0) hbY
        have x3 : w23.cell? ⟨w19.heap.size, 3, none⟩ = some (.int .i64 Y.left) := cell_of_row w23 _ 3 _ _ (0, 0) hbY
        have x4 : w23.cell? ⟨w19.heap.size, 4, none⟩ = some (.int .i64 Y.right) := cell_of_row w23 _ 4 _ _ (0, 0) hbY
        unfold RU.cells at HLV
        go_wp2_with fail
        refine HLV.mono ?_
        rintro e w24 ⟨⟨h3, rfl, hM24⟩, hb24⟩
        have hL24 : RowX w24 h2 L := (hb24.block _ (heap_lt hL23)).trans hL23
        have hlow24 := hlow23.trans (hb24.mono hlow23.size)
        clear hL23 hb24 HLV hlow23 x0 x1 x2 x3 x4 hbY hYb
        have hs2 : s.size ≤ 40 := by omega
        go_wp2_with fail
        go_loopw [20] (fun i wr => ∃ k : Nat, k ≤ s.size + 1 ∧ i = .int .i64 k ∧ RowX wr h2 L ∧ RowX wr h3 M ∧ Below w.heap.size w wr) (fun i _ => s.size + 1 - (intOf i).toNat)
        case atStart => exact ⟨0, Nat.zero_le _, rfl, hL24, hM24, hlow24⟩
        case round =>
          obtain ⟨k, hk, rfl, hLr, hMr, hB⟩ := hrel
          by_cases hlt : k < s.size + 1
          · have hkl : (k : Int) < (s.size : Int) + 1 := by omega
            have q1 := hLr.cell (j := k) (by omega)
            have q2 := hMr.cell (j := k) (by omega)
            have hg := hge2.out k
            obtain ⟨x, ex⟩ : ∃ x, x = L.getD k 0 := ⟨_, rfl⟩
            obtain ⟨y, ey⟩ : ∃ y, y = M.getD k 0 := ⟨_, rfl⟩
            rw [← ex] at q1
            rw [← ey] at q2
            rw [← ex, ← ey] at hg
            have n1 : ¬ (y < x) := by omega
            have n2 : decide (y < x) = false := decide_eq_false n1
            clear ex ey
            go_wp2_with fail
            go_quiet (fail)
            go_wp2
            go_roundw
            case rel => exact ⟨k + 1, by omega, by go_num, hLr.drewN _, hMr.drewN _, below_drewN hB _⟩
            case measure => simp [intOf]; omega
          · go_wp2
            go_ret
            exact ⟨rfl, hB⟩
      · have hb : ((checkR Y).2 != 0) = true := by simpa using hy
        go_wp2
        go_ret
        exact ⟨rfl, hlow23⟩
  · have hb : (ruleErr r s != 0) = true := by simpa using he
    have hlow := hK4.low
    go_wp2
    go_ret
    exact ⟨rfl, hlow⟩
end Go.Proofs.YtpoadjnhmdbdeaaGreatDoor
