/-
  Rules in memory of their own.
-/
import Derived.Test.YtlkkociijfdcgaaGreatDoorW3
import Derived.Test.YtlkkociijfdcgaaGreatDoorQY
import Derived.Deep.CutRange
import Derived.Deep.RegionLaw
namespace Go.Proofs.YtlkkociijfdcgaaGreatDoor
open Go.RowKit Go.Maps

/-- The three rows lie in blocks of their own. -/
def ApartR (r : RU) : Prop := r.ps.val.ownBlock ≠ r.es.val.ownBlock ∧ r.ps.val.ownBlock ≠ r.bs.val.ownBlock ∧ r.es.val.ownBlock ≠ r.bs.val.ownBlock
def OwnR (w : World) (base : Nat) (r : RU) : Prop := w.ownsRow base 9 1 r.ps.val r.ps.l.length (txs r.ps.l) ∧ w.ownsRow base 9 1 r.es.val r.es.l.length (txs r.es.l) ∧ w.ownsRow base 9 1 r.bs.val r.bs.l.length (txs r.bs.l) ∧ ApartR r
def SameR (r r' : RU) : Prop := r'.ps.l = r.ps.l ∧ r'.es.l = r.es.l ∧ r'.bs.l = r.bs.l ∧ r'.left = r.left ∧ r'.right = r.right
def capR (r : RU) : Prop := (r.ps.a = none → r.ps.c = 0) ∧ (r.es.a = none → r.es.c = 0) ∧ (r.bs.a = none → r.bs.c = 0)
theorem own_low2 {w w' : World} {base e n size : Nat} {v : Value} {xs : List Value} (h : w.ownsRow base e size v n xs) (hb : Below w.heap.size w w') : w'.ownsRow base e size v n xs := by
  rcases h.2 with ⟨e1, e2⟩ | ⟨g, cap, cur, e1, e2, e3, e4⟩
  · exact ⟨h.1, Or.inl ⟨e1, e2⟩⟩
  · exact ⟨h.1, Or.inr ⟨g, cap, cur, e1, e2, (hb.block g (heap_lt e3)).trans e3, e4⟩⟩
structure CpRel (w : World) (r : RU) (wx : World) : Prop where
  out : ∃ g1 k1 g2 k2 g3 k3, wx.heap[w.heap.size]? = some (.cells #[.slice (some ⟨g1, 0, none⟩) r.ps.l.length k1, .slice (some ⟨g2, 0, none⟩) r.es.l.length k2, .slice (some ⟨g3, 0, none⟩) r.bs.l.length k3, .int .i64 r.left, .int .i64 r.right] 24 (0, 0)) ∧
    wx.ownsRow (w.heap.size + 2) 9 1 (.slice (some ⟨g1, 0, none⟩) r.ps.l.length k1) r.ps.l.length (txs r.ps.l) ∧ wx.ownsRow (w.heap.size + 2) 9 1 (.slice (some ⟨g2, 0, none⟩) r.es.l.length k2) r.es.l.length (txs r.es.l) ∧ wx.ownsRow (w.heap.size + 2) 9 1 (.slice (some ⟨g3, 0, none⟩) r.bs.l.length k3) r.bs.l.length (txs r.bs.l) ∧ g1 < g2 ∧ g2 < g3
  res : wx.heap[w.heap.size + 1]? = some (.cells #[.slice none 0 0, .slice none 0 0, .slice none 0 0, .int .i64 0, .int .i64 0] 24 (0, 0))
  low : Below w.heap.size w wx
set_option maxRecDepth 100000 in
set_option maxHeartbeats 2000000 in
theorem copyRules_any (r : RU) (w : World) (hR : r.at_ w) (hc : capR r) (h1 : r.ps.l.length ≤ 1000) (h2 : r.es.l.length ≤ 1000) (h3 : r.bs.l.length ≤ 1000) :
    Calls Tryz.prog 20 #[.agg r.cells] w fun e w' => ∃ r', e = .returned (.agg r'.cells) ∧ SameR r r' ∧ OwnR w' w.heap.size r' ∧ Below w.heap.size w w' := by
  obtain ⟨⟨hp1, _, _⟩, ⟨he1, _, _⟩, ⟨hb1, _, _⟩⟩ := hR
  obtain ⟨hcp, hce, hcb⟩ := hc
  have HC1 := Lib.hid (fun W (h : TextsAt W r.ps.a r.ps.l) => copyTexts_any r.ps.a r.ps.l r.ps.c W h (by omega) hcp)
  have HC2 := Lib.hid (fun W (h : TextsAt W r.es.a r.es.l) => copyTexts_any r.es.a r.es.l r.es.c W h (by omega) hce)
  have HC3 := Lib.hid (fun W (h : TextsAt W r.bs.a r.bs.l) => copyTexts_any r.bs.a r.bs.l r.bs.c W h (by omega) hcb)
  have hbx := heap_keep (o := (.cells #[.slice none 0 0, .slice none 0 0, .slice none 0 0, .int .i64 0, .int .i64 0] 24)) (heap_new w (.cells #[.slice r.ps.a r.ps.l.length r.ps.c, .slice r.es.a r.es.l.length r.es.c, .slice r.bs.a r.bs.l.length r.bs.c, .int .i64 r.left, .int .i64 r.right] 24))
  have hrs := heap_new (w.alloc (.cells #[.slice r.ps.a r.ps.l.length r.ps.c, .slice r.es.a r.es.l.length r.es.c, .slice r.bs.a r.bs.l.length r.bs.c, .int .i64 r.left, .int .i64 r.right] 24)) (.cells #[.slice none 0 0, .slice none 0 0, .slice none 0 0, .int .i64 0, .int .i64 0] 24)
  rw [World.size_alloc] at hrs
  have hlow : Below w.heap.size w ((w.alloc (.cells #[.slice r.ps.a r.ps.l.length r.ps.c, .slice r.es.a r.es.l.length r.es.c, .slice r.bs.a r.bs.l.length r.bs.c, .int .i64 r.left, .int .i64 r.right] 24)).alloc (.cells #[.slice none 0 0, .slice none 0 0, .slice none 0 0, .int .i64 0, .int .i64 0] 24)) := ((Below.refl _ _).alloc (Nat.le_refl _) _).alloc (by simp) _
  have T1 := hp1.below hlow
  have T2 := he1.below hlow
  have T3 := hb1.below hlow
  have hszW : ((w.alloc (.cells #[.slice r.ps.a r.ps.l.length r.ps.c, .slice r.es.a r.es.l.length r.es.c, .slice r.bs.a r.bs.l.length r.bs.c, .int .i64 r.left, .int .i64 r.right] 24)).alloc (.cells #[.slice none 0 0, .slice none 0 0, .slice none 0 0, .int .i64 0, .int .i64 0] 24)).heap.size = w.heap.size + 2 := by simp
  obtain ⟨W, eW⟩ : ∃ W, W = ((w.alloc (.cells #[.slice r.ps.a r.ps.l.length r.ps.c, .slice r.es.a r.es.l.length r.es.c, .slice r.bs.a r.bs.l.length r.bs.c, .int .i64 r.left, .int .i64 r.right] 24)).alloc (.cells #[.slice none 0 0, .slice none 0 0, .slice none 0 0, .int .i64 0, .int .i64 0] 24)) := ⟨_, rfl⟩
  have HW := Lib.hid eW
  rw [← eW] at hbx hrs hlow T1 T2 T3 hszW
  have hl0 := heap_lt hbx
  have hl1 := heap_lt hrs
  have c0 : W.cell? ⟨w.heap.size, 0, none⟩ = some (.slice r.ps.a r.ps.l.length r.ps.c) := cell_of_row W _ 0 _ _ (0, 0) hbx
  have c1 : W.cell? ⟨w.heap.size, 1, none⟩ = some (.slice r.es.a r.es.l.length r.es.c) := cell_of_row W _ 1 _ _ (0, 0) hbx
  have c2 : W.cell? ⟨w.heap.size, 2, none⟩ = some (.slice r.bs.a r.bs.l.length r.bs.c) := cell_of_row W _ 2 _ _ (0, 0) hbx
  clear eW hp1 he1 hb1 hcp hce hcb
  unfold RU.cells
  go_enter Tryz.func20, Tryz.ntmps20
  go_wp2_with fail
  rw [← HW.out]
  go_cut [] from 3 to 14 (fun wx => CpRel w r wx)
  case first =>
    go_region_law (first
      | (go_simp; refine (HC1.out _ (by exact T1)).mono ?_; rintro e w1 ⟨g1, k1, rfl, o1, b1⟩; have d1 : w1.cell? ⟨w.heap.size, 1, none⟩ = some (.slice r.es.a r.es.l.length r.es.c) := (b1.cell (p := ⟨w.heap.size, 1, none⟩) hl0).trans c1; have d2 : w1.cell? ⟨w.heap.size, 2, none⟩ = some (.slice r.bs.a r.bs.l.length r.bs.c) := (b1.cell (p := ⟨w.heap.size, 2, none⟩) hl0).trans c2)
      | (go_simp; refine (HC2.out _ (by exact (TextsAt.below (w := W.drew) T2 b1))).mono ?_; rintro e w2 ⟨g2, k2, rfl, o2, b2⟩; have f2 : w2.cell? ⟨w.heap.size, 2, none⟩ = some (.slice r.bs.a r.bs.l.length r.bs.c) := (b2.cell (p := ⟨w.heap.size, 2, none⟩) (Nat.lt_of_lt_of_le hl0 b1.size)).trans d2)
      | (go_simp; refine (HC3.out _ (by exact (TextsAt.below (TextsAt.below (w := W.drew) T3 b1) b2))).mono ?_; rintro e w3 ⟨g3, k3, rfl, o3, b3⟩; have hbx3 := (b3.block _ (Nat.lt_of_lt_of_le hl0 (Nat.le_trans b1.size b2.size))).trans ((b2.block _ (Nat.lt_of_lt_of_le hl0 b1.size)).trans ((b1.block _ hl0).trans hbx)); have y0 : w3.frozen? ⟨w.heap.size, 0, none⟩ = false := (by simp [World.frozen?, hbx3]); have y1 : w3.frozen? ⟨w.heap.size, 1, none⟩ = false := (by simp [World.frozen?, hbx3]); have y2 : w3.frozen? ⟨w.heap.size, 2, none⟩ = false := (by simp [World.frozen?, hbx3]); have x0 : w3.cell? ⟨w.heap.size, 0, none⟩ = some (.slice r.ps.a r.ps.l.length r.ps.c) := cell_of_row w3 _ 0 _ _ (0, 0) hbx3; have x1 : w3.cell? ⟨w.heap.size, 1, none⟩ = some (.slice r.es.a r.es.l.length r.es.c) := cell_of_row w3 _ 1 _ _ (0, 0) hbx3; have x2 : w3.cell? ⟨w.heap.size, 2, none⟩ = some (.slice r.bs.a r.bs.l.length r.bs.c) := cell_of_row w3 _ 2 _ _ (0, 0) hbx3))
    all_goals
      have hrs3 := (b3.block _ (Nat.lt_of_lt_of_le hl1 (Nat.le_trans b1.size b2.size))).trans ((b2.block _ (Nat.lt_of_lt_of_le hl1 b1.size)).trans ((b1.block _ hl1).trans hrs))
      have s1 : w.heap.size + 2 ≤ w1.heap.size := by have := b1.size; rw [← hszW]; exact this
      have s2 := b2.size
      have n1 : g1 < g2 := Nat.lt_of_lt_of_le (o1.lt g1 rfl).2 (o2.lt g2 rfl).1
      have n2 : g2 < g3 := Nat.lt_of_lt_of_le (o2.lt g2 rfl).2 (o3.lt g3 rfl).1
      have hw3 : Below w.heap.size w w3 := ((hlow.drew.trans (b1.mono (by show w.heap.size ≤ W.heap.size; rw [hszW]; omega))).trans (b2.mono (by omega))).trans (b3.mono (by omega))
      have p1 := own_mono (own_low2 (own_low2 o1 b2) b3) (B := w.heap.size + 2) (by show w.heap.size + 2 ≤ W.heap.size; rw [hszW]; exact Nat.le_refl _)
      have p2 := own_mono (own_low2 o2 b3) (B := w.heap.size + 2) s1
      have p3 := own_mono o3 (B := w.heap.size + 2) (by omega)
      have e1 := heap_set2 hbx3 0 (.slice (some ⟨g1, 0, none⟩) r.ps.l.length k1)
      have e2 := heap_set2 e1 1 (.slice (some ⟨g2, 0, none⟩) r.es.l.length k2)
      have e3 := heap_set2 e2 2 (.slice (some ⟨g3, 0, none⟩) r.bs.l.length k3)
      go_wp2_with fail
      go_meet
      refine ⟨⟨g1, k1, g2, k2, g3, k3, e3, ?_, ?_, ?_, n1, n2⟩, ?_, ?_⟩
      · exact own_put (own_put (own_put p1 hbx3 (by decide) 0 _) e1 (by decide) 1 _) e2 (by decide) 2 _
      · exact own_put (own_put (own_put p2 hbx3 (by decide) 0 _) e1 (by decide) 1 _) e2 (by decide) 2 _
      · exact own_put (own_put (own_put p3 hbx3 (by decide) 0 _) e1 (by decide) 1 _) e2 (by decide) 2 _
      · rw [Below.heap_setCell _ _ _ _ (by show w.heap.size + 1 ≠ w.heap.size; omega), Below.heap_setCell _ _ _ _ (by show w.heap.size + 1 ≠ w.heap.size; omega), Below.heap_setCell _ _ _ _ (by show w.heap.size + 1 ≠ w.heap.size; omega)]
        exact hrs3
      · exact ((hw3.setCell (Nat.le_refl _) _).setCell (Nat.le_refl _) _).setCell (Nat.le_refl _) _
  case rest =>
    obtain ⟨g1, k1, g2, k2, g3, k3, hb, o1, o2, o3, n1, n2⟩ := hcut.out
    have hap : (some g1 : Option Nat) ≠ some g2 ∧ (some g1 : Option Nat) ≠ some g3 ∧ (some g2 : Option Nat) ≠ some g3 := ⟨fun e => by injection e with e; omega, fun e => by injection e with e; omega, fun e => by injection e with e; omega⟩
    have hrc := hcut.res
    have hlw := hcut.low
    clear hcut hbx hrs hlow T1 T2 T3 hszW c0 c1 c2 hl0 hl1
    have c0 : wc.cell? ⟨w.heap.size, 0, none⟩ = some (.slice (some ⟨g1, 0, none⟩) r.ps.l.length k1) := cell_of_row wc _ 0 _ _ (0, 0) hb
    have c1 : wc.cell? ⟨w.heap.size, 1, none⟩ = some (.slice (some ⟨g2, 0, none⟩) r.es.l.length k2) := cell_of_row wc _ 1 _ _ (0, 0) hb
    have c2 : wc.cell? ⟨w.heap.size, 2, none⟩ = some (.slice (some ⟨g3, 0, none⟩) r.bs.l.length k3) := cell_of_row wc _ 2 _ _ (0, 0) hb
    have c3 : wc.cell? ⟨w.heap.size, 3, none⟩ = some (.int .i64 r.left) := cell_of_row wc _ 3 _ _ (0, 0) hb
    have c4 : wc.cell? ⟨w.heap.size, 4, none⟩ = some (.int .i64 r.right) := cell_of_row wc _ 4 _ _ (0, 0) hb
    have d0 : wc.cell? ⟨w.heap.size + 1, 0, none⟩ = some (.slice none 0 0) := cell_of_row wc _ 0 _ _ (0, 0) hrc
    have d1 : wc.cell? ⟨w.heap.size + 1, 1, none⟩ = some (.slice none 0 0) := cell_of_row wc _ 1 _ _ (0, 0) hrc
    have d2 : wc.cell? ⟨w.heap.size + 1, 2, none⟩ = some (.slice none 0 0) := cell_of_row wc _ 2 _ _ (0, 0) hrc
    have d3 : wc.cell? ⟨w.heap.size + 1, 3, none⟩ = some (.int .i64 0) := cell_of_row wc _ 3 _ _ (0, 0) hrc
    have d4 : wc.cell? ⟨w.heap.size + 1, 4, none⟩ = some (.int .i64 0) := cell_of_row wc _ 4 _ _ (0, 0) hrc
    have y0 : wc.frozen? ⟨w.heap.size + 1, 0, none⟩ = false := by simp [World.frozen?, hrc]
    have y1 : wc.frozen? ⟨w.heap.size + 1, 1, none⟩ = false := by simp [World.frozen?, hrc]
    have y2 : wc.frozen? ⟨w.heap.size + 1, 2, none⟩ = false := by simp [World.frozen?, hrc]
    have y3 : wc.frozen? ⟨w.heap.size + 1, 3, none⟩ = false := by simp [World.frozen?, hrc]
    have y4 : wc.frozen? ⟨w.heap.size + 1, 4, none⟩ = false := by simp [World.frozen?, hrc]
    have z0 := heap_set2 hrc 0 (.slice (some ⟨g1, 0, none⟩) r.ps.l.length k1)
    have z1 := heap_set2 z0 1 (.slice (some ⟨g2, 0, none⟩) r.es.l.length k2)
    have z2 := heap_set2 z1 2 (.slice (some ⟨g3, 0, none⟩) r.bs.l.length k3)
    have z3 := heap_set2 z2 3 (.int .i64 r.left)
    have hput : ∀ {v : Value} {n : Nat} {xs : List Value}, wc.ownsRow (w.heap.size + 2) 9 1 v n xs → (((((wc.setCell ⟨w.heap.size + 1, 0, none⟩ (.slice (some ⟨g1, 0, none⟩) r.ps.l.length k1)).setCell ⟨w.heap.size + 1, 1, none⟩ (.slice (some ⟨g2, 0, none⟩) r.es.l.length k2)).setCell ⟨w.heap.size + 1, 2, none⟩ (.slice (some ⟨g3, 0, none⟩) r.bs.l.length k3)).setCell ⟨w.heap.size + 1, 3, none⟩ (.int .i64 r.left)).setCell ⟨w.heap.size + 1, 4, none⟩ (.int .i64 r.right)).ownsRow w.heap.size 9 1 v n xs := fun o =>
      own_mono (own_put (own_put (own_put (own_put (own_put o hrc (by decide) 0 _) z0 (by decide) 1 _) z1 (by decide) 2 _) z2 (by decide) 3 _) z3 (by decide) 4 _) (by omega)
    have q1 := hput o1
    have q2 := hput o2
    have q3 := hput o3
    have hBf := (((((hlw.setCell (p := ⟨w.heap.size + 1, 0, none⟩) (by show w.heap.size ≤ w.heap.size + 1; omega) (.slice (some ⟨g1, 0, none⟩) r.ps.l.length k1)).setCell (p := ⟨w.heap.size + 1, 1, none⟩) (by show w.heap.size ≤ w.heap.size + 1; omega) (.slice (some ⟨g2, 0, none⟩) r.es.l.length k2)).setCell (p := ⟨w.heap.size + 1, 2, none⟩) (by show w.heap.size ≤ w.heap.size + 1; omega) (.slice (some ⟨g3, 0, none⟩) r.bs.l.length k3)).setCell (p := ⟨w.heap.size + 1, 3, none⟩) (by show w.heap.size ≤ w.heap.size + 1; omega) (.int .i64 r.left)).setCell (p := ⟨w.heap.size + 1, 4, none⟩) (by show w.heap.size ≤ w.heap.size + 1; omega) (.int .i64 r.right))
    clear hput z0 z1 z2 z3 o1 o2 o3 hb hrc hlw
    go_wp2
    refine bodyPost_ret (v := .agg #[.slice (some ⟨g1, 0, none⟩) r.ps.l.length k1, .slice (some ⟨g2, 0, none⟩) r.es.l.length k2, .slice (some ⟨g3, 0, none⟩) r.bs.l.length k3, .int .i64 r.left, .int .i64 r.right]) (by simp [results, Tryz.results20, go_sem, d0, d1, d2, d3, d4]) rfl ?_
    exact ⟨⟨⟨some ⟨g1, 0, none⟩, k1, r.ps.l⟩, ⟨some ⟨g2, 0, none⟩, k2, r.es.l⟩, ⟨some ⟨g3, 0, none⟩, k3, r.bs.l⟩, r.left, r.right⟩, rfl, ⟨rfl, rfl, rfl, rfl, rfl⟩, ⟨q1, q2, q3, hap⟩, hBf⟩
end Go.Proofs.YtlkkociijfdcgaaGreatDoor
