/-
  The steps of a reader: the body, the name and the text of a sort.
-/
import Derived.Test.YtebndgepmjonoaaDoorP4
import Derived.Test.YtebndgepmjonoaaDoorX3
namespace Go.Proofs.YtebndgepmjonoaaDoor
open Go.RowKit Go.Maps

set_option maxRecDepth 100000 in
theorem readBody_any {B b b1 b2 : Nat} {r : Rd} (s : ByteArray) {w : World} (h : RdAt w B b b1 b2 r) (h1 : 1 ≤ s.size) (h7 : s.size ≤ 7) (hd : digsB s.data.toList) (h0 : s.data.toList.headD 0 ≠ 48) (hv : 1 ≤ valL s.data.toList ∧ valL s.data.toList ≤ 144) :
    Calls Tryd.prog 80 #[.pointer (some ⟨b, 0, none⟩), .string s] w (Stepped w B b b1 b2 { r with body := valL s.data.toList }) := by
  have hlb := h.lt
  have hB := h.hb
  have HN := Lib.hid (fun w => numberOf_any s w h1 h7 hd h0)
  have c3 := h.cell (j := 3) rfl
  have z3 := h.frozen 3
  have hset := h.set_ 3 (.int .i64 (valL s.data.toList)) (r' := { r with body := valL s.data.toList }) rfl rfl rfl
  have k3 := Keep.set_ b w 3 (.int .i64 (valL s.data.toList))
  have hB2 := (Below.refl B w).setCell (p := ⟨b, 3, none⟩) hB (.int .i64 (valL s.data.toList))
  clear hd h0 h1 h7 h
  obtain ⟨v1, v2⟩ := hv
  generalize valL s.data.toList = n at *
  go_enter Tryd.func80, Tryd.ntmps80
  go_wp2_with fail
  refine (HN.out _).mono ?_
  rintro e w1 ⟨rfl, rfl⟩
  go_wp2
  go_ret
  exact ⟨rfl, hset, hB2, k3⟩

set_option maxRecDepth 100000 in
theorem readName_any {B b b1 b2 : Nat} {r : Rd} (s : ByteArray) {w : World} (h : RdAt w B b b1 b2 r) (hs : s.size ≤ 1000000) (h0 : nameErr r.l s = 0) :
    Calls Tryd.prog 82 #[.pointer (some ⟨b, 0, none⟩), .string s] w (Stepped w B b b1 b2 { r with sn := s }) := by
  have hlb := h.lt
  have hB := h.hb
  have HE := Lib.hid h0
  clear h0
  go_enter Tryd.func82, Tryd.ntmps82
  go_wp2_with fail
  refine (clone_any s _ hs).mono ?_
  rintro e w1 ⟨rfl, hb⟩
  have h1 := h.below hb
  have k1 := Keep.of_below (b := b) hb
  have c5 := h1.cell (j := 5) rfl
  have z5 := h1.frozen 5
  have h2 := h1.set_ 5 (.string s) (r' := { r with sn := s }) rfl rfl rfl
  have hB1 : Below B w w1 := hb.mono (by omega)
  have hB2 := hB1.setCell (p := ⟨b, 5, none⟩) hB (.string s)
  have k2 := k1.trans (Keep.set_ b w1 5 (.string s))
  have c0 := h1.cell (j := 0) rfl
  have c1 := h1.cell (j := 1) rfl
  clear hb h
  go_wp2_with fail
  refine (errorOfName_any b1 b2 r.l s _ (by unfold maxLen; omega) h2.known).mono ?_
  rintro e w2 ⟨rfl, hb2⟩
  rw [HE.out]
  have h3 := h2.below hb2
  have hB3 : Below B w w2 := hB2.trans (hb2.mono (B' := B) (by have := h2.lt; omega))
  have k3 := k2.trans (Keep.of_below (b := b) hb2)
  clear hb2 h1 h2
  go_wp2
  go_ret
  exact ⟨rfl, h3, hB3, k3⟩

set_option maxRecDepth 100000 in
theorem readText_any {B b b1 b2 : Nat} {r : Rd} (s : ByteArray) {w : World} (h : RdAt w B b b1 b2 r) (hT : TabOk w) (hG : 1 < B) (hs : s.size ≤ 1000000) (hk : 1 ≤ r.sk ∧ r.sk ≤ 3) (h0 : textErr r.l r.sk s = 0) :
    Calls Tryd.prog 84 #[.pointer (some ⟨b, 0, none⟩), .string s] w (Stepped w B b b1 b2 { r with st := s }) := by
  have hlb := h.lt
  have hB := h.hb
  have HE := Lib.hid h0
  clear h0
  go_enter Tryd.func84, Tryd.ntmps84
  go_wp2_with fail
  refine (clone_any s _ hs).mono ?_
  rintro e w1 ⟨rfl, hb⟩
  have h1 := h.below hb
  have k1 := Keep.of_below (b := b) hb
  have c6 := h1.cell (j := 6) rfl
  have z6 := h1.frozen 6
  have h2 := h1.set_ 6 (.string s) (r' := { r with st := s }) rfl rfl rfl
  have hB1 : Below B w w1 := hb.mono (by omega)
  have hB2 := hB1.setCell (p := ⟨b, 6, none⟩) hB (.string s)
  have k2 := k1.trans (Keep.set_ b w1 6 (.string s))
  clear hb h
  go_wp2_with fail
  have hT2 : TabOk (w1.setCell ⟨b, 6, none⟩ (.string s)) := hT.below hB2 hG
  obtain ⟨w3, e3⟩ : ∃ w3, w3 = w1.setCell ⟨b, 6, none⟩ (.string s) := ⟨_, rfl⟩
  rw [← e3] at h2 hB2 k2 hT2 ⊢
  clear e3 c6 z6 h1 k1 hB1
  have c0 : w3.cell? ⟨b, 0, none⟩ = some (.map (some b1)) := h2.cell (j := 0) rfl
  have c1 : w3.cell? ⟨b, 1, none⟩ = some (.map (some b2)) := h2.cell (j := 1) rfl
  have c7 : w3.cell? ⟨b, 7, none⟩ = some (.int .i64 r.sk) := h2.cell (j := 7) rfl
  have hlt2 := h2.lt
  go_region_held3 (fun w' => w'.cell? ⟨b, 0, none⟩ = some (.map (some b1)) ∧ w'.cell? ⟨b, 1, none⟩ = some (.map (some b2)) ∧ w'.cell? ⟨b, 7, none⟩ = some (.int .i64 r.sk)) (go_keep)
    (first | (go_at_call 72; refine (errorOfText_any b1 b2 r.l r.sk s _ (by unfold maxLen; omega) hk (by exact h2.known) (by exact hT2)).mono ?_; rintro e w4 ⟨rfl, hb4⟩; have q0 := (hb4.cell (p := ⟨b, 0, none⟩) hlt2).trans c0; have q1 := (hb4.cell (p := ⟨b, 1, none⟩) hlt2).trans c1; have q7 := (hb4.cell (p := ⟨b, 7, none⟩) hlt2).trans c7))
  rw [HE.out]
  have hb5 : Below w3.heap.size w3 w4 := (Below.refl _ w3).drew.trans hb4
  have h4 := h2.below hb5
  have hB4 : Below B w w4 := hB2.trans (hb5.mono (B' := B) (by omega))
  have k4 := k2.trans (Keep.of_below (b := b) hb5)
  clear hb4 hb5 c0 c1 c7 q0 q1 q7
  go_wp2
  go_ret
  exact ⟨rfl, h4, hB4, k4⟩

theorem But2.keep {w w' : World} {b b1 b2 : Nat} (h : But2 w w' b1 b2) {l : List TS} (hK : KnownAt w b1 b2 l) : Keep b w w' := fun k cs T fr _ hc _ => by
  obtain ⟨_, D1, D2, a1, a2, _⟩ := hK
  exact h.block k (block_lt hc) (fun e => by rw [← e] at a1; exact ownsMap_obj a1 hc) (fun e => by rw [← e] at a2; exact ownsMap_obj a2 hc)
theorem own_but2 {w w' : World} {b1 b2 base n size : Nat} {e : TypeId} {v : Value} {xs : List Value} {l : List TS} (h : w.ownsRow base e size v n xs) (hb : But2 w w' b1 b2) (hK : KnownAt w b1 b2 l) : w'.ownsRow base e size v n xs := by
  obtain ⟨_, D1, D2, a1, a2, _⟩ := hK
  obtain ⟨h1, h2⟩ := h
  refine ⟨h1, ?_⟩
  rcases h2 with h2 | ⟨g, cap, cur, hv, hg, hh, q⟩
  · exact .inl h2
  · exact .inr ⟨g, cap, cur, hv, hg, (hb.block g (block_lt hh) (fun e => by rw [e] at hh; exact ownsMap_obj a1 hh) (fun e => by rw [e] at hh; exact ownsMap_obj a2 hh)).trans hh, q⟩
theorem sVals_snoc (l : List TS) (x : TS) : sVals (l ++ [x]) = sVals l ++ [.string x.name, .string x.text, .int .i64 x.kind, .int .i64 x.width] := by unfold sVals; rw [List.flatMap_append]; rfl
theorem Keep.grown {b : Nat} {w w' : World} {base n size : Nat} {v : Value} {xs : List Value} (hg : w.grownBy w' v.ownBlock) (ho : w.ownsRow base 63 size v n xs) : Keep b w w' := fun k cs T fr _ hc hT => by
  refine hg.block k (block_lt hc) (fun e => ?_)
  rcases ho.2 with ⟨e2, _⟩ | ⟨g, cap, cur, e2, _, hb, _⟩
  · rw [e2] at e; cases e
  · rw [e2] at e
    have e3 : k = g := by simpa [Value.ownBlock] using e
    rw [← e3, hc] at hb
    injection hb with hb
    injection hb with _ hb _
    exact hT hb
/-- The sort of the line, with this width. -/
def Rd.sort (r : Rd) (n : Int) : TS := ⟨r.sn, r.st, r.sk, n⟩

set_option maxRecDepth 100000 in
set_option maxHeartbeats 2000000 in
theorem readWidth_any {B b b1 b2 : Nat} {r : Rd} (s : ByteArray) {w : World} (h : RdAt w B b b1 b2 r) (hbd : 1 ≤ r.body ∧ r.body ≤ 144) (hn : r.sn.size ≤ maxLen) (ht : r.st.size ≤ maxLen) (hl : r.l.length < 120) (h1 : 1 ≤ s.size) (h7 : s.size ≤ 7) (hd : digsB s.data.toList) (h0 : s.data.toList.headD 0 ≠ 48) (hw : widthErr (valL s.data.toList) = 0) (he : sortErr r.l (r.sort (valL s.data.toList)) = 0) :
    Calls Tryd.prog 83 #[.pointer (some ⟨b, 0, none⟩), .string s] w fun e w' => ∃ v', Stepped w B b b1 b2 { r with sw := valL s.data.toList, v := v', l := r.l ++ [r.sort (valL s.data.toList)] } e w' := by
  have hlb := h.lt
  have hB := h.hb
  have HN := Lib.hid (fun em w => widthOf_any s em w h1 h7 hd h0 hw)
  have HE := Lib.hid he
  have c3 : w.cell? ⟨b, 3, none⟩ = some (.int .i64 r.body) := h.cell (j := 3) rfl
  have c8 : w.cell? ⟨b, 8, none⟩ = some (.int .i64 r.sw) := h.cell (j := 8) rfl
  have z8 := h.frozen 8
  have h2 := h.set_ 8 (.int .i64 (valL s.data.toList)) (r' := { r with sw := valL s.data.toList }) rfl rfl rfl
  have hB2 := (Below.refl B w).setCell (p := ⟨b, 8, none⟩) hB (.int .i64 (valL s.data.toList))
  have k2 := Keep.set_ b w 8 (.int .i64 (valL s.data.toList))
  have HEM := Lib.hid (fun w => emOf_any r.body hbd w)
  clear hd h0 h1 h7 hw he h hbd
  generalize valL s.data.toList = n at *
  go_enter Tryd.func83, Tryd.ntmps83
  go_wp2_with fail
  refine (HEM.out _).mono ?_
  rintro e w1 ⟨rfl, rfl⟩
  go_wp2_with fail
  refine (HN.out _ _).mono ?_
  rintro e w1 ⟨rfl, rfl⟩
  go_wp2_with fail
  obtain ⟨w3, e3⟩ : ∃ w3, w3 = w1.setCell ⟨b, 8, none⟩ (.int .i64 n) := ⟨_, rfl⟩
  rw [← e3] at h2 hB2 k2 ⊢
  clear e3 c8 z8 c3
  have c0 : w3.cell? ⟨b, 0, none⟩ = some (.map (some b1)) := h2.cell (j := 0) rfl
  have c1 : w3.cell? ⟨b, 1, none⟩ = some (.map (some b2)) := h2.cell (j := 1) rfl
  have c5 : w3.cell? ⟨b, 5, none⟩ = some (.string r.sn) := h2.cell (j := 5) rfl
  have c6 : w3.cell? ⟨b, 6, none⟩ = some (.string r.st) := h2.cell (j := 6) rfl
  have c7 : w3.cell? ⟨b, 7, none⟩ = some (.int .i64 r.sk) := h2.cell (j := 7) rfl
  have c8 : w3.cell? ⟨b, 8, none⟩ = some (.int .i64 n) := h2.cell (j := 8) rfl
  have hlt2 := h2.lt
  have n1 := h2.ne1
  have n2 := h2.ne2
  go_region_held3 (fun w' => w'.cell? ⟨b, 0, none⟩ = some (.map (some b1)) ∧ w'.cell? ⟨b, 1, none⟩ = some (.map (some b2)) ∧ w'.cell? ⟨b, 5, none⟩ = some (.string r.sn) ∧ w'.cell? ⟨b, 6, none⟩ = some (.string r.st) ∧ w'.cell? ⟨b, 7, none⟩ = some (.int .i64 r.sk) ∧ w'.cell? ⟨b, 8, none⟩ = some (.int .i64 n)) (go_keep)
    (first | (go_at_call 58; refine (add_any b1 b2 r.l (r.sort n) _ hn ht (by exact h2.known) HE.out (by omega)).mono ?_; rintro e w4 ⟨rfl, hK4, hb4⟩; have q0 := (hb4.cell (b := b) (o := 0) hlt2 n1 n2).trans c0; have q1 := (hb4.cell (b := b) (o := 1) hlt2 n1 n2).trans c1; have q5 := (hb4.cell (b := b) (o := 5) hlt2 n1 n2).trans c5; have q6 := (hb4.cell (b := b) (o := 6) hlt2 n1 n2).trans c6; have q7 := (hb4.cell (b := b) (o := 7) hlt2 n1 n2).trans c7; have q8 := (hb4.cell (b := b) (o := 8) hlt2 n1 n2).trans c8))
  rename_i hH4
  clear hH4 q0 q1 q5 q6 q7 q8 c0 c1 c5 c6 c7 c8
  have hblk4 := (hb4.block b hlt2 n1 n2).trans h2.block
  have hown4 : w4.ownsRow B 63 4 r.v r.l.length (sVals r.l) := own_but2 (by exact h2.own) hb4 (by exact h2.known)
  have hB4 : Below B w1 w4 := hB2.drew.trans (hb4.below (B := B) h2.hb1 h2.hb2 (by show B ≤ w3.heap.size; omega))
  have k4 := k2.trans (hb4.keep (b := b) (by exact h2.known))
  have hno := h2.neOwn
  have hb1 := h2.hb1
  have hb2' := h2.hb2
  clear hb4 h2 k2 hB2
  have hlt4 := block_lt hblk4
  have cell4 : ∀ (j : Nat) (u : Value), (({ r with sw := n } : Rd).cells b1 b2)[j]? = some u → w4.cell? ⟨b, j, none⟩ = some u := fun j u hj => by rw [cell_of_row w4 b j _ _ (0, 0) hblk4]; exact hj
  have c4 : w4.cell? ⟨b, 4, none⟩ = some r.v := cell4 4 _ rfl
  have c5 : w4.cell? ⟨b, 5, none⟩ = some (.string r.sn) := cell4 5 _ rfl
  have c6 : w4.cell? ⟨b, 6, none⟩ = some (.string r.st) := cell4 6 _ rfl
  have c7 : w4.cell? ⟨b, 7, none⟩ = some (.int .i64 r.sk) := cell4 7 _ rfl
  have c8 : w4.cell? ⟨b, 8, none⟩ = some (.int .i64 n) := cell4 8 _ rfl
  have z4 : w4.frozen? ⟨b, 4, none⟩ = false := by simp [World.frozen?, hblk4]
  clear cell4
  obtain ⟨i0, hi0, hz0, hz1, hz2⟩ := info_parts infoTS
  have hbw := hB4.size
  have hBw4 : B ≤ w4.heap.size := by omega
  have h63 : r.l.length + 1 ≤ maxLen := by unfold maxLen; omega
  have hby : (r.l.length + 1) * 48 ≤ 140737488355328 := by omega
  have a1 : r.v.ownBlock ≠ some b := hno
  have zz : (w4.alloc (.cells #[.string r.sn, .string r.st, .int .i64 r.sk, .int .i64 n] 63)).frozen? ⟨b, 4, none⟩ = false := (World.frozen?_alloc_past _ _ _ hlt4).trans z4
  go_wp2_with fail
  go_region_law (first
    | (refine step_append_lies _ (by rfl) _ _ _ (by rfl) B 63 i0 _ 4 48 Tryd.underlying22 hi0 hz0 hz1 hz2 rfl (by omega) _ r.l.length _ (by rfl) ((hown4.alloc _).drew)
        ⟨w4.heap.size, 0, none⟩ 1 1 [.string r.sn, .string r.st, .int .i64 r.sk, .int .i64 n] (by rfl) (by rfl) (World.news_of_block (cs := #[.string r.sn, .string r.st, .int .i64 r.sk, .int .i64 n]) (t := 63) (fr := (0, 0)) (heap_alloc_new w4 _)) (by simp [Value.oneCell'])
        (by omega) h63 hby (by simp; omega) (w4.heap.size + 1) (by simp) ?_; intro gg cap w5 hown5 hgrow hat hlt; have z5 : w5.frozen? ⟨b, 4, none⟩ = false := (hgrow.frozen_far ⟨b, 4, none⟩ (by simp; omega) (Ne.symm a1)).trans zz; have x4 : w5.cell? ⟨b, 4, none⟩ = some r.v := (hgrow.cell_far ⟨b, 4, none⟩ (by simp; omega) (Ne.symm a1)).trans ((World.cell?_alloc_past _ _ _ hlt4).trans c4)))
  all_goals
    have hsv := sVals_snoc r.l (r.sort n)
    have hblk5 : w5.heap[b]? = some (.cells (({ r with sw := n } : Rd).cells b1 b2) 95 (0, 0)) := (hgrow.block b (by simp; omega) (fun e => a1 e.symm)).trans ((Below.heap_alloc w4 _ b hlt4).trans hblk4)
    have hBa : Below w4.heap.size w4 (w4.alloc (.cells #[.string r.sn, .string r.st, .int .i64 r.sk, .int .i64 n] 63)).drew := ((Below.refl _ _).alloc (Nat.le_refl _) _).drew
    have hB5 : Below B w1 w5 := (hB4.trans (hBa.mono hBw4)).grown hgrow (by simp; omega) (fun q hq => ((hown4.alloc (.cells #[.string r.sn, .string r.st, .int .i64 r.sk, .int .i64 n] 63)).lt q hq).1)
    have k5 : Keep b w1 w5 := (k4.trans (Keep.of_below hBa)).trans (Keep.grown hgrow ((hown4.alloc (.cells #[.string r.sn, .string r.st, .int .i64 r.sk, .int .i64 n] 63)).drew))
    have hK5 : KnownAt w5 b1 b2 (r.l ++ [r.sort n]) := by
      have hKa := hK4.below hBa hK4.lt.1 hK4.lt.2
      obtain ⟨hne, D1, D2, o1, o2, q⟩ := hKa
      have hna : ∀ {bb : Nat} {D : DataW Unit} {m : Nat}, (w4.alloc (.cells #[.string r.sn, .string r.st, .int .i64 r.sk, .int .i64 n] 63)).drew.ownsMap Tryd.prog 9 (plainElem Tryd.prog 3) bb m D → some bb ≠ r.v.ownBlock := by
        intro bb D m ho e
        rcases hown4.2 with ⟨e1, _⟩ | ⟨g, cap', cur, e1, _, hh, _⟩
        · rw [e1] at e; cases e
        · rw [e1] at e
          have e2 : bb = g := by simpa [Value.ownBlock] using e
          rw [e2] at ho
          exact ownsMap_obj ho ((hBa.block g (block_lt hh)).trans hh)
      exact ⟨hne, D1, D2, o1.kept hgrow (hna o1), o2.kept hgrow (hna o2), q⟩
    have hneo : (Value.slice (some ⟨gg, 0, none⟩) (r.l.length + 1) cap).ownBlock ≠ some b := by
      intro e
      have e2 : gg = b := by simpa [Value.ownBlock] using e
      rcases hat with hat | hat
      · exact a1 (by rw [hat, e2])
      · omega
    have hset : RdAt (w5.setCell ⟨b, 4, none⟩ (.slice (some ⟨gg, 0, none⟩) (r.l.length + 1) cap)) B b b1 b2 { r with sw := n, v := .slice (some ⟨gg, 0, none⟩) (r.l.length + 1) cap, l := r.l ++ [r.sort n] } := by
      refine ⟨by rw [heap_set hblk5]; rfl, ?_, ?_, hB, hb1, hb2'⟩
      · have hK6 := hK5
        obtain ⟨_, D1, D2, o1, o2, _⟩ := hK6
        exact hK5.setCell (by intro e; have e2 : b1 = b := e; rw [e2] at o1; exact ownsMap_obj o1 hblk5) (by intro e; have e2 : b2 = b := e; rw [e2] at o2; exact ownsMap_obj o2 hblk5) _
      · have h := own_setCell hown5 hneo 4 (.slice (some ⟨gg, 0, none⟩) (r.l.length + 1) cap)
        rw [show (({ r with sw := n, v := .slice (some ⟨gg, 0, none⟩) (r.l.length + 1) cap, l := r.l ++ [r.sort n] } : Rd).l) = r.l ++ [r.sort n] from rfl, hsv, List.length_append]
        exact h
    have hB6 := hB5.setCell (p := ⟨b, 4, none⟩) hB (.slice (some ⟨gg, 0, none⟩) (r.l.length + 1) cap)
    have k6 := k5.trans (Keep.set_ b w5 4 (.slice (some ⟨gg, 0, none⟩) (r.l.length + 1) cap))
    go_wp2
    go_ret
    exact ⟨_, rfl, hset, hB6, k6⟩
end Go.Proofs.YtebndgepmjonoaaDoor
