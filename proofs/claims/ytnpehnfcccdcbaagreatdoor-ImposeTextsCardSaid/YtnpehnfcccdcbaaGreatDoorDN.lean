/-
  Package tympanref06: Parse.
-/
import Derived.Test.YtnpehnfcccdcbaaGreatDoorDI
import Derived.Test.YtnpehnfcccdcbaaGreatDoorEV
import Derived.Test.YtnpehnfcccdcbaaGreatDoorDY
import Derived.Test.YtnpehnfcccdcbaaGreatDoorYD
namespace Go.Proofs.YtnpehnfcccdcbaaGreatDoor
open Go.RowKit

theorem own_own {w : World} {B E n len B' E' n' len' : Nat} {v v' : Value} {xs xs' : List Value} (h : w.ownsRow B E n v len xs) (h' : w.ownsRow B' E' n' v' len' xs') (hE : E ≠ E') : ∀ q, v.ownBlock = some q → some q ≠ v'.ownBlock := fun q e e' => by
  obtain ⟨cs, hc⟩ := own_block h q e
  obtain ⟨cs', hc'⟩ := own_block h' q e'.symm
  rw [hc] at hc'; injection hc' with hc'; injection hc' with _ hc'; exact hE hc'
theorem own_neG {w : World} {B E n len b : Nat} {T : TypeId} {v : Value} {xs : List Value} {cs : Array Value} (h : w.ownsRow B E n v len xs) (hb : BoxAt w b cs T) (hE : E ≠ T) : v.ownBlock ≠ some b := fun e => by
  obtain ⟨c2, h2⟩ := own_block h b e
  rw [hb] at h2; injection h2 with h2; injection h2 with _ h2; exact hE h2.symm
theorem cell_same {w w' : World} {p : Addr} (h : w'.heap[p.block]? = w.heap[p.block]?) : w'.cell? p = w.cell? p := by unfold World.cell?; rw [h]
theorem txd (L : List (List UInt8)) : (L.map bs).map (·.data.toList) = L := by
  rw [List.map_map]
  exact List.map_id L
theorem cell_off {w : World} {p q : Addr} {u v : Value} (hp : p.block ≠ q.block) (h : w.cell? p = some v) : (w.setCell q u).cell? p = some v := by
  rw [World.cell?_setCell_other _ _ _ _ (fun e => hp (by rw [e]))]; exact h
/-- What stands while the lines are read. -/
structure QE (w : World) (g b7 : Nat) (vL : Value) (L : List (List UInt8)) (W : World) : Prop where
  low : Below w.heap.size w W
  x0 : BoxAt W g #[.int .i64 0, .int .i64 0, .slice none 0 0] 24
  x1 : BoxAt W (g + 1) #[.int .i64 0, .int .i64 0, .slice none 0 0] 24
  ln : OwnG 1 9 tx W w.heap.size vL (L.map bs)
section
variable {w W W' : World} {g b7 : Nat} {vL : Value} {L : List (List UInt8)}
theorem QE.below (h : QE w g b7 vL L W) (hb : Below W.heap.size W W') : QE w g b7 vL L W' := ⟨h.low.trans (hb.mono h.low.size), h.x0.below hb, h.x1.below hb, h.ln.below hb⟩
theorem QE.drew (h : QE w g b7 vL L W) : QE w g b7 vL L W.drew := ⟨h.low.drew, h.x0.drew, h.x1.drew, h.ln⟩
theorem QE.set (h : QE w g b7 vL L W) {cs : Array Value} (hb : BoxAt W b7 cs 24) (h7 : g + 2 ≤ b7) (hw : w.heap.size ≤ g) (j : Nat) (u : Value) : QE w g b7 vL L (W.setCell ⟨b7, j, none⟩ u) :=
  ⟨h.low.setCell (p := ⟨b7, j, none⟩) (by show w.heap.size ≤ b7; omega) u, h.x0.set_other (by show g ≠ b7; omega) u, h.x1.set_other (by show g + 1 ≠ b7; omega) u, h.ln.set (p := ⟨b7, j, none⟩) (own_neG h.ln hb (by decide)) u⟩
theorem QE.grown (h : QE w g b7 vL L W) {B : Nat} {v : Value} {l : List Cell} (hO : OwnR 4 54 Cell.l W B v l) (hg : W.grownBy W' v.ownBlock) (hB : Below w.heap.size W W') : QE w g b7 vL L W' :=
  ⟨h.low.trans hB, h.x0.grown hg (fun e => own_ne hO h.x0 (by decide) e.symm), h.x1.grown hg (fun e => own_ne hO h.x1 (by decide) e.symm), h.ln.grown hg (own_own h.ln hO (by decide))⟩
end
theorem z3set {w W : World} {g b7 : Nat} {vL : Value} {L : List (List UInt8)} (h : QE w g b7 vL L W) (hw : w.heap.size ≤ g) (C R : Int) (v : Value) : BoxAt (((W.setCell ⟨g, 0, none⟩ (.int .i64 C)).setCell ⟨g, 1, none⟩ (.int .i64 R)).setCell ⟨g, 2, none⟩ v) g #[.int .i64 C, .int .i64 R, v] 24 ∧ Below w.heap.size w (((W.setCell ⟨g, 0, none⟩ (.int .i64 C)).setCell ⟨g, 1, none⟩ (.int .i64 R)).setCell ⟨g, 2, none⟩ v) :=
  ⟨((h.x0.set 0 _).set 1 _).set 2 _, ((h.low.setCell (p := ⟨g, 0, none⟩) hw _).setCell (p := ⟨g, 1, none⟩) hw _).setCell (p := ⟨g, 2, none⟩) hw _⟩
theorem rdAll_take {L : List (List UInt8)} {k : Nat} {st : RdS} (hk : k < L.length) (h : rdAll st0 (L.take k) = .inr st) : rdAll st0 (L.take (k + 1)) = match rdLine { st with n := st.n + 1 } L[k] with
    | none => .inl (st.n + 1)
    | some q => .inr q := by
  have app : ∀ (a b : List (List UInt8)) (s : RdS), rdAll s (a ++ b) = match rdAll s a with | .inl k => (Sum.inl k : Nat ⊕ RdS) | .inr q => rdAll q b := by
    intro a
    induction a with
    | nil => intro b s; rfl
    | cons t a ih =>
      intro b s
      show (match rdLine { s with n := s.n + 1 } t with | none => Sum.inl (s.n + 1) | some q => rdAll q (a ++ b)) = (match (match rdLine { s with n := s.n + 1 } t with | none => (Sum.inl (s.n + 1) : Nat ⊕ RdS) | some q => rdAll q a) with | .inl k => (Sum.inl k : Nat ⊕ RdS) | .inr q => rdAll q b)
      cases rdLine { s with n := s.n + 1 } t with
      | none => rfl
      | some q => exact ih b q
  rw [List.take_succ_eq_append_getElem hk, app, h]
  show (match rdLine { st with n := st.n + 1 } L[k] with | none => Sum.inl (st.n + 1) | some q => rdAll q []) = _
  cases rdLine { st with n := st.n + 1 } L[k] <;> rfl
theorem rdAll_stop {st : RdS} {n : Nat} : ∀ {a b : List (List UInt8)}, rdAll st a = .inl n → rdAll st (a ++ b) = .inl n := by
  intro a
  induction a generalizing st with
  | nil => intro b h; cases h
  | cons t a ih =>
    intro b h
    have h : (match rdLine { st with n := st.n + 1 } t with | none => Sum.inl (st.n + 1) | some q => rdAll q a) = Sum.inl n := h
    show (match rdLine { st with n := st.n + 1 } t with | none => Sum.inl (st.n + 1) | some q => rdAll q (a ++ b)) = Sum.inl n
    cases hr : rdLine { st with n := st.n + 1 } t with
    | none => rw [hr] at h; exact h
    | some q => rw [hr] at h; exact ih h
theorem cellsR_snoc {L : List (List UInt8)} {k : Nat} {cs : List Cell} (hk : k < L.length) (h : cellsR (L.take k) = some cs) : cellsR (L.take (k + 1)) = (cellR L[k]).map fun x => cs ++ [x] := by
  rw [List.take_succ_eq_append_getElem hk, cellsR_app, h, cellsR_one]
  cases cellR L[k] <;> rfl
theorem cellsR_stop {a b : List (List UInt8)} (h : cellsR a = none) : cellsR (a ++ b) = none := by rw [cellsR_app, h]
theorem splitOn_size {m : UInt8} {t : List UInt8} {n : Nat} (h : t.length ≤ n) : (splitOn m t).length ≤ n + 1 ∧ ∀ x ∈ splitOn m t, x.length ≤ n := by
  have h1 := splitOn_len m t
  refine ⟨by omega, fun x hx => ?_⟩
  have h2 : x.length ≤ (splitOn m t).flatten.length := by
    rw [List.length_flatten]; exact leSum (List.mem_map.2 ⟨_, hx, rfl⟩)
  have h3 : 1 ≤ (splitOn m t).length := List.length_pos_iff.2 (splitOn_ne m t)
  omega
set_option maxRecDepth 100000 in
set_option maxHeartbeats 1600000 in
theorem refParse_any (s : ByteArray) (w : World) (hs : s.size ≤ 400 ∨ 60000 < s.size) (hs2 : s.size ≤ 100000) :
    Calls Tryz.prog 7 #[.string s] w (ParsePost w (parseT s.data.toList)) := by
  obtain ⟨g, hg⟩ : ∃ g, w.heap.size = g := ⟨_, rfl⟩
  obtain ⟨w1, hw1⟩ : ∃ w1, w1 = (w.alloc (.cells #[.int .i64 0, .int .i64 0, .slice none 0 0] 24)).alloc (.cells #[.int .i64 0, .int .i64 0, .slice none 0 0] 24) := ⟨_, rfl⟩
  have z1 : w1.heap.size = g + 2 := by rw [hw1]; simp; omega
  have r0 : BoxAt w1 g #[.int .i64 0, .int .i64 0, .slice none 0 0] 24 := by rw [hw1, ← hg]; exact (BoxAt.new _ _ _).alloc _
  have r1 : BoxAt w1 (g + 1) #[.int .i64 0, .int .i64 0, .slice none 0 0] 24 := by
    have h := BoxAt.new (w.alloc (.cells #[.int .i64 0, .int .i64 0, .slice none 0 0] 24)) #[.int .i64 0, .int .i64 0, .slice none 0 0] 24
    rw [World.size_alloc, hg, ← hw1] at h; exact h
  have hB1 : Below w.heap.size w w1 := by rw [hw1]; exact ((Below.refl _ _).alloc (Nat.le_refl _) _).alloc (by simp) _
  have hsl : s.data.toList.length = s.size := Array.length_toList
  obtain ⟨p, hp⟩ : ∃ p, p = parseT s.data.toList := ⟨_, rfl⟩
  rw [← hp]
  have HW1 := Lib.hid hw1
  have c0 := r0.cell 0
  have c1 := r0.cell 1
  have c2 := r0.cell 2
  have f0 := r0.free 0
  have f1 := r0.free 1
  have f2 := r0.free 2
  have d0 := r1.cell 0
  have d1 := r1.cell 1
  have d2 := r1.cell 2
  simp at c0 c1 c2 d0 d1 d2
  by_cases hlarge : 60000 < s.size
  · have HE := Lib.hid (show p = ⟨0, 0, [], 0, 8⟩ by rw [hp]; exact parseT_large (by rw [hsl]; exact hlarge))
    have hI : (s.size : Int) > 60000 := by omega
    clear hp hsl hlarge hs hw1
    go_enter Tryz.func7, Tryz.ntmps7
    go_wp2_with fail
    rw [← HW1.out]
    refine bodyPost_ret (v := .tuple #[.agg #[.int .i64 0, .int .i64 0, .slice none 0 0], .int .i64 0, .int .i64 8]) (by simp [results, Tryz.results7, go_sem, c0, c1, c2]) rfl ⟨none, 0, 0, by rw [HE.out], by rw [HE.out]; rfl, by rw [HE.out]; exact RowsAt.nil _ _, fun _ => rfl, hB1⟩
  have hsz : s.size ≤ 400 := by omega
  have hI : ¬ (s.size : Int) > 60000 := by omega
  have HSL := Lib.hid hsl
  obtain ⟨L, hLd⟩ : ∃ L, L = splitOn 10 s.data.toList := ⟨_, rfl⟩
  have hLz := splitOn_size (m := 10) (t := s.data.toList) (n := 400) (by omega)
  have hL1 : 1 ≤ L.length := by rw [hLd]; exact List.length_pos_iff.2 (splitOn_ne 10 _)
  rw [← hLd] at hLz
  have HPT := Lib.hid (show p = match rdAll st0 L.dropLast with
    | .inl k => ⟨0, 0, [], k, 7⟩
    | .inr st =>
      if L.getLastD [] ≠ [] ∨ L.length = 1 then ⟨0, 0, [], L.length, 7⟩
      else if st.un = true ∨ (L.length : Int) - 2 ≠ st.R then ⟨0, 0, [], 0, 10⟩
      else if (checkSc st.C st.R st.l).2 ≠ 0 then ⟨0, 0, [], 0, (checkSc st.C st.R st.l).2⟩
      else ⟨st.C, st.R, st.l, 0, 0⟩ by rw [hp, hLd]; exact if_neg (by rw [hsl]; exact hlarge))
  have HCUT := Lib.hid (show Calls Tryz.prog 21 #[.string s, .int .u8 10] w1 fun e w' => Below w1.heap.size w1 w' ∧ ∃ v, e = .returned v ∧ OwnG 1 9 tx w' w1.heap.size v (L.map bs) from (cut_any s 10 w1 (by omega)).mono fun e w' h => by rw [hLd]; exact h)
  have HLZ := Lib.hid hLz
  clear hp hsl hlarge hs hw1 hLd hLz
  go_enter Tryz.func7, Tryz.ntmps7
  go_wp2_with fail
  rw [← HW1.out]
  refine HCUT.out.mono ?_
  rintro e w2 ⟨hb2, vL, rfl, hLn⟩
  obtain ⟨AL, cL, eL, -, -, -⟩ := hLn.rows tx_len
  subst eL
  obtain ⟨n, hn⟩ : ∃ n, n = (L.map bs).length := ⟨_, rfl⟩
  rw [← hn] at hLn
  rw [← hn]
  have hnL : n = L.length := by rw [hn, List.length_map]
  have HN := Lib.hid hnL
  have hn401 : n ≤ 401 := by rw [hnL]; exact HLZ.out.1
  have hn1 : 1 ≤ n := by omega
  obtain ⟨b7, hb7⟩ : ∃ b7, w2.heap.size = b7 := ⟨_, rfl⟩
  obtain ⟨w3, hw3⟩ : ∃ w3, w3 = w2.alloc (.cells #[.int .i64 0, .int .i64 0, .slice none 0 0] 24) := ⟨_, rfl⟩
  have x7 : BoxAt w3 b7 #[.int .i64 0, .int .i64 0, .slice none 0 0] 24 := by rw [hw3, ← hb7]; exact BoxAt.new _ _ _
  have h7 : g + 2 ≤ b7 := by have := hb2.size; omega
  have hgw : w.heap.size ≤ g := by omega
  have q3 : QE w g b7 (.slice AL n cL) L w3 := by
    have h : QE w g b7 (.slice AL n cL) L w2 := ⟨hB1.trans (hb2.mono hB1.size), r0.below hb2, r1.below hb2, hLn.mono (by have := hB1.size; omega)⟩
    rw [hw3]
    exact h.below ((Below.refl _ _).alloc (Nat.le_refl _) _)
  have HW3 := Lib.hid hw3
  have HB7 := Lib.hid hb7
  clear hn hnL hLn hb2 hw3 hb7 r0 r1 hB1 c0 c1 c2 f0 f1 f2 d0 d1 d2 z1
  go_wp2_with fail
  rw [← HW3.out, HB7.out]
  go_loopw [8, 9] (fun ft i wr => ∃ (k : Nat) (st : RdS) (v : Value), k + 1 ≤ n ∧ i = .int .i64 k ∧ ft = .bool (!st.un) ∧ st.n = k ∧ Hid (rdAll st0 (L.take k) = .inr st) ∧ BoxAt wr b7 #[.int .i64 st.C, .int .i64 st.R, v] 24 ∧ OwnR 4 54 Cell.l wr w.heap.size v st.l ∧ QE w g b7 (.slice AL n cL) L wr ∧ st.l.length ≤ 401 * k) (fun _ i _ => n - (intOf i).toNat)
  case atStart => exact ⟨0, st0, .slice none 0 0, by omega, rfl, rfl, rfl, Lib.hid rfl, x7, OwnR.nil _ _, q3, Nat.zero_le _⟩
  case round =>
    obtain ⟨k, ⟨C, R, l, nn, un⟩, v8, hk, rfl, rfl, hnn, HRD, x7r, hO8, hq, hlen⟩ := hrel
    clear x7 q3
    simp only at hnn x7r hO8 hlen
    subst hnn
    obtain ⟨A', cL', eL, hrow, -, -⟩ := hq.ln.rows tx_len
    by_cases hlt : nn + 1 < n
    · have hkL : nn < L.length := by have := HN.out; omega
      have hkM : nn < (L.map bs).length := by rw [List.length_map]; exact hkL
      have hkI : (nn : Int) < (n : Int) - 1 := by omega
      have hkI2 : (nn : Int) < (n : Int) := by omega
      have eA : AL = A' := by injection eL
      subst eA
      obtain ⟨ad0, rfl, had0, hc0⟩ := hrow.tx hkM
      rw [List.getElem_map] at hc0
      obtain ⟨x, hx⟩ : ∃ x, x = L[nn] := ⟨_, rfl⟩
      have hxz : x.length ≤ 400 := by rw [hx]; exact HLZ.out.2 _ (List.getElem_mem hkL)
      rw [← hx] at hc0
      have HTK := Lib.hid (rdAll_take hkL HRD.out)
      rw [← hx] at HTK
      obtain ⟨W, hW⟩ : ∃ W, W = splitOn 32 x := ⟨_, rfl⟩
      have HCX := Lib.hid (show Calls Tryz.prog 21 #[.string (bs x), .int .u8 32] wr fun e w' => Below wr.heap.size wr w' ∧ ∃ v, e = .returned v ∧ OwnG 1 9 tx w' wr.heap.size v (W.map bs) from (cut_any (bs x) 32 wr (by rw [bs_size]; omega)).mono fun e w' h => by rw [hW]; exact h)
      have hWz := splitOn_size (m := 32) (t := x) (n := 400) hxz
      rw [← hW] at hWz
      have HWZ := Lib.hid hWz
      have HW := Lib.hid hW
      clear hx hW hWz eL hrow had0
      by_cases h0 : nn = 0
      · subst h0
        have HRL : Hid (rdLine ⟨C, R, l, 0 + 1, un⟩ x = match numsM 32 2 x with | some [a, b] => some ⟨a, b, l, 0 + 1, un⟩ | _ => none) := Lib.hid (by unfold rdLine; rw [if_pos rfl]; rfl)
        rw [addZ] at hc0
        have hnw : numsM 32 2 x = numsO W 2 := by rw [HW.out]; rfl
        have hb0 : (((0 : Nat) : Int) == 0) = true := rfl
        rw [hnw] at HRL
        go_wp2_with fail
        refine HCX.out.mono ?_
        rintro e w5 ⟨hb5, vW, rfl, hWn⟩
        obtain ⟨AW, cW, rfl, hrW, -, -⟩ := hWn.rows tx_len
        obtain ⟨mW, hmW⟩ : ∃ mW, mW = (W.map bs).length := ⟨_, rfl⟩
        rw [← hmW]
        have hnb := refNumbers_any AW (W.map bs) mW cW 2 w5 hmW hrW (by rw [hmW, List.length_map]; have := HWZ.out.1; omega) (fun y hy => by
          obtain ⟨z, hz, rfl⟩ := List.mem_map.1 hy
          rw [bs_size]; have := HWZ.out.2 z hz; omega)
        rw [txd] at hnb
        have hq5 := hq.below hb5
        have x75 := x7r.below hb5
        have hO5 := hO8.below hb5
        rcases nums_two (numsO W 2) (fun L h => by rw [← hnw] at h; exact numsM_len h) with hm | ⟨a1, a2, hm⟩
        · rw [hm] at hnb
          have HF := Lib.hid (show p = ⟨0, 0, [], 1, 7⟩ by
            have hr : rdLine ⟨C, R, l, 0 + 1, un⟩ x = none := by rw [HRL.out, hm]
            have h1 : rdAll st0 (L.take (0 + 1)) = .inl 1 := by rw [HTK.out]; show (match rdLine ⟨C, R, l, 0 + 1, un⟩ x with | none => (Sum.inl (0 + 1) : Nat ⊕ RdS) | some q => .inr q) = _; rw [hr]
            have h2 : rdAll st0 L.dropLast = .inl 1 := by
              have e : L.dropLast = L.take (0 + 1) ++ L.dropLast.drop (0 + 1) := by
                have e2 : L.take (0 + 1) = L.dropLast.take (0 + 1) := by rw [List.dropLast_eq_take, List.take_take]; congr 1; have := HN.out; omega
                rw [e2, List.take_append_drop]
              rw [e]; exact rdAll_stop h1
            rw [HPT.out, h2]; rfl)
          have HNB := Lib.hid hnb
          clear hnb hm hnw hWn hrW hmW
          go_wp2_with fail
          refine HNB.out.mono ?_
          rintro e w6 ⟨a6, n6, c6, D, rfl, -, -, -, -, hb6⟩
          have hq6 := hq5.below hb6
          have c0 := hq6.x0.cell 0
          have c1 := hq6.x0.cell 1
          have c2 := hq6.x0.cell 2
          have d0 := hq6.x1.cell 0
          have d1 := hq6.x1.cell 1
          have d2 := hq6.x1.cell 2
          have f0 := hq6.x0.free 0
          have f1 := hq6.x0.free 1
          have f2 := hq6.x0.free 2
          simp at c0 c1 c2 d0 d1 d2
          have q0 := z3set hq6 hgw 0 0 (.slice none 0 0)
          have D0 := q0.1.cell 0
          have D1 := q0.1.cell 1
          have D2 := q0.1.cell 2
          simp at D0 D1 D2
          go_wp2_with fail
          refine bodyPost_ret (v := .tuple #[.agg #[.int .i64 0, .int .i64 0, .slice none 0 0], .int .i64 1, .int .i64 7]) (by simp [results, Tryz.results7, go_sem, D0, D1, D2]) rfl ⟨none, 0, 0, by rw [HF.out], by rw [HF.out]; rfl, by rw [HF.out]; exact RowsAt.nil _ _, fun _ => rfl, q0.2⟩
        · rw [hm] at hnb
          have HT2 := Lib.hid (show rdAll st0 (L.take (0 + 1)) = .inr ⟨a1, a2, l, 0 + 1, un⟩ by
            have hr : rdLine ⟨C, R, l, 0 + 1, un⟩ x = some ⟨a1, a2, l, 0 + 1, un⟩ := by rw [HRL.out, hm]
            rw [HTK.out]; show (match rdLine ⟨C, R, l, 0 + 1, un⟩ x with | none => (Sum.inl (0 + 1) : Nat ⊕ RdS) | some q => .inr q) = _; rw [hr])
          have HNB := Lib.hid hnb
          clear hnb hm hnw hWn hrW hmW
          go_wp2_with fail
          refine HNB.out.mono ?_
          rintro e w6 ⟨a6, n6, c6, D, rfl, hD, hn6, hr6, -, hb6⟩
          obtain rfl := hD _ rfl
          obtain rfl : n6 = 2 := hn6
          have hq6 := hq5.below hb6
          have x76 := x75.below hb6
          have hO6 := hO5.below hb6
          obtain ⟨ad, rfl, had, s0⟩ := hr6.int (k := 0) (by simp)
          obtain ⟨_, e9, -, s1⟩ := hr6.int (k := 1) (by simp)
          cases e9
          rw [addZ] at s0
          rw [addS (by decide)] at s1
          simp at s0 s1
          have y0 := x76.cell 0
          have y1 := x76.cell 1
          have g0 := x76.free 0
          have g1 := x76.free 1
          simp at y0 y1
          go_wp2_with fail
          go_region
          have t1 := x76.set 0 (.int .i64 a1)
          have t2 := t1.set 1 (.int .i64 a2)
          have u1 := hq6.set x76 h7 hgw 0 (.int .i64 a1)
          have u2 := u1.set t1 h7 hgw 1 (.int .i64 a2)
          have n7 := own_ne hO6 x76 (by decide)
          have o1 := hO6.set (p := ⟨b7, 0, none⟩) n7 (.int .i64 a1)
          have o2 := o1.set (p := ⟨b7, 1, none⟩) n7 (.int .i64 a2)
          go_wp2_with fail
          go_roundw
          case rel => exact ⟨1, ⟨a1, a2, l, 1, un⟩, v8, by omega, rfl, rfl, rfl, HT2, t2.drew, o2.drew, u2.drew, by have := hlen; simp only; omega⟩
          case measure => simp [intOf]; omega
      · have HRL : Hid (rdLine ⟨C, R, l, nn + 1, un⟩ x = match cellsR W with | none => none | some cs => some ⟨C, R, l ++ cs, nn + 1, un || decide ((cs.length : Int) ≠ C)⟩) := Lib.hid (by rw [HW.out]; unfold rdLine; rw [if_neg (by show ¬ nn + 1 = 1; omega)]; rfl)
        have hb0 : ((nn : Int) == 0) = false := by rw [beq_eq_false_iff_ne]; omega
        clear h0
        go_wp2_with fail
        refine HCX.out.mono ?_
        rintro e w5 ⟨hb5, vW, rfl, hWn⟩
        have hWn := hWn.mono (B' := w.heap.size) hq.low.size
        have hq5 := hq.below hb5
        have x75 := x7r.below hb5
        have hO5 := hO8.below hb5
        obtain ⟨AW, cW, eW, -, -, -⟩ := hWn.rows tx_len
        subst eW
        obtain ⟨mW, hmW⟩ : ∃ mW, mW = (W.map bs).length := ⟨_, rfl⟩
        rw [← hmW] at hWn
        rw [← hmW]
        have hmL : mW = W.length := by rw [hmW, List.length_map]
        have hmz : mW ≤ 401 := by rw [hmL]; exact HWZ.out.1
        have HMW := Lib.hid hmL
        clear hmW hmL hq x7r hO8 hb5 hc0
        go_wp2_with fail
        go_loopw [13] (fun i wq => ∃ (j : Nat) (cs : List Cell) (v : Value), j ≤ mW ∧ i = .int .i64 j ∧ Hid (cellsR (W.take j) = some cs) ∧ cs.length = j ∧ BoxAt wq b7 #[.int .i64 C, .int .i64 R, v] 24 ∧ OwnR 4 54 Cell.l wq w.heap.size v (l ++ cs) ∧ QE w g b7 (.slice (some ad0) n cL) L wq ∧ OwnG 1 9 tx wq w.heap.size (.slice AW mW cW) (W.map bs)) (fun i _ => mW - (intOf i).toNat)
        case atStart => exact ⟨0, [], v8, Nat.zero_le _, rfl, Lib.hid rfl, rfl, x75, by rw [List.append_nil]; exact hO5, hq5, hWn⟩
        case round =>
          obtain ⟨j, cs, v8, hj, rfl, HCR, hcl, x7q, hO8, hq, hWq⟩ := hrel
          clear x75 hO5 hq5 hWn
          by_cases hjl : j < mW
          · have hjW : j < W.length := by have := HMW.out; omega
            have hjM : j < (W.map bs).length := by rw [List.length_map]; exact hjW
            have hjI : (j : Int) < (mW : Int) := by omega
            obtain ⟨A', cL', eL, hrow, -, -⟩ := hWq.rows tx_len
            have eA : AW = A' := by injection eL
            subst eA
            obtain ⟨ad1, rfl, had1, hc1⟩ := hrow.tx hjM
            rw [List.getElem_map] at hc1
            obtain ⟨y, hy⟩ : ∃ y, y = W[j] := ⟨_, rfl⟩
            have hyz : y.length ≤ 400 := by rw [hy]; exact HWZ.out.2 _ (List.getElem_mem hjW)
            rw [← hy] at hc1
            obtain ⟨Z, hZ⟩ : ∃ Z, Z = splitOn 47 y := ⟨_, rfl⟩
            have hZz := splitOn_size (m := 47) (t := y) (n := 400) hyz
            rw [← hZ] at hZz
            have hnz : numsM 47 4 y = numsO Z 4 := by rw [hZ]; rfl
            have hcs := cellsR_snoc hjW HCR.out
            rw [← hy] at hcs
            have HCX2 := Lib.hid (show Calls Tryz.prog 21 #[.string (bs y), .int .u8 47] wr fun e w' => Below wr.heap.size wr w' ∧ ∃ v, e = .returned v ∧ OwnG 1 9 tx w' wr.heap.size v (Z.map bs) from (cut_any (bs y) 47 wr (by rw [bs_size]; omega)).mono fun e w' h => by rw [hZ]; exact h)
            have HY := Lib.hid hy
            rcases nums_four (numsO Z 4) (fun L h => by rw [← hnz] at h; exact numsM_len h) with hm0 | ⟨a1, a2, a3, a4, hm0⟩
            · have hm : numsM 47 4 y = none := by rw [hnz]; exact hm0
              have HF := Lib.hid (show p = ⟨0, 0, [], ((nn + 1 : Nat) : Int), 7⟩ from by
                have hr : rdLine ⟨C, R, l, nn + 1, un⟩ x = none := by
                  rw [HRL.out]
                  have h3 : cellsR W = none := by
                    have e : W = W.take (j + 1) ++ W.drop (j + 1) := (List.take_append_drop _ _).symm
                    rw [e]; exact cellsR_stop (by rw [cellsR_snoc hjW HCR.out, cellR_none (by rw [← hy]; exact hm)]; rfl)
                  rw [h3]
                have h1 : rdAll st0 (L.take (nn + 1)) = .inl (nn + 1) := by rw [HTK.out]; show (match rdLine ⟨C, R, l, nn + 1, un⟩ x with | none => (Sum.inl (nn + 1) : Nat ⊕ RdS) | some q => .inr q) = _; rw [hr]
                have h2 : rdAll st0 L.dropLast = .inl (nn + 1) := by
                  have e : L.dropLast = L.take (nn + 1) ++ L.dropLast.drop (nn + 1) := by
                    have e2 : L.take (nn + 1) = L.dropLast.take (nn + 1) := by rw [List.dropLast_eq_take, List.take_take]; congr 1; have := HN.out; omega
                    rw [e2, List.take_append_drop]
                  rw [e]; exact rdAll_stop h1
                rw [HPT.out, h2])
              clear hcs hm hy hnz hZ eL hrow
              go_wp2_with fail
              refine HCX2.out.mono ?_
              rintro e w6 ⟨hb6, vP, rfl, hPn⟩
              obtain ⟨AP, cP, rfl, hrP, -, -⟩ := hPn.rows tx_len
              obtain ⟨mP, hmP⟩ : ∃ mP, mP = (Z.map bs).length := ⟨_, rfl⟩
              rw [← hmP]
              have hnb := refNumbersO_any AP (Z.map bs) mP cP 4 w6 hmP hrP (by rw [hmP, List.length_map]; have := hZz.1; omega) (fun y hy => by
                obtain ⟨z, hz, rfl⟩ := List.mem_map.1 hy
                rw [bs_size]; have := hZz.2 z hz; omega)
              rw [txd, hm0] at hnb
              have HNB := Lib.hid hnb
              have hq6 := hq.below hb6
              clear hnb hPn hrP hmP hb6
              go_wp2_with fail
              refine HNB.out.mono ?_
              rintro e w7 ⟨a6, n6, c6, D, rfl, -, -, -, -, -, hb7'⟩
              have hq7 := hq6.below hb7'
              have c0 := hq7.x0.cell 0
              have c1 := hq7.x0.cell 1
              have c2 := hq7.x0.cell 2
              have d0 := hq7.x1.cell 0
              have d1 := hq7.x1.cell 1
              have d2 := hq7.x1.cell 2
              have f0 := hq7.x0.free 0
              have f1 := hq7.x0.free 1
              have f2 := hq7.x0.free 2
              simp at c0 c1 c2 d0 d1 d2
              have q0 := z3set hq7 hgw 0 0 (.slice none 0 0)
              have D0 := q0.1.cell 0
              have D1 := q0.1.cell 1
              have D2 := q0.1.cell 2
              simp at D0 D1 D2
              go_wp2_with fail
              refine bodyPost_ret (v := .tuple #[.agg #[.int .i64 0, .int .i64 0, .slice none 0 0], .int .i64 ((nn : Int) + 1), .int .i64 7]) (by simp [results, Tryz.results7, go_sem, D0, D1, D2]) rfl ⟨none, 0, 0, by rw [HF.out]; push_cast; rfl, by rw [HF.out]; rfl, by rw [HF.out]; exact RowsAt.nil _ _, fun _ => rfl, q0.2⟩
            · have hm : numsM 47 4 y = some [a1, a2, a3, a4] := by rw [hnz]; exact hm0
              rw [cellR_some hm] at hcs
              have HCR2 := Lib.hid (show cellsR (W.take (j + 1)) = some (cs ++ [⟨a1, a2, a3, a4⟩]) from hcs)
              clear hcs hm hy hnz hZ eL hrow
              go_wp2_with fail
              refine HCX2.out.mono ?_
              rintro e w6 ⟨hb6, vP, rfl, hPn⟩
              obtain ⟨AP, cP, rfl, hrP, -, -⟩ := hPn.rows tx_len
              obtain ⟨mP, hmP⟩ : ∃ mP, mP = (Z.map bs).length := ⟨_, rfl⟩
              rw [← hmP]
              have hnb := refNumbersO_any AP (Z.map bs) mP cP 4 w6 hmP hrP (by rw [hmP, List.length_map]; have := hZz.1; omega) (fun y hy => by
                obtain ⟨z, hz, rfl⟩ := List.mem_map.1 hy
                rw [bs_size]; have := hZz.2 z hz; omega)
              rw [txd, hm0] at hnb
              have HNB := Lib.hid hnb
              have hq6 := hq.below hb6
              have x76 := x7q.below hb6
              have hO6 := hO8.below hb6
              have hW6 := hWq.below hb6
              clear hnb hPn hrP hmP hb6 hq x7q hO8 hWq hc1 had1
              go_wp2_with fail
              refine HNB.out.mono ?_
              rintro e W8 ⟨a6, n6, c4, D, rfl, hD, hn6, hr6, -, hbnd, hb8⟩
              obtain rfl := hD _ rfl
              obtain rfl : n6 = 4 := hn6
              have hq8 := hq6.below hb8
              have x78 := x76.below hb8
              have hO8 := hO6.below hb8
              have hW8 := hW6.below hb8
              obtain ⟨ad, rfl, had, s0⟩ := hr6.int (k := 0) (by simp)
              obtain ⟨_, e9, -, s1⟩ := hr6.int (k := 1) (by simp)
              cases e9
              obtain ⟨_, e9, -, s2⟩ := hr6.int (k := 2) (by simp)
              cases e9
              obtain ⟨_, e9, -, s3⟩ := hr6.int (k := 3) (by simp)
              cases e9
              rw [addZ] at s0
              rw [addS (by decide)] at s1 s2 s3
              simp at s0 s1 s2 s3
              have hadlo : w6.heap.size ≤ ad.block := hbnd ad rfl
              have hownlt : ∀ q, v8.ownBlock = some q → q < w6.heap.size := fun q e => (hO6.lt q e).2
              have hadb : ad.block ≠ b7 := by have := x76.lt; omega
              have hadv : v8.ownBlock ≠ some ad.block := fun e => by have := hownlt _ e; omega
              have cl52 := x78.cell 2
              simp at cl52
              have iO7 : OwnR 4 54 Cell.l (W8.drew.alloc (.cells #[.int .i64 a1, .int .i64 a2, .int .i64 a3, .int .i64 a4] 54)) w.heap.size v8 (l ++ cs) := hO8.drew.alloc _
              have hM7 : RowsAt 4 Cell.l (W8.drew.alloc (.cells #[.int .i64 a1, .int .i64 a2, .int .i64 a3, .int .i64 a4] 54)) (some ⟨W8.heap.size, 0, none⟩) [⟨a1, a2, a3, a4⟩] := rows_lit cell_l W8.drew _ [⟨a1, a2, a3, a4⟩] _ rfl
              have hq9 := hq8.drew.below ((Below.refl _ _).alloc (Nat.le_refl _) (.cells #[.int .i64 a1, .int .i64 a2, .int .i64 a3, .int .i64 a4] 54))
              have B7 := hq9.low
              have x79 := x78.drew.alloc (.cells #[.int .i64 a1, .int .i64 a2, .int .i64 a3, .int .i64 a4] 54)
              have hW9 : OwnG 1 9 tx (W8.drew.alloc (.cells #[.int .i64 a1, .int .i64 a2, .int .i64 a3, .int .i64 a4] 54)) w.heap.size (.slice (some ad1) mW cW) (W.map bs) := hW8.drew.alloc _
              have hlcs : (l ++ cs).length ≤ 1000000 := by
                rw [List.length_append, hcl]
                have : 401 * nn ≤ 401 * 401 := Nat.mul_le_mul_left _ (by omega)
                omega
              have fin : ∀ (v9 : Value) (w9 : World), OwnR 4 54 Cell.l w9 w.heap.size v9 (l ++ cs ++ [⟨a1, a2, a3, a4⟩]) → (W8.drew.alloc (.cells #[.int .i64 a1, .int .i64 a2, .int .i64 a3, .int .i64 a4] 54)).grownBy w9 v8.ownBlock → Below w.heap.size (W8.drew.alloc (.cells #[.int .i64 a1, .int .i64 a2, .int .i64 a3, .int .i64 a4] 54)) w9 →
                  BoxAt w9 b7 #[.int .i64 C, .int .i64 R, v8] 24 ∧ w9.cell? ad = some (.int .i64 a1) ∧ w9.cell? ⟨ad.block, ad.off + 1, none⟩ = some (.int .i64 a2) ∧ w9.cell? ⟨ad.block, ad.off + 2, none⟩ = some (.int .i64 a3) ∧ w9.cell? ⟨ad.block, ad.off + 3, none⟩ = some (.int .i64 a4) ∧
                  (∃ v, BoxAt (w9.setCell ⟨b7, 2, none⟩ v9) b7 #[.int .i64 C, .int .i64 R, v] 24 ∧ OwnR 4 54 Cell.l (w9.setCell ⟨b7, 2, none⟩ v9) w.heap.size v (l ++ (cs ++ [⟨a1, a2, a3, a4⟩])) ∧ QE w g b7 (.slice (some ad0) n cL) L (w9.setCell ⟨b7, 2, none⟩ v9) ∧ OwnG 1 9 tx (w9.setCell ⟨b7, 2, none⟩ v9) w.heap.size (.slice (some ad1) mW cW) (W.map bs)) := fun v9 w9 hO9 hg9 hB9 => by
                have m7 := x79.grown hg9 (fun e => own_ne iO7 x79 (by decide) e.symm)
                have mq := hq9.grown iO7 hg9 hB9
                have mW' := hW9.grown hg9 (own_own hW9 iO7 (by decide))
                have cg : ∀ {q : Addr} {u : Value}, q.block = ad.block → W8.cell? q = some u → w9.cell? q = some u := fun hq hu => by
                  have hu2 : (W8.drew.alloc (.cells #[.int .i64 a1, .int .i64 a2, .int .i64 a3, .int .i64 a4] 54)).cell? _ = some _ := cell_alloc_keep (w := W8.drew) hu
                  exact (cell_same (hg9.block _ (cell_ltF hu2) (fun e => hadv (by rw [← hq]; exact e.symm)))).trans hu2
                refine ⟨m7, cg rfl s0, cg rfl s1, cg rfl s2, cg rfl s3, v9, m7.set 2 v9, ?_, mq.set m7 h7 hgw 2 v9, mW'.set (p := ⟨b7, 2, none⟩) (own_neG mW' m7 (by decide)) v9⟩
                rw [← List.append_assoc]
                exact hO9.set (p := ⟨b7, 2, none⟩) (own_ne hO9 m7 (by decide)) v9
              have FIN := Lib.hid fin
              clear fin hr6 hbnd had hb8 hq6 x76 hO6 hW6 hlen hownlt hadlo
              go_wp2_with fail
              rename_i Q K hK
              refine Code.wp_mono (Q := Exit.then K (fun _ _ _ => False)) (fun e a w h => by cases e <;> first | exact h | exact h.elim) ?_
              refine wp_region_held (S := fun Z => Z.cell? ad = some (.int .i64 a1) ∧ Z.cell? (⟨ad.block, ad.off + 1, none⟩ : Addr) = some (.int .i64 a2) ∧ Z.cell? (⟨ad.block, ad.off + 2, none⟩ : Addr) = some (.int .i64 a3) ∧ Z.cell? (⟨ad.block, ad.off + 3, none⟩ : Addr) = some (.int .i64 a4)) (by kernel_rfl) ?_
              have hS : W8.drew.cell? ad = some (.int .i64 a1) ∧ W8.drew.cell? (⟨ad.block, ad.off + 1, none⟩ : Addr) = some (.int .i64 a2) ∧ W8.drew.cell? (⟨ad.block, ad.off + 2, none⟩ : Addr) = some (.int .i64 a3) ∧ W8.drew.cell? (⟨ad.block, ad.off + 3, none⟩ : Addr) = some (.int .i64 a4) := ⟨s0, s1, s2, s3⟩
              change wpAnyH _ _ _ _ _ _ _ _ W8.drew
              refine takeL (i := 0) (v := .pointer (some ⟨b7, 2, none⟩)) rfl (by kernel_rfl) (by kernel_rfl) (by kernel_rfl) (fun _ _ _ h => h.elim) (Or.inl ⟨by rfl, fun V9 h9 => by dsimp only at h9; go_simp⟩) (by assumption) ?_
              try simp only [Act.put, List.setIfInBounds_toArray, List.set_cons_zero, List.set_cons_succ]
              refine takeL (i := 2) (v := .slice (some ad) 4 c4) rfl (by kernel_rfl) (by kernel_rfl) (by kernel_rfl) (fun _ _ _ h => h.elim) (Or.inl ⟨by rfl, fun V9 h9 => by dsimp only at h9; go_simp⟩) (by assumption) ?_
              try simp only [Act.put, List.setIfInBounds_toArray, List.set_cons_zero, List.set_cons_succ]
              refine takeL (i := 3) (v := .pointer (some ad)) rfl (by kernel_rfl) (by kernel_rfl) (by kernel_rfl) (fun _ _ _ h => h.elim) (Or.inl ⟨by rfl, fun V9 h9 => by dsimp only at h9; go_simp⟩) (by assumption) ?_
              try simp only [Act.put, List.setIfInBounds_toArray, List.set_cons_zero, List.set_cons_succ]
              refine takeL (i := 4) (v := .int .i64 a1) rfl (by kernel_rfl) (by kernel_rfl) (by kernel_rfl) (fun _ _ _ h => h.elim) (Or.inl ⟨by rfl, fun V9 h9 => by dsimp only at h9; go_simp⟩) (by assumption) ?_
              try simp only [Act.put, List.setIfInBounds_toArray, List.set_cons_zero, List.set_cons_succ]
              refine takeL (i := 5) (v := .slice (some ad) 4 c4) rfl (by kernel_rfl) (by kernel_rfl) (by kernel_rfl) (fun _ _ _ h => h.elim) (Or.inl ⟨by rfl, fun V9 h9 => by dsimp only at h9; go_simp⟩) (by assumption) ?_
              try simp only [Act.put, List.setIfInBounds_toArray, List.set_cons_zero, List.set_cons_succ]
              refine takeL (i := 6) (v := .pointer (some ⟨ad.block, ad.off + 1, none⟩)) rfl (by kernel_rfl) (by kernel_rfl) (by kernel_rfl) (fun _ _ _ h => h.elim) (Or.inl ⟨by rfl, fun V9 h9 => by dsimp only at h9; go_simp⟩) (by assumption) ?_
              try simp only [Act.put, List.setIfInBounds_toArray, List.set_cons_zero, List.set_cons_succ]
              refine takeL (i := 7) (v := .int .i64 a2) rfl (by kernel_rfl) (by kernel_rfl) (by kernel_rfl) (fun _ _ _ h => h.elim) (Or.inl ⟨by rfl, fun V9 h9 => by dsimp only at h9; go_simp⟩) (by assumption) ?_
              try simp only [Act.put, List.setIfInBounds_toArray, List.set_cons_zero, List.set_cons_succ]
              refine takeL (i := 8) (v := .slice (some ad) 4 c4) rfl (by kernel_rfl) (by kernel_rfl) (by kernel_rfl) (fun _ _ _ h => h.elim) (Or.inl ⟨by rfl, fun V9 h9 => by dsimp only at h9; go_simp⟩) (by assumption) ?_
              try simp only [Act.put, List.setIfInBounds_toArray, List.set_cons_zero, List.set_cons_succ]
              refine takeL (i := 9) (v := .pointer (some ⟨ad.block, ad.off + 2, none⟩)) rfl (by kernel_rfl) (by kernel_rfl) (by kernel_rfl) (fun _ _ _ h => h.elim) (Or.inl ⟨by rfl, fun V9 h9 => by dsimp only at h9; go_simp⟩) (by assumption) ?_
              try simp only [Act.put, List.setIfInBounds_toArray, List.set_cons_zero, List.set_cons_succ]
              refine takeL (i := 10) (v := .int .i64 a3) rfl (by kernel_rfl) (by kernel_rfl) (by kernel_rfl) (fun _ _ _ h => h.elim) (Or.inl ⟨by rfl, fun V9 h9 => by dsimp only at h9; go_simp⟩) (by assumption) ?_
              try simp only [Act.put, List.setIfInBounds_toArray, List.set_cons_zero, List.set_cons_succ]
              refine takeL (i := 11) (v := .slice (some ad) 4 c4) rfl (by kernel_rfl) (by kernel_rfl) (by kernel_rfl) (fun _ _ _ h => h.elim) (Or.inl ⟨by rfl, fun V9 h9 => by dsimp only at h9; go_simp⟩) (by assumption) ?_
              try simp only [Act.put, List.setIfInBounds_toArray, List.set_cons_zero, List.set_cons_succ]
              refine takeL (i := 12) (v := .pointer (some ⟨ad.block, ad.off + 3, none⟩)) rfl (by kernel_rfl) (by kernel_rfl) (by kernel_rfl) (fun _ _ _ h => h.elim) (Or.inl ⟨by rfl, fun V9 h9 => by dsimp only at h9; go_simp⟩) (by assumption) ?_
              try simp only [Act.put, List.setIfInBounds_toArray, List.set_cons_zero, List.set_cons_succ]
              refine takeL (i := 13) (v := .int .i64 a4) rfl (by kernel_rfl) (by kernel_rfl) (by kernel_rfl) (fun _ _ _ h => h.elim) (Or.inl ⟨by rfl, fun V9 h9 => by dsimp only at h9; go_simp⟩) (by assumption) ?_
              try simp only [Act.put, List.setIfInBounds_toArray, List.set_cons_zero, List.set_cons_succ]
              refine takeL (i := 14) (v := .agg #[.int .i64 a1, .int .i64 a2, .int .i64 a3, .int .i64 a4]) rfl (by kernel_rfl) (by kernel_rfl) (by kernel_rfl) (fun _ _ _ h => h.elim) (Or.inl ⟨by rfl, fun V9 h9 => by dsimp only at h9; go_simp⟩) (by assumption) ?_
              try simp only [Act.put, List.setIfInBounds_toArray, List.set_cons_zero, List.set_cons_succ]
              refine wpAnyH_ready (rs := [1, 15]) (by kernel_rfl) (by simp) (consL rfl (fun K9 hK9 => ?_) (consL rfl (fun K9 hK9 => ?_) AllReadyH.nil))
              · go_simp
                refine hK9.out _ _ hS (fun _ => ?_)
                clear hK9 K9
                try simp only [Act.put, List.setIfInBounds_toArray, List.set_cons_zero, List.set_cons_succ]
                refine wpAnyH_ready (rs := [15]) (by kernel_rfl) (by simp) (consL rfl (fun K9 hK9 => ?_) AllReadyH.nil)
                go_simp
                refine hK9.out _ _ ⟨cell_alloc_keep s0, cell_alloc_keep s1, cell_alloc_keep s2, cell_alloc_keep s3⟩ (fun hS => ?_)
                clear hK9 K9
                try simp only [Act.put, List.setIfInBounds_toArray, List.set_cons_zero, List.set_cons_succ]
                refine wpAnyH_ready (rs := [16]) (by kernel_rfl) (by simp) (consL rfl (fun K9 hK9 => ?_) AllReadyH.nil)
                refine step_appL tCell cell_l _ rfl _ _ rfl w.heap.size v8 (l ++ cs) rfl iO7 (some ⟨W8.heap.size, 0, none⟩) [⟨a1, a2, a3, a4⟩] 1 1 rfl rfl hM7 (fun e => by cases e) hlcs (by simp) B7.size ?_
                intro v9 w9 hO9 hg9 hB9 _
                obtain ⟨a9, n9, c9, rfl⟩ : ∃ (a9 : Option Addr) (n9 c9 : Nat), v9 = .slice a9 n9 c9 := (by obtain ⟨a9, c9, e, _⟩ := hO9.rows cell_l; exact ⟨a9, _, c9, e⟩)
                obtain ⟨m5, u0, u1, u2, u3, hfin⟩ := FIN.out _ w9 hO9 hg9 hB9
                have e5 := m5.cell 2
                have e6 := m5.free 2
                simp at e5
                refine hK9.out _ _ ⟨u0, u1, u2, u3⟩ (fun hS => ?_)
                clear hK9 K9
                try simp only [Act.put, List.setIfInBounds_toArray, List.set_cons_zero, List.set_cons_succ]
                refine takeL (i := 17) (v := .pointer (some ⟨b7, 2, none⟩)) rfl (by kernel_rfl) (by kernel_rfl) (by kernel_rfl) (fun _ _ _ h => h.elim) (Or.inl ⟨by rfl, fun V9 h9 => by dsimp only at h9; go_simp⟩) (by assumption) ?_
                try simp only [Act.put, List.setIfInBounds_toArray, List.set_cons_zero, List.set_cons_succ]
                refine wpAnyH_ready (rs := [18]) (by kernel_rfl) (by simp) (consL rfl (fun K9 hK9 => ?_) AllReadyH.nil)
                go_simp
                refine hK9.out _ _ ⟨cell_off hadb u0, cell_off hadb u1, cell_off hadb u2, cell_off hadb u3⟩ (fun _ => wpAnyH_done (by kernel_rfl) ?_ _)
                clear hK9 K9
                try simp only [Act.put, List.setIfInBounds_toArray, List.set_cons_zero, List.set_cons_succ]
                obtain ⟨vf, hf1, hf2, hf3, hf4⟩ := hfin
                refine hK _ _ ?_
                go_wp2_with fail
                go_roundw
                case rel => exact ⟨j + 1, _, vf, by omega, by go_num, HCR2, by rw [List.length_append, hcl]; rfl, hf1, hf2, hf3, hf4⟩
                case measure => simp [intOf]; omega
              · go_simp
                refine hK9.out _ _ ⟨cell_alloc_keep s0, cell_alloc_keep s1, cell_alloc_keep s2, cell_alloc_keep s3⟩ (fun hS => ?_)
                clear hK9 K9
                try simp only [Act.put, List.setIfInBounds_toArray, List.set_cons_zero, List.set_cons_succ]
                have cl53 := cell_alloc_keep (o := .cells #[.int .i64 a1, .int .i64 a2, .int .i64 a3, .int .i64 a4] 54) (w := W8) cl52
                refine wpAnyH_ready (rs := [1]) (by kernel_rfl) (by simp) (consL rfl (fun K9 hK9 => ?_) AllReadyH.nil)
                go_simp
                refine hK9.out _ _ hS (fun _ => ?_)
                clear hK9 K9
                try simp only [Act.put, List.setIfInBounds_toArray, List.set_cons_zero, List.set_cons_succ]
                refine wpAnyH_ready (rs := [16]) (by kernel_rfl) (by simp) (consL rfl (fun K9 hK9 => ?_) AllReadyH.nil)
                refine step_appL tCell cell_l _ rfl _ _ rfl w.heap.size v8 (l ++ cs) rfl iO7 (some ⟨W8.heap.size, 0, none⟩) [⟨a1, a2, a3, a4⟩] 1 1 rfl rfl hM7 (fun e => by cases e) hlcs (by simp) B7.size ?_
                intro v9 w9 hO9 hg9 hB9 _
                obtain ⟨a9, n9, c9, rfl⟩ : ∃ (a9 : Option Addr) (n9 c9 : Nat), v9 = .slice a9 n9 c9 := (by obtain ⟨a9, c9, e, _⟩ := hO9.rows cell_l; exact ⟨a9, _, c9, e⟩)
                obtain ⟨m5, u0, u1, u2, u3, hfin⟩ := FIN.out _ w9 hO9 hg9 hB9
                have e5 := m5.cell 2
                have e6 := m5.free 2
                simp at e5
                refine hK9.out _ _ ⟨u0, u1, u2, u3⟩ (fun hS => ?_)
                clear hK9 K9
                try simp only [Act.put, List.setIfInBounds_toArray, List.set_cons_zero, List.set_cons_succ]
                refine takeL (i := 17) (v := .pointer (some ⟨b7, 2, none⟩)) rfl (by kernel_rfl) (by kernel_rfl) (by kernel_rfl) (fun _ _ _ h => h.elim) (Or.inl ⟨by rfl, fun V9 h9 => by dsimp only at h9; go_simp⟩) (by assumption) ?_
                try simp only [Act.put, List.setIfInBounds_toArray, List.set_cons_zero, List.set_cons_succ]
                refine wpAnyH_ready (rs := [18]) (by kernel_rfl) (by simp) (consL rfl (fun K9 hK9 => ?_) AllReadyH.nil)
                go_simp
                refine hK9.out _ _ ⟨cell_off hadb u0, cell_off hadb u1, cell_off hadb u2, cell_off hadb u3⟩ (fun _ => wpAnyH_done (by kernel_rfl) ?_ _)
                clear hK9 K9
                try simp only [Act.put, List.setIfInBounds_toArray, List.set_cons_zero, List.set_cons_succ]
                obtain ⟨vf, hf1, hf2, hf3, hf4⟩ := hfin
                refine hK _ _ ?_
                go_wp2_with fail
                go_roundw
                case rel => exact ⟨j + 1, _, vf, by omega, by go_num, HCR2, by rw [List.length_append, hcl]; rfl, hf1, hf2, hf3, hf4⟩
                case measure => simp [intOf]; omega
          · have hjm : j = mW := by omega
            have hjI : ¬ (j : Int) < (mW : Int) := by omega
            have hWt : W.take j = W := List.take_of_length_le (by have := HMW.out; omega)
            have hcr := HCR.out
            rw [hWt] at hcr
            have hcm : cs.length = mW := by omega
            have HT2 : Hid (rdAll st0 (L.take (nn + 1)) = .inr ⟨C, R, l ++ cs, nn + 1, un || decide ((mW : Int) ≠ C)⟩) := Lib.hid (by
              have hr : rdLine ⟨C, R, l, nn + 1, un⟩ x = some ⟨C, R, l ++ cs, nn + 1, un || decide ((mW : Int) ≠ C)⟩ := by rw [HRL.out, hcr, ← hcm]
              rw [HTK.out]; show (match rdLine ⟨C, R, l, nn + 1, un⟩ x with | none => (Sum.inl (nn + 1) : Nat ⊕ RdS) | some q => .inr q) = _; rw [hr])
            have hlen2 : (l ++ cs).length ≤ 401 * (nn + 1) := by rw [List.length_append]; omega
            have y0 := x7q.cell 0
            simp at y0
            clear hWt hcr hcm hjm hcl
            cases un with
            | true =>
              go_wp2_with fail
              go_roundw
              case rel => exact ⟨nn + 1, ⟨C, R, l ++ cs, nn + 1, true⟩, v8, by omega, by go_num, rfl, rfl, (by rw [Bool.true_or] at HT2; exact HT2), x7q, hO8, hq, hlen2⟩
              case measure => simp [intOf]; omega
            | false =>
              by_cases hC : (mW : Int) = C
              · have hCb : ((mW : Int) == C) = true := by simpa using hC
                have HT3 : Hid (rdAll st0 (L.take (nn + 1)) = .inr ⟨C, R, l ++ cs, nn + 1, false⟩) := Lib.hid (by rw [HT2.out, decide_eq_false (fun h => h hC)]; rfl)
                clear hC
                go_wp2_with fail
                go_roundw
                case rel => exact ⟨nn + 1, ⟨C, R, l ++ cs, nn + 1, false⟩, v8, by omega, by go_num, rfl, rfl, HT3, x7q, hO8, hq, hlen2⟩
                case measure => simp [intOf]; omega
              · have hCb : ((mW : Int) == C) = false := by simpa using hC
                have HT3 : Hid (rdAll st0 (L.take (nn + 1)) = .inr ⟨C, R, l ++ cs, nn + 1, true⟩) := Lib.hid (by rw [HT2.out, decide_eq_true hC]; rfl)
                clear hC
                go_wp2_with fail
                go_roundw
                case rel => exact ⟨nn + 1, ⟨C, R, l ++ cs, nn + 1, true⟩, v8, by omega, by go_num, rfl, rfl, HT3, x7q, hO8, hq, hlen2⟩
                case measure => simp [intOf]; omega
    · have hkn : nn + 1 = n := by omega
      have hkI : ¬ (nn : Int) < (n : Int) - 1 := by omega
      have hnn1 : (n : Int) - 1 = (nn : Int) := by omega
      have hkL : nn < L.length := by have := HN.out; omega
      have hkM : nn < (L.map bs).length := by rw [List.length_map]; exact hkL
      have hkI2 : (nn : Int) < (n : Int) := by omega
      have eA : AL = A' := by injection eL
      subst eA
      obtain ⟨ad0, rfl, had0, hc0⟩ := hrow.tx hkM
      rw [List.getElem_map] at hc0
      obtain ⟨x, hx⟩ : ∃ x, x = L[nn] := ⟨_, rfl⟩
      rw [← hx] at hc0
      have hdl : L.dropLast = L.take nn := by rw [List.dropLast_eq_take, ← HN.out]; congr 1; omega
      have hla : L.getLastD [] = x := by
        rw [hx, List.getLastD_eq_getLast?, List.getLast?_eq_getElem?]
        have e : L.length - 1 = nn := by have := HN.out; omega
        rw [e, List.getElem?_eq_getElem hkL]; rfl
      have HP2 := Lib.hid (show p = if x ≠ [] ∨ n = 1 then ⟨0, 0, [], n, 7⟩
          else if un = true ∨ (n : Int) - 2 ≠ R then ⟨0, 0, [], 0, 10⟩
          else if (checkSc C R l).2 ≠ 0 then ⟨0, 0, [], 0, (checkSc C R l).2⟩
          else ⟨C, R, l, 0, 0⟩ by rw [HPT.out, hdl, HRD.out, hla, ← HN.out])
      have c0 := hq.x0.cell 0
      have c1 := hq.x0.cell 1
      have c2 := hq.x0.cell 2
      have d0 := hq.x1.cell 0
      have d1 := hq.x1.cell 1
      have d2 := hq.x1.cell 2
      have f0 := hq.x0.free 0
      have f1 := hq.x0.free 1
      have f2 := hq.x0.free 2
      simp at c0 c1 c2 d0 d1 d2
      have q0 := z3set hq hgw 0 0 (.slice none 0 0)
      have D0 := q0.1.cell 0
      have D1 := q0.1.cell 1
      have D2 := q0.1.cell 2
      simp at D0 D1 D2
      have e7 := x7r.cell 1
      simp at e7
      have HLEN : Hid (l.length ≤ 200000) := Lib.hid (by have : 401 * nn ≤ 401 * 401 := Nat.mul_le_mul_left _ (by omega); omega)
      clear hdl hla hx hkL hkM hkn eL hrow had0 hlen
      by_cases hx0 : x = []
      · have hxb : (bs x).toList.isEmpty = true := by rw [Lib.toList_data, bs_data, hx0]; rfl
        by_cases hn1' : n = 1
        · have HF := Lib.hid (show p = ⟨0, 0, [], n, 7⟩ by rw [HP2.out]; exact if_pos (Or.inr hn1'))
          have hnb : ((n : Int) == 1) = true := by rw [hn1']; rfl
          clear hn1' hx0
          go_wp2_with fail
          refine bodyPost_ret (v := .tuple #[.agg #[.int .i64 0, .int .i64 0, .slice none 0 0], .int .i64 (n : Int), .int .i64 7]) (by simp [results, Tryz.results7, go_sem, D0, D1, D2]) rfl ⟨none, 0, 0, by rw [HF.out], by rw [HF.out]; rfl, by rw [HF.out]; exact RowsAt.nil _ _, fun _ => rfl, q0.2⟩
        · have HP3 := Lib.hid (show p = if un = true ∨ (n : Int) - 2 ≠ R then ⟨0, 0, [], 0, 10⟩
              else if (checkSc C R l).2 ≠ 0 then ⟨0, 0, [], 0, (checkSc C R l).2⟩
              else ⟨C, R, l, 0, 0⟩ by rw [HP2.out]; exact if_neg (by rw [not_or]; exact ⟨fun h => h hx0, hn1'⟩))
          have hnb : ((n : Int) == 1) = false := by rw [beq_eq_false_iff_ne]; omega
          clear hx0 hn1'
          cases un with
          | true =>
            have HF := Lib.hid (show p = ⟨0, 0, [], 0, 10⟩ by rw [HP3.out]; exact if_pos (Or.inl rfl))
            go_wp2_with fail
            refine bodyPost_ret (v := .tuple #[.agg #[.int .i64 0, .int .i64 0, .slice none 0 0], .int .i64 0, .int .i64 10]) (by simp [results, Tryz.results7, go_sem, D0, D1, D2]) rfl ⟨none, 0, 0, by rw [HF.out], by rw [HF.out]; rfl, by rw [HF.out]; exact RowsAt.nil _ _, fun _ => rfl, q0.2⟩
          | false =>
            by_cases h2 : (n : Int) - 2 = R
            · have h2b : ((n : Int) - 2 != R) = false := by simpa using h2
              have HP4 := Lib.hid (show p = if (checkSc C R l).2 ≠ 0 then ⟨0, 0, [], 0, (checkSc C R l).2⟩ else ⟨C, R, l, 0, 0⟩ by rw [HP3.out]; exact if_neg (by rw [not_or]; exact ⟨by simp, fun h => h h2⟩))
              clear h2
              obtain ⟨a8, c8, rfl, hrw, hlc, hcm, hn8, -⟩ := hO8.rows cell_l
              obtain ⟨m, hm⟩ : ∃ m, m = l.length := ⟨_, rfl⟩
              have e70 := x7r.cell 0
              have e72 := x7r.cell 2
              simp at e70 e72
              rw [← hm] at e72
              have hCS := refCheckScheme_any C R a8 l c8 wr hrw (by have := HLEN.out; omega)
              obtain ⟨⟨k1, k2⟩, hck⟩ : ∃ ck, ck = checkSc C R l := ⟨_, rfl⟩
              rw [← hck] at hCS
              have HP5 := Lib.hid (show p = if k2 ≠ 0 then ⟨0, 0, [], 0, k2⟩ else ⟨C, R, l, 0, 0⟩ by rw [HP4.out, ← hck])
              rw [← hm] at hCS
              have HCS := Lib.hid hCS
              have HM := Lib.hid hm
              clear hCS hck hm hrw hcm hlc
              by_cases h3 : k2 = 0
              · have HF := Lib.hid (show p = ⟨C, R, l, 0, 0⟩ by rw [HP5.out]; exact if_neg (fun h => h h3))
                subst h3
                go_wp2_with fail
                refine HCS.out.mono ?_
                rintro e w9 ⟨rfl, hb9⟩
                have hq9 := hq.below hb9
                have x79 := x7r.below hb9
                have hO9 := hO8.below hb9
                clear c0 c1 c2 d0 d1 d2 f0 f1 f2 q0 D0 D1 D2 e7 e70 e72
                have c0 := hq9.x0.cell 0
                have c1 := hq9.x0.cell 1
                have c2 := hq9.x0.cell 2
                have d0 := hq9.x1.cell 0
                have d1 := hq9.x1.cell 1
                have d2 := hq9.x1.cell 2
                have f0 := hq9.x0.free 0
                have f1 := hq9.x0.free 1
                have f2 := hq9.x0.free 2
                simp at c0 c1 c2 d0 d1 d2
                have e70 := x79.cell 0
                have e71 := x79.cell 1
                have e72 := x79.cell 2
                simp at e70 e71 e72
                rw [← HM.out] at e72
                have q0 := z3set hq9 hgw C R (.slice a8 m c8)
                have D0 := q0.1.cell 0
                have D1 := q0.1.cell 1
                have D2 := q0.1.cell 2
                simp at D0 D1 D2
                have n0 := own_ne hO9 hq9.x0 (by decide)
                have o1 := hO9.set (p := ⟨g, 0, none⟩) n0 (.int .i64 C)
                have o2 := o1.set (p := ⟨g, 1, none⟩) n0 (.int .i64 R)
                have o3 := o2.set (p := ⟨g, 2, none⟩) n0 (.slice a8 m c8)
                obtain ⟨a9, c9, e9, hrw9, -⟩ := o3.rows cell_l
                cases e9
                go_wp2_with fail
                refine bodyPost_ret (v := .tuple #[.agg #[.int .i64 C, .int .i64 R, .slice a8 m c8], .int .i64 0, .int .i64 0]) (by simp [results, Tryz.results7, go_sem, D0, D1, D2]) rfl ⟨a8, m, c8, by rw [HF.out], by rw [HF.out]; exact HM.out, by rw [HF.out]; exact hrw9, hn8, q0.2⟩
              · have HF := Lib.hid (show p = ⟨0, 0, [], 0, k2⟩ by rw [HP5.out]; exact if_pos h3)
                have hk2b : (k2 != 0) = true := by simpa using h3
                clear h3
                go_wp2_with fail
                refine HCS.out.mono ?_
                rintro e w9 ⟨rfl, hb9⟩
                have hq9 := hq.below hb9
                clear c0 c1 c2 d0 d1 d2 f0 f1 f2 q0 D0 D1 D2 e7 e70 e72
                have c0 := hq9.x0.cell 0
                have c1 := hq9.x0.cell 1
                have c2 := hq9.x0.cell 2
                have d0 := hq9.x1.cell 0
                have d1 := hq9.x1.cell 1
                have d2 := hq9.x1.cell 2
                have f0 := hq9.x0.free 0
                have f1 := hq9.x0.free 1
                have f2 := hq9.x0.free 2
                simp at c0 c1 c2 d0 d1 d2
                have q0 := z3set hq9 hgw 0 0 (.slice none 0 0)
                have D0 := q0.1.cell 0
                have D1 := q0.1.cell 1
                have D2 := q0.1.cell 2
                simp at D0 D1 D2
                go_wp2_with fail
                refine bodyPost_ret (v := .tuple #[.agg #[.int .i64 0, .int .i64 0, .slice none 0 0], .int .i64 0, .int .i64 k2]) (by simp [results, Tryz.results7, go_sem, D0, D1, D2]) rfl ⟨none, 0, 0, by rw [HF.out], by rw [HF.out]; rfl, by rw [HF.out]; exact RowsAt.nil _ _, fun _ => rfl, q0.2⟩
            · have h2b : ((n : Int) - 2 != R) = true := by simpa using h2
              have HF := Lib.hid (show p = ⟨0, 0, [], 0, 10⟩ by rw [HP3.out]; exact if_pos (Or.inr h2))
              clear h2
              go_wp2_with fail
              refine bodyPost_ret (v := .tuple #[.agg #[.int .i64 0, .int .i64 0, .slice none 0 0], .int .i64 0, .int .i64 10]) (by simp [results, Tryz.results7, go_sem, D0, D1, D2]) rfl ⟨none, 0, 0, by rw [HF.out], by rw [HF.out]; rfl, by rw [HF.out]; exact RowsAt.nil _ _, fun _ => rfl, q0.2⟩
      · have hxb : (bs x).toList.isEmpty = false := by rw [Lib.toList_data, bs_data]; cases x with
          | nil => exact absurd rfl hx0
          | cons a r => rfl
        have HF := Lib.hid (show p = ⟨0, 0, [], n, 7⟩ by rw [HP2.out]; exact if_pos (Or.inl hx0))
        clear hx0
        go_wp2_with fail
        refine bodyPost_ret (v := .tuple #[.agg #[.int .i64 0, .int .i64 0, .slice none 0 0], .int .i64 (n : Int), .int .i64 7]) (by simp [results, Tryz.results7, go_sem, D0, D1, D2]) rfl ⟨none, 0, 0, by rw [HF.out], by rw [HF.out]; rfl, by rw [HF.out]; exact RowsAt.nil _ _, fun _ => rfl, q0.2⟩
end Go.Proofs.YtnpehnfcccdcbaaGreatDoor
