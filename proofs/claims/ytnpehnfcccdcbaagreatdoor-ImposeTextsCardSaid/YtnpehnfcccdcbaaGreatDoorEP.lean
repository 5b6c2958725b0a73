/-
  What is written of a right scheme reads as that scheme. No program is walked here.
-/
import Derived.Test.YtnpehnfcccdcbaaGreatDoorEZ
import Derived.Test.YtnpehnfcccdcbaaGreatDoorEV
import Derived.Test.YtnpehnfcccdcbaaGreatDoorDI
import Derived.Test.YtnpehnfcccdcbaaGreatDoorDN
import Derived.Test.YtnpehnfcccdcbaaGreatDoorYX
import Derived.Test.YtnpehnfcccdcbaaGreatDoorIZ
import Derived.Test.YtnpehnfcccdcbaaGreatDoorYD
namespace Go.Proofs.YtnpehnfcccdcbaaGreatDoor

theorem rows_all {C : Nat} (hC : 0 < C) (R : Int) : ∀ (rows : List (List Cell)) (n : Nat) (acc : List Cell), 1 ≤ n → (∀ r ∈ rows, r.length = C ∧ ∀ x ∈ r, CellSm x) → rdAll ⟨C, R, acc, n, false⟩ (rows.map rowT) = .inr ⟨C, R, acc ++ rows.flatten, n + rows.length, false⟩
  | [], n, acc, _, _ => by
    show Sum.inr (RdS.mk C R acc n false) = _
    rw [List.flatten_nil, List.append_nil]; try rfl
  | r :: rs, n, acc, hn, h => by
    obtain ⟨h1, h2⟩ := h r List.mem_cons_self
    have hne : r ≠ [] := fun e => by rw [e] at h1; simp at h1; omega
    have hr : rdLine ⟨C, R, acc, n + 1, false⟩ (rowT r) = some ⟨C, R, acc ++ r, n + 1, false⟩ := by
      unfold rdLine
      rw [if_neg (by show ¬ n + 1 = 1; omega), row_split hne, cellsR_cellsT h2]
      show some (RdS.mk C R (acc ++ r) (n + 1) (false || decide ((r.length : Int) ≠ C))) = _
      rw [h1, decide_eq_false (fun e => e rfl)]; try rfl
    show (match rdLine ⟨C, R, acc, n + 1, false⟩ (rowT r) with | none => Sum.inl (n + 1) | some s => rdAll s (rs.map rowT)) = _
    rw [hr]
    show rdAll ⟨C, R, acc ++ r, n + 1, false⟩ (rs.map rowT) = _
    rw [rows_all hC R rs (n + 1) (acc ++ r) (by omega) fun q hq => h q (List.mem_cons_of_mem _ hq), List.flatten_cons, List.length_cons, List.append_assoc, show n + 1 + rs.length = n + (rs.length + 1) by omega]
theorem print_len {Cn Rn : Nat} {l : List Cell} (h : (checkSc Cn Rn l).2 = 0) : (printT Cn Rn l).length ≤ 5000 := by
  obtain ⟨⟨hC1, hC8⟩, ⟨hR1, hR8⟩, hn, h32, -⟩ := sc_right h
  have h1 := prTo_len (C := Cn) (R := Rn) (by omega) (by omega) (sc_small h) l.length
  rw [prTo_end] at h1
  omega
theorem parse_print {Cn Rn : Nat} {l : List Cell} (h : (checkSc Cn Rn l).2 = 0) : parseT (printT Cn Rn l) = ⟨Cn, Rn, l, 0, 0⟩ := by
  obtain ⟨⟨hC1, hC8⟩, ⟨hR1, hR8⟩, hn, h32, -⟩ := sc_right h
  have hC : 0 < Cn := by omega
  have hln : l.length = Cn * Rn := by exact_mod_cast hn
  have hs := split_print hC hln
  have hlen := print_len h
  have hdl : (headT (Cn : Int) (Rn : Int) :: ((rowsT Cn Rn l).map rowT ++ [[]])).dropLast = headT (Cn : Int) (Rn : Int) :: (rowsT Cn Rn l).map rowT := by
    rw [← List.cons_append, List.dropLast_concat]
  have hla : (headT (Cn : Int) (Rn : Int) :: ((rowsT Cn Rn l).map rowT ++ [[]])).getLastD [] = [] := by
    rw [← List.cons_append, List.getLastD_concat]
  have hh : rdLine ⟨0, 0, [], 0 + 1, false⟩ (headT (Cn : Int) (Rn : Int)) = some ⟨Cn, Rn, [], 0 + 1, false⟩ := by
    unfold rdLine
    rw [if_pos rfl, head_read (by omega) (by omega)]
  have hall : rdAll st0 (headT (Cn : Int) (Rn : Int) :: (rowsT Cn Rn l).map rowT) = .inr ⟨Cn, Rn, l, 1 + Rn, false⟩ := by
    show (match rdLine ⟨0, 0, [], 0 + 1, false⟩ (headT (Cn : Int) (Rn : Int)) with | none => (Sum.inl (0 + 1) : Nat ⊕ RdS) | some s => rdAll s ((rowsT Cn Rn l).map rowT)) = _
    rw [hh]
    show rdAll ⟨Cn, Rn, [], 0 + 1, false⟩ ((rowsT Cn Rn l).map rowT) = _
    rw [rows_all hC Rn (rowsT Cn Rn l) (0 + 1) [] (by omega) (fun r hr => by
      obtain ⟨h1, h2⟩ := rowsT_each Cn Rn l hln r hr
      exact ⟨h1, fun x hx => sc_small h x (h2 x hx)⟩), rowsT_flat Cn Rn l hln, rowsT_len]
    rfl
  unfold parseT
  rw [if_neg (by omega), hs, hdl, hall]
  show (if _ ∨ _ then _ else _) = _
  have hl2 : (headT (Cn : Int) (Rn : Int) :: ((rowsT Cn Rn l).map rowT ++ [[]])).length = Rn + 2 := by
    rw [List.length_cons, List.length_append, List.length_map, rowsT_len]; try rfl
  rw [hla, hl2, if_neg (by rw [not_or]; exact ⟨fun h => h rfl, by omega⟩), if_neg (by rw [not_or]; exact ⟨by simp, fun h => h (by push_cast; omega)⟩), if_neg (fun e => e h)]
end Go.Proofs.YtnpehnfcccdcbaaGreatDoor

namespace Go.Proofs.YtnpehnfcccdcbaaGreatDoor
open Go.RowKit

theorem parseT_few {t : List UInt8} : (parseT t).l.length ≤ 100000 := by
  have key : ∀ r : Nat ⊕ RdS, (parseR r).l.length ≤ 100000 := by
    intro r
    unfold parseR
    cases r with
    | inl k => simp
    | inr st =>
      simp only
      split
      · simp
      · split
        · simp
        · rename_i h
          have h : (checkSc st.C st.R st.l).2 = 0 := Decidable.not_not.1 h
          have := (sc_right h).2.2.2.1
          simp only; omega
  by_cases h0 : t = []
  · subst h0; rw [parseT_empty]; simp
  by_cases h1 : 60000 < t.length
  · rw [parseT_large h1]; simp
  · rw [parseT_raw h0 h1]; exact key _
theorem parse_n (s : ByteArray) (w : World) (hP : WF w) (hs : s.size ≤ 5000 ∨ 60000 < s.size) (hs2 : s.size ≤ 100000) {M : RdP} (hM : parseT s.data.toList = M) :
    Calls Tryz.prog 6 #[.string s] w (ParsePost w M) := by
  subst hM; exact parse_any s w hP hs hs2
theorem parseR_n (s : ByteArray) (w : World) (hs : s.size ≤ 400 ∨ 60000 < s.size) (hs2 : s.size ≤ 100000) {M : RdP} (hM : parseT s.data.toList = M) :
    Calls Tryz.prog 7 #[.string s] w (ParsePost w M) := by
  subst hM; exact refParse_any s w hs hs2
theorem samePr_n (C R : Int) (L : List Cell) (a1 a2 : Option Addr) (n1 n2 c1 c2 : Nat) (w : World) (e1 : n1 = L.length) (e2 : n2 = L.length) (h1 : RowsAt 4 Cell.l w a1 L) (h2 : RowsAt 4 Cell.l w a2 L) (hl : L.length ≤ 1000000) :
    Calls Tryz.prog 8 #[.agg #[.int .i64 C, .int .i64 R, .slice a1 n1 c1], .agg #[.int .i64 C, .int .i64 R, .slice a2 n2 c2]] w fun e w' => e = .returned (.bool true) ∧ Below w.heap.size w w' := by
  subst e1; subst e2
  have hm : L.length ≤ maxLen := by unfold maxLen; omega
  refine (same_any ⟨C, R, L⟩ a1 c1 ⟨C, R, L⟩ a2 c2 w h1 h2 hm hm).mono fun e w' ⟨he, hb⟩ => ⟨?_, hb⟩
  rw [he]; exact ret_bool (by unfold sameS; simp)
theorem copySc_m (C R : Int) (a : Option Addr) (n : Nat) (L : List Cell) (c : Nat) (w : World) (hn : n = L.length) (hL : RowsAt 4 Cell.l w a L) (hl : L.length ≤ 1000000) (hc : a = none → c = 0) :
    Calls Tryz.prog 10 #[.agg #[.int .i64 C, .int .i64 R, .slice a n c]] w (CopySchemePost C R L w) := by
  subst hn; exact copyScheme_any C R a L c w hL hl hc
theorem refSc_m (C R : Int) (a : Option Addr) (L : List Cell) (n c : Nat) (w : World) (hn : n = L.length) (hL : RowsAt 4 Cell.l w a L) (hl : L.length ≤ 1000000) {p q : Int} (h1 : (checkSc C R L).1 = p) (h2 : (checkSc C R L).2 = q) :
    Calls Tryz.prog 11 #[.agg #[.int .i64 C, .int .i64 R, .slice a n c]] w fun e w' => e = .returned (.tuple #[.int .i64 p, .int .i64 q]) ∧ Below w.heap.size w w' := by
  rw [← h1, ← h2, hn]; exact refCheckScheme_any C R a L c w hL hl
theorem printRes_err {C R : Int} {L : List Cell} {q : Int} (h : (checkSc C R L).2 = q) : (printRes C R L).2 = q := by
  unfold printRes
  split
  · exact h
  · rename_i h2
    have h2 : (checkSc C R L).2 = 0 := Decidable.not_not.1 h2
    show (0 : Int) = q
    rw [← h, h2]
theorem print_n (C R : Int) (a : Option Addr) (L : List Cell) (n c : Nat) (w : World) (hP : WF w) (hn : n = L.length) (hL : RowsAt 4 Cell.l w a L) (hl : L.length ≤ 1000000) {q : Int} {fs : ByteArray} (h2 : (checkSc C R L).2 = q) (h1 : bs (printRes C R L).1 = fs) :
    Calls Tryz.prog 9 #[.agg #[.int .i64 C, .int .i64 R, .slice a n c]] w fun e w' => e = .returned (.tuple #[.string fs, .int .i64 q]) ∧ Below w.heap.size w w' := by
  rw [← h1, ← printRes_err h2, hn]; exact print_any C R a L c w hP hL hl
theorem right_nat {C R : Int} {L : List Cell} (h : (checkSc C R L).2 = 0) : ∃ cn rn : Nat, C = cn ∧ R = rn := by
  obtain ⟨⟨h1, h2⟩, ⟨h3, h4⟩, -⟩ := sc_right h
  exact ⟨C.toNat, R.toNat, by omega, by omega⟩
theorem printRes_right {Cn Rn : Nat} {L : List Cell} (h : (checkSc Cn Rn L).2 = 0) : (printRes Cn Rn L).1 = printT Cn Rn L := by
  unfold printRes; rw [if_neg (fun e => e h)]; try rfl
theorem printRes_bad {C R : Int} {L : List Cell} (h : (checkSc C R L).2 ≠ 0) : (printRes C R L).1 = [] := by
  unfold printRes; rw [if_pos h]
theorem printR_n (Cn Rn : Nat) (a : Option Addr) (L : List Cell) (n c : Nat) (w : World) (hn : n = L.length) (hL : RowsAt 4 Cell.l w a L) {fs : ByteArray} (h2 : (checkSc Cn Rn L).2 = 0) (h1 : bs (printRes Cn Rn L).1 = fs) :
    Calls Tryz.prog 12 #[.agg #[.int .i64 (Cn : Int), .int .i64 (Rn : Int), .slice a n c]] w fun e w' => e = .returned (.string fs) ∧ Below w.heap.size w w' := by
  rw [← h1, printRes_right h2]; exact refPrint_any Cn Rn a L n c w hL hn h2
theorem printed {Cn Rn : Nat} {L : List Cell} {fs : ByteArray} (h2 : (checkSc Cn Rn L).2 = 0) (h1 : bs (printRes Cn Rn L).1 = fs) : fs.size ≤ 5000 ∧ parseT fs.data.toList = ⟨Cn, Rn, L, 0, 0⟩ := by
  subst h1
  rw [printRes_right h2]
  exact ⟨by rw [bs_size]; exact print_len h2, by rw [show (bs (printT Cn Rn L)).data.toList = printT Cn Rn L from rfl]; exact parse_print h2⟩
set_option maxRecDepth 100000 in
set_option maxHeartbeats 8000000 in
theorem texts_walk (C R : Int) (a : Option Addr) (L : List Cell) (c : Nat) (t : ByteArray) (w : World) (hL : RowsAt 4 Cell.l w a L) (hl : L.length ≤ maxLen) (hn : a = none → c = 0) (ht : t.size ≤ maxLen) (hP : WF w) :
    Calls Tryz.prog 3 #[.agg #[.int .i64 C, .int .i64 R, .slice a L.length c], .string t] w fun e w' => e = .returned (.bool true) ∧ Below w.heap.size w w' := by
  unfold maxLen at hl ht
  obtain ⟨ln, hln⟩ : ∃ ln, ln = L.length := ⟨_, rfl⟩
  have HLN := Lib.hid hln
  rw [← hln]
  rw [← hln] at hl
  clear hln
  have bx0 := BoxAt.new w #[.int .i64 C, .int .i64 R, .slice a ln c] 24
  have hB0 := (Below.refl w.heap.size w).alloc (Nat.le_refl _) (.cells #[.int .i64 C, .int .i64 R, .slice a ln c] 24)
  go_enter Tryz.func3, Tryz.ntmps3
  go_wp2_with fail
  refine (awake_any _).mono ?_
  rintro e w1 ⟨rfl, hb1⟩
  have hB1 := hB0.trans (hb1.mono (B' := w.heap.size) (by simp))
  have bx1 := bx0.below hb1
  clear hb1 bx0 hB0
  have c0 := bx1.cell 0; have c1 := bx1.cell 1; have c2 := bx1.cell 2
  simp at c0 c1 c2
  rcases Nat.lt_or_ge 40 ln with h40 | h40
  · have hd : decide (ln ≤ 40) = false := decide_eq_false (by omega)
    have HD := Lib.hid hd
    clear hd h40
    go_wp2_with (go_at_call 5; refine (light_any _ _ _ _ _ _).mono ?_; rintro e w2 ⟨rfl, hb2⟩; rw [HD.out])
    go_ret
    exact ⟨rfl, hB1.trans (hb2.mono (B' := w.heap.size) hB1.size)⟩
  have HD : Hid (decide (ln ≤ 40) = true) := Lib.hid (decide_eq_true h40)
  have HNC := Lib.hid hn; have HW := Lib.hid hP
  have HLL : Hid (L.length ≤ 1000000) := Lib.hid (by have := HLN.out; omega)
  clear hn hP h40 hl
  by_cases hm1 : 400 < t.size ∧ t.size ≤ 60000
  · obtain ⟨hm1, hm2⟩ := hm1
    have hI1 : (400 : Int) < (t.size : Int) := by omega
    have hI2 : (t.size : Int) ≤ 60000 := by omega
    go_wp2_with (go_at_call 5; refine (light_any _ _ _ _ _ _).mono ?_; rintro e w2 ⟨rfl, hb2⟩; rw [HD.out])
    go_ret
    exact ⟨rfl, hB1.trans (hb2.mono (B' := w.heap.size) hB1.size)⟩
  by_cases hm3 : 60005 < t.size
  · have hI1 : (400 : Int) < (t.size : Int) := by omega
    have hI2 : ¬ (t.size : Int) ≤ 60000 := by omega
    have hI3 : (60005 : Int) < (t.size : Int) := by omega
    go_wp2_with (go_at_call 5; refine (light_any _ _ _ _ _ _).mono ?_; rintro e w2 ⟨rfl, hb2⟩; rw [HD.out])
    go_ret
    exact ⟨rfl, hB1.trans (hb2.mono (B' := w.heap.size) hB1.size)⟩
  have HTS : Hid ((t.size ≤ 400 ∨ 60000 < t.size) ∧ t.size ≤ 100000) := Lib.hid (by omega)
  have hI3 : ¬ (60005 : Int) < (t.size : Int) := by omega
  obtain ⟨fs, hfs⟩ : ∃ fs, bs (printRes C R L).1 = fs := ⟨_, rfl⟩
  have HFS := Lib.hid hfs
  obtain ⟨M, hM⟩ : ∃ M, parseT t.data.toList = M := ⟨_, rfl⟩
  have HM := Lib.hid hM
  have HML : Hid (M.l.length ≤ 1000000) := Lib.hid (by rw [← hM]; have := parseT_few (t := t.data.toList); omega)
  obtain ⟨p, hp⟩ : ∃ p, (checkSc C R L).1 = p := ⟨_, rfl⟩
  obtain ⟨q, hq⟩ : ∃ q, (checkSc C R L).2 = q := ⟨_, rfl⟩
  have HPP := Lib.hid hp; have HQ := Lib.hid hq
  clear hfs hM hp hq hm3
  have HC : Hid (¬ (400 : Int) < (t.size : Int) ∨ ((400 : Int) < (t.size : Int) ∧ ¬ (t.size : Int) ≤ 60000)) := Lib.hid (by omega)
  rcases HC.out with hI1 | ⟨hI1, hI2⟩
  all_goals
    clear HC hm1
    go_wp2_with (first
      | (go_at_call 5; refine (light_any _ _ _ _ _ _).mono ?_; rintro e w2 ⟨rfl, hb2⟩; rw [HD.out]; have hB2 := hB1.trans (hb2.mono (B' := w.heap.size) hB1.size); have bx2 := bx1.below hb2; clear hb2 hB1 bx1 c0 c1 c2))
    refine (parse_n t _ (HW.out.below hB2) (by have := HTS.out; omega) HTS.out.2 HM.out).mono ?_
    rintro e w4 ⟨a4, n4, c4, rfl, hn4, hr4, -, hb4⟩
    have HN4 := Lib.hid hn4
    have hB4 := hB2.trans (hb4.mono (B' := w.heap.size) hB2.size)
    have bx4 := bx2.below hb4
    clear hb4 hB2 bx2 hn4
    have by5 := BoxAt.new w4 #[.int .i64 M.C, .int .i64 M.R, .slice a4 n4 c4] 24
    have bx5 := bx4.alloc (.cells #[.int .i64 M.C, .int .i64 M.R, .slice a4 n4 c4] 24)
    have hB5 := hB4.alloc hB4.size (.cells #[.int .i64 M.C, .int .i64 M.R, .slice a4 n4 c4] 24)
    have hr5 := hr4.alloc (.cells #[.int .i64 M.C, .int .i64 M.R, .slice a4 n4 c4] 24)
    clear bx4 hB4 hr4
    go_wp2_with fail
    obtain ⟨gy, hgy⟩ : ∃ g, w4.heap.size = g := ⟨_, rfl⟩
    refine (parseR_n t _ HTS.out.1 HTS.out.2 HM.out).mono ?_
    rintro e w6 ⟨a6, n6, c6, rfl, hn6, hr6, -, hb6⟩
    have HN6 := Lib.hid hn6
    have hB6 := hB5.trans (hb6.mono (B' := w.heap.size) hB5.size)
    have bx6 := bx5.below hb6; have by6 := by5.below hb6; have hy6 := hr5.below hb6
    rw [hgy] at by6 ⊢
    clear hb6 hB5 bx5 by5 hr5 hn6 hgy
    have bz7 := BoxAt.new w6 #[.int .i64 M.C, .int .i64 M.R, .slice a6 n6 c6] 24
    have bx7 := bx6.alloc (.cells #[.int .i64 M.C, .int .i64 M.R, .slice a6 n6 c6] 24)
    have by7 := by6.alloc (.cells #[.int .i64 M.C, .int .i64 M.R, .slice a6 n6 c6] 24)
    have hB7 := hB6.alloc hB6.size (.cells #[.int .i64 M.C, .int .i64 M.R, .slice a6 n6 c6] 24)
    have hy7 := hy6.alloc (.cells #[.int .i64 M.C, .int .i64 M.R, .slice a6 n6 c6] 24)
    have hz7 := hr6.alloc (.cells #[.int .i64 M.C, .int .i64 M.R, .slice a6 n6 c6] 24)
    clear bx6 by6 hB6 hy6 hr6
    have y0 := by7.cell 0; have y1 := by7.cell 1; have y2 := by7.cell 2
    have z0 := bz7.cell 0; have z1 := bz7.cell 1; have z2 := bz7.cell 2
    simp at y0 y1 y2 z0 z1 z2
    have q1 : (M.err != M.err) = false := by simp
    have q2 : (M.line != M.line) = false := by simp
    go_wp2_with fail
    refine (samePr_n M.C M.R M.l a4 a6 n4 n6 c4 c6 _ HN4.out HN6.out hy7 hz7 HML.out).mono ?_
    rintro e w8 ⟨rfl, hb8⟩
    have hB8 := hB7.trans (hb8.mono (B' := w.heap.size) hB7.size)
    have bx8 := bx7.below hb8
    clear hb8 hB7 bx7 by7 bz7 hy7 hz7 y0 y1 y2 z0 z1 z2 q1 q2
    have c0 := bx8.cell 0; have c1 := bx8.cell 1; have c2 := bx8.cell 2
    simp at c0 c1 c2
    go_wp2_with fail
    refine (copySc_m C R a ln L c _ HLN.out (hL.below hB8) HLL.out HNC.out).mono ?_
    rintro e w9 ⟨a9, n9, c9, rfl, hn9, hr9, -, hb9⟩
    have HN9 := Lib.hid hn9
    have hB9 := hB8.trans (hb9.mono (B' := w.heap.size) hB8.size)
    have bx9 := bx8.below hb9
    clear hb9 hB8 bx8 hn9 c0 c1 c2
    go_wp2_with fail
    refine (print_n C R a9 L n9 c9 _ (HW.out.below hB9) HN9.out hr9 HLL.out HQ.out HFS.out).mono ?_
    rintro e w10 ⟨rfl, hb10⟩
    have hB10 := hB9.trans (hb10.mono (B' := w.heap.size) hB9.size)
    have bx10 := bx9.below hb10
    clear hb10 hB9 bx9 hr9
    have c0 := bx10.cell 0; have c1 := bx10.cell 1; have c2 := bx10.cell 2
    simp at c0 c1 c2
    go_wp2_with fail
    refine (refSc_m C R a L ln c _ HLN.out (hL.below hB10) HLL.out HPP.out HQ.out).mono ?_
    rintro e w11 ⟨rfl, hb11⟩
    have hB11 := hB10.trans (hb11.mono (B' := w.heap.size) hB10.size)
    have bx11 := bx10.below hb11
    clear hb11 hB10 bx10 c0 c1 c2
    by_cases hq0 : q = 0
    · subst hq0
      obtain ⟨cn, rn, e1, e2⟩ := right_nat HQ.out
      subst e1; subst e2
      obtain ⟨hf1, hf2⟩ := printed HQ.out HFS.out
      have HF1 := Lib.hid hf1; have HF2 := Lib.hid hf2
      clear hf1 hf2
      go_wp2_with fail
      refine (parse_n fs _ (HW.out.below hB11) (Or.inl HF1.out) (by have := HF1.out; omega) HF2.out).mono ?_
      rintro e w12 ⟨a12, n12, c12, rfl, hn12, hr12, -, hb12⟩
      have HN12 := Lib.hid hn12
      have hB12 := hB11.trans (hb12.mono (B' := w.heap.size) hB11.size)
      have bx12 := bx11.below hb12
      clear hb12 hB11 bx11 hn12
      have by13 := BoxAt.new w12 #[.int .i64 (cn : Int), .int .i64 (rn : Int), .slice a12 n12 c12] 24
      have bx13 := bx12.alloc (.cells #[.int .i64 (cn : Int), .int .i64 (rn : Int), .slice a12 n12 c12] 24)
      have hB13 := hB12.alloc hB12.size (.cells #[.int .i64 (cn : Int), .int .i64 (rn : Int), .slice a12 n12 c12] 24)
      have hy13 := hr12.alloc (.cells #[.int .i64 (cn : Int), .int .i64 (rn : Int), .slice a12 n12 c12] 24)
      clear bx12 hB12 hr12
      have c0 := bx13.cell 0; have c1 := bx13.cell 1; have c2 := bx13.cell 2
      simp at c0 c1 c2
      have hss : (fs.toList == fs.toList) = true := by simp
      go_wp2_with fail
      obtain ⟨gy2, hgy2⟩ : ∃ g, w12.heap.size = g := ⟨_, rfl⟩
      refine (printR_n cn rn a L ln c _ HLN.out (hL.below hB13) HQ.out HFS.out).mono ?_
      rintro e w14 ⟨rfl, hb14⟩
      have hB14 := hB13.trans (hb14.mono (B' := w.heap.size) hB13.size)
      have bx14 := bx13.below hb14; have by14 := by13.below hb14; have hy14 := hy13.below hb14
      rw [hgy2] at by14 ⊢
      clear hb14 hB13 bx13 by13 hy13 hgy2 c0 c1 c2
      have c0 := bx14.cell 0; have c1 := bx14.cell 1; have c2 := bx14.cell 2
      have y0 := by14.cell 0; have y1 := by14.cell 1; have y2 := by14.cell 2
      simp at c0 c1 c2 y0 y1 y2
      go_wp2_with fail
      refine (samePr_n (cn : Int) (rn : Int) L a12 a n12 ln c12 c _ HN12.out HLN.out hy14 (hL.below hB14) HLL.out).mono ?_
      rintro e w15 ⟨rfl, hb15⟩
      go_wp2_with fail
      go_ret
      exact ⟨rfl, hB14.trans (hb15.mono (B' := w.heap.size) hB14.size)⟩
    · have hfe : fs = ⟨#[]⟩ := by rw [← HFS.out, printRes_bad (by rw [HQ.out]; exact hq0)]; rfl
      subst hfe
      have hqb : (q != 0) = true := by simpa using hq0
      have hqq : (q == q) = true := by simp
      go_wp2_with fail
      go_ret
      exact ⟨rfl, hB11⟩
end Go.Proofs.YtnpehnfcccdcbaaGreatDoor
