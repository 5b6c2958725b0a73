/-
  What is written of a right scheme reads as that scheme. No program is walked here.
-/
import Derived.Test.YtgoandhlcekmiaaGreatDoorKV
import Derived.Test.YtgoandhlcekmiaaGreatDoorKQ
namespace Go.Proofs.YtgoandhlcekmiaaGreatDoor

theorem rows_all {C : Nat} (hC : 0 < C) (R : Int) : ∀ (rows : List (List Cell)) (n : Nat) (acc : List Cell), 1 ≤ n → (∀ r ∈ rows, r.length = C ∧ ∀ x ∈ r, CellSm x) → rdAll ⟨C, R, acc, n, false⟩ (rows.map rowT) = .inr ⟨C, R, acc ++ rows.flatten, n + rows.length, false⟩
  | [], n, acc, _, _ => by
    show Sum.inr (RdS.mk C R acc n false) = _
    rw [List.flatten_nil, List.append_nil]; rfl
  | r :: rs, n, acc, hn, h => by
    obtain ⟨h1, h2⟩ := h r List.mem_cons_self
    have hne : r ≠ [] := fun e => by rw [e] at h1; simp at h1; omega
    have hr : rdLine ⟨C, R, acc, n + 1, false⟩ (rowT r) = some ⟨C, R, acc ++ r, n + 1, false⟩ := by
      unfold rdLine
      rw [if_neg (by show ¬ n + 1 = 1; omega), row_split hne, cellsR_cellsT h2]
      show some (RdS.mk C R (acc ++ r) (n + 1) (false || decide ((r.length : Int) ≠ C))) = _
      rw [h1, decide_eq_false (fun e => e rfl)]; rfl
    show (match rdLine ⟨C, R, acc, n + 1, false⟩ (rowT r) with | none => Sum.inl (n + 1) | some s => rdAll s (rs.map rowT)) = _
    rw [hr]
    show rdAll ⟨C, R, acc ++ r, n + 1, false⟩ (rs.map rowT) = _
    rw [rows_all hC R rs (n + 1) (acc ++ r) (by omega) fun q hq => h q (List.mem_cons_of_mem _ hq), List.flatten_cons, List.length_cons, List.append_assoc, show n + 1 + rs.length = n + (rs.length + 1) by omega]
theorem print_len {Cn Rn : Nat} {l : List Cell} (h : (checkSc Cn Rn l).2 = 0) : (printT Cn Rn l).length ≤ 5000 := by
  obtain ⟨⟨hC1, hC8⟩, ⟨hR1, hR8⟩, hn, h32, -⟩ := sc_right h
  have h1 := prTo_len (C := Cn) (R := Rn) (by omega) (by omega) (sc_small h) l.length
  rw [prTo_end] at h1
  omega
theorem parse_print {Cn Rn : Nat} {l : List Cell} (h : (checkSc Cn Rn l).2 = 0) : parseT (printT Cn Rn l) = ⟨Cn, Rn, l, 0, 0⟩ := by
  obtain ⟨⟨hC1, hC8⟩, ⟨hR1, hR8⟩, hn, h32, -⟩ := sc_right h
  have hC : 0 < Cn := by omega
  have hln : l.length = Cn * Rn := by exact_mod_cast hn
  have hs := split_print hC hln
  have hlen := print_len h
  have hdl : (headT (Cn : Int) (Rn : Int) :: ((rowsT Cn Rn l).map rowT ++ [[]])).dropLast = headT (Cn : Int) (Rn : Int) :: (rowsT Cn Rn l).map rowT := by
    rw [← List.cons_append, List.dropLast_concat]
  have hla : (headT (Cn : Int) (Rn : Int) :: ((rowsT Cn Rn l).map rowT ++ [[]])).getLastD [] = [] := by
    rw [← List.cons_append, List.getLastD_concat]
  have hh : rdLine ⟨0, 0, [], 0 + 1, false⟩ (headT (Cn : Int) (Rn : Int)) = some ⟨Cn, Rn, [], 0 + 1, false⟩ := by
    unfold rdLine
    rw [if_pos rfl, head_read (by omega) (by omega)]
  have hall : rdAll st0 (headT (Cn : Int) (Rn : Int) :: (rowsT Cn Rn l).map rowT) = .inr ⟨Cn, Rn, l, 1 + Rn, false⟩ := by
    show (match rdLine ⟨0, 0, [], 0 + 1, false⟩ (headT (Cn : Int) (Rn : Int)) with | none => (Sum.inl (0 + 1) : Nat ⊕ RdS) | some s => rdAll s ((rowsT Cn Rn l).map rowT)) = _
    rw [hh]
    show rdAll ⟨Cn, Rn, [], 0 + 1, false⟩ ((rowsT Cn Rn l).map rowT) = _
    rw [rows_all hC Rn (rowsT Cn Rn l) (0 + 1) [] (by omega) (fun r hr => by
      obtain ⟨h1, h2⟩ := rowsT_each Cn Rn l hln r hr
      exact ⟨h1, fun x hx => sc_small h x (h2 x hx)⟩), rowsT_flat Cn Rn l hln, rowsT_len]
    rfl
  unfold parseT
  rw [if_neg (by omega), hs, hdl, hall]
  show (if _ ∨ _ then _ else _) = _
  have hl2 : (headT (Cn : Int) (Rn : Int) :: ((rowsT Cn Rn l).map rowT ++ [[]])).length = Rn + 2 := by
    rw [List.length_cons, List.length_append, List.length_map, rowsT_len]; rfl
  rw [hla, hl2, if_neg (by rw [not_or]; exact ⟨fun h => h rfl, by omega⟩), if_neg (by rw [not_or]; exact ⟨by simp, fun h => h (by push_cast; omega)⟩), if_neg (fun e => e h)]
end Go.Proofs.YtgoandhlcekmiaaGreatDoor
