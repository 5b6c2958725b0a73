/-
  Package press: jobs and slices as arguments of its laws, opened.
-/
import Derived.Test.YtpplcbpnojggcaaEL
import Derived.Test.YtpplcbpnojggcaaEP
import Derived.Test.YtpplcbpnojggcaaBA
import Derived.Test.YtpplcbpnojggcaaGE
import Derived.Test.YtpplcbpnojggcaaAV
import Derived.Test.YtpplcbpnojggcaaAA
import Derived.Test.YtpplcbpnojggcaaBC

namespace Go.Proofs.Ytpplcbpnojggcaa
open Go.ChangeShapes Go.WideShapes Go.Deep Go.Joins Go.RowKit

theorem cellsJob : Try.prog.cellsOf 136 = 4 := by kernel_rfl
theorem cellsSl : Try.prog.cellsOf 113 = 3 := by kernel_rfl
theorem cellsStrJ : Try.prog.cellsOf 9 = 1 := by kernel_rfl
set_option maxRecDepth 100000
section
variable {H : Type} {enc : TypeId × Value → H} {w : World}
theorem open_job1 {n : Nat} {p : Addr} {cs : List Value} {x : DataW H × List MemPlace} (hc : w.cells? 0 p 4 = some cs) (h : DataW.trod enc Try.prog w 0 (fun _ => true) true n 136 cs = some x) :
    ∃ y : Job, (∀ j, j < 4 → w.cell? (fld p j) = some ((jobV y).getD j (.int .i64 0))) ∧ y.name.size ≤ maxLen := by
  obtain ⟨_, hl, hat⟩ := World.cells?_some hc
  obtain ⟨y0, y1, y2, y3, m, _, _, h0, h1, h2, h3⟩ := trod_struct4 Try.underlying136 h
  match cs, hl with
  | [c0, c1, c2, c3], _ =>
    have h0 : DataW.trod enc Try.prog w 0 (fun _ => true) true m 9 [c0] = some y0 := by simpa [cellsStrJ] using h0
    obtain ⟨s0, e0, _, z0⟩ := DataW.trod_string Try.underlying9 h0
    simp only [List.cons.injEq, and_true] at e0
    subst e0
    obtain ⟨x1, rfl, w1⟩ := int_read (n := m) (c := c1) (y := y1) (by simpa [cellsInt] using h1)
    obtain ⟨x2, rfl, w2⟩ := int_read (n := m) (c := c2) (y := y2) (by simpa [cellsInt] using h2)
    obtain ⟨x3, rfl, w3⟩ := int_read (n := m) (c := c3) (y := y3) (by simpa [cellsInt] using h3)
    refine ⟨⟨s0, x1, x2, x3⟩, fun j hj => ?_, z0⟩
    have := hat j hj
    rw [fld_add] at this
    rw [this]
    have hj4 : j = 0 ∨ j = 1 ∨ j = 2 ∨ j = 3 := by omega
    rcases hj4 with rfl | rfl | rfl | rfl <;> rfl
theorem open_jobs {n : Nat} {v : Value} {x : DataW H × List MemPlace} (h : DataW.trod enc Try.prog w 0 (fun _ => true) true n 103 [v] = some x) :
    ∃ (a : Option Addr) (c : Nat) (l : List Job), v = .slice a l.length c ∧ l.length ≤ c ∧ c ≤ maxLen ∧ RowsG 4 jobV w a l ∧ (a = none → c = 0) ∧ ∀ y ∈ l, y.name.size ≤ maxLen := by
  rcases open_slice Try.underlying103 h with ⟨e, _⟩ | ⟨a, len, cap, m, k, D, Pl, e, _, hl, hm, hmm, _, hi⟩
  · simp only [List.cons.injEq, and_true] at e
    exact ⟨none, 0, [], e, Nat.le_refl _, Nat.zero_le _, (fun k hk => absurd hk (Nat.not_lt_zero _)), fun _ => rfl, fun y hy => by cases hy⟩
  · simp only [List.cons.injEq, and_true] at e
    have hmc : m = cap := by simpa using hmm
    subst hmc
    have hex : ∀ i, i < m → ∃ y : Job, (∀ j, j < 4 → w.cell? (fld (a.add (i * 4)) j) = some ((jobV y).getD j (.int .i64 0))) ∧ y.name.size ≤ maxLen := fun i him => by
      obtain ⟨cs', hc', ht'⟩ := hi i him
      rw [cellsJob] at hc'
      exact open_job1 hc' ht'
    haveI : Inhabited Job := ⟨⟨⟨#[]⟩, 0, 0, 0⟩⟩
    obtain ⟨X, hX⟩ := choose_lt hex
    refine ⟨some a, m, (List.range len).map X, by simpa using e, by simpa using hl, hm, fun k hk => ?_, fun e => (by cases e), fun y hy => ?_⟩
    · have hk' : k < len := by simpa using hk
      rw [range_get len X hk]
      have h1 := (hX k (by omega)).1
      exact ⟨a, rfl, by have := cell_lt (h1 0 (by decide)); rwa [fld_block, add_block] at this, h1⟩
    · obtain ⟨i, hi', rfl⟩ := List.mem_map.1 hy
      exact (hX i (by have := List.mem_range.1 hi'; omega)).2
theorem open_sl1 {n : Nat} {p : Addr} {cs : List Value} {x : DataW H × List MemPlace} (hc : w.cells? 0 p 3 = some cs) (h : DataW.trod enc Try.prog w 0 (fun _ => true) true n 113 cs = some x) :
    ∃ y : Sl, ∀ j, j < 3 → w.cell? (fld p j) = some (.int .i64 (y.l.getD j 0)) := by
  obtain ⟨_, hl, hat⟩ := World.cells?_some hc
  obtain ⟨y0, y1, y2, m, _, _, h0, h1, h2⟩ := trod_struct3 Try.underlying113 h
  match cs, hl with
  | [c0, c1, c2], _ =>
    obtain ⟨x0, rfl, w0⟩ := int_read (n := m) (c := c0) (y := y0) (by simpa [cellsInt] using h0)
    obtain ⟨x1, rfl, w1⟩ := int_read (n := m) (c := c1) (y := y1) (by simpa [cellsInt] using h1)
    obtain ⟨x2, rfl, w2⟩ := int_read (n := m) (c := c2) (y := y2) (by simpa [cellsInt] using h2)
    refine ⟨⟨x0, x1, x2⟩, fun j hj => ?_⟩
    have := hat j hj
    rw [fld_add] at this
    rw [this]
    have hj4 : j = 0 ∨ j = 1 ∨ j = 2 := by omega
    rcases hj4 with rfl | rfl | rfl <;> rfl
theorem open_slices {n : Nat} {v : Value} {x : DataW H × List MemPlace} (h : DataW.trod enc Try.prog w 0 (fun _ => true) true n 105 [v] = some x) :
    ∃ (a : Option Addr) (c : Nat) (l : List Sl), v = .slice a l.length c ∧ l.length ≤ c ∧ c ≤ maxLen ∧ RowsAt 3 Sl.l w a l ∧ (a = none → c = 0) ∧ True := by
  rcases open_slice Try.underlying105 h with ⟨e, _⟩ | ⟨a, len, cap, m, k, D, Pl, e, _, hl, hm, hmm, _, hi⟩
  · simp only [List.cons.injEq, and_true] at e
    exact ⟨none, 0, [], e, Nat.le_refl _, Nat.zero_le _, RowsAt.nil _ _, fun _ => rfl, trivial⟩
  · simp only [List.cons.injEq, and_true] at e
    have hmc : m = cap := by simpa using hmm
    subst hmc
    have hex : ∀ i, i < m → ∃ y : Sl, ∀ j, j < 3 → w.cell? (fld (a.add (i * 3)) j) = some (.int .i64 (y.l.getD j 0)) := fun i him => by
      obtain ⟨cs', hc', ht'⟩ := hi i him
      rw [cellsSl] at hc'
      exact open_sl1 hc' ht'
    haveI : Inhabited Sl := ⟨noSl⟩
    obtain ⟨X, hX⟩ := choose_lt hex
    refine ⟨some a, m, (List.range len).map X, by simpa using e, by simpa using hl, hm, fun k hk => ?_, fun e => (by cases e), trivial⟩
    have hk' : k < len := by simpa using hk
    rw [range_get len X hk]
    have h1 := hX k (by omega)
    exact ⟨a, rfl, by have := cell_lt (h1 0 (by decide)); rwa [fld_block, add_block] at this, h1⟩
end
end Go.Proofs.Ytpplcbpnojggcaa

namespace Go.Proofs.Ytpplcbpnojggcaa
open Go.RowKit

theorem ends_back {L : List Job} : ∀ {T : List Sl}, SR L T → ∀ {x : Sl} {e : Int}, slErr L e x = 0 → e = endR T → ∀ z ∈ T, slE z < slE x
  | [], _, _, _, _, _, z, hz => by cases hz
  | y :: T, ⟨h1, h2⟩, x, e, hx, he, z, hz => by
    have h3 := sl_right hx
    have h4 := sl_right h1
    have h5 : e = slE y := he
    unfold slE at h5 ⊢
    rcases List.mem_cons.1 hz with rfl | hz
    · omega
    · have h6 := ends_back h2 h1 rfl z hz
      unfold slE at h6
      omega
/-- What is of a set in slices. -/
def wJ (J : List Int) (s : Sl) : Int := if s.job ∈ J then s.mins else 0
theorem wJ_nonneg {L : List Job} {J : List Int} : ∀ {T : List Sl}, SR L T → 0 ≤ (T.map (wJ J)).sum
  | [], _ => Int.le_refl _
  | z :: T, ⟨h1, h2⟩ => by
    have h3 := sl_right h1
    have h4 := wJ_nonneg (J := J) h2
    rw [List.map_cons, List.sum_cons]
    have : 0 ≤ wJ J z := by unfold wJ; split <;> omega
    omega
theorem fold_stays {L : List Job} {due t : Int} {A : List Int} : ∀ {T : List Sl}, (∀ z ∈ T, ¬ (slE z = t ∧ (L.getD z.job.toNat noJob).due ≤ due)) → T.foldl (cauP L due) (A, t) = (A, t)
  | [], _ => rfl
  | z :: T, h => by
    have h1 : cauP L due (A, t) z = (A, t) := by
      unfold cauP
      exact if_neg (h z List.mem_cons_self)
    rw [List.foldl_cons, h1]
    exact fold_stays (fun y hy => h y (List.mem_cons_of_mem _ hy))
/-- A chain of slices, one behind the other, back to where it begins. -/
theorem chain {L : List Job} {due : Int} : ∀ (T : List Sl) (A : List Int) (t : Int) (P : Nat → Prop), SR L T → RR L P T → endR T ≤ t → ((T = [] ∨ endR T < t) → ∀ k, P k → t ≤ rdyN L k) →
    (∀ y ∈ A, P y.toNat ∧ dueN L y.toNat ≤ due) →
    ∃ (A' : List Int) (t' : Int), T.foldl (cauP L due) (A, t) = (A', t') ∧ (∀ y ∈ A, y ∈ A') ∧ (∀ y ∈ A', (y ∈ A ∨ (0 ≤ y ∧ y < L.length)) ∧ dueN L y.toNat ≤ due ∧ t' ≤ rdyN L y.toNat) ∧
      ∀ J : List Int, (∀ y ∈ A', y ∈ J) → t - t' ≤ (T.map (wJ J)).sum
  | [], A, t, P, _, _, _, hg, hA => ⟨A, t, rfl, fun y hy => hy, fun y hy => ⟨Or.inl hy, (hA y hy).2, hg (Or.inl rfl) _ (hA y hy).1⟩, fun J _ => by simp⟩
  | z :: T, A, t, P, ⟨s1, s2⟩, ⟨r1, r2, r3⟩, he, hg, hA => by
    have hz := sl_right s1
    have he : slE z ≤ t := he
    by_cases hm : slE z = t ∧ (L.getD z.job.toNat noJob).due ≤ due
    · have hst : cauP L due (A, t) z = (A ++ [z.job], z.from_) := by unfold cauP; exact if_pos hm
      rw [List.foldl_cons, hst]
      obtain ⟨A', t', h1, h2, h3, h4⟩ := chain T (A ++ [z.job]) z.from_ _ s2 r3 hz.2.2.2.2 r2 (fun y hy => by
        rcases List.mem_append.1 hy with h | h
        · exact ⟨Or.inl (hA y h).1, (hA y h).2⟩
        · rw [List.mem_singleton.1 h]; exact ⟨Or.inr rfl, hm.2⟩)
      refine ⟨A', t', h1, fun y hy => h2 y (List.mem_append.2 (Or.inl hy)), fun y hy => ?_, fun J hJ => ?_⟩
      · obtain ⟨h5, h6⟩ := h3 y hy
        refine ⟨?_, h6⟩
        rcases h5 with h5 | h5
        · rcases List.mem_append.1 h5 with h5 | h5
          · exact Or.inl h5
          · rw [List.mem_singleton.1 h5]; exact Or.inr hz.1
        · exact Or.inr h5
      · have h5 := h4 J hJ
        rw [List.map_cons, List.sum_cons]
        have h6 : wJ J z = z.mins := by unfold wJ; exact if_pos (hJ _ (h2 _ (List.mem_append.2 (Or.inr (List.mem_singleton.2 rfl)))))
        have h7 := hm.1
        unfold slE at h7
        omega
    · have hfs : (z :: T).foldl (cauP L due) (A, t) = (A, t) := by
        refine fold_stays (fun y hy => ?_)
        rcases List.mem_cons.1 hy with rfl | hy
        · exact hm
        · have := ends_back s2 s1 rfl y hy
          rintro ⟨h, -⟩; omega
      refine ⟨A, t, hfs, fun y hy => hy, fun y hy => ⟨Or.inl hy, (hA y hy).2, ?_⟩, fun J _ => by have := wJ_nonneg (L := L) (J := J) (T := z :: T) ⟨s1, s2⟩; omega⟩
      rcases Int.lt_or_le (slE z) t with h | h
      · exact hg (Or.inr h) _ (hA y hy).1
      · have hd : due < (L.getD z.job.toNat noJob).due := by
          rcases Int.lt_or_le due (L.getD z.job.toNat noJob).due with h9 | h9
          · exact h9
          · exact absurd ⟨by omega, h9⟩ hm
        rcases Int.lt_or_le (rdyN L y.toNat) (slE z) with h2 | h2
        · have h3 := r1 _ (hA y hy).1 h2
          have h4 := (hA y hy).2
          unfold dueN at h3 h4
          omega
        · omega
theorem chain0 {L : List Job} {due fr : Int} : ∀ (T : List Sl) (P : Nat → Prop), SR L T → RR L P T → (∃ z ∈ T, slE z = fr ∧ dueN L z.job.toNat = due) →
    ∃ (A' : List Int) (t' : Int), T.foldl (cauP L due) ([], fr) = (A', t') ∧ A' ≠ [] ∧ (∀ y ∈ A', (0 ≤ y ∧ y < L.length) ∧ dueN L y.toNat ≤ due ∧ t' ≤ rdyN L y.toNat) ∧
      ∀ J : List Int, (∀ y ∈ A', y ∈ J) → fr - t' ≤ (T.map (wJ J)).sum
  | [], _, _, _, ⟨z, hz, _⟩ => by cases hz
  | x :: T, P, ⟨s1, s2⟩, ⟨r1, r2, r3⟩, ⟨z, hz, hze, hzd⟩ => by
    have hx := sl_right s1
    rcases List.mem_cons.1 hz with rfl | hzT
    · have hst : cauP L due ([], fr) z = ([] ++ [z.job], z.from_) := by unfold cauP; exact if_pos ⟨hze, by unfold dueN at hzd; omega⟩
      rw [List.foldl_cons, hst]
      obtain ⟨A', t', h1, h2, h3, h4⟩ := chain (due := due) T ([] ++ [z.job]) z.from_ _ s2 r3 hx.2.2.2.2 r2 (fun y hy => by
        rw [List.mem_singleton.1 hy]; exact ⟨Or.inr rfl, by omega⟩)
      refine ⟨A', t', h1, fun e => ?_, fun y hy => ?_, fun J hJ => ?_⟩
      · have := h2 z.job (List.mem_singleton.2 rfl)
        rw [e] at this; cases this
      · obtain ⟨h5, h6⟩ := h3 y hy
        refine ⟨?_, h6⟩
        rcases h5 with h5 | h5
        · rw [List.mem_singleton.1 h5]; exact hx.1
        · exact h5
      · have h5 := h4 J hJ
        rw [List.map_cons, List.sum_cons]
        have h6 : wJ J z = z.mins := by unfold wJ; exact if_pos (hJ _ (h2 _ (List.mem_singleton.2 rfl)))
        unfold slE at hze
        omega
    · have hlt := ends_back s2 s1 rfl z hzT
      have hst : cauP L due ([], fr) x = ([], fr) := by unfold cauP; exact if_neg (fun h => by have h9 := h.1; unfold slE at hlt hze; dsimp only at h9; omega)
      rw [List.foldl_cons, hst]
      obtain ⟨A', t', h1, h2, h3, h4⟩ := chain0 (due := due) (fr := fr) T _ s2 r3 ⟨z, hzT, hze, hzd⟩
      refine ⟨A', t', h1, h2, h3, fun J hJ => ?_⟩
      have h5 := h4 J hJ
      rw [List.map_cons, List.sum_cons]
      have : 0 ≤ wJ J x := by unfold wJ; split <;> omega
      omega
theorem backs_rev (S : List Sl) : ∀ k, k ≤ S.length → (backs S.length k).map (fun x => S.getD x.1 noSl) = (S.drop (S.length - k)).reverse
  | 0, _ => by simp [backs]
  | k + 1, hk => by
    have h : S.length - (k + 1) < S.length := by omega
    unfold backs
    rw [dif_pos h, List.map_append, backs_rev S k (by omega), List.drop_eq_getElem_cons h, List.reverse_cons, show S.length - (k + 1) + 1 = S.length - k by omega]
    simp only [List.map_cons, List.map_nil]
    rw [sl_getD h]
theorem cauF_rev (L : List Job) (S : List Sl) (due fr : Int) : cauF L S due fr (backs S.length S.length) = S.reverse.foldl (cauP L due) ([], fr) := by
  have h := backs_rev S S.length (Nat.le_refl _)
  rw [Nat.sub_self, List.drop_zero] at h
  unfold cauF
  rw [← h, List.foldl_map]
theorem end_none {j : Nat} : ∀ (S : List Sl) (E : List Int), (∀ s ∈ S, s.job.toNat ≠ j) → (S.foldl endP E).getD j 0 = E.getD j 0 ∧ (S.foldl doneP E).getD j 0 = E.getD j 0
  | [], _, _ => ⟨rfl, rfl⟩
  | s :: S, E, h => by
    have h1 := h s List.mem_cons_self
    have hs : ∀ v, (E.set s.job.toNat v).getD j 0 = E.getD j 0 := fun v => by
      rw [List.getD_eq_getElem?_getD, List.getElem?_set, if_neg h1, ← List.getD_eq_getElem?_getD]
    have h2 := end_none S (endP E s) (fun y hy => h y (List.mem_cons_of_mem _ hy))
    have h3 := end_none S (doneP E s) (fun y hy => h y (List.mem_cons_of_mem _ hy))
    exact ⟨by rw [List.foldl_cons, h2.1]; exact hs _, by rw [List.foldl_cons, h3.2]; exact hs _⟩
theorem end_some {n j : Nat} : ∀ (S : List Sl) (E : List Int), E.length = n → (∀ s ∈ S, 0 ≤ s.job ∧ s.job < n) → (∃ s ∈ S, s.job.toNat = j) → ∃ s ∈ S, s.job.toNat = j ∧ (S.foldl endP E).getD j 0 = slE s
  | [], _, _, _, ⟨s, hs, _⟩ => by cases hs
  | x :: S, E, hE, hj, ⟨s, hs, e⟩ => by
    by_cases h : ∃ s ∈ S, s.job.toNat = j
    · obtain ⟨z, hz, h1, h2⟩ := end_some S (endP E x) (by unfold endP; rw [List.length_set, hE]) (fun s hs => hj s (List.mem_cons_of_mem _ hs)) h
      exact ⟨z, List.mem_cons_of_mem _ hz, h1, h2⟩
    · have hx : s = x := by
        rcases List.mem_cons.1 hs with h2 | h2
        · exact h2
        · exact absurd ⟨s, h2, e⟩ h
      subst hx
      have h2 := (end_none (j := j) S (endP E s) (fun y hy e2 => h ⟨y, hy, e2⟩)).1
      have h3 := hj s List.mem_cons_self
      refine ⟨s, List.mem_cons_self, e, ?_⟩
      rw [List.foldl_cons, h2]
      unfold endP
      rw [set_getD (by omega), if_pos e]; rfl
/-- The compact form of a list in order. -/
theorem compact_sorted {zs : List Int} (h : zs.Pairwise (· ≤ ·)) : (Lib.compact zs).Pairwise (· < ·) ∧ ∀ y, y ∈ Lib.compact zs ↔ y ∈ zs := by
  have hle : ∀ i j (hi : i < zs.length) (hj : j < zs.length), i ≤ j → zs[i] ≤ zs[j] := fun i j hi hj hij => by
    rcases Nat.lt_or_ge i j with h1 | h1
    · exact List.pairwise_iff_getElem.1 h i j hi hj h1
    · obtain rfl : i = j := by omega
      exact Int.le_refl _
  have hat : ∀ j, (hj : j < zs.length) → zs.toArray[j]! = zs[j] := fun j hj => by simp [hj]
  constructor
  · unfold Lib.compact Lib.compactUpTo
    rw [List.pairwise_map]
    have h1 : ((List.range zs.length).filter (Lib.keeps zs.toArray)).Pairwise (· < ·) := List.Pairwise.filter _ List.pairwise_lt_range
    refine List.Pairwise.imp_of_mem (fun {i j} hi hj hij => ?_) h1
    have hj2 := List.mem_filter.1 hj
    have hi2 := List.mem_filter.1 hi
    have hjl := List.mem_range.1 hj2.1
    have hil := List.mem_range.1 hi2.1
    have hk := hj2.2
    unfold Lib.keeps at hk
    rw [decide_eq_true_eq] at hk
    rcases hk with hk | hk
    · omega
    · rw [hat j hjl, hat (j - 1) (by omega)] at hk
      rw [hat i hil, hat j hjl]
      have h2 := hle i (j - 1) hil (by omega) (by omega)
      have h3 := hle (j - 1) j (by omega) hjl (by omega)
      omega
  · intro y
    unfold Lib.compact Lib.compactUpTo
    rw [List.mem_map]
    constructor
    · rintro ⟨j, hj, rfl⟩
      have hjl := List.mem_range.1 (List.mem_filter.1 hj).1
      rw [hat j hjl]; exact List.getElem_mem hjl
    · intro hy
      obtain ⟨i, hi, e⟩ := List.getElem_of_mem hy
      have hex : ∃ m, ∃ hm : m < zs.length, zs[m] = y ∧ ∀ q, q < m → ∀ hq : q < zs.length, zs[q] ≠ y := by
        have : ∀ n (hn : n < zs.length), zs[n] = y → ∃ m, ∃ hm : m < zs.length, zs[m] = y ∧ ∀ q, q < m → ∀ hq : q < zs.length, zs[q] ≠ y := by
          intro n
          induction n using Nat.strongRecOn with
          | ind n ih =>
            intro hn he
            by_cases hc : ∃ q, q < n ∧ ∃ hq : q < zs.length, zs[q] = y
            · obtain ⟨q, h1, h2, h3⟩ := hc
              exact ih q h1 h2 h3
            · exact ⟨n, hn, he, fun q hq hq2 e2 => hc ⟨q, hq, hq2, e2⟩⟩
        exact this i hi e
      obtain ⟨m, hm, h1, h2⟩ := hex
      refine ⟨m, List.mem_filter.2 ⟨List.mem_range.2 hm, ?_⟩, by rw [hat m hm, h1]⟩
      unfold Lib.keeps
      rw [decide_eq_true_eq]
      rcases Nat.eq_zero_or_pos m with h0 | h0
      · exact Or.inl h0
      · right
        rw [hat m hm, hat (m - 1) (by omega), h1]
        exact fun e2 => h2 (m - 1) (by omega) (by omega) e2.symm
theorem bdF_of {n : Nat} : ∀ {J : List Int} {p : Int}, J.Pairwise (· < ·) → (∀ y ∈ J, p < y ∧ 0 ≤ y ∧ y < n) → bdF n p J = 0
  | [], _, _, _ => rfl
  | y :: J, p, h, hr => by
    have h1 := hr y List.mem_cons_self
    obtain ⟨h2, h3⟩ := List.pairwise_cons.1 h
    unfold bdF
    rw [if_neg (by rw [inB_yes (by omega)]; decide), if_neg (by omega)]
    exact bdF_of h3 (fun z hz => ⟨h2 z hz, (hr z (List.mem_cons_of_mem _ hz)).2⟩)
theorem totJ_fold {L : List Job} {J : List Int} (hnd : J.Nodup) (hJ : ∀ y ∈ J, 0 ≤ y) : ∀ (S : List Sl) (e : Int) (D : List Int), schE L e S = 0 → D.length = L.length → totJ J (S.foldl doneP D) = totJ J D + (S.map (wJ J)).sum
  | [], _, _, _, _ => by simp
  | s :: S, e, D, h0, hD => by
    unfold schE at h0
    split at h0
    · exact absurd h0 ‹_›
    rename_i h1
    obtain ⟨⟨q1, q2⟩, -⟩ := sl_right (by simpa using h1 : slErr L e s = 0)
    have hii : ((s.job.toNat : Nat) : Int) = s.job := by omega
    rw [List.foldl_cons, totJ_fold hnd hJ S _ (doneP D s) h0 (by unfold doneP; rw [List.length_set, hD])]
    unfold doneP
    rw [totJ_set (by omega) hnd hJ, hii, List.map_cons, List.sum_cons]
    unfold wJ
    by_cases hm : s.job ∈ J
    · rw [if_pos hm, if_pos hm]; omega
    · rw [if_neg hm, if_neg hm]; omega
theorem min_ge {α : Type} (f : α → Int) (b : Int) : ∀ (J : List α) (a : Int), b ≤ a → (∀ y ∈ J, b ≤ f y) → b ≤ J.foldl (fun a y => min a (f y)) a
  | [], _, h, _ => h
  | x :: J, a, h, hf => by
    rw [List.foldl_cons]
    have := hf x List.mem_cons_self
    exact min_ge f b J _ (by omega) (fun y hy => hf y (List.mem_cons_of_mem _ hy))
theorem max_le {α : Type} (f : α → Int) (b : Int) : ∀ (J : List α) (a : Int), a ≤ b → (∀ y ∈ J, f y ≤ b) → J.foldl (fun a y => max a (f y)) a ≤ b
  | [], _, h, _ => h
  | x :: J, a, h, hf => by
    rw [List.foldl_cons]
    have := hf x List.mem_cons_self
    exact max_le f b J _ (by omega) (fun y hy => hf y (List.mem_cons_of_mem _ hy))
/-- The causes are a right set, and their bound is the lateness. -/
theorem causes_right {L : List Job} (h1 : 1 ≤ L.length) (hl : L.length ≤ 20) (hok : JobsOk L) : cbErr L.length (causI L) = 0 ∧ bdI L (causI L) = latI L (schedI L) ∧ (causI L).length ≤ 1000000 := by
  obtain ⟨hcs, hsr, hrr⟩ := sched_right h1 hl hok
  obtain ⟨hS100, hsch, hdone⟩ := cs_right hcs
  obtain ⟨k, hk1, hk2, hk3⟩ := idxFrom_mem (latI L (schedI L)) (lateL L (schedI L)) 0 (maxOf_mem (by rw [lateL_len]; omega))
  rw [lateL_len] at hk1
  have hkJ : latJ L (schedI L) = (k : Int) := by unfold latJ Lib.idxOf; rw [hk2]; congr 1; omega
  have hk3 : (lateL L (schedI L)).getD k 0 = latI L (schedI L) := hk3
  obtain ⟨S, hS⟩ : ∃ S, S = schedI L := ⟨_, rfl⟩
  have hcI : causI L = causesI L S (dueN L k) (latI L S) := by unfold causI; rw [hkJ, hS]; rfl
  rw [hcI, ← hS]
  rw [← hS] at hcs hsr hrr hS100 hsch hdone hk3
  obtain ⟨fr, hfr⟩ : ∃ fr, fr = dueN L k + latI L S := ⟨_, rfl⟩
  have hle := late_eq hok hcs k hk1
  have hex : ∃ s ∈ S, s.job.toNat = k := by
    refine Classical.byContradiction (fun hno => ?_)
    have h9 := (end_none (j := k) S (List.replicate L.length 0) (fun s hs e => hno ⟨s, hs, e⟩)).2
    have h10 := hdone k hk1
    unfold doneL at h10
    rw [h9, List.getD_eq_getElem?_getD, List.getElem?_replicate, if_pos hk1, job_getD hk1] at h10
    have := (hok _ (List.getElem_mem hk1)).2.2.1
    simp at h10; omega
  obtain ⟨z, hz, hzj, hze⟩ := end_some (n := L.length) (j := k) S (List.replicate L.length 0) (by simp) (fun s hs => (sch_right hsch s hs).1) hex
  have hzf : slE z = fr := by
    unfold endL at hle
    rw [hze] at hle
    unfold dueN at hfr
    omega
  obtain ⟨A, t, h2, h3, h4, h5⟩ := chain0 (due := dueN L k) (fr := fr) S.reverse (fun _ => False) hsr hrr ⟨z, List.mem_reverse.2 hz, hzf, by rw [hzj]⟩
  have hcL : causeL L S (dueN L k) (latI L S) = A := by
    unfold causeL
    rw [cauF_rev, ← hfr, h2]
  obtain ⟨B, hB⟩ : ∃ B, B = A.mergeSort fun x y => decide (x ≤ y) := ⟨_, rfl⟩
  have hJ : causesI L S (dueN L k) (latI L S) = Lib.compact B := by unfold causesI; rw [hcL, hB]
  have hBs : B.Pairwise (· ≤ ·) := by
    have := List.pairwise_mergeSort (le := fun x y : Int => decide (x ≤ y)) (fun a b c h1 h2 => by simp at h1 h2 ⊢; omega) (fun a b => by simp; omega) A
    rw [← hB] at this
    exact this.imp (fun h => by simpa using h)
  have hBm : ∀ y, y ∈ B ↔ y ∈ A := fun y => by rw [hB]; exact List.mem_mergeSort
  obtain ⟨c1, c2⟩ := compact_sorted hBs
  rw [hJ]
  obtain ⟨J, hJe⟩ : ∃ J, J = Lib.compact B := ⟨_, rfl⟩
  rw [← hJe] at c1 c2 ⊢
  have hJA : ∀ y, y ∈ J ↔ y ∈ A := fun y => (c2 y).trans (hBm y)
  have hJr : ∀ y ∈ J, 0 ≤ y ∧ y < L.length := fun y hy => (h4 y ((hJA y).1 hy)).1
  have hJne : J.length ≠ 0 := fun e => h3 (by
    rcases A with _ | ⟨a, A⟩
    · rfl
    · have := (hJA a).2 List.mem_cons_self
      rw [List.eq_nil_of_length_eq_zero e] at this; cases this)
  have hcb : cbErr L.length J = 0 := by
    unfold cbErr
    rw [if_neg hJne]
    exact bdF_of c1 (fun y hy => by have := hJr y hy; omega)
  have hnd : J.Nodup := c1.imp (fun h e => by omega)
  have hlen : J.length ≤ 1000000 := by
    have h9 : ∀ (n : Nat) (J : List Int) (p : Int), J.Pairwise (· < ·) → (∀ y ∈ J, p < y ∧ y < n) → (J.length : Int) ≤ n - p - 1 ∨ J = [] := by
      intro n J
      induction J with
      | nil => intro p _ _; exact Or.inr rfl
      | cons y J ih =>
        intro p hp hr
        obtain ⟨q1, q2⟩ := List.pairwise_cons.1 hp
        have q3 := hr y List.mem_cons_self
        rcases ih y q2 (fun z hz => ⟨q1 z hz, (hr z (List.mem_cons_of_mem _ hz)).2⟩) with h | h
        · left; rw [List.length_cons]; omega
        · left; subst h; simp; omega
    rcases h9 L.length J (-1) c1 (fun y hy => by have := hJr y hy; omega) with h | h
    · omega
    · rw [h]; decide
  refine ⟨hcb, Int.le_antisymm (bound_le hok hcs hcb) ?_, hlen⟩
  have hsum := h5 J (fun y hy => (hJA y).2 hy)
  rw [show (S.reverse.map (wJ J)).sum = (S.map (wJ J)).sum by rw [List.map_reverse, List.sum_reverse]] at hsum
  have htot := totJ_fold hnd (fun y hy => (hJr y hy).1) S 0 (List.replicate L.length 0) hsch (by simp)
  have ht0 : totJ J (List.replicate L.length 0) = 0 := by
    unfold totJ
    have : ∀ J : List Int, (J.map fun y => (List.replicate L.length (0 : Int)).getD y.toNat 0).sum = 0 := by
      intro J
      induction J with
      | nil => rfl
      | cons y J ih =>
        rw [List.map_cons, List.sum_cons, ih, List.getD_eq_getElem?_getD, List.getElem?_replicate]
        split <;> rfl
    exact this J
  have hD : totJ J (S.foldl doneP (List.replicate L.length 0)) = (J.map fun y => (L.getD y.toNat noJob).mins).sum := by
    unfold totJ
    congr 1
    refine List.map_congr_left (fun y hy => ?_)
    exact hdone y.toNat (by have := hJr y hy; omega)
  have hsm := sum_fold (fun y : Int => (L.getD y.toNat noJob).mins) J 0
  have hrd : t ≤ rdyI L J := min_ge (fun y : Int => (L.getD y.toNat noJob).ready) t J _ (by
    rcases A with _ | ⟨a, A⟩
    · exact absurd rfl h3
    · have h9 := (h4 a List.mem_cons_self)
      have hal : a.toNat < L.length := by omega
      have h10 := h9.2.2
      unfold rdyN at h10
      rw [job_getD hal] at h10
      have := (hok _ (List.getElem_mem hal)).1.2
      omega) (fun y hy => (h4 y ((hJA y).1 hy)).2.2)
  have hdu : duI L J ≤ dueN L k := max_le (fun y : Int => (L.getD y.toNat noJob).due) (dueN L k) J _ (by unfold dueN; rw [job_getD hk1]; exact (hok _ (List.getElem_mem hk1)).2.1.1) (fun y hy => (h4 y ((hJA y).1 hy)).2.1)
  unfold bdI smI
  rw [hsm]
  omega
end Go.Proofs.Ytpplcbpnojggcaa

namespace Go.Proofs.Ytpplcbpnojggcaa
open Go.RowKit Go.Maps Go.Shelf

theorem run_eq_sl (d : Nat) (a b c : Int) (w : World) : (Op.equalIn (d + 2) 113 (.agg #[.int .i64 a, .int .i64 b, .int .i64 c]) (.agg #[.int .i64 a, .int .i64 b, .int .i64 c])).run Try.prog w = .ok true w := by
  have hi := fun (x y : Int) (W : World) => run_equalIn_int (P := Try.prog) W d 3 .i64 .i64 x y Try.underlying3
  have h := run_equalIn_agg (P := Try.prog) w (d + 1) 113 #[.int .i64 a, .int .i64 b, .int .i64 c] #[.int .i64 a, .int .i64 b, .int .i64 c] (by kernel_rfl) (by kernel_rfl)
  rw [h]
  have hu := Try.underlying113
  have hr := fun W : World => run_underlying (w := W) Try.underlying3
  simp only [Program.fieldsOf, hu]
  simp [Op.eqFields, part, isAgg, hr, hi, go_sem]
theorem neq_sl (a b c : Int) (w : World) : (binOp .neq 113 (.agg #[.int .i64 a, .int .i64 b, .int .i64 c]) (.agg #[.int .i64 a, .int .i64 b, .int .i64 c])).run Try.prog w = .ok (.bool false) w := by
  rw [run_neq_struct, run_eq_sl]; rfl
set_option maxRecDepth 100000 in
set_option maxHeartbeats 8000000 in
theorem schedules_walk (a : Option Addr) (L : List Job) (c : Nat) (w : World) (hR : RowsG 4 jobV w a L) (hlc : L.length ≤ c) (hcm : c ≤ maxLen) (hn : a = none → c = 0) (hsz : ∀ x ∈ L, x.name.size ≤ maxLen) :
    Calls Try.prog 12 #[.slice a L.length c] w (AggPost (.bool true) w) := by
  have hl := Nat.le_trans hlc hcm
  have HLI := Lib.hid (fun W h => light_any L a L.length c W rfl h hl hsz)
  have HCJ0 := Lib.hid (fun (h22 : L.length ≤ 22) W h => jobs_any L a L.length c W rfl h (Nat.le_trans h22 (by decide)) hn)
  have HSD := Lib.hid (fun a3 c3 W h => scheduleOf_any L a3 c3 W h hl hsz)
  have HPJ := Lib.hid (fun a3 c3 W h => checkJobs_any L a3 c3 W h hl hsz)
  have HRJ := Lib.hid (fun W h => refCheckJobs_any L a L.length c W rfl h hl hsz)
  have HPB0 := Lib.hid (fun (J : List Int) (h25 : J.length ≤ 1000000) a6 c6 a7 c7 W h h2 => checkBound_any L a6 L.length c6 J a7 J.length c7 W rfl rfl h hl hsz h2 h25)
  have HR := Lib.hid hR
  have HB0 := Lib.hid (Below.refl w.heap.size w)
  unfold maxLen at hl
  clear hR hlc hcm hn hsz
  go_enter Try.func12, Try.ntmps12
  go_wp2_with (first
    | (go_at_call 17; refine (awake_any _).mono ?_; rintro e w1 ⟨rfl, hb1⟩; have HB1 := Lib.hid (HB0.out.trans (hb1.mono HB0.out.size)); clear hb1)
    | (go_at_call 59; refine (HLI.out _ (HR.out.below HB1.out)).mono ?_; rintro e w2 ⟨⟨bb, rfl, hbb⟩, rfl⟩; cases bb))
  · go_ret
    exact ⟨rfl, HB1.out⟩
  have HL9 := Lib.hid (show L.length ≤ 22 by first | exact hbb | exact hbb rfl | simpa using hbb)
  clear hbb
  have HCJ := Lib.hid (fun W h => HCJ0.out HL9.out W h)
  by_cases h0 : jobsErr L = 0
  · obtain ⟨⟨l1, l2⟩, hok0⟩ := jobs_ok h0
    have hok : JobsOk L := hok0
    have HRF := Lib.hid (fun W h => refSchedule_any L a L.length c W rfl h l1 l2 hok)
    obtain ⟨q1, q2, q3⟩ := causes_right l1 l2 hok
    have hcs := (sched_right l1 l2 hok).1
    have hs100 := (cs_right hcs).1
    have HVS : Hid (csR L (schedI L) = (latI L (schedI L), latJ L (schedI L), 0)) := Lib.hid (by unfold csR; rw [if_pos hcs])
    have HVB : Hid (cbR L (causI L) = (latI L (schedI L), 0)) := Lib.hid (by unfold cbR; rw [if_pos q1, q2])
    have HVF : Hid (cbF L (causI L) = (latI L (schedI L), 0)) := Lib.hid (by unfold cbF; rw [if_neg (by simp [h0])]; exact HVB.out)
    have HRS := Lib.hid (fun sa sc W h h2 => refCheckSchedule_any L a L.length c (schedI L) sa (schedI L).length sc W rfl rfl h l1 l2 hok h2 (Nat.le_trans hs100 (by decide)))
    have HRB := Lib.hid (fun ja jc W h h2 => refCheckBound_any L a L.length c (causI L) ja (causI L).length jc W rfl rfl h l1 l2 hok h2 q3)
    have HCI := Lib.hid (fun ja jc W h hd => copyInts_any ja (causI L) (causI L).length jc W rfl h q3 hd)
    have HPB := Lib.hid (fun a6 c6 a7 c7 W h h2 => HPB0.out (causI L) q3 a6 c6 a7 c7 W h h2)
    have HSE : Hid (∀ a3 c3 W, RowsG 4 jobV W a3 L → Calls Try.prog 60 #[.slice a3 L.length c3] W (fun e w' => ∃ v cv, e = .returned (.tuple #[v, .int .i64 (latI L (schedI L)), cv, .int .i64 0]) ∧ OwnR 3 113 Sl.l w' W.heap.size v (schedI L) ∧ OwnR 1 3 intL w' W.heap.size cv (causI L) ∧ Below W.heap.size W w')) :=
      Lib.hid (fun a3 c3 W h => (HSD.out a3 c3 W h).mono (fun e w' hp => by rcases hp with ⟨h9, -⟩ | ⟨-, h9⟩; exact absurd h0 h9; exact h9))
    rw [h0] at HPJ HRJ
    have hsl : (schedI L).length ≤ 100 := hs100
    have hcl : (causI L).length ≤ 1000000 := q3
    obtain ⟨S, hS⟩ : ∃ S, S = schedI L := ⟨_, rfl⟩
    obtain ⟨J, hJ⟩ : ∃ J, J = causI L := ⟨_, rfl⟩
    rw [← hS] at HRF HVS HVB HVF HRS HSE hsl
    rw [← hJ] at HVB HVF HRB HCI HPB HSE hcl
    obtain ⟨li, hli⟩ : ∃ li, li = latI L S := ⟨_, rfl⟩
    obtain ⟨lj, hlj⟩ : ∃ lj, lj = latJ L S := ⟨_, rfl⟩
    rw [← hli] at HVS HVB HVF HSE
    rw [← hlj] at HVS
    clear hS hJ hli hlj h0 hok0 hok q1 q2 q3 hcs hs100 l1 l2 HSD HPB0
    refine (HCJ.out _ (HR.out.below HB1.out)).mono ?_
    rintro e w3 ⟨a3, c3, rfl, hr3, hn3, hb3⟩
    have HR3 := Lib.hid hr3
    have HB3 := Lib.hid (HB1.out.trans (hb3.mono HB1.out.size))
    clear hr3 hn3 hb3
    have hli9 : (li == li) = true := by simp
    go_wp2_with (first
      | (go_at_call 60; refine (HSE.out _ _ _ HR3.out).mono ?_; rintro e w4 ⟨v4, cv4, rfl, ho4, hc4, hb4⟩; have HB4 := Lib.hid (HB3.out.trans (hb4.mono HB3.out.size)); obtain ⟨a4, c4, e4, hr4, -, -, hn4, -⟩ := ho4.rows sl_l; subst e4; obtain ⟨a5, c5, e5, hr5, -, -, hn5, -⟩ := hc4.rows int_l; subst e5; have HS4 := Lib.hid hr4; have HJ4 := Lib.hid hr5; have HN5 := Lib.hid hn5; clear hb4 ho4 hc4 hr4 hr5 hn4 hn5)
      | (go_at_call 62; refine (HRJ.out _ (HR.out.below HB4.out)).mono ?_; rintro e w5 ⟨rfl, hb5⟩; have HB5 := Lib.hid (HB4.out.trans (hb5.mono HB4.out.size)); have HS5 := Lib.hid (HS4.out.below hb5); have HJ5 := Lib.hid (HJ4.out.below hb5); clear hb5)
      | (go_at_call 61; refine (HCJ.out _ (HR.out.below HB5.out)).mono ?_; rintro e w6 ⟨a6, c6, rfl, hr6, hn6, hb6⟩; have HR6 := Lib.hid hr6; have HB6 := Lib.hid (HB5.out.trans (hb6.mono HB5.out.size)); have HS6 := Lib.hid (HS5.out.below hb6); have HJ6 := Lib.hid (HJ5.out.below hb6); clear hr6 hn6 hb6)
      | (go_at_call 63; refine (HPJ.out _ _ _ HR6.out).mono ?_; rintro e w7 ⟨rfl, hb7⟩; have HB7 := Lib.hid (HB6.out.trans (hb7.mono HB6.out.size)); have HS7 := Lib.hid (HS6.out.below hb7); have HJ7 := Lib.hid (HJ6.out.below hb7); clear hb7)
      | (go_at_call 64; refine (HRF.out _ (HR.out.below HB7.out)).mono ?_; rintro e w8 ⟨v8, rfl, ho8, hb8⟩; have HB8 := Lib.hid (HB7.out.trans (hb8.mono HB7.out.size)); obtain ⟨a8, c8, e8, hr8, -, -, hn8, -⟩ := ho8.rows sl_l; subst e8; have HQ8 := Lib.hid hr8; have HS8 := Lib.hid (HS7.out.below hb8); have HJ8 := Lib.hid (HJ7.out.below hb8); clear hb8 ho8 hr8 hn8))
    go_loopw [9] (fun i wr => ∃ k : Nat, k ≤ S.length ∧ i = .int .i64 k ∧ Drew w8 wr) (fun i _ => S.length - (intOf i).toNat)
    case atStart => exact ⟨0, Nat.zero_le _, rfl, Drew.refl _⟩
    case round =>
      obtain ⟨k, hk, rfl, hdr⟩ := hrel
      by_cases hlt : k < S.length
      · obtain ⟨ad, rfl, had, s0, s1, s2⟩ := (hdr.rows HS8.out).sl3 hlt
        obtain ⟨ae, rfl, hae, u0, u1, u2⟩ := (hdr.rows HQ8.out).sl3 hlt
        obtain ⟨x, ex⟩ : ∃ x, x = S[k] := ⟨_, rfl⟩
        rw [← ex] at s0 s1 s2 u0 u1 u2
        obtain ⟨xj, xf, xn⟩ := x
        dsimp only at s0 s1 s2 u0 u1 u2
        have hneq := fun W => neq_sl xj xf xn W
        have hkl : (k : Int) < (S.length : Int) := by omega
        clear ex
        go_wp2_with fail
        (try go_quiet (fail))
        (try go_wp2)
        go_roundw
        case rel => exact ⟨k + 1, by omega, by go_num, by first | exact hdr | exact hdr.drewN _ | exact hdr.drew⟩
        case measure => simp [intOf]; omega
      · obtain rfl : k = S.length := by omega
        have hb9 := hdr.below HB8.out
        have HB9 := Lib.hid hb9
        have HS9 := Lib.hid (hdr.rows HS8.out)
        have HJ9 := Lib.hid (hdr.rows HJ8.out)
        clear hb9 hdr hlt hk
        go_wp2_with (first
          | (go_at_call 65; refine (HRS.out _ _ _ (HR.out.below HB9.out) HS9.out).mono ?_; rintro e w10 ⟨rfl, hb10⟩; rw [HVS.out]; have HB10 := Lib.hid (HB9.out.trans (hb10.mono HB9.out.size)); have HJ10 := Lib.hid (HJ9.out.below hb10); clear hb10)
          | (go_at_call 66; refine (HRB.out _ _ _ (HR.out.below HB10.out) HJ10.out).mono ?_; rintro e w11 ⟨rfl, hb11⟩; rw [HVB.out]; have HB11 := Lib.hid (HB10.out.trans (hb11.mono HB10.out.size)); have HJ11 := Lib.hid (HJ10.out.below hb11); clear hb11)
          | (go_at_call 61; refine (HCJ.out _ (HR.out.below HB11.out)).mono ?_; rintro e w12 ⟨a12, c12, rfl, hr12, hn12, hb12⟩; have HR12 := Lib.hid hr12; have HB12 := Lib.hid (HB11.out.trans (hb12.mono HB11.out.size)); have HJ12 := Lib.hid (HJ11.out.below hb12); clear hr12 hn12 hb12)
          | (go_at_call 47; refine (HCI.out _ _ _ HJ12.out HN5.out).mono ?_; rintro e w13 ⟨v13, rfl, hO13, hb13⟩; obtain ⟨a13, c13, e13, hr13, -⟩ := hO13.rows int_l; subst e13; have HR13 := Lib.hid (HR12.out.below hb13); have HJ13 := Lib.hid hr13; have HB13 := Lib.hid (HB12.out.trans (hb13.mono HB12.out.size)); clear hb13 hO13 hr13)
          | (go_at_call 67; refine (HPB.out _ _ _ _ _ HR13.out HJ13.out).mono ?_; rintro e w14 ⟨rfl, hb14⟩; rw [HVF.out]; have HB14 := Lib.hid (HB13.out.trans (hb14.mono HB13.out.size)); clear hb14))
        go_ret
        exact ⟨rfl, HB14.out⟩
  · have h0x : (jobsErr L != 0) = true := by simpa using h0
    have HSE : Hid (∀ a3 c3 W, RowsG 4 jobV W a3 L → Calls Try.prog 60 #[.slice a3 L.length c3] W (fun e w' => e = .returned (.tuple #[.slice none 0 0, .int .i64 0, .slice none 0 0, .int .i64 (jobsErr L)]) ∧ Below W.heap.size W w')) :=
      Lib.hid (fun a3 c3 W h => (HSD.out a3 c3 W h).mono (fun e w' hp => by rcases hp with ⟨-, h9⟩ | ⟨h9, -⟩; exact h9; exact absurd h9 h0))
    obtain ⟨je, hje⟩ : ∃ je, je = jobsErr L := ⟨_, rfl⟩
    rw [← hje] at HPJ HRJ HSE h0x
    clear hje h0 HSD HPB0
    refine (HCJ.out _ (HR.out.below HB1.out)).mono ?_
    rintro e w3 ⟨a3, c3, rfl, hr3, hn3, hb3⟩
    have HR3 := Lib.hid hr3
    have HB3 := Lib.hid (HB1.out.trans (hb3.mono HB1.out.size))
    clear hr3 hn3 hb3
    go_wp2_with (first
      | (go_at_call 60; refine (HSE.out _ _ _ HR3.out).mono ?_; rintro e w4 ⟨rfl, hb4⟩; have HB4 := Lib.hid (HB3.out.trans (hb4.mono HB3.out.size)); clear hb4)
      | (go_at_call 62; refine (HRJ.out _ (HR.out.below HB4.out)).mono ?_; rintro e w5 ⟨rfl, hb5⟩; have HB5 := Lib.hid (HB4.out.trans (hb5.mono HB4.out.size)); clear hb5)
      | (go_at_call 61; refine (HCJ.out _ (HR.out.below HB5.out)).mono ?_; rintro e w6 ⟨a6, c6, rfl, hr6, hn6, hb6⟩; have HR6 := Lib.hid hr6; have HB6 := Lib.hid (HB5.out.trans (hb6.mono HB5.out.size)); clear hr6 hn6 hb6)
      | (go_at_call 63; refine (HPJ.out _ _ _ HR6.out).mono ?_; rintro e w7 ⟨rfl, hb7⟩; have HB7 := Lib.hid (HB6.out.trans (hb7.mono HB6.out.size)); clear hb7))
    go_ret
    exact ⟨rfl, HB7.out⟩
end Go.Proofs.Ytpplcbpnojggcaa
