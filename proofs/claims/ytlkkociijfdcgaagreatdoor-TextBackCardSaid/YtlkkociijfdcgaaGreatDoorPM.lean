/-
  Opening the arguments of package text's laws: rules, two texts, a text.
-/
import Derived.Test.YtlkkociijfdcgaaGreatDoorGX
import Derived.Test.YtlkkociijfdcgaaGreatDoorPL
namespace Go.Proofs.YtlkkociijfdcgaaGreatDoor
open Go.ChangeShapes Go.WideShapes Go.Deep Go.Joins Go.RowKit
set_option maxRecDepth 100000

theorem cellsRules : Tryz.prog.cellsOf 24 = 5 := by kernel_rfl
theorem cellsTexts : Tryz.prog.cellsOf 22 = 1 := by kernel_rfl
theorem five_of {α : Type} {cs : Array α} (h : cs.size = 5) : ∃ c0 c1 c2 c3 c4, cs = #[c0, c1, c2, c3, c4] := by
  obtain ⟨l⟩ := cs
  match l, h with
  | [c0, c1, c2, c3, c4], _ => exact ⟨c0, c1, c2, c3, c4, rfl⟩
section
variable {H : Type} {enc : TypeId × Value → H} {w : World}
theorem open_texts {n : Nat} {v : Value} {x : DataW H × List MemPlace} (h : DataW.trod enc Tryz.prog w 0 (fun _ => true) true n 22 [v] = some x) :
    ∃ t : TX, v = t.val ∧ t.at_ w ∧ (t.a = none → t.c = 0) := by
  rcases open_slice1 Tryz.underlying22 cellsStr h with ⟨e, _⟩ | ⟨a, len, cap, m, k, V, D, Pl, e, _, hl, hm, hmm, _, hi⟩
  · simp only [List.cons.injEq, and_true] at e
    exact ⟨⟨none, 0, []⟩, e, ⟨fun k hk => absurd hk (Nat.not_lt_zero _), Nat.zero_le _, fun k hk => absurd hk (Nat.not_lt_zero _)⟩, fun _ => rfl⟩
  · simp only [List.cons.injEq, and_true] at e
    have hmc : m = cap := by simpa using hmm
    subst hmc
    have hlm : len ≤ m := by simpa using hl
    have hex : ∀ i, i < m → ∃ y : ByteArray, w.cell? (a.add i) = some (.string y) ∧ y.size ≤ maxLen := fun i him => by
      obtain ⟨hc', ht'⟩ := hi i him
      obtain ⟨y, ey, _, hz⟩ := DataW.trod_string Tryz.underlying9 ht'
      simp only [List.cons.injEq, and_true] at ey
      exact ⟨y, by rw [hc', ey], hz⟩
    obtain ⟨X, hX⟩ := choose_lt hex
    have hlen : ((List.range len).map X).length = len := by simp
    refine ⟨⟨some a, m, (List.range len).map X⟩, by unfold TX.val; rw [hlen]; exact e, ⟨fun k hk => ?_, ?_, fun k hk => ?_⟩, fun e => by cases e⟩
    · have hk' : k < len := by rw [← hlen]; exact hk
      rw [range_getD len X noTx hk']
      have h1 := (hX k (by omega)).1
      exact ⟨a, rfl, by have := cell_lt h1; rwa [add_block] at this, h1⟩
    · rw [hlen]; omega
    · have hk' : k < len := by rw [← hlen]; exact hk
      rw [range_getD len X noTx hk']
      exact (hX k (by omega)).2
theorem open_rules {r : Reach} {b0 : Nat} {v : Value} {d : DataW H} {p : List MemPlace} (hv : Value.okWide Tryz.prog w r b0 24 v) (h : DataW.Trod enc Tryz.prog w 0 (fun _ => true) true 24 v d p) :
    ∃ x : RU, v = .agg x.cells ∧ x.at_ w ∧ capR x := by
  obtain ⟨cs, rfl, hsz⟩ := okWide_struct Tryz.underlying24 hv
  obtain ⟨c0, c1, c2, c3, c4, rfl⟩ := five_of (hsz.trans cellsRules)
  obtain ⟨fuel, hf⟩ := h
  obtain ⟨xs, n, _, _, _, hlen, hfs⟩ := DataW.trod_struct Tryz.underlying24 hf
  match xs, hlen with
  | [y0, y1, y2, y3, y4], _ =>
    have h0 := hfs 0 _ rfl
    have h1 := hfs 1 _ rfl
    have h2 := hfs 2 _ rfl
    have h3 := hfs 3 _ rfl
    have h4 := hfs 4 _ rfl
    simp [Value.cells, cellsTexts, cellsInt] at h0 h1 h2 h3 h4
    obtain ⟨t0, e0, a0, n0⟩ := open_texts h0
    obtain ⟨t1, e1, a1, n1⟩ := open_texts h1
    obtain ⟨t2, e2, a2, n2⟩ := open_texts h2
    obtain ⟨i3, e3, _, _⟩ := DataW.trod_int Tryz.underlying3 h3
    obtain ⟨i4, e4, _, _⟩ := DataW.trod_int Tryz.underlying3 h4
    simp only [List.cons.injEq, and_true] at e3 e4
    subst e0 e1 e2 e3 e4
    exact ⟨⟨t0, t1, t2, i3, i4⟩, rfl, ⟨a0, a1, a2⟩, n0, n1, n2⟩
end
section
variable {H : Type} {enc : TypeId × Value → H} {w : World}
theorem sorts_nil {n : Nat} {v : Value} {x : DataW H × List MemPlace} (h : DataW.trod enc Tryz.prog w 0 (fun _ => true) true n 57 [v] = some x) : ∀ len cap, v = .slice none len cap → cap = 0 := by
  intro len cap hv
  rcases open_slice Tryz.underlying57 h with ⟨e, _⟩ | ⟨a, l', c', m, k, D, Pl, e, _⟩
  · simp only [List.cons.injEq, and_true] at e
    rw [hv] at e; cases e; rfl
  · simp only [List.cons.injEq, and_true] at e
    rw [hv] at e; cases e
set_option maxRecDepth 100000 in
theorem fount_nil {r : Reach} {b0 : Nat} {v : Value} {d : DataW H} {p : List MemPlace} (hv : Value.okWide Tryz.prog w r b0 59 v) (h : DataW.Trod enc Tryz.prog w 0 (fun _ => true) true 59 v d p)
    {f : FT} {a : Option Addr} {c : Nat} (e : v = .agg #[.string f.name, .int .i64 f.body, .slice a f.sorts.length c]) : a = none → c = 0 := by
  intro ha
  obtain ⟨v0, v1, v2, y0, y1, y2, n, rfl, _, _, h0, h1, h2⟩ := open_agg3 Tryz.underlying59 (by kernel_rfl) cellsFount hv h
  injection e with e
  have e2 : v2 = .slice a f.sorts.length c := by
    have := congrArg (fun x : Array Value => x[2]?) e
    simpa using this
  subst ha
  exact sorts_nil h2 _ _ e2
end
end Go.Proofs.YtlkkociijfdcgaaGreatDoor
