/-
  Opening the arguments of package text's laws: a number, the parts of a copy.
-/
import Derived.Test.YtlkkociijfdcgaaGreatDoorJ3
import Derived.Test.YtlkkociijfdcgaaGreatDoorPC
namespace Go.Proofs.YtlkkociijfdcgaaGreatDoor
open Go.ChangeShapes Go.WideShapes Go.Deep Go.Joins Go.RowKit
set_option maxRecDepth 100000
section
variable {H : Type} {enc : TypeId × Value → H} {w : World}
theorem cellsPart : Tryz.prog.cellsOf 123 = 2 := by kernel_rfl
theorem open_part {n : Nat} {ad : Addr} {cs' : List Value} {x : DataW H × List MemPlace} (hc : w.cells? 0 ad 2 = some cs') (h : DataW.trod enc Tryz.prog w 0 (fun _ => true) true n 123 cs' = some x) :
    ∃ y : CP, PartAt w ad y ∧ TextsAt w y.a y.l ∧ (y.l.length ≤ maxLen ∧ SizesOk y.l) ∧ (y.a = none → y.c = 0) := by
  obtain ⟨xs, m, _, _, _, hlen, hfs⟩ := DataW.trod_struct Tryz.underlying123 h
  match xs, hlen with
  | [y0, y1], _ =>
    have h0 := hfs 0 _ rfl
    have h1 := hfs 1 _ rfl
    obtain ⟨_, hlen2, hat⟩ := World.cells?_some hc
    have k0 := hat 0 (by omega)
    have k1 := hat 1 (by omega)
    match cs', hlen2 with
    | [v0, v1], _ =>
      simp [cellsInt, cellsTexts] at h0 h1 k0 k1
      obtain ⟨i0, e0, _, _⟩ := DataW.trod_int Tryz.underlying3 h0
      obtain ⟨t1, e1, a1, n1⟩ := open_texts h1
      simp only [List.cons.injEq, and_true] at e0 e1
      subst e0 e1
      refine ⟨⟨i0, t1.a, t1.c, t1.l⟩, ⟨k0, ?_⟩, a1.1, ⟨a1.2.1, a1.2.2⟩, n1⟩
      rw [add_one (by omega)] at k1
      exact k1
theorem open_parts {r : Reach} {b0 : Nat} {v : Value} {d : DataW H} {p : List MemPlace} (hv : Value.okWide Tryz.prog w r b0 42 v) (h : DataW.Trod enc Tryz.prog w 0 (fun _ => true) true 42 v d p) :
    ∃ (a : Option Addr) (c : Nat) (l : List CP), v = .slice a l.length c ∧ l.length ≤ c ∧ PartsAt w a l ∧ OkP l ∧ capP l := by
  obtain ⟨a0, l0, c0, rfl⟩ := okWide_slice Tryz.underlying42 hv
  obtain ⟨n, hf⟩ := h
  have hf' : DataW.trod enc Tryz.prog w 0 (fun _ => true) true n 42 [.slice a0 l0 c0] = some (d, p) := by simpa [Value.cells] using hf
  rcases open_slice Tryz.underlying42 hf' with ⟨e, _⟩ | ⟨a, len, cap, m, k, D, Pl, e, _, hl, hm, hmm, _, hi⟩
  · simp only [List.cons.injEq, and_true] at e
    exact ⟨none, 0, [], e, Nat.le_refl _, fun k hk => absurd hk (Nat.not_lt_zero _), ⟨Nat.zero_le _, fun k hk => absurd hk (Nat.not_lt_zero _)⟩, fun k hk => absurd hk (Nat.not_lt_zero _)⟩
  · simp only [List.cons.injEq, and_true] at e
    have hmc : m = cap := by simpa using hmm
    subst hmc
    have hex : ∀ i, i < m → ∃ y : CP, PartAt w (a.add (i * 2)) y ∧ TextsAt w y.a y.l ∧ (y.l.length ≤ maxLen ∧ SizesOk y.l) ∧ (y.a = none → y.c = 0) := fun i him => by
      obtain ⟨cs', hc', ht'⟩ := hi i him
      rw [cellsPart] at hc'
      exact open_part hc' ht'
    haveI : Inhabited CP := ⟨noCP⟩
    obtain ⟨X, hX⟩ := choose_lt hex
    have hlen : ((List.range len).map X).length = len := by simp
    refine ⟨some a, m, (List.range len).map X, by rw [hlen]; exact e, by rw [hlen]; exact hl, fun k hk => ?_, ⟨by rw [hlen]; omega, fun k hk => ?_⟩, fun k hk => ?_⟩
    · have hk' : k < len := by rw [← hlen]; exact hk
      rw [range_getD len X noCP hk']
      obtain ⟨h1, h2, _⟩ := hX k (by omega)
      exact ⟨a, rfl, by have := cell_lt h1.1; rwa [add_block] at this, h1, h2⟩
    · have hk' : k < len := by rw [← hlen]; exact hk
      rw [range_getD len X noCP hk']
      exact (hX k (by omega)).2.2.1
    · have hk' : k < len := by rw [← hlen]; exact hk
      rw [range_getD len X noCP hk']
      exact (hX k (by omega)).2.2.2
end
end Go.Proofs.YtlkkociijfdcgaaGreatDoor
