/-
  Package tympanref02: Copies, of two copies that are the same.
-/
import Derived.Test.YtomblajlpanmjaaGreatDoorQIM
namespace Go.Proofs.YtomblajlpanmjaaGreatDoor
open Go.RowKit Go.Maps

theorem exists_parts {P : Nat → CP → Prop} : ∀ n, (∀ j, j < n → ∃ x, P j x) → ∃ l : List CP, l.length = n ∧ ∀ j, j < n → P j (l.getD j noCP)
  | 0, _ => ⟨[], rfl, fun _ h => absurd h (Nat.not_lt_zero _)⟩
  | n + 1, h => by
    obtain ⟨l, hl, hp⟩ := exists_parts n (fun j hj => h j (by omega))
    obtain ⟨x, hx⟩ := h n (by omega)
    refine ⟨l ++ [x], by rw [List.length_append, hl]; rfl, fun j hj => ?_⟩
    by_cases e : j = n
    · subst e
      rw [← hl, getD_new, hl]; exact hx
    · rw [getD_old (by omega)]; exact hp j (by omega)
theorem pown_parts {w : World} {B n : Nat} {v : Value} {l : List CP} {u : Value} (h : POwn w B v n l u) (hn : l.length = n) : ∃ A c l', v = .slice A n c ∧ PartsAt w A l' ∧ l'.length = n ∧ ∀ k, k < n → (l'.getD k noCP).kd = (l.getD k noCP).kd ∧ (l'.getD k noCP).l = (l.getD k noCP).l := by
  obtain ⟨xs, ho, hx⟩ := h
  obtain ⟨l', hl', hp⟩ := exists_parts (P := fun j x => xs[j * 2]? = some (.int .i64 x.kd) ∧ xs[j * 2 + 1]? = some (.slice x.a x.l.length x.c) ∧ x.kd = (l.getD j noCP).kd ∧ x.l = (l.getD j noCP).l ∧ TextsAt w x.a x.l) n (fun j hj => by
    obtain ⟨v2, h1, h2, h3, -⟩ := hx j hj
    rcases h3.2 with ⟨e1, e2⟩ | ⟨g, cap, cur, e1, e2⟩
    · have h0 : (l.getD j noCP).l = [] := List.length_eq_zero_iff.1 e2
      refine ⟨⟨(l.getD j noCP).kd, none, 0, []⟩, h1, ?_, rfl, h0.symm, fun k hk => absurd hk (Nat.not_lt_zero _)⟩
      rw [h2, e1]; rfl
    · rw [e1] at h3 h2
      exact ⟨⟨(l.getD j noCP).kd, some ⟨g, 0, none⟩, cap, (l.getD j noCP).l⟩, h1, h2, rfl, rfl, texts_of_row h3⟩)
  rcases ho.2 with ⟨e1, e2⟩ | ⟨g, cap, cur, e1, e2⟩
  · subst e2
    exact ⟨none, 0, l', e1, fun k hk => absurd hk (by omega), by omega, fun j hj => absurd hj (by omega)⟩
  · subst e1
    refine ⟨some ⟨g, 0, none⟩, cap, l', rfl, fun k hk => ?_, by omega, fun j hj => ⟨(hp j (by omega)).2.2.1, (hp j (by omega)).2.2.2.1⟩⟩
    obtain ⟨q1, q2, q3, q4, q5⟩ := hp k (by omega)
    refine ⟨_, rfl, (ho.lt g rfl).2, ⟨ho.cells (g := g) rfl (k * 2) _ q1, ?_⟩, q5⟩
    have := ho.cells (g := g) rfl (k * 2 + 1) _ q2
    have hA : (⟨g, 0, none⟩ : Addr).add (k * 2 + 1) = ⟨((⟨g, 0, none⟩ : Addr).add (k * 2)).block, ((⟨g, 0, none⟩ : Addr).add (k * 2)).off + 1, none⟩ := by
      unfold Addr.add
      rw [if_neg (by omega)]
      by_cases h0 : k * 2 = 0
      · rw [if_pos h0, h0]
      · rw [if_neg h0]; show (⟨g, 0 + (k * 2 + 1), none⟩ : Addr) = ⟨g, 0 + k * 2 + 1, none⟩; rw [Nat.add_assoc]
    rw [← hA]
    exact this
set_option maxRecDepth 100000 in
set_option maxHeartbeats 400000 in
/-- The same copy. -/
theorem copies_same (A B : Option Addr) (l1 l2 : List CP) (n c d : Nat) (w : World) (hA : PartsAt w A l1) (hB : PartsAt w B l2) (h1 : l1.length = n) (h2 : l2.length = n) (hn : n ≤ 1000) (hs : ∀ k, k < n → (l1.getD k noCP).kd = (l2.getD k noCP).kd ∧ (l1.getD k noCP).l = (l2.getD k noCP).l) (hw : ∀ k, k < n → (l1.getD k noCP).l.length ≤ maxLen) :
    Calls Tryz.prog 25 #[.slice A n c, .slice B n d] w fun e w' => e = .returned (.bool true) ∧ Drew w w' := by
  have HA := Lib.hid hA
  have HB := Lib.hid hB
  have H1 := Lib.hid h1
  have H2 := Lib.hid h2
  have HS := Lib.hid hs
  have hne : ((n : Int) != (n : Int)) = false := by simp
  clear hA hB h1 h2 hs
  go_enter Tryz.func25, Tryz.ntmps25
  go_wp2_with fail
  go_loopw [5] (fun v5 wr => ∃ k : Nat, k ≤ n ∧ v5 = .int .i64 k ∧ Drew w wr) (fun v5 _ => n - (intOf v5).toNat)
  case atStart => exact ⟨0, Nat.zero_le _, rfl, Drew.refl _⟩
  case round =>
    obtain ⟨k, hk, rfl, hD⟩ := hrel
    by_cases hlt : k < n
    · have hkl : (k : Int) < (n : Int) := by omega
      have hk0 : (0 : Int) ≤ (k : Int) := by omega
      obtain ⟨ad, rfl, hal, ⟨hx1, hx2⟩, hi⟩ := HA.out k (by rw [H1.out]; exact hlt)
      obtain ⟨bd, rfl, hbl, ⟨hy1, hy2⟩, hj⟩ := HB.out k (by rw [H2.out]; exact hlt)
      obtain ⟨e1, e2⟩ := HS.out k hlt
      have hl := hw k hlt
      have x1 := hD.cell hx1
      have x2 := hD.cell hx2
      have y1 := hD.cell hy1
      have y2 := hD.cell hy2
      obtain ⟨p, hp⟩ : ∃ p, p = l1.getD k noCP := ⟨_, rfl⟩
      obtain ⟨q, hq⟩ : ∃ q, q = l2.getD k noCP := ⟨_, rfl⟩
      rw [← hp] at x1 x2 hi hl e1 e2
      rw [← hq] at y1 y2 hj e1 e2
      obtain ⟨pk, pa, pc, pl⟩ := p
      obtain ⟨qk, qa, qc, ql⟩ := q
      obtain rfl : pk = qk := e1
      obtain rfl : pl = ql := e2
      simp only at x1 x2 y1 y2 hi hj hl
      have hkk : (pk != pk) = false := by simp
      have HT : Hid (∀ m, Calls Tryz.prog 39 #[.slice pa pl.length pc, .slice qa pl.length qc] (wr.drewN m) fun e w'' => e = .returned (.bool true) ∧ ∃ m', w'' = wr.drewN m') := Lib.hid (fun m => (texts_any pa pl pc qa pl qc _ ((hD.drewN m).texts hi) ((hD.drewN m).texts hj) hl hl).mono (fun e w' ⟨⟨b, h1, h3⟩, r, h2⟩ => ⟨by rw [h1, h3.2 rfl], m + r, by rw [h2, World.drewN_drewN]⟩))
      clear hp hq hi hj hl hw hx1 hx2 hy1 hy2
      go_wp2_with fail
      go_quiet ((go_at_call 39; with_reducible exact HT.out _))
      go_wp2
      go_roundw
      case rel => exact ⟨k + 1, by omega, by go_num, hD.drewN _⟩
      case measure => simp [intOf]; omega
    · obtain rfl : k = n := by omega
      have hkl : ¬ (k : Int) < (k : Int) := by omega
      go_wp2
      go_ret
      exact ⟨rfl, hD⟩
end Go.Proofs.YtomblajlpanmjaaGreatDoor
