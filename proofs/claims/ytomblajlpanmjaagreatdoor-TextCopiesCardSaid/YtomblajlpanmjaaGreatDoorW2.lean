/-
  Lines of type as they lie in memory; the error of a line.
-/
import Derived.Test.YtomblajlpanmjaaGreatDoorW1
namespace Go.Proofs.YtomblajlpanmjaaGreatDoor
open Go.RowKit Go.Maps Go.Shelf

/-- A line: its measure, where its sorts lie, the sorts. -/
structure LN where
  ms : Int
  a : Option Addr
  c : Nat
  l : List Int
def noLN : LN := ⟨0, none, 0, []⟩
def LineAt (w : World) (p : Addr) (x : LN) : Prop :=
  w.cell? p = some (.int .i64 x.ms) ∧ w.cell? ⟨p.block, p.off + 1, none⟩ = some (.slice x.a x.l.length x.c)
def LinesAt (w : World) (a : Option Addr) (L : List LN) : Prop :=
  ∀ k, k < L.length → ∃ ad, a = some ad ∧ ad.block < w.heap.size ∧ LineAt w (ad.add (k * 2)) (L.getD k noLN) ∧ IntsAt w (L.getD k noLN).a (L.getD k noLN).l
def OkL (L : List LN) : Prop := L.length ≤ maxLen ∧ ∀ k, k < L.length → (L.getD k noLN).l.length ≤ maxLen ∧ (L.getD k noLN).l.length ≤ (L.getD k noLN).c
theorem LinesAt.below {w w' : World} {a : Option Addr} {L : List LN} (h : LinesAt w a L) (hb : Below w.heap.size w w') : LinesAt w' a L := fun k hk => by
  obtain ⟨ad, e, hlt, hs, ht⟩ := h k hk
  exact ⟨ad, e, Nat.lt_of_lt_of_le hlt hb.size, ⟨(hb.cell (by rw [add_block]; exact hlt)).trans hs.1, (hb.cell (p := ⟨_, _, none⟩) (by show (ad.add (k * 2)).block < _; rw [add_block]; exact hlt)).trans hs.2⟩, ht.below hb⟩
theorem LinesAt.alloc {w : World} {a : Option Addr} {L : List LN} (h : LinesAt w a L) (o : Obj) : LinesAt (w.alloc o) a L := h.below ((Below.refl _ _).alloc (Nat.le_refl _) o)
theorem LinesAt.drop_ {w : World} {ad : Addr} {L : List LN} (h : LinesAt w (some ad) L) (p : Nat) : LinesAt w (some (ad.add (p * 2))) (L.drop p) := fun k hk => by
  rw [List.length_drop] at hk
  obtain ⟨ad', e, hlt, hs, ht⟩ := h (p + k) (by omega)
  cases e
  have e2 : (L.drop p).getD k noLN = L.getD (p + k) noLN := by rw [List.getD_eq_getElem?_getD, List.getD_eq_getElem?_getD, List.getElem?_drop]
  rw [e2]
  refine ⟨_, rfl, by rw [add_block]; exact hlt, ?_, ht⟩
  rw [Addr.add_add, ← Nat.add_mul]
  exact hs
theorem OkL.drop_ {L : List LN} (h : OkL L) (p : Nat) : OkL (L.drop p) := by
  refine ⟨by rw [List.length_drop]; have := h.1; omega, fun k hk => ?_⟩
  rw [List.length_drop] at hk
  have e2 : (L.drop p).getD k noLN = L.getD (p + k) noLN := by rw [List.getD_eq_getElem?_getD, List.getD_eq_getElem?_getD, List.getElem?_drop]
  rw [e2]
  exact h.2 (p + k) (by omega)
/-- Does it end with a hyphen? -/
def hyB (f : FT) (l : List Int) : Bool := decide (l.length ≠ 0) && ((f.sorts.getD (l.getD (l.length - 1) 0).toNat noTS).text.toList == [45])
def headErr (f : FT) (L : List LN) (b : Bool) : Int :=
  if 300 < (L.getD 0 noLN).l.length then 8 else if (L.getD 0 noLN).l.any (idxBad f.sorts.length) = true then 6 else if b = false then 0
  else if hyB f (L.getD 0 noLN).l = false then 3 else if L.length = 1 ∨ beginsB f (L.getD 1 noLN).l = false then 25 else 0
theorem idx_of_any {n : Nat} {l : List Int} (h : l.any (idxBad n) = false) {j : Nat} (hj : j < l.length) : ∃ x : Nat, l.getD j 0 = x ∧ x < n := by
  have h1 : idxBad n (l.getD j 0) = false := by
    cases e : idxBad n (l.getD j 0)
    · rfl
    · rw [getI hj] at e
      rw [List.any_eq_true.2 ⟨_, List.getElem_mem hj, e⟩] at h
      cases h
  unfold idxBad at h1
  have := of_decide_eq_false h1
  exact ⟨(l.getD j 0).toNat, by omega, by omega⟩

set_option maxRecDepth 100000 in
set_option maxHeartbeats 2000000 in
theorem errorOfLine_any (f : FT) (a : Option Addr) (c : Nat) (A : Option Addr) (L : List LN) (C : Nat) (b : Bool) (w : World) (hF : FAt w a f) (hX : LinesAt w A L) (hne : 0 < L.length) (hO : OkL L) :
    Calls Tryz.prog 83 #[.agg #[.string f.name, .int .i64 f.body, .slice a f.sorts.length c], .slice A L.length C, .bool b] w fun e w' => e = .returned (.int .i64 (headErr f L b)) ∧ Below w.heap.size w w' := by
  have hB0 : Below (w.heap.size + 1) (w.alloc (boxF f a c)) (w.alloc (boxF f a c)) := Below.refl _ _
  have E0 := Env.of hF hB0
  have hlow := E0.low
  obtain ⟨ad, rfl, had, ⟨_, hc1⟩, hI⟩ := (hX.below E0.low) 0 hne
  have hl := (hO.2 0 hne).1
  have hLl := hO.1
  have ha0 : ad.add (0 * 2) = ad := by simp [Addr.add]
  rw [ha0] at hc1
  obtain ⟨x0, ex0⟩ : ∃ x, x = L.getD 0 noLN := ⟨_, rfl⟩
  rw [← ex0] at hc1 hI hl
  have HD := Lib.hid (show headErr f L b = if 300 < x0.l.length then 8 else if x0.l.any (idxBad f.sorts.length) = true then 6 else if b = false then 0
    else if hyB f x0.l = false then 3 else if L.length = 1 ∨ beginsB f (L.getD 1 noLN).l = false then 25 else 0 by rw [ex0]; rfl)
  clear ex0
  unfold maxLen at hl hLl
  unfold boxF at hc1 hI had hlow E0
  have hnel : (0 : Int) < (L.length : Int) := by omega
  by_cases hlg : 300 < x0.l.length
  · have HE := Lib.hid (show headErr f L b = 8 by rw [HD.out, if_pos hlg])
    have hlg' : (300 : Int) < (x0.l.length : Int) := by omega
    clear HD
    go_enter Tryz.func83, Tryz.ntmps83
    go_wp2
    go_ret
    exact ⟨ret_int (by rw [HE.out]), hlow⟩
  · have HE := Lib.hid (show headErr f L b = if x0.l.any (idxBad f.sorts.length) = true then 6 else if b = false then 0
    else if hyB f x0.l = false then 3 else if L.length = 1 ∨ beginsB f (L.getD 1 noLN).l = false then 25 else 0 by rw [HD.out, if_neg hlg])
    have hlg' : (x0.l.length : Int) ≤ 300 := by omega
    clear HD
    generalize x0.a = xa at *
    generalize x0.c = xc at *
    generalize x0.l = l at *
    go_enter Tryz.func83, Tryz.ntmps83
    go_wp2_with fail
    go_loopw [19] (fun i wr => ∃ k : Nat, k ≤ l.length ∧ i = .int .i64 k ∧ Hid (l.any (idxBad f.sorts.length) = (l.drop k).any (idxBad f.sorts.length)) ∧ Env w f a c wr) (fun i _ => l.length - (intOf i).toNat)
    case atStart => exact ⟨0, Nat.zero_le _, rfl, Lib.hid rfl, E0⟩
    case round =>
      obtain ⟨k, hk, rfl, HS, E⟩ := hrel
      clear E0
      have q0 := E.c0; have q1 := E.c1; have q2 := E.c2
      by_cases hlt : k < l.length
      · obtain ⟨p1, rfl, hp1, hcx⟩ := ((hI.below (E.bel.mono (by simp)))).at_ hlt
        have hst := Lib.hid (bad_cons (n := f.sorts.length) hlt)
        obtain ⟨x, ex⟩ : ∃ x, x = l.getD k 0 := ⟨_, rfl⟩
        rw [← ex] at hst hcx
        clear ex
        have hkl : (k : Int) < (l.length : Int) := by omega
        go_wp2_with fail
        refine (tHasSort_any f a c x _).mono ?_
        rintro e w2 ⟨rfl, hb2⟩
        have E2 := E.step hF hb2
        clear hb2 E q0 q1 q2
        cases hxb : idxBad f.sorts.length x
        · go_wp2
          go_roundw
          case rel => exact ⟨k + 1, by omega, by go_num, Lib.hid (by rw [HS.out, hst.out, hxb]; rfl), E2⟩
          case measure => simp [intOf]; omega
        · have hlow := E2.low
          go_wp2
          go_ret
          exact ⟨ret_int (by rw [HE.out, HS.out, hst.out, hxb]; rfl), hlow⟩
      · have hst := Lib.hid (bad_end (n := f.sorts.length) hlt)
        have hlow2 := E.low
        have HA := Lib.hid (HS.out.trans hst.out)
        obtain rfl : k = l.length := by omega
        cases b with
        | false =>
          go_wp2
          go_ret
          exact ⟨ret_int (by rw [HE.out, HA.out]; rfl), hlow2⟩
        | true =>
          by_cases h0 : l.length = 0
          · have HY := Lib.hid (show hyB f l = false by unfold hyB; rw [h0]; rfl)
            have hd : ((l.length : Int) == 0) = true := by rw [h0]; rfl
            go_wp2_with fail
            go_quiet (fail)
            go_wp2
            go_ret
            exact ⟨ret_int (by rw [HE.out, HA.out, HY.out]; rfl), below_drewN hlow2 _⟩
          · have hd : ((l.length : Int) == 0) = false := by rw [beq_eq_false_iff_ne]; omega
            obtain ⟨x, hx, hxn⟩ := idx_of_any HA.out (j := l.length - 1) (by omega)
            obtain ⟨p1, rfl, hp1, hcx⟩ := ((hI.below (E.bel.mono (by simp)))).at_ (k := l.length - 1) (by omega)
            rw [hx] at hcx
            obtain ⟨pf, rfl, hpf, hsf⟩ := E.fa.at_.at_ hxn
            have hct := hsf.2.1
            have HYE := Lib.hid (show hyB f l = ((f.sorts.getD x noTS).text.toList == [45]) by unfold hyB; rw [hx, decide_eq_true h0]; rfl)
            generalize (f.sorts.getD x noTS).text = t at hct HYE
            have hsub : IntKind.i64.wrap ((l.length : Int) - 1) = ((l.length - 1 : Nat) : Int) := by rw [IntKind.wrap_i64] <;> omega
            cases hq : (t.toList == [45])
            · have HY := Lib.hid (HYE.out.trans hq)
              go_wp2_with fail
              go_quiet (fail)
              go_wp2
              go_ret
              exact ⟨ret_int (by rw [HE.out, HA.out, HY.out]; rfl), below_drewN hlow2 _⟩
            · have HY := Lib.hid (HYE.out.trans hq)
              by_cases h1 : L.length = 1
              · have hd1 : ((L.length : Int) == 1) = true := by rw [h1]; rfl
                have HE1 := Lib.hid (show headErr f L true = 25 by rw [HE.out, HA.out, HY.out]; show (if L.length = 1 ∨ _ then (25 : Int) else 0) = 25; rw [if_pos (Or.inl h1)])
                clear h1
                go_wp2_with fail
                go_quiet (fail)
                go_wp2_with fail
                go_quiet (fail)
                go_wp2
                go_ret
                exact ⟨ret_int HE1.out.symm, below_drewN (below_drewN hlow2 _) _⟩
              · have hd1 : ((L.length : Int) == 1) = false := by rw [beq_eq_false_iff_ne]; omega
                have hn1 : (1 : Int) < (L.length : Int) := by omega
                obtain ⟨ad', e2, had1, ⟨_, hcy⟩, hJ⟩ := (hX.below E.low) 1 (by omega)
                cases e2
                obtain ⟨y, ey⟩ : ∃ y, y = L.getD 1 noLN := ⟨_, rfl⟩
                rw [← ey] at hcy hJ
                have HE1 := Lib.hid (show headErr f L true = if beginsB f y.l = false then 25 else 0 by
                  rw [HE.out, HA.out, HY.out, ← ey]
                  show (if L.length = 1 ∨ beginsB f y.l = false then (25 : Int) else 0) = _
                  by_cases hy : beginsB f y.l = false
                  · rw [if_pos (Or.inr hy), if_pos hy]
                  · rw [if_neg (fun h => h.elim h1 hy), if_neg hy])
                clear ey h1
                go_wp2_with fail
                go_quiet (fail)
                rename_i nq
                have Eq := E.drewN hF nq
                have hcq : wr.cell? ⟨ad.block, ad.off + 2 + 1, none⟩ = some (.slice y.a y.l.length y.c) := by have h := hcy; simpa [Addr.add] using h
                go_wp2_with fail
                go_region_held3 (fun w' => w'.cell? ⟨w.heap.size, 0, none⟩ = some (.string f.name) ∧ w'.cell? ⟨w.heap.size, 1, none⟩ = some (.int .i64 f.body) ∧ w'.cell? ⟨w.heap.size, 2, none⟩ = some (.slice (some pf) f.sorts.length c) ∧ w'.cell? ⟨ad.block, ad.off + 2 + 1, none⟩ = some (.slice y.a y.l.length y.c)) (go_keep)
                  (first | (go_at_call 122; refine (begins_any f (some pf) c y.a y.l y.c _ (by exact (Eq.drew hF).fa) (by exact hJ)).mono ?_; rintro e w2 ⟨rfl, hb2⟩; have k0 := (hb2.cell (p := ⟨w.heap.size, 0, none⟩) Eq.lt).trans Eq.c0; have k1 := (hb2.cell (p := ⟨w.heap.size, 1, none⟩) Eq.lt).trans Eq.c1; have k2 := (hb2.cell (p := ⟨w.heap.size, 2, none⟩) Eq.lt).trans Eq.c2; have k3 := (hb2.cell (p := ⟨ad.block, ad.off + 2 + 1, none⟩) had1).trans hcq))
                have hlo5 := ((hlow2.trans ((below_drewN (Below.refl wr.heap.size wr) nq).mono hlow2.size)).drew).trans (hb2.mono (B' := w.heap.size) hlow2.size)
                clear hb2 k0 k1 k2 k3
                cases hy : beginsB f y.l
                · have HE2 := Lib.hid (show headErr f L true = 25 by rw [HE1.out, if_pos hy])
                  go_wp2
                  go_ret
                  exact ⟨ret_int HE2.out.symm, hlo5⟩
                · have HE2 := Lib.hid (show headErr f L true = 0 by rw [HE1.out, if_neg (by rw [hy]; decide)])
                  go_wp2
                  go_ret
                  exact ⟨ret_int HE2.out.symm, hlo5⟩
end Go.Proofs.YtomblajlpanmjaaGreatDoor
