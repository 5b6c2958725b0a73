/-
  Package tympanref06: InOrder; its search of folds.
-/
import Derived.Test.YtmolejpbpcodbaaFZ
import Derived.Test.YtmolejpbpcodbaaRH
import Derived.Test.YtmolejpbpcodbaaRG
import Derived.Test.YtmolejpbpcodbaaY4
import Derived.Test.YtmolejpbpcodbaaIW
import Derived.Test.YtmolejpbpcodbaaIZ
import Derived.Test.YtmolejpbpcodbaaIR
namespace Go.Proofs.Ytmolejpbpcodbaa
open Go.RowKit

set_option maxRecDepth 100000 in
set_option maxHeartbeats 4000000 in
theorem refInOrd_any (a : Option Addr) (M : List Page) (n c : Nat) (w : World) (hn : n = M.length) (h : RowsAt 2 Page.l w a M) (hm : M.length ≤ 100000) :
    Calls Try.prog 18 #[.slice a n c] w fun e w' => e = .returned (.bool (inOrd M)) ∧ Below w.heap.size w w' := by
  obtain ⟨b, hb⟩ : ∃ b, b = inOrd M := ⟨_, rfl⟩
  have HB := Lib.hid hb; have HN := Lib.hid hn
  have hn1 : n ≤ 100000 := by omega
  rw [← hb]
  clear hb hn hm
  go_enter Try.func18, Try.ntmps18
  go_wp2
  go_loopw [3] (fun i wr => ∃ k : Nat, k ≤ n ∧ i = .int .i64 k ∧ Below w.heap.size w wr ∧ Hid (∀ j, (hj : j < M.length) → j < k → M[j] = ⟨(j : Int) + 1, 0⟩)) (fun i _ => n - (intOf i).toNat)
  case atStart => exact ⟨0, Nat.zero_le _, rfl, Below.refl _ _, Lib.hid (fun j _ h => by omega)⟩
  case round =>
    obtain ⟨k, hk, rfl, hB, HA⟩ := hrel
    by_cases hlt : k < n
    · have hkl : (k : Int) < (n : Int) := by omega
      have hkM : k < M.length := by rw [← HN.out]; exact hlt
      obtain ⟨p1, rfl, hp1, x0, x1⟩ := (h.below hB).page hkM
      obtain ⟨y, ey⟩ : ∃ y, y = M[k] := ⟨_, rfl⟩
      rw [← ey] at x0 x1
      have EY := Lib.hid ey
      obtain ⟨yp, yt⟩ := y
      simp only at x0 x1
      clear ey
      by_cases h1 : yp = (k : Int) + 1
      · subst h1
        by_cases h2 : yt = 0
        · subst h2
          go_wp2_with fail
          go_roundw
          case rel =>
            refine ⟨k + 1, by omega, by go_num, hB, Lib.hid (fun j hj hjk => ?_)⟩
            by_cases hjk2 : j = k
            · subst hjk2; rw [← EY.out]
            · exact HA.out j hj (by omega)
          case measure => simp [intOf]; omega
        · have HF : Hid (b = false) := Lib.hid (by rw [HB.out]; exact inOrd_no hkM (by rw [← EY.out]; intro e; injection e with _ e; exact h2 e))
          have hd : (yt == 0) = false := by simpa using h2
          have hd2 : (yt != 0) = true := by simpa using h2
          go_wp2_with fail
          go_ret
          exact ⟨ret_bool HF.out.symm, hB⟩
      · have HF : Hid (b = false) := Lib.hid (by rw [HB.out]; exact inOrd_no hkM (by rw [← EY.out]; intro e; injection e with e _; exact h1 e))
        have hd : (yp == (k : Int) + 1) = false := by simpa using h1
        have hd2 : (yp != (k : Int) + 1) = true := by simpa using h1
        go_wp2_with fail
        go_ret
        exact ⟨ret_bool HF.out.symm, hB⟩
    · have hkI : ¬ (k : Int) < (n : Int) := by omega
      have HF : Hid (b = true) := Lib.hid (by
        rw [HB.out]; exact inOrd_yes fun j hj => HA.out j hj (by have := HN.out; omega))
      go_wp2
      go_ret
      exact ⟨ret_bool HF.out.symm, hB⟩

/-- Ahead of each other by kind and count. -/
def FoldLt (a b : Fold) : Prop := a.k < b.k ∨ (a.k = b.k ∧ a.c < b.c)
theorem opts_sorted (C R : Nat) : (optsF C R).Pairwise FoldLt := by
  unfold optsF
  rw [List.pairwise_flatMap]
  refine ⟨fun k _ => ?_, ?_⟩
  · rw [List.pairwise_map]
    refine List.Pairwise.imp ?_ List.pairwise_lt_range
    intro a b hab
    exact Or.inr ⟨rfl, by show (a : Int) + 1 < (b : Int) + 1; omega⟩
  · refine List.Pairwise.imp ?_ (show ([1, 2, 3, 4] : List Int).Pairwise (· < ·) by decide)
    intro p q hpq x hx y hy
    obtain ⟨i, _, rfl⟩ := List.mem_map.1 hx
    obtain ⟨j, _, rfl⟩ := List.mem_map.1 hy
    exact Or.inl hpq
theorem first_found {α β : Type} {R : α → α → Prop} {g : α → Option β} {f : α} {v : β} (hg : g f = some v) : ∀ {l : List α}, l.Pairwise R → f ∈ l → (∀ a ∈ l, R a f → g a = none) → l.findSome? g = some v
  | [], _, hf, _ => absurd hf List.not_mem_nil
  | x :: l, hp, hf, hn => by
    rw [List.findSome?_cons]
    rcases List.mem_cons.1 hf with rfl | hf
    · rw [hg]
    · rw [hn x List.mem_cons_self ((List.pairwise_cons.1 hp).1 f hf)]
      exact first_found hg (List.pairwise_cons.1 hp).2 hf (fun a ha => hn a (List.mem_cons_of_mem _ ha))
def SrchPost (w : World) (o : Option (List Fold)) (e : Ending) (w' : World) : Prop :=
  ∃ (a : Option Addr) (n c : Nat), e = .returned (.tuple #[.slice a n c, .bool o.isSome]) ∧ n = (o.getD []).length ∧ RowsAt 2 Fold.l w' a (o.getD []) ∧ (a = none → c = 0) ∧ Below w.heap.size w w'
structure SrEnv (w : World) (C R : Nat) (A : Option Addr) (hn hc : Nat) (c0 r0 : Nat) (a : Option Addr) (n c : Nat) (wr : World) : Prop where
  bs : BoxAt wr w.heap.size #[.int .i64 c0, .int .i64 r0, .slice a n c] 24
  bx : BoxAt wr (w.heap.size + 1) #[.int .i64 C, .int .i64 R, .slice A hn hc] 82
  low : Below w.heap.size w wr
theorem SrEnv.below {w : World} {C R : Nat} {A : Option Addr} {hn hc c0 r0 : Nat} {a : Option Addr} {n c : Nat} {wr w1 : World} (h : SrEnv w C R A hn hc c0 r0 a n c wr) (hb : Below wr.heap.size wr w1) : SrEnv w C R A hn hc c0 r0 a n c w1 :=
  ⟨h.bs.below hb, h.bx.below hb, h.low.trans (hb.mono h.low.size)⟩
theorem SrEnv.start (w : World) (C R : Nat) (A : Option Addr) (hn hc c0 r0 : Nat) (a : Option Addr) (n c : Nat) : SrEnv w C R A hn hc c0 r0 a n c ((w.alloc (.cells #[.int .i64 c0, .int .i64 r0, .slice a n c] 24)).alloc (.cells #[.int .i64 C, .int .i64 R, .slice A hn hc] 82)) :=
  ⟨(BoxAt.new w _ _).alloc _, box_at (by simp), ((Below.refl w.heap.size w).alloc (Nat.le_refl _) _).alloc (by simp) _⟩
set_option maxRecDepth 100000 in
set_option maxHeartbeats 8000000 in
/-- Where all lies at one place. -/
theorem search_one (c0 r0 : Nat) (a : Option Addr) (S : List Cell) (n c : Nat) (hS : ScR c0 r0 S n) (mm : Int) (C R : Nat) (L : List Fold) (A : Option Addr) (Ps : List PS) (hn hc : Nat) (w : World) (hok : NOk c0 r0 ⟨C, R, Ps.map (·.l), L⟩) (hhn : hn = Ps.length) (hH : HeapAt w A Ps) (ha : RowsAt 4 Cell.l w a S) (h1 : C * R = 1) :
    Calls Try.prog 32 #[.agg #[.int .i64 c0, .int .i64 r0, .slice a n c], .agg #[.int .i64 C, .int .i64 R, .slice A hn hc], .int .i64 mm] w (SrchPost w (if inOrd (((Ps.map (·.l)).getD 0 []).flatMap (rdP c0 S)) = true then some [] else none)) := by
  obtain ⟨w0, hw0⟩ : ∃ w0, w0 = (w.alloc (.cells #[.int .i64 c0, .int .i64 r0, .slice a n c] 24)).alloc (.cells #[.int .i64 C, .int .i64 R, .slice A hn hc] 82) := ⟨_, rfl⟩
  have E1 : SrEnv w C R A hn hc c0 r0 a n c w0 := by rw [hw0]; exact SrEnv.start ..
  have hp1 : Ps.length = 1 := by have := hok.pile.len; rw [List.length_map] at this; exact this.trans h1
  obtain ⟨y, hy⟩ := List.length_eq_one_iff.1 hp1
  subst hy
  obtain ⟨ad, rfl, had, hcell⟩ := (hH.below E1.low).1 0 (by simp)
  have hlr := (hH.below E1.low).2 y (by simp)
  have hrow := hlr.1
  rw [show ad.add 0 = ad by unfold Addr.add; rw [if_pos rfl]] at hcell
  simp only [List.getElem_cons_zero] at hcell
  unfold PS.sl at hcell
  have hn1 : hn = 1 := hhn
  subst hn1
  have hmem : y.l ∈ [y].map (·.l) := by simp
  have HIN : Hid (∀ z ∈ y.l, LeafIn c0 r0 z) := Lib.hid (fun z hz => hok.inn _ hmem z hz)
  have HLEN : Hid (0 < y.l.length ∧ y.l.length ≤ 1000) := Lib.hid ⟨hok.pile.pos _ hmem, Nat.le_trans (sumL_mem hmem) hok.pile.sum⟩
  obtain ⟨ya, yc, yl⟩ := y
  simp only at hcell hrow HIN HLEN
  rw [show (([PS.mk ya yc yl].map (·.l)).getD 0 []).flatMap (rdP c0 S) = rdTo c0 S yl yl.length by rw [rdTo_all]; try rfl]
  obtain ⟨yn, hyn⟩ : ∃ yn, yn = yl.length := ⟨_, rfl⟩
  rw [← hyn] at hcell
  have HYN := Lib.hid hyn
  obtain ⟨M, hM⟩ : ∃ M, M = rdTo c0 S yl yl.length := ⟨_, rfl⟩
  have HMD := Lib.hid hM
  have HML : Hid (M.length ≤ 100000) := Lib.hid (by rw [hM, rdTo_len (Nat.le_refl _)]; have := HLEN.out; omega)
  rw [← hM]
  obtain ⟨bo, hbo⟩ : ∃ bo, bo = inOrd M := ⟨_, rfl⟩
  have HBO := Lib.hid hbo
  rw [← hbo]
  obtain ⟨oo, hoo⟩ : ∃ oo : Option (List Fold), oo = if bo = true then some [] else none := ⟨_, rfl⟩
  have HEE : Hid (oo.isSome = bo ∧ oo.getD [] = []) := Lib.hid (by rw [hoo]; cases bo <;> exact ⟨rfl, rfl⟩)
  rw [← hoo]
  clear hoo
  have hal := ha.below E1.low
  have HS := Lib.hid hS
  have W0 := Lib.hid hw0
  clear hmem hM hyn hbo hw0 hok hhn hH ha h1 hp1 hlr hS
  have s0 := E1.bs.cell 0; have s1 := E1.bs.cell 1; have s2 := E1.bs.cell 2
  have b2 := E1.bx.cell 2
  have hsl := E1.bs.lt; have hbl := E1.bx.lt
  simp at b2 s0 s1 s2
  go_enter Try.func32, Try.ntmps32
  go_wp2_with fail
  rw [← W0.out]
  have hq := (Below.refl w0.heap.size w0).drew
  have j0 := s0; have j1 := s1; have j2 := s2; have j3 := b2; have j4 := hcell
  go_wp2_with fail
  go_region_held3 (fun w' => w'.cell? ⟨w.heap.size, 0, none⟩ = some (.int .i64 c0) ∧ w'.cell? ⟨w.heap.size, 1, none⟩ = some (.int .i64 r0) ∧ w'.cell? ⟨w.heap.size, 2, none⟩ = some (.slice a n c) ∧ w'.cell? ⟨w.heap.size + 1, 2, none⟩ = some (.slice (some ad) 1 hc) ∧ w'.cell? ad = some (.slice ya yn yc)) (first | exact ⟨j0, j1, j2, j3, j4⟩ | go_keep)
    (first
      | (go_at_call 49; refine (refReadPile_any c0 r0 a S n c ya yl yn yc _ HS.out.hC HS.out.hR HS.out.hn HS.out.hl (hal.below hq) HS.out.hb HYN.out (hrow.below hq) HIN.out HLEN.out.2).mono ?_; rintro e v ⟨ra, rn, rc, rfl, hrn, hrr, -, hbv⟩; rw [← HMD.out] at hrn hrr; have HRN := Lib.hid hrn; clear hrn; have hq := hq.trans (hbv.mono (B' := w0.heap.size) hq.size); have j0 := (hq.cell (p := ⟨w.heap.size, 0, none⟩) hsl).trans s0; have j1 := (hq.cell (p := ⟨w.heap.size, 1, none⟩) hsl).trans s1; have j2 := (hq.cell (p := ⟨w.heap.size, 2, none⟩) hsl).trans s2; have j3 := (hq.cell (p := ⟨w.heap.size + 1, 2, none⟩) hbl).trans b2; have j4 := (hq.cell (p := ad) had).trans hcell)
      | (go_at_call 18; refine (refInOrd_any ra M rn rc _ HRN.out hrr HML.out).mono ?_; rintro e v ⟨rfl, hbv⟩; rw [← HBO.out]; have hq := hq.trans (hbv.mono (B' := w0.heap.size) hq.size); have j0 := (hq.cell (p := ⟨w.heap.size, 0, none⟩) hsl).trans s0; have j1 := (hq.cell (p := ⟨w.heap.size, 1, none⟩) hsl).trans s1; have j2 := (hq.cell (p := ⟨w.heap.size, 2, none⟩) hsl).trans s2; have j3 := (hq.cell (p := ⟨w.heap.size + 1, 2, none⟩) hbl).trans b2; have j4 := (hq.cell (p := ad) had).trans hcell))
  all_goals
    have hfin := E1.low.trans (hq.mono (B' := w.heap.size) E1.low.size)
    clear j0 j1 j2 j3 j4 s0 s1 s2 b2 hcell
    go_wp2_with fail
    go_ret2
    exact ⟨none, 0, 0, by rw [HEE.out.1]; try rfl, by rw [HEE.out.2]; try rfl, by rw [HEE.out.2]; exact RowsAt.nil _ _, fun _ => rfl, hfin⟩
end Go.Proofs.Ytmolejpbpcodbaa

namespace Go.Proofs.Ytmolejpbpcodbaa
open Go.RowKit

theorem wpList_appLn {α : Type} {n by_ : Nat} {ST E : TypeId} {z : Value} {g : α → List Int} (T : ElT n by_ ST E z) (hg : ∀ x, (g x).length = n) {ops : Array Oper} {rest : List Oper} {o : Oper} {a : Act} {Q : Exit → Act → World → Prop} (w : World) (hgd : o.guard = none) (s xo : Operand)
    (ho : o.op = .call { callee := .builtin .append, args := #[s, xo], argTypes := #[ST, ST] }) (B : Nat) (v : Value) (L : List α) (hs : a.eval s = v) (hown : OwnR n E g w B v L)
    (b : Option Addr) (M : List α) (m c : Nat) (hm : m = M.length) (hx : a.eval xo = .slice b m c) (hM : RowsAt n g w b M) (hbc : b = none → c = 0) (hl : L.length ≤ 1000000) (hl2 : M.length ≤ 1000000) (hB : B ≤ w.heap.size)
    (h : ∀ v' w', OwnR n E g w' B v' (L ++ M) → w.grownBy w' v.ownBlock → Below B w w' → (v'.ownBlock = v.ownBlock ∨ v'.ownBlock = some w.heap.size) → wpList Try.prog ops Q rest (a.put o.dst v') w') :
    wpList Try.prog ops Q (o :: rest) a w := by
  subst hm; exact wpList_appL T hg w hgd s xo ho B v L hs hown b M c hx hM hbc hl hl2 hB h
theorem srch_miss {c0 : Int} {S : List Cell} {mm : Nat} {x : FN} (h1 : x.C * x.R ≠ 1) (h : ∀ f ∈ optsF x.C x.R, srch c0 S mm (kidF x f) = none) : srch c0 S (mm + 1) x = none := by
  unfold srch
  rw [if_neg h1, List.findSome?_eq_none_iff]
  intro f hf
  rw [h f hf]; try rfl
theorem srch_found {c0 : Int} {S : List Cell} {mm : Nat} {x : FN} {f : Fold} {l : List Fold} (h1 : x.C * x.R ≠ 1) (hf : f ∈ optsF x.C x.R) (hl : srch c0 S mm (kidF x f) = some l) (h : ∀ g ∈ optsF x.C x.R, FoldLt g f → srch c0 S mm (kidF x g) = none) : srch c0 S (mm + 1) x = some (f :: l) := by
  unfold srch
  rw [if_neg h1]
  refine first_found (R := FoldLt) (f := f) (by rw [hl]; rfl) (opts_sorted _ _) hf (fun g hg hgf => ?_)
  rw [h g hg hgf]; try rfl
set_option maxRecDepth 100000 in
set_option maxHeartbeats 16000000 in
theorem search_any (c0 r0 : Nat) (a : Option Addr) (S : List Cell) (n c : Nat) (hS : ScR c0 r0 S n) : ∀ (mm : Nat) (C R : Nat) (L : List Fold) (A : Option Addr) (Ps : List PS) (hn hc : Nat) (w : World), mm ≤ 100 → NOk c0 r0 ⟨C, R, Ps.map (·.l), L⟩ → hn = Ps.length → HeapAt w A Ps → RowsAt 4 Cell.l w a S →
    Calls Try.prog 32 #[.agg #[.int .i64 c0, .int .i64 r0, .slice a n c], .agg #[.int .i64 C, .int .i64 R, .slice A hn hc], .int .i64 (mm : Int)] w (SrchPost w (srch c0 S mm ⟨C, R, Ps.map (·.l), L⟩)) := by
  intro mm
  induction mm with
  | zero =>
    intro C R L A Ps hn hc w hmm hok hhn hH ha
    by_cases h1 : C * R = 1
    · have e : srch c0 S 0 ⟨C, R, Ps.map (·.l), L⟩ = if inOrd (((Ps.map (·.l)).getD 0 []).flatMap (rdP c0 S)) = true then some [] else none := by unfold srch; rw [if_pos h1]
      rw [e]
      exact search_one c0 r0 a S n c hS _ C R L A Ps hn hc w hok hhn hH ha h1
    · have e : srch c0 S 0 ⟨C, R, Ps.map (·.l), L⟩ = none := by unfold srch; rw [if_neg h1]
      rw [e]
      obtain ⟨w0, hw0⟩ : ∃ w0, w0 = (w.alloc (.cells #[.int .i64 c0, .int .i64 r0, .slice a n c] 24)).alloc (.cells #[.int .i64 C, .int .i64 R, .slice A hn hc] 82) := ⟨_, rfl⟩
      have E1 : SrEnv w C R A hn hc c0 r0 a n c w0 := by rw [hw0]; exact SrEnv.start ..
      have hn1 : hn ≠ 1 := by have := hok.pile.len; rw [List.length_map] at this; rw [hhn, this]; exact h1
      have hd : ((hn : Int) == 1) = false := by simp; omega
      have hlow := E1.low
      clear hok hhn hH ha h1
      have b2 := E1.bx.cell 2
      simp at b2
      have W0 := Lib.hid hw0
      clear hw0
      go_enter Try.func32, Try.ntmps32
      go_wp2_with fail
      rw [← W0.out]
      go_wp2_with fail
      go_ret2
      exact ⟨none, 0, 0, rfl, rfl, RowsAt.nil _ _, fun _ => rfl, hlow⟩
  | succ mm ih =>
    intro C R L A Ps hn hc w hmm hok hhn hH ha
    by_cases h1 : C * R = 1
    · have e : srch c0 S (mm + 1) ⟨C, R, Ps.map (·.l), L⟩ = if inOrd (((Ps.map (·.l)).getD 0 []).flatMap (rdP c0 S)) = true then some [] else none := by unfold srch; rw [if_pos h1]
      rw [e]
      exact search_one c0 r0 a S n c hS _ C R L A Ps hn hc w hok hhn hH ha h1
    · obtain ⟨nd, hnd⟩ : ∃ nd : FN, nd = ⟨C, R, Ps.map (·.l), L⟩ := ⟨_, rfl⟩
      have HND := Lib.hid hnd
      obtain ⟨oo, hoo⟩ : ∃ oo, oo = srch c0 S (mm + 1) nd := ⟨_, rfl⟩
      have HOO := Lib.hid hoo
      rw [← hnd, ← hoo]
      have H1 : Hid (nd.C * nd.R ≠ 1) := Lib.hid (by rw [hnd]; exact h1)
      have HOP : Hid (optsF nd.C nd.R = optsF C R) := Lib.hid (by rw [hnd])
      obtain ⟨w0, hw0⟩ : ∃ w0, w0 = (w.alloc (.cells #[.int .i64 c0, .int .i64 r0, .slice a n c] 24)).alloc (.cells #[.int .i64 C, .int .i64 R, .slice A hn hc] 82) := ⟨_, rfl⟩
      have E1 : SrEnv w C R A hn hc c0 r0 a n c w0 := by rw [hw0]; exact SrEnv.start ..
      have hn1 : hn ≠ 1 := by have := hok.pile.len; rw [List.length_map] at this; rw [hhn, this]; exact h1
      have hd : ((hn : Int) == 1) = false := by simp; omega
      obtain ⟨m1, hm1⟩ : ∃ m1, m1 = mm + 1 := ⟨_, rfl⟩
      have HM1 := Lib.hid hm1
      have hm1b : 1 ≤ m1 ∧ m1 ≤ 100 := by omega
      rw [← hm1]
      have hd2 : ((m1 : Int) == 0) = false := by simp; omega
      have HIH : Hid (∀ (C R : Nat) (L : List Fold) (A : Option Addr) (Ps : List PS) (hn hc : Nat) (w : World), NOk c0 r0 ⟨C, R, Ps.map (·.l), L⟩ → hn = Ps.length → HeapAt w A Ps → RowsAt 4 Cell.l w a S →
          Calls Try.prog 32 #[.agg #[.int .i64 c0, .int .i64 r0, .slice a n c], .agg #[.int .i64 C, .int .i64 R, .slice A hn hc], .int .i64 ((m1 : Int) - 1)] w (SrchPost w (srch c0 S mm ⟨C, R, Ps.map (·.l), L⟩))) := Lib.hid (fun C R L A Ps hn hc w h2 h3 h4 h5 => by
        rw [show (m1 : Int) - 1 = (mm : Int) by omega]
        exact ih C R L A Ps hn hc w (by omega) h2 h3 h4 h5)
      have HOK := Lib.hid hok; have HHN := Lib.hid hhn
      obtain ⟨hm1a, hm1c⟩ := hm1b
      have H88 : Hid ((1 ≤ C ∧ C ≤ 8) ∧ (1 ≤ R ∧ R ≤ 8)) := Lib.hid ⟨hok.hC, hok.hR⟩
      have b2 := E1.bx.cell 2
      simp at b2
      have W0 := Lib.hid hw0
      clear hok hhn h1 ih hmm hnd hoo hw0 hm1
      go_enter Try.func32, Try.ntmps32
      go_wp2_with fail
      rw [← W0.out]
      go_wp2_with fail
      clear b2
      go_loopw [8] (fun i wr => ∃ kd : Nat, 1 ≤ kd ∧ kd ≤ 5 ∧ i = .int .i64 (kd : Int) ∧ SrEnv w C R A hn hc c0 r0 a n c wr ∧ Hid (∀ f ∈ optsF C R, f.k < (kd : Int) → srch c0 S mm (kidF nd f) = none)) (fun i _ => 6 - (intOf i).toNat)
      case atStart => exact ⟨1, by omega, by omega, rfl, E1, Lib.hid (fun f hf h => by have := (optsF_mem.1 hf).1.1; omega)⟩
      case round =>
        obtain ⟨kd, hk1, hk5, rfl, E, HA⟩ := hrel
        clear E1
        by_cases hk4 : kd ≤ 4
        · have hkI : (kd : Int) ≤ 4 := by omega
          go_wp2_with fail
          go_loopw [9] (fun i wr => ∃ j : Nat, 1 ≤ j ∧ j ≤ 9 ∧ i = .int .i64 (j : Int) ∧ SrEnv w C R A hn hc c0 r0 a n c wr ∧ Hid (∀ f ∈ optsF C R, (f.k < (kd : Int) ∨ f.k = (kd : Int) ∧ f.c < (j : Int)) → srch c0 S mm (kidF nd f) = none)) (fun i _ => 10 - (intOf i).toNat)
          case atStart => exact ⟨1, by omega, by omega, rfl, E, Lib.hid (fun f hf h => by
            rcases h with h | ⟨h, h2⟩
            · exact HA.out f hf h
            · have := (optsF_mem.1 hf).2.1; omega)⟩
          case round =>
            obtain ⟨j, hj1, hj9, rfl, E, HB⟩ := hrel
            by_cases hj8 : j ≤ 8
            · have hjI : (j : Int) ≤ 8 := by omega
              obtain ⟨f, hf⟩ : ∃ f : Fold, f = ⟨(kd : Int), (j : Int)⟩ := ⟨_, rfl⟩
              obtain ⟨fe, hfe⟩ : ∃ fe, fe = foldErr C R f := ⟨_, rfl⟩
              have HFE := Lib.hid hfe
              have HFR : Hid (∀ W, Calls Try.prog 50 #[.int .i64 C, .int .i64 R, .agg #[.int .i64 (kd : Int), .int .i64 (j : Int)]] W fun e w' => e = .returned (.int .i64 fe) ∧ Below W.heap.size W w') := Lib.hid (fun W => by
                have := refFoldErr_any C R f W (by have := H88.out; omega) (by have := H88.out; omega)
                rw [← hfe, hf] at this; exact this)
              have HF := Lib.hid hf
              have bb := BoxAt.new wr #[.int .i64 (kd : Int), .int .i64 (j : Int)] 41
              have hba := (Below.refl wr.heap.size wr).alloc (Nat.le_refl _) (.cells #[.int .i64 (kd : Int), .int .i64 (j : Int)] 41)
              have Ea := E.below hba
              clear hf hfe E
              have d0 := Ea.bx.cell 0; have d1 := Ea.bx.cell 1
              simp at d0 d1
              go_wp2_with fail
              refine (HFR.out _).mono ?_
              rintro e w5 ⟨rfl, hb5⟩
              have E5 := Ea.below hb5
              have bb5 := bb.below hb5
              clear hb5 Ea bb hba d0 d1
              obtain ⟨gf, hgf⟩ : ∃ gf, gf = wr.heap.size := ⟨_, rfl⟩
              rw [← hgf] at bb5 ⊢
              clear hgf
              by_cases he : fe = 0
              · subst he
                have hfm : f ∈ optsF C R := optsF_err.2 ⟨by rw [HF.out]; show 1 ≤ (kd : Int) ∧ (kd : Int) ≤ 4; omega, HFE.out.symm⟩
                have HFM := Lib.hid hfm
                have kk : KidOk ⟨C, R, Ps.map (·.l), L⟩ f := HOK.out.kidOk hfm
                obtain ⟨C2, hC2⟩ : ∃ n : Nat, n = (afterC C f).toNat := ⟨_, rfl⟩
                obtain ⟨R2, hR2⟩ : ∃ n : Nat, n = (afterR R f).toNat := ⟨_, rfl⟩
                have hC2' : afterC C f = (C2 : Int) := by rw [hC2]; exact kk.eC
                have hR2' : afterR R f = (R2 : Int) := by rw [hR2]; exact kk.eR
                have HFD : Hid (∀ W, HeapAt W A Ps → Calls Try.prog 51 #[.agg #[.int .i64 C, .int .i64 R, .slice A hn hc], .agg #[.int .i64 (kd : Int), .int .i64 (j : Int)]] W (HeapPost W C2 R2 (outF C R C2 R2 f (Ps.map (·.l))))) := Lib.hid (fun W hW => by
                  have hok := HOK.out
                  have := refFold_any C R C2 R2 A hn hc f Ps W hok.hC hok.hR kk.err hC2' hR2' HHN.out hW hok.pile
                  rw [HF.out] at this ⊢
                  exact this)
                have HKID : Hid (kidF nd f = ⟨C2, R2, outF C R C2 R2 f (Ps.map (·.l)), L ++ [f]⟩) := Lib.hid (by rw [HND.out, hC2, hR2]; try rfl)
                have HNK : Hid (NOk c0 r0 (kidF nd f)) := Lib.hid (by rw [HND.out]; exact HOK.out.kid hfm)
                obtain ⟨o2, ho2⟩ : ∃ o2, o2 = srch c0 S mm (kidF nd f) := ⟨_, rfl⟩
                have HO2 := Lib.hid ho2
                obtain ⟨sb, hsb⟩ : ∃ sb, sb = o2.isSome := ⟨_, rfl⟩
                have HSB := Lib.hid hsb
                obtain ⟨l2, hl2⟩ : ∃ l2, l2 = o2.getD [] := ⟨_, rfl⟩
                have HL2 := Lib.hid hl2
                have HHP : Hid (HeapAt w5 A Ps) := Lib.hid (hH.below E5.low)
                have HSA : Hid (RowsAt 4 Cell.l w5 a S) := Lib.hid (ha.below E5.low)
                clear hfm kk hC2 hR2 hC2' hR2' ho2 hsb hl2
                have s0 := E5.bs.cell 0; have s1 := E5.bs.cell 1; have s2 := E5.bs.cell 2
                have d0 := E5.bx.cell 0; have d1 := E5.bx.cell 1; have d2 := E5.bx.cell 2
                have g0 := bb5.cell 0; have g1 := bb5.cell 1
                have hsl := E5.bs.lt; have hdl := E5.bx.lt; have hgl := bb5.lt
                simp at s0 s1 s2 d0 d1 d2 g0 g1
                have hq := (Below.refl w5.heap.size w5).drew
                have hwr : IntKind.i64.wrap ((m1 : Int) - 1) = (m1 : Int) - 1 := IntWalk.i64_in _ (by omega)
                have j0 := s0; have j1 := s1; have j2 := s2; have j3 := d0; have j4 := d1; have j5 := d2; have j6 := g0; have j7 := g1
                go_wp2_with fail
                go_region_held3 (fun w' => w'.cell? ⟨w.heap.size, 0, none⟩ = some (.int .i64 c0) ∧ w'.cell? ⟨w.heap.size, 1, none⟩ = some (.int .i64 r0) ∧ w'.cell? ⟨w.heap.size, 2, none⟩ = some (.slice a n c) ∧ w'.cell? ⟨w.heap.size + 1, 0, none⟩ = some (.int .i64 C) ∧ w'.cell? ⟨w.heap.size + 1, 1, none⟩ = some (.int .i64 R) ∧ w'.cell? ⟨w.heap.size + 1, 2, none⟩ = some (.slice A hn hc) ∧ w'.cell? ⟨gf, 0, none⟩ = some (.int .i64 (kd : Int)) ∧ w'.cell? ⟨gf, 1, none⟩ = some (.int .i64 (j : Int))) (first | exact ⟨j0, j1, j2, j3, j4, j5, j6, j7⟩ | go_keep)
                  (first
                    | (go_at_call 51
                       refine (HFD.out _ (HHP.out.below hq)).mono ?_
                       rintro e v1 ⟨A2, n2, c2, Ps2, rfl, hbl, hM2, hbv⟩
                       have HM2 := Lib.hid hM2
                       have hh2 := hbl.heap
                       have HN2 : Hid (n2 = Ps2.length) := Lib.hid hh2.1
                       have HH2 : Hid (HeapAt v1 A2 Ps2) := Lib.hid hh2.2
                       have hq := hq.trans (hbv.mono (B' := w5.heap.size) hq.size)
                       have j0 := (hq.cell (p := ⟨w.heap.size, 0, none⟩) hsl).trans s0; have j1 := (hq.cell (p := ⟨w.heap.size, 1, none⟩) hsl).trans s1; have j2 := (hq.cell (p := ⟨w.heap.size, 2, none⟩) hsl).trans s2; have j3 := (hq.cell (p := ⟨w.heap.size + 1, 0, none⟩) hdl).trans d0; have j4 := (hq.cell (p := ⟨w.heap.size + 1, 1, none⟩) hdl).trans d1; have j5 := (hq.cell (p := ⟨w.heap.size + 1, 2, none⟩) hdl).trans d2; have j6 := (hq.cell (p := ⟨gf, 0, none⟩) hgl).trans g0; have j7 := (hq.cell (p := ⟨gf, 1, none⟩) hgl).trans g1
                       clear hM2 hbl hh2)
                    | (go_at_call 32
                       refine (HIH.out C2 R2 (L ++ [f]) A2 Ps2 n2 c2 _ (by have := HNK.out; rw [HKID.out, ← HM2.out] at this; exact this) HN2.out HH2.out (HSA.out.below hq)).mono ?_
                       rw [HM2.out, ← HKID.out, ← HO2.out]
                       rintro e v2 ⟨a3, n3, c3, rfl, hn3, hr3, hnil3, hbv⟩
                       rw [← HSB.out]
                       rw [← HL2.out] at hn3 hr3
                       have HN3 := Lib.hid hn3
                       have hq := hq.trans (hbv.mono (B' := w5.heap.size) hq.size)
                       have j0 := (hq.cell (p := ⟨w.heap.size, 0, none⟩) hsl).trans s0; have j1 := (hq.cell (p := ⟨w.heap.size, 1, none⟩) hsl).trans s1; have j2 := (hq.cell (p := ⟨w.heap.size, 2, none⟩) hsl).trans s2; have j3 := (hq.cell (p := ⟨w.heap.size + 1, 0, none⟩) hdl).trans d0; have j4 := (hq.cell (p := ⟨w.heap.size + 1, 1, none⟩) hdl).trans d1; have j5 := (hq.cell (p := ⟨w.heap.size + 1, 2, none⟩) hdl).trans d2; have j6 := (hq.cell (p := ⟨gf, 0, none⟩) hgl).trans g0; have j7 := (hq.cell (p := ⟨gf, 1, none⟩) hgl).trans g1
                       clear hn3))
                all_goals
                  have E6 : SrEnv w C R A hn hc c0 r0 a n c v2 := E5.below hq
                  have bb6 := bb5.below hq
                  clear j0 j1 j2 j3 j4 j5 j6 j7 s0 s1 s2 d0 d1 d2 g0 g1 E5 bb5 hq hbv
                  have g0 := bb6.cell 0; have g1 := bb6.cell 1
                  simp at g0 g1
                  cases sb with
                  | true =>
                    have HOL : Hid (o2 = some l2) := Lib.hid (by
                      have h1 := HSB.out; have h2 := HL2.out
                      cases o2 with
                      | none => cases h1
                      | some v => rw [h2]; try rfl)
                    have HR : Hid (oo = some (f :: l2)) := Lib.hid (by
                      rw [HOO.out]
                      refine srch_found H1.out (by rw [HOP.out]; exact HFM.out) (by rw [← HO2.out]; exact HOL.out) (fun g hg hgf => HB.out g (by rw [← HOP.out]; exact hg) ?_)
                      rw [HF.out] at hgf; exact hgf)
                    have HLL : Hid (l2.length ≤ 1000000) := Lib.hid (by
                      have h1 := HO2.out
                      rw [HOL.out] at h1
                      have := srch_len mm _ _ h1.symm
                      have := HM1.out
                      omega)
                    have hO9 := new_fold v2 ⟨(kd : Int), (j : Int)⟩
                    have hr9 := hr3.alloc (.cells #[.int .i64 (kd : Int), .int .i64 (j : Int)] 41)
                    have hlow := E6.low
                    clear E6 bb6
                    go_wp2_with (at_builtin; refine wpList_appLn tFold fold_l _ rfl _ _ rfl v2.heap.size _ [⟨(kd : Int), (j : Int)⟩] rfl hO9 a3 l2 n3 c3 HN3.out rfl hr9 hnil3 (by simp) HLL.out (by simp) ?_; intro v8 w8 hO8 hg8 hb8 ho8)
                    obtain ⟨b8, d8, e8, hr8, -, -, hnil8, -⟩ := hO8.rows fold_l
                    obtain ⟨n8, hn8⟩ : ∃ n8, n8 = ([Fold.mk (kd : Int) (j : Int)] ++ l2).length := ⟨_, rfl⟩
                    rw [← hn8] at e8
                    subst e8
                    have HN8 := Lib.hid hn8
                    have hfin := (hlow.alloc hlow.size (.cells #[.int .i64 (kd : Int), .int .i64 (j : Int)] 41)).trans (hb8.mono (B' := w.heap.size) hlow.size)
                    have HR8 : Hid (RowsAt 2 Fold.l w8 b8 (f :: l2)) := Lib.hid (by rw [HF.out]; exact hr8)
                    have HN9 : Hid (n8 = (f :: l2).length) := Lib.hid (by rw [HN8.out]; simp)
                    clear hn8 hO8 hr8 hlow hb8
                    go_wp2_with fail
                    go_ret2
                    exact ⟨b8, n8, d8, by rw [HR.out]; try rfl, by rw [HR.out]; exact HN9.out, by rw [HR.out]; exact HR8.out, hnil8, hfin⟩
                  | false =>
                    go_wp2_with fail
                    go_roundw
                    case rel =>
                      refine ⟨j + 1, by omega, by omega, by go_num, E6, Lib.hid (fun g hg h => ?_)⟩
                      by_cases hgf : g = f
                      · rw [hgf]
                        have h1 := HSB.out; have h2 := HO2.out
                        rw [← h2]
                        cases o2 with
                        | none => rfl
                        | some v => cases h1
                      · refine HB.out g hg ?_
                        rcases h with h | ⟨h, h2⟩
                        · exact Or.inl h
                        · refine Or.inr ⟨h, ?_⟩
                          have h3 : g.c ≠ (j : Int) := fun e => hgf (by rw [HF.out]; obtain ⟨gk, gc⟩ := g; have h : gk = _ := h; have e : gc = _ := e; rw [h, e])
                          omega
                    case measure => simp [intOf]; omega
              · have hd3 : (fe == 0) = false := by simpa using he
                have hd4 : (fe != 0) = true := by simpa using he
                go_wp2_with fail
                go_roundw
                case rel =>
                  refine ⟨j + 1, by omega, by omega, by go_num, E5, Lib.hid (fun g hg h => ?_)⟩
                  refine HB.out g hg ?_
                  rcases h with h | ⟨h, h2⟩
                  · exact Or.inl h
                  · refine Or.inr ⟨h, ?_⟩
                    have h3 : g.c ≠ (j : Int) := fun e => he (by
                      have h4 := (optsF_err.1 hg).2
                      have h5 : g = f := by rw [HF.out]; obtain ⟨gk, gc⟩ := g; have h : gk = _ := h; have e : gc = _ := e; rw [h, e]
                      rw [h5] at h4; rw [HFE.out]; exact h4)
                    omega
                case measure => simp [intOf]; omega
            · have hjI : ¬ (j : Int) ≤ 8 := by omega
              have hj : j = 9 := by omega
              go_wp2_with fail
              go_roundw
              case rel =>
                refine ⟨kd + 1, by omega, by omega, by go_num, E, Lib.hid (fun f hf h => ?_)⟩
                refine HB.out f hf ?_
                have h2 := (optsF_mem.1 hf).2
                have h3 : sideF C R f.k ≤ 8 := by unfold sideF; have := H88.out; split <;> omega
                omega
              case measure => simp [intOf]; omega
        · have hkI : ¬ (kd : Int) ≤ 4 := by omega
          have HN : Hid (oo = none) := Lib.hid (by
            rw [HOO.out]
            refine srch_miss H1.out (fun f hf => HA.out f (by rw [← HOP.out]; exact hf) ?_)
            have := (optsF_mem.1 hf).1.2; omega)
          go_wp2_with fail
          go_ret2
          exact ⟨none, 0, 0, by rw [HN.out]; try rfl, by rw [HN.out]; try rfl, by rw [HN.out]; exact RowsAt.nil _ _, fun _ => rfl, E.low⟩
theorem range_found {β : Type} {g : Nat → Option β} {n k : Nat} {v : β} (hk : k < n) (hg : g k = some v) (h : ∀ m, m < k → g m = none) : (List.range n).findSome? g = some v :=
  first_found (R := (· < ·)) hg List.pairwise_lt_range (List.mem_range.2 hk) (fun m _ hm => h m hm)
theorem refFlat_n (C R : Nat) (w : World) (hC : 1 ≤ C ∧ C ≤ 8) (hR : 1 ≤ R ∧ R ≤ 8) : Calls Try.prog 33 #[.int .i64 C, .int .i64 R] w (HeapPost w C R (flatP C (C * R))) := by
  have := refFlat_any C R w hC hR
  rw [Nat.mul_comm R C] at this; exact this
set_option maxRecDepth 100000 in
set_option maxHeartbeats 8000000 in
theorem refFinds_any (cn rn : Nat) (a : Option Addr) (S : List Cell) (n c : Nat) (w : World) (hS : ScR cn rn S n) (h9 : cn + rn ≤ 11) (ha : RowsAt 4 Cell.l w a S) :
    Calls Try.prog 11 #[.agg #[.int .i64 cn, .int .i64 rn, .slice a n c]] w (SrchPost w (findB cn rn S)) := by
  have hroot : NOk (cn : Int) rn (rootF cn rn) := NOk.flat hS.hC hS.hR
  obtain ⟨o, ho⟩ : ∃ o, o = findB cn rn S := ⟨_, rfl⟩
  have HO : Hid ((List.range (cn + rn - 1)).findSome? (fun m => srch (cn : Int) S m (rootF cn rn)) = o) := Lib.hid (by
    rw [ho]; unfold findB; rw [Int.toNat_natCast, Int.toNat_natCast]
    exact (bfs_srch hroot rfl (n := 10) (by show cn + rn ≤ 10 + 1; omega)).symm)
  rw [← ho]
  have HS := Lib.hid hS; have HRT := Lib.hid hroot
  have h8 : 1 ≤ cn ∧ cn ≤ 8 := hS.hC
  have r8 : 1 ≤ rn ∧ rn ≤ 8 := hS.hR
  obtain ⟨w0, hw0⟩ : ∃ w0, w0 = w.alloc (.cells #[.int .i64 cn, .int .i64 rn, .slice a n c] 24) := ⟨_, rfl⟩
  have E0 : FdEnv w cn rn a n c w0 := by
    rw [hw0]; exact ⟨BoxAt.new w _ _, (Below.refl w.heap.size w).alloc (Nat.le_refl _) _⟩
  have W0 := Lib.hid hw0
  clear hroot ho hS hw0
  go_enter Try.func11, Try.ntmps11
  go_wp2_with fail
  rw [← W0.out]
  go_loopw [4] (fun i wr => ∃ k : Nat, k ≤ cn + rn - 1 ∧ i = .int .i64 (k : Int) ∧ FdEnv w cn rn a n c wr ∧ Hid (∀ m, m < k → srch (cn : Int) S m (rootF cn rn) = none)) (fun i _ => cn + rn - (intOf i).toNat)
  case atStart => exact ⟨0, Nat.zero_le _, rfl, E0, Lib.hid (fun m h => by omega)⟩
  case round =>
    obtain ⟨k, hk, rfl, E, HA⟩ := hrel
    clear E0
    have s0 := E.bs.cell 0; have s1 := E.bs.cell 1; have s2 := E.bs.cell 2
    have hsl := E.bs.lt
    simp at s0 s1 s2
    by_cases hlt : k < cn + rn - 1
    · have hkI : (k : Int) ≤ (cn : Int) + (rn : Int) - 2 := by omega
      obtain ⟨o2, ho2⟩ : ∃ o2, o2 = srch (cn : Int) S k (rootF cn rn) := ⟨_, rfl⟩
      have HO2 := Lib.hid ho2
      obtain ⟨sb, hsb⟩ : ∃ sb, sb = o2.isSome := ⟨_, rfl⟩
      have HSB := Lib.hid hsb
      obtain ⟨l2, hl2⟩ : ∃ l2, l2 = o2.getD [] := ⟨_, rfl⟩
      have HL2 := Lib.hid hl2
      have HSA : Hid (RowsAt 4 Cell.l wr a S) := Lib.hid (ha.below E.low)
      have hk100 : k ≤ 100 := by omega
      have H88 := Lib.hid (And.intro h8 r8)
      clear ho2 hsb hl2
      have hq := (Below.refl wr.heap.size wr).drew
      have j0 := s0; have j1 := s1; have j2 := s2
      go_wp2_with fail
      go_region_held3 (fun w' => w'.cell? ⟨w.heap.size, 0, none⟩ = some (.int .i64 cn) ∧ w'.cell? ⟨w.heap.size, 1, none⟩ = some (.int .i64 rn) ∧ w'.cell? ⟨w.heap.size, 2, none⟩ = some (.slice a n c)) (first | exact ⟨j0, j1, j2⟩ | go_keep)
        (first
          | (go_at_call 33
             refine (refFlat_n cn rn _ H88.out.1 H88.out.2).mono ?_
             rintro e v1 ⟨A2, n2, c2, Ps2, rfl, hbl, hM2, hbv⟩
             have HM2 := Lib.hid hM2
             have hh2 := hbl.heap
             have HN2 : Hid (n2 = Ps2.length) := Lib.hid hh2.1
             have HH2 : Hid (HeapAt v1 A2 Ps2) := Lib.hid hh2.2
             have hq := hq.trans (hbv.mono (B' := wr.heap.size) hq.size)
             have j0 := (hq.cell (p := ⟨w.heap.size, 0, none⟩) hsl).trans s0; have j1 := (hq.cell (p := ⟨w.heap.size, 1, none⟩) hsl).trans s1; have j2 := (hq.cell (p := ⟨w.heap.size, 2, none⟩) hsl).trans s2
             clear hM2 hbl hh2)
          | (go_at_call 32
             refine (search_any cn rn a S n c HS.out k cn rn [] A2 Ps2 n2 c2 _ hk100 (by rw [HM2.out]; exact HRT.out) HN2.out HH2.out (HSA.out.below hq)).mono ?_
             rw [HM2.out, show srch (cn : Int) S k ⟨cn, rn, flatP cn (cn * rn), []⟩ = o2 from HO2.out.symm]
             rintro e v2 ⟨a3, n3, c3, rfl, hn3, hr3, hnil3, hbv⟩
             rw [← HSB.out]
             rw [← HL2.out] at hn3 hr3
             have HN3 := Lib.hid hn3
             have hq := hq.trans (hbv.mono (B' := wr.heap.size) hq.size)
             have j0 := (hq.cell (p := ⟨w.heap.size, 0, none⟩) hsl).trans s0; have j1 := (hq.cell (p := ⟨w.heap.size, 1, none⟩) hsl).trans s1; have j2 := (hq.cell (p := ⟨w.heap.size, 2, none⟩) hsl).trans s2
             clear hn3))
      all_goals
        have E6 : FdEnv w cn rn a n c v2 := E.below hq
        have HK := Lib.hid hlt
        clear j0 j1 j2 s0 s1 s2 E hq hbv
        cases sb with
        | true =>
          have HOL : Hid (o = some l2) := Lib.hid (by
            have h1 := HSB.out; have h2 := HL2.out
            rw [← HO.out]
            refine range_found HK.out ?_ HA.out
            rw [← HO2.out]
            cases o2 with
            | none => cases h1
            | some v => rw [h2]; try rfl)
          go_wp2_with fail
          go_ret2
          exact ⟨a3, n3, c3, by rw [HOL.out]; try rfl, by rw [HOL.out]; exact HN3.out, by rw [HOL.out]; exact hr3, hnil3, E6.low⟩
        | false =>
          go_wp2_with fail
          go_roundw
          case rel =>
            refine ⟨k + 1, by omega, by go_num, E6, Lib.hid (fun m hm => ?_)⟩
            by_cases hmk : m = k
            · rw [hmk, ← HO2.out]
              have h1 := HSB.out
              cases o2 with
              | none => rfl
              | some v => cases h1
            · exact HA.out m (by omega)
          case measure => simp [intOf]; omega
    · have hkI : ¬ (k : Int) ≤ (cn : Int) + (rn : Int) - 2 := by omega
      have HN : Hid (o = none) := Lib.hid (by
        rw [← HO.out, List.findSome?_eq_none_iff]
        intro m hm
        exact HA.out m (by have := List.mem_range.1 hm; omega))
      go_wp2_with fail
      go_ret2
      exact ⟨none, 0, 0, by rw [HN.out]; try rfl, by rw [HN.out]; try rfl, by rw [HN.out]; exact RowsAt.nil _ _, fun _ => rfl, E.low⟩
end Go.Proofs.Ytmolejpbpcodbaa

namespace Go.Proofs.Ytmolejpbpcodbaa
open Go.RowKit

theorem sameF_n (a1 a2 : Option Addr) (n1 n2 : Nat) (L : List Fold) (c1 c2 : Nat) (w : World) (e1 : n1 = L.length) (e2 : n2 = L.length) (h1 : RowsAt 2 Fold.l w a1 L) (h2 : RowsAt 2 Fold.l w a2 L) (hl : L.length ≤ maxLen) :
    Calls Try.prog 12 #[.slice a1 n1 c1, .slice a2 n2 c2] w fun e w' => e = .returned (.bool true) ∧ Below w.heap.size w w' := by
  subst e1; subst e2
  refine (sameFolds_any a1 L c1 a2 L c2 w h1 h2 hl hl).mono fun e w' ⟨he, hd⟩ => ⟨?_, hd.below (Below.refl _ _)⟩
  rw [he]; exact ret_bool (decide_eq_true rfl)
theorem foldsFor_n (C R : Int) (a : Option Addr) (S : List Cell) (n c : Nat) (w : World) (hn : n = S.length) (hS : RowsAt 4 Cell.l w a S) (hl : S.length ≤ 1000000) (hne : ¬ (13 ≤ S.length ∧ S.length ≤ 16)) {q : Int} {P : List Fold} (h1 : findE C R S = q) (h2 : findP C R S = P) :
    Calls Try.prog 8 #[.agg #[.int .i64 C, .int .i64 R, .slice a n c]] w (FindsPost w q P) := by
  rw [← h1, ← h2]; exact foldsFor_any C R a S n c w hn hS hl hne
theorem copyScheme_n (C R : Int) (a : Option Addr) (L : List Cell) (n c : Nat) (w : World) (he : n = L.length) (hL : RowsAt 4 Cell.l w a L) (hl : L.length ≤ 1000000) (hn : a = none → c = 0) :
    Calls Try.prog 9 #[.agg #[.int .i64 C, .int .i64 R, .slice a n c]] w (CopySchemePost C R L w) := by
  subst he; exact copyScheme_any C R a L c w hL hl hn
theorem refScN2 (C R : Int) (a : Option Addr) (L : List Cell) (n c : Nat) (w : World) (he : n = L.length) (hL : RowsAt 4 Cell.l w a L) (hl : L.length ≤ 1000000) {p q : Int} (h1 : (checkSc C R L).1 = p) (h2 : (checkSc C R L).2 = q) :
    Calls Try.prog 10 #[.agg #[.int .i64 C, .int .i64 R, .slice a n c]] w fun e w' => e = .returned (.tuple #[.int .i64 p, .int .i64 q]) ∧ Below w.heap.size w w' := by
  subst he; exact refScN C R a L c w hL hl h1 h2
set_option maxRecDepth 100000 in
set_option maxHeartbeats 8000000 in
theorem finds_walk (C R : Int) (a : Option Addr) (L : List Cell) (c : Nat) (w : World) (hL : RowsAt 4 Cell.l w a L) (hl : L.length ≤ maxLen) (hn : a = none → c = 0) :
    Calls Try.prog 3 #[.agg #[.int .i64 C, .int .i64 R, .slice a L.length c]] w fun e w' => e = .returned (.bool true) ∧ Below w.heap.size w w' := by
  unfold maxLen at hl
  obtain ⟨ln, hln⟩ : ∃ ln, ln = L.length := ⟨_, rfl⟩
  have HLN := Lib.hid hln
  rw [← hln]
  rw [← hln] at hl
  clear hln
  go_enter Try.func3, Try.ntmps3
  go_wp2_with fail
  refine (awake_any _).mono ?_
  rintro e w1 ⟨rfl, hb1⟩
  have hB1 := ((Below.refl w.heap.size w).alloc (Nat.le_refl _) (.cells #[.int .i64 C, .int .i64 R, .slice a ln c] 24)).trans (hb1.mono (B' := w.heap.size) (by simp))
  have bx1 := (BoxAt.new w #[.int .i64 C, .int .i64 R, .slice a ln c] 24).below hb1
  clear hb1
  have c0 := bx1.cell 0; have c1 := bx1.cell 1; have c2 := bx1.cell 2
  simp at c0 c1 c2
  by_cases h13 : 13 ≤ ln ∧ ln ≤ 16
  · have HI : Hid (inB (ln : Int) 13 16 = true) := Lib.hid (inB_yes (by omega))
    go_wp2_with (go_at_call 6; refine (within_any _ _ _ _).mono ?_; rintro e w' ⟨rfl, rfl⟩; rw [HI.out])
    go_ret
    exact ⟨rfl, hB1⟩
  have HI : Hid (inB (ln : Int) 13 16 = false) := Lib.hid (inB_no (by omega))
  rcases Nat.lt_or_ge 40 ln with h40 | h40
  · have HD : Hid (decide (ln ≤ 40) = false) := Lib.hid (decide_eq_false (by omega))
    clear h40 h13
    go_wp2_with (first
      | (go_at_call 6; refine (within_any _ _ _ _).mono ?_; rintro e w' ⟨rfl, rfl⟩; rw [HI.out])
      | (go_at_call 7; refine (light_any _ _ _ _ _ _).mono ?_; rintro e w2 ⟨rfl, hb2⟩; rw [HD.out]))
    go_ret
    exact ⟨rfl, hB1.trans (hb2.mono (B' := w.heap.size) hB1.size)⟩
  have HD : Hid (decide (ln ≤ 40) = true) := Lib.hid (decide_eq_true h40)
  obtain ⟨p1, hp1⟩ : ∃ x, (checkSc C R L).1 = x := ⟨_, rfl⟩
  obtain ⟨q1, hq1⟩ : ∃ x, (checkSc C R L).2 = x := ⟨_, rfl⟩
  obtain ⟨E, hE⟩ : ∃ x, findE C R L = x := ⟨_, rfl⟩
  obtain ⟨P, hP⟩ : ∃ x, findP C R L = x := ⟨_, rfl⟩
  have HP1 := Lib.hid hp1; have HQ1 := Lib.hid hq1; have HE := Lib.hid hE; have HP := Lib.hid hP
  have HLL : Hid (L.length ≤ 1000000) := Lib.hid (by have := HLN.out; omega)
  have HNE : Hid (¬ (13 ≤ L.length ∧ L.length ≤ 16)) := Lib.hid (by rw [← HLN.out]; exact h13)
  have HNC := Lib.hid hn
  clear hp1 hq1 hE hP hn h13
  go_wp2_with (first
    | (go_at_call 6; refine (within_any _ _ _ _).mono ?_; rintro e w' ⟨rfl, rfl⟩; rw [HI.out])
    | (go_at_call 7; refine (light_any _ _ _ _ _ _).mono ?_; rintro e w2 ⟨rfl, hb2⟩; rw [HD.out]; have hB2 := hB1.trans (hb2.mono (B' := w.heap.size) hB1.size); have bx2 := bx1.below hb2; clear hb2 hB1 bx1 c0 c1 c2; have c0 := bx2.cell 0; have c1 := bx2.cell 1; have c2 := bx2.cell 2; simp at c0 c1 c2))
  refine (copyScheme_n C R a L ln c _ HLN.out (hL.below hB2) HLL.out HNC.out).mono ?_
  rintro e w3 ⟨a3, n3, d3, rfl, hn3, hr3, -, hb3⟩
  have HN3 := Lib.hid hn3
  have hB3 := hB2.trans (hb3.mono (B' := w.heap.size) hB2.size)
  have bx3 := bx2.below hb3
  clear hb3 hB2 bx2 c0 c1 c2 hn3
  go_wp2_with fail
  refine (foldsFor_n C R a3 L n3 d3 _ HN3.out hr3 HLL.out HNE.out HE.out HP.out).mono ?_
  rintro e w5 ⟨pa, pn, pc, rfl, hpn, hpr, -, hb5⟩
  have HPN := Lib.hid hpn
  have hB5 := hB3.trans (hb5.mono (B' := w.heap.size) hB3.size)
  have bx5 := bx3.below hb5
  clear hpn hb5 hB3 bx3 hr3
  have c0 := bx5.cell 0; have c1 := bx5.cell 1; have c2 := bx5.cell 2
  simp at c0 c1 c2
  go_wp2_with fail
  refine (refScN2 C R a L ln c _ HLN.out (hL.below hB5) HLL.out HP1.out HQ1.out).mono ?_
  rintro e w6 ⟨rfl, hb6⟩
  have hB6 := hB5.trans (hb6.mono (B' := w.heap.size) hB5.size)
  have bx6 := bx5.below hb6
  have hpr6 := hpr.below hb6
  clear hb6 hB5 bx5 hpr c0 c1 c2
  have c0 := bx6.cell 0; have c1 := bx6.cell 1; have c2 := bx6.cell 2
  simp at c0 c1 c2
  by_cases he1 : q1 = 0
  · subst he1
    by_cases h16 : 16 < ln
    · have hE2 : E = 8 := by rw [← HE.out]; unfold findE; rw [if_neg (by simp [HQ1.out]), if_pos (by rw [← HLN.out]; exact h16)]
      have hP2 : P = [] := by rw [← HP.out]; unfold findP; rw [if_neg (by simp [HQ1.out]), if_pos (by rw [← HLN.out]; exact h16)]
      subst hE2
      have hp0 : pn = 0 := by rw [HPN.out, hP2]; try rfl
      subst hp0
      have hI : (16 : Int) < (ln : Int) := by omega
      go_wp2_with fail
      go_ret
      exact ⟨rfl, hB6⟩
    · obtain ⟨cn, rn, hs⟩ := sc_side HQ1.out
      obtain ⟨rfl, rfl, h8, r8, hlen⟩ := hs
      have hI : ¬ (16 : Int) < (ln : Int) := by omega
      obtain ⟨o, ho⟩ : ∃ o, o = findB cn rn L := ⟨_, rfl⟩
      have HO := Lib.hid ho
      have hE2 : E = if o.isSome = true then 0 else 12 := by rw [← HE.out, ho]; unfold findE; rw [if_neg (by simp [HQ1.out]), if_neg (by rw [← HLN.out]; exact h16)]
      have hP2 : P = o.getD [] := by rw [← HP.out, ho]; unfold findP; rw [if_neg (by simp [HQ1.out]), if_neg (by rw [← HLN.out]; exact h16)]
      have HE2 := Lib.hid hE2; have HP2 := Lib.hid hP2
      obtain ⟨sb, hsb⟩ : ∃ sb, sb = o.isSome := ⟨_, rfl⟩
      have HSB := Lib.hid hsb
      have HSR : Hid (ScR cn rn L ln) := Lib.hid ⟨h8, r8, HLN.out, hlen, checkSc_bits HQ1.out⟩
      have h12 : L.length ≤ 12 := by have h1 := HNE.out; have h2 := HLN.out; omega
      have HSD : Hid (cn + rn ≤ 11) := Lib.hid (by have := sides_nine cn (by omega) rn (by omega) (by omega); omega)
      have HPL : Hid (P.length ≤ maxLen) := Lib.hid (by
        rw [hP2, ho]
        have hroot : NOk (cn : Int) rn (rootF cn rn) := NOk.flat h8 r8
        have hb : findB cn rn L = (List.range (cn + rn - 1)).findSome? (fun m => srch (cn : Int) L m (rootF cn rn)) := by
          unfold findB; rw [Int.toNat_natCast, Int.toNat_natCast]
          exact bfs_srch hroot rfl (n := 10) (by show cn + rn ≤ 10 + 1; exact HSD.out)
        rcases hf : findB cn rn L with _ | l
        · unfold maxLen; simp
        · rw [hf] at hb
          obtain ⟨m, hm, hm2⟩ := List.exists_of_findSome?_eq_some hb.symm
          have h1 := srch_len m _ _ hm2
          have h2 := List.mem_range.1 hm
          have h3 := HSD.out
          show l.length ≤ maxLen
          unfold maxLen; omega)
      clear ho hE2 hP2 hsb h8 r8 hlen h12
      go_wp2_with fail
      refine (refFinds_any cn rn a L ln c _ HSR.out HSD.out (hL.below hB6)).mono ?_
      rintro e w7 ⟨a7, n7, c7, rfl, hn7, hr7, -, hb7⟩
      rw [← HO.out, ← HSB.out]
      rw [← HO.out, ← HP2.out] at hn7 hr7
      have HN7 := Lib.hid hn7
      have hB7 := hB6.trans (hb7.mono (B' := w.heap.size) hB6.size)
      have hpr7 := hpr6.below hb7
      clear hb7 hB6 bx6 hpr6 c0 c1 c2 hn7
      cases sb with
      | true =>
        have hE3 : E = 0 := by rw [HE2.out, ← HSB.out]; try rfl
        subst hE3
        go_wp2_with (go_at_call 12; refine (sameF_n pa a7 pn n7 P pc c7 _ HPN.out HN7.out hpr7 hr7 HPL.out).mono ?_; rintro e v ⟨rfl, hbv⟩)
        go_ret
        exact ⟨rfl, hB7.trans (hbv.mono (B' := w.heap.size) hB7.size)⟩
      | false =>
        have hE3 : E = 12 := by rw [HE2.out, ← HSB.out]; try rfl
        subst hE3
        have hp0 : pn = 0 := by
          rw [HPN.out, HP2.out]
          have h1 := HSB.out
          cases o with
          | none => rfl
          | some v => cases h1
        subst hp0
        go_wp2_with fail
        go_ret
        exact ⟨rfl, hB7⟩
  · have hE2 : E = q1 := by rw [← HE.out]; unfold findE; rw [if_pos (by rw [HQ1.out]; exact he1), HQ1.out]
    have hP2 : P = [] := by rw [← HP.out]; unfold findP; rw [if_pos (by rw [HQ1.out]; exact he1)]
    subst hE2
    have hp0 : pn = 0 := by rw [HPN.out, hP2]; try rfl
    subst hp0
    have heb : (E != 0) = true := by simpa using he1
    have heb2 : (E == 0) = false := by simpa using he1
    have hqq : (E == E) = true := by simp
    go_wp2_with fail
    go_ret
    exact ⟨rfl, hB6⟩
end Go.Proofs.Ytmolejpbpcodbaa

namespace Go.Proofs.Ytmolejpbpcodbaa
open Go.RowKit

theorem rows_box {v : World} {a : Option Addr} {M : List Cell} {b : Nat} {x0 x1 x2 u0 u1 u2 : Value} {T : TypeId} (h : RowsAt 4 Cell.l v a M) (hb : BoxAt v b #[x0, x1, x2] T) : RowsAt 4 Cell.l (((v.setCell ⟨b, 0, none⟩ u0).setCell ⟨b, 1, none⟩ u1).setCell ⟨b, 2, none⟩ u2) a M := by
  intro k hk
  obtain ⟨ad, e, hlt, hs⟩ := h k hk
  have hne : ad.block ≠ b := fun e2 => by
    have h3 := hs 3 (by decide)
    have e4 : fld (ad.add (k * 4)) 3 = ⟨b, (ad.add (k * 4)).off + 3, none⟩ := by
      show (⟨(ad.add (k * 4)).block, (ad.add (k * 4)).off + 3, none⟩ : Addr) = _
      rw [add_block, e2]
    rw [e4, hb.cell] at h3
    simp at h3
  have hq : (((v.setCell ⟨b, 0, none⟩ u0).setCell ⟨b, 1, none⟩ u1).setCell ⟨b, 2, none⟩ u2).heap[ad.block]? = v.heap[ad.block]? :=
    (Below.heap_setCell _ _ _ _ hne).trans ((Below.heap_setCell _ _ _ _ hne).trans (Below.heap_setCell _ _ _ _ hne))
  exact ⟨ad, e, by simpa using hlt, fun j hj => (cell_block (by rw [fld_block, add_block]; exact hq)).trans (hs j hj)⟩
theorem copySc_n (C R : Int) (a : Option Addr) (n : Nat) (L : List Cell) (c : Nat) (w : World) (hn : n = L.length) (hL : RowsAt 4 Cell.l w a L) (hl : L.length ≤ 1000000) (hc : a = none → c = 0) :
    Calls Try.prog 9 #[.agg #[.int .i64 C, .int .i64 R, .slice a n c]] w (CopySchemePost C R L w) := by
  subst hn; exact copyScheme_any C R a L c w hL hl hc
theorem sc_fin1 {w1 v : World} {sa : Option Addr} {M : List Cell} {D1 D2 : Int} {sn sc : Nat} (hq : Below w1.heap.size w1 v) (h : RowsAt 4 Cell.l v sa M) (q : Int) :
    Value.int .i64 q = Value.int .i64 q ∧ ∃ b5, Value.pointer (some ⟨v.heap.size, 0, none⟩) = .pointer (some ⟨b5, 0, none⟩) ∧ BoxAt (v.alloc (.cells #[.int .i64 D1, .int .i64 D2, .slice sa sn sc] 24)) b5 #[.int .i64 D1, .int .i64 D2, .slice sa sn sc] 24 ∧ RowsAt 4 Cell.l (v.alloc (.cells #[.int .i64 D1, .int .i64 D2, .slice sa sn sc] 24)) sa M ∧ Below w1.heap.size w1 (v.alloc (.cells #[.int .i64 D1, .int .i64 D2, .slice sa sn sc] 24)) :=
  ⟨rfl, _, rfl, BoxAt.new _ _ _, h.alloc _, hq.alloc hq.size _⟩
theorem sc_fin2 {w1 v : World} {b : Nat} {x0 x1 x2 : Value} {sa : Option Addr} {M : List Cell} {D1 D2 : Int} {sn sc : Nat} (hb : BoxAt v b #[x0, x1, x2] 24) (hle : w1.heap.size ≤ b) (hq : Below w1.heap.size w1 v) (h : RowsAt 4 Cell.l v sa M) (q : Int) :
    Value.int .i64 q = Value.int .i64 q ∧ ∃ b5, Value.pointer (some ⟨b, 0, none⟩) = .pointer (some ⟨b5, 0, none⟩) ∧ BoxAt (((v.setCell ⟨b, 0, none⟩ (.int .i64 D1)).setCell ⟨b, 1, none⟩ (.int .i64 D2)).setCell ⟨b, 2, none⟩ (.slice sa sn sc)) b5 #[.int .i64 D1, .int .i64 D2, .slice sa sn sc] 24 ∧
      RowsAt 4 Cell.l (((v.setCell ⟨b, 0, none⟩ (.int .i64 D1)).setCell ⟨b, 1, none⟩ (.int .i64 D2)).setCell ⟨b, 2, none⟩ (.slice sa sn sc)) sa M ∧ Below w1.heap.size w1 (((v.setCell ⟨b, 0, none⟩ (.int .i64 D1)).setCell ⟨b, 1, none⟩ (.int .i64 D2)).setCell ⟨b, 2, none⟩ (.slice sa sn sc)) :=
  ⟨rfl, _, rfl, ((hb.set 0 _).set 1 _).set 2 _, rows_box h hb, ((hq.setCell (p := ⟨b, 0, none⟩) hle _).setCell (p := ⟨b, 1, none⟩) hle _).setCell (p := ⟨b, 2, none⟩) hle _⟩
theorem schemeOf_n (C R : Int) (a : Option Addr) (n : Nat) (L : List Fold) (c : Nat) (w : World) (hn : n = L.length) (hL : RowsAt 2 Fold.l w a L) (hl : L.length ≤ maxLen) (hI : ∀ x ∈ L, OkI x.c) {q : Int} {D : Int × Int} {M : List Cell} (h1 : (checkFo C R L).2 = q) (h2 : schemeD C R L = D) (h3 : schemeC C R L = M) :
    Calls Try.prog 14 #[.agg #[.int .i64 C, .int .i64 R], .slice a n c] w fun e w' => ∃ (a : Option Addr) (n c : Nat), e = .returned (.tuple #[.agg #[.int .i64 D.1, .int .i64 D.2, .slice a n c], .int .i64 q]) ∧ n = M.length ∧ RowsAt 4 Cell.l w' a M ∧ (a = none → c = 0) ∧ Below w.heap.size w w' := by
  subst hn; rw [← h1, ← h2, ← h3]; exact schemeOf_any C R a L c w hL hl hI

theorem range_first {β : Type} {g : Nat → Option β} : ∀ m, g m ≠ none → ∃ k, k ≤ m ∧ g k ≠ none ∧ ∀ j, j < k → g j = none := by
  intro m
  induction m using Nat.strongRecOn with
  | ind m ih =>
    intro h
    by_cases hc : ∃ j, j < m ∧ g j ≠ none
    · obtain ⟨j, hj, hgj⟩ := hc
      obtain ⟨k, hk, h1, h2⟩ := ih j hj hgj
      exact ⟨k, by omega, h1, h2⟩
    · refine ⟨m, Nat.le_refl _, h, fun j hj => ?_⟩
      rcases he : g j with _ | v
      · rfl
      · exact absurd ⟨j, hj, by rw [he]; simp⟩ hc
theorem folds_kinds : ∀ (L : List Fold) (C R i : Int), (foldsErr C R L i).2 = 0 → ∀ f ∈ L, 1 ≤ f.k ∧ f.k ≤ 6
  | [], _, _, _, _, f, hf => by cases hf
  | g :: L, C, R, i, h, f, hf => by
    obtain ⟨h1, h2⟩ := foldsErr_ok (L := g :: L) (k := 0) (Nat.succ_pos _) h
    rcases List.mem_cons.1 hf with rfl | hf
    · have h1 : foldErr C R f = 0 := h1
      unfold foldErr at h1
      by_cases hb : inB f.k 1 6 = false
      · rw [if_pos hb] at h1; exact absurd h1 (by decide)
      · exact inB_iff.1 (by simpa using hb)
    · exact folds_kinds L _ _ _ h2 f hf
/-- What is found for the scheme of folds. -/
structure Found (cn rn : Nat) (L X : List Fold) : Prop where
  eq : findB cn rn (schemeP cn rn L) = some X
  len : X.length ≤ L.length
  chk : (checkFo cn rn X).2 = 0
  ord : rdTo cn (schemeP cn rn L) (pileP cn rn X) (pileP cn rn X).length = ordP (2 * (cn * rn))
  few : ∀ z ∈ X, 1 ≤ z.c ∧ z.c ≤ 4
theorem scheme_found {cn rn : Nat} {L : List Fold} (h : (checkFo cn rn L).2 = 0) (hk : ∀ f ∈ L, f.k ≠ 5 ∧ f.k ≠ 6) (h12 : cn * rn ≤ 12) : ∃ X, Found cn rn L X := by
  obtain ⟨hs, hl12, hf⟩ := checkFo_ok h
  obtain ⟨sC, sR, -⟩ := side_ok hs
  have hroot : NOk (cn : Int) rn (rootF cn rn) := NOk.flat (by omega) (by omega)
  have h9 := sides_nine cn (by omega) rn (by omega) h12
  have hf : (foldsErr cn rn L 0).2 = 0 := hf
  have hpl : ∀ X, (runF cn rn (flatP cn (cn * rn)) X).2.2.getD 0 [] = pileP cn rn X := fun X => by unfold pileP; rw [Int.toNat_natCast, Int.toNat_natCast]
  have hc := lv_complete (S := schemeP cn rn L) L (rootF cn rn) 0 hroot hf (fun f hf2 => by have := folds_kinds L _ _ _ hf f hf2; have := hk f hf2; omega) (by
    show inOrd (((runF cn rn (flatP cn (cn * rn)) L).2.2.getD 0 []).flatMap (rdP cn (schemeP cn rn L))) = true
    rw [hpl, ← rdTo_all, rd_ord h _ (Nat.le_refl _)]
    unfold inOrd; rw [ordP_len]; exact decide_eq_true rfl)
  have hlen : L.length < 10 := by
    rcases Nat.lt_or_ge L.length 10 with h1 | h1
    · exact h1
    · exact absurd (lv_end _ _ hroot (show cn + rn ≤ L.length + 1 by omega)) hc
  obtain ⟨k, hkL, hg, hmin⟩ := range_first (g := fun m => lv (cn : Int) (schemeP cn rn L) m (rootF cn rn)) L.length hc
  obtain ⟨X, hX⟩ := Option.ne_none_iff_exists'.1 hg
  have hX : lv (cn : Int) (schemeP cn rn L) k (rootF cn rn) = some X := hX
  have hB : findB cn rn (schemeP cn rn L) = some X := by
    unfold findB
    rw [Int.toNat_natCast, Int.toNat_natCast, bfs_lvs 10 [rootF cn rn] (by intro y hy; rw [List.mem_singleton.1 hy]; exact hroot)]
    have e : (fun m => lvs (cn : Int) (schemeP cn rn L) m [rootF cn rn]) = fun m => lv (cn : Int) (schemeP cn rn L) m (rootF cn rn) := by funext m; exact lvs_one m rfl
    rw [e]
    exact range_found (by omega) hX hmin
  obtain ⟨s1, s2, s3, s4⟩ := lv_sound k (rootF cn rn) X hroot hX
  have s2 : ∀ i, (foldsErr cn rn X i).2 = 0 := s2
  have hchk : (checkFo cn rn X).2 = 0 := by
    unfold checkFo
    rw [if_neg (by simp [hs]), if_neg (by omega)]
    exact s2 0
  refine ⟨X, hB, by omega, hchk, ?_, s4⟩
  have s3 : inOrd (((runF cn rn (flatP cn (cn * rn)) X).2.2.getD 0 []).flatMap (rdP cn (schemeP cn rn L))) = true := s3
  rw [hpl, ← rdTo_all] at s3
  have hp := pileP_len hchk
  rw [Int.toNat_natCast, Int.toNat_natCast] at hp
  unfold inOrd at s3
  have s4 := of_decide_eq_true s3
  rw [rdTo_len (Nat.le_refl _), hp] at s4
  rw [← hp] at s4 ⊢
  exact s4
theorem okI_few {n : Int} (h : 1 ≤ n ∧ n ≤ 4) : OkI n := by
  have : n = 1 ∨ n = 2 ∨ n = 3 ∨ n = 4 := by omega
  rcases this with rfl | rfl | rfl | rfl <;> (unfold OkI; decide)
set_option maxRecDepth 100000 in
set_option maxHeartbeats 8000000 in
theorem found_walk (x y : Int) (a : Option Addr) (L : List Fold) (c : Nat) (w : World) (hL : RowsAt 2 Fold.l w a L) (hl : L.length ≤ maxLen) (hn : a = none → c = 0) (hI : ∀ z ∈ L, OkI z.c) :
    Calls Try.prog 4 #[.agg #[.int .i64 x, .int .i64 y], .slice a L.length c] w fun e w' => e = .returned (.bool true) ∧ Below w.heap.size w w' := by
  unfold maxLen at hl
  obtain ⟨ln, hln⟩ : ∃ ln, ln = L.length := ⟨_, rfl⟩
  have HLN := Lib.hid hln
  rw [← hln]
  rw [← hln] at hl
  clear hln
  go_enter Try.func4, Try.ntmps4
  go_wp2_with fail
  refine (awake_any _).mono ?_
  rintro e w1 ⟨rfl, hb1⟩
  have hB1 := ((Below.refl w.heap.size w).alloc (Nat.le_refl _) (.cells #[.int .i64 x, .int .i64 y] 38)).trans (hb1.mono (B' := w.heap.size) (by simp))
  have bx1 := (BoxAt.new w #[.int .i64 x, .int .i64 y] 38).below hb1
  have hL1 := (hL.alloc (.cells #[.int .i64 x, .int .i64 y] 38)).below hb1
  clear hb1
  have c0 := bx1.cell 0; have c1 := bx1.cell 1
  simp at c0 c1
  by_cases h12 : 12 < ln
  · go_wp2_with fail
    go_ret
    exact ⟨rfl, hB1⟩
  obtain ⟨se, hse⟩ : ∃ se, se = sideErr x y := ⟨_, rfl⟩
  have HSE := Lib.hid hse
  have hcs : ∀ W, Calls Try.prog 13 #[.int .i64 x, .int .i64 y] W fun e w' => e = .returned (.int .i64 se) ∧ W = w' := fun W => by rw [hse]; exact checkSheet_any x y W
  have HCS := Lib.hid hcs
  clear hse hcs
  by_cases hs0 : se = 0
  · subst hs0
    obtain ⟨sC, sR, sm⟩ := side_ok HSE.out.symm
    obtain ⟨cn, rfl⟩ : ∃ n : Nat, x = n := ⟨x.toNat, by omega⟩
    obtain ⟨rn, rfl⟩ : ∃ n : Nat, y = n := ⟨y.toNat, by omega⟩
    have hc8 : 1 ≤ cn ∧ cn ≤ 8 := by omega
    have hr8 : 1 ≤ rn ∧ rn ≤ 8 := by omega
    obtain ⟨m, hm⟩ : ∃ m, m = cn * rn := ⟨_, rfl⟩
    have hmI : (cn : Int) * (rn : Int) = (m : Int) := by rw [hm, Int.natCast_mul]
    have hm64 : m ≤ 64 := by rw [hm]; exact Nat.mul_le_mul hc8.2 hr8.2
    have HM := Lib.hid hm
    have hw1 : IntKind.i64.wrap (m : Int) = (m : Int) := IntWalk.i64_in _ (by omega)
    clear hm sC sR sm
    by_cases hm12 : 12 < m
    · go_wp2_with (go_at_call 13; refine (HCS.out _).mono ?_; rintro e w' ⟨rfl, rfl⟩)
      go_ret
      exact ⟨rfl, hB1⟩
    have hm12' : m ≤ 12 := by omega
    have HC8 := Lib.hid hc8; have HR8 := Lib.hid hr8
    go_wp2_with (go_at_call 13; refine (HCS.out _).mono ?_; rintro e w' ⟨rfl, rfl⟩)
    go_loopw [5] (fun i wr => ∃ k : Nat, k ≤ ln ∧ i = .int .i64 (k : Int) ∧ wr = w1 ∧ Hid (∀ j, (hj : j < L.length) → j < k → L[j].k ≠ 5 ∧ L[j].k ≠ 6)) (fun i _ => ln - (intOf i).toNat)
    case atStart => exact ⟨0, Nat.zero_le _, rfl, rfl, Lib.hid (fun j _ h => by omega)⟩
    case round =>
      obtain ⟨k, hk, rfl, rfl, HK⟩ := hrel
      by_cases hlt : k < ln
      · have hkI : (k : Int) < (ln : Int) := by omega
        have hkL : k < L.length := by rw [← HLN.out]; exact hlt
        obtain ⟨ad, rfl, had, s0, s1⟩ := hL1.fold hkL
        obtain ⟨f, ef⟩ : ∃ f, f = L[k] := ⟨_, rfl⟩
        rw [← ef] at s0 s1
        have EF := Lib.hid ef
        obtain ⟨fk, fc⟩ := f
        simp only at s0 s1
        clear ef
        by_cases h5 : fk = 5
        · subst h5
          go_wp2_with fail
          go_ret
          exact ⟨rfl, hB1⟩
        · have d5 : (fk == 5) = false := by simpa using h5
          by_cases h6 : fk = 6
          · subst h6
            go_wp2_with fail
            go_ret
            exact ⟨rfl, hB1⟩
          · have d6 : (fk == 6) = false := by simpa using h6
            go_wp2_with fail
            go_roundw
            case rel =>
              refine ⟨k + 1, by omega, by go_num, (by first | rfl | trivial), Lib.hid (fun j hj hjk => ?_)⟩
              by_cases hjk2 : j = k
              · subst hjk2; rw [← EF.out]; exact ⟨h5, h6⟩
              · exact HK.out j hj (by omega)
            case measure => simp [intOf]; omega
      · have hkI : ¬ (k : Int) < (ln : Int) := by omega
        have HKK : Hid (∀ f ∈ L, f.k ≠ 5 ∧ f.k ≠ 6) := Lib.hid (fun f hf => by
          obtain ⟨j, hj, rfl⟩ := List.getElem_of_mem hf
          exact HK.out j hj (by have := HLN.out; omega))
        obtain ⟨q, hq⟩ : ∃ q, (checkFo cn rn L).2 = q := ⟨_, rfl⟩
        obtain ⟨D, hD⟩ : ∃ D, schemeD cn rn L = D := ⟨_, rfl⟩
        obtain ⟨M, hM⟩ : ∃ M, schemeC cn rn L = M := ⟨_, rfl⟩
        have HQ := Lib.hid hq; have HD := Lib.hid hD; have HMM := HM; have HI := Lib.hid hI; have HNC := Lib.hid hn
        have HM := Lib.hid hM
        have HLM : Hid (L.length ≤ maxLen) := Lib.hid (by have := HLN.out; unfold maxLen; omega)
        have HLL : Hid (L.length ≤ 1000000) := Lib.hid (by have := HLN.out; omega)
        obtain ⟨D1, D2⟩ := D
        have hbl := bx1.lt
        have hq : Below wr.heap.size wr wr.drew := (Below.refl _ wr).drew
        have jn0 := World.new_ne _ _ c0; have jn1 := World.new_ne _ _ c1
        clear hD hM hI hn h12 hc8 hr8
        go_wp2_with fail
        go_cut [6, 7] from 54 to 105 (fun v5 v6 wx => v6 = .int .i64 q ∧ ∃ sa sn sc, Hid (sn = M.length) ∧ Hid (sa = none → sc = 0) ∧ ∃ b5, v5 = .pointer (some ⟨b5, 0, none⟩) ∧ BoxAt wx b5 #[.int .i64 D1, .int .i64 D2, .slice sa sn sc] 24 ∧ RowsAt 4 Cell.l wx sa M ∧ Below wr.heap.size wr wx)
        case first =>
          rename_i J9 K9 hR9 hM9
          go_region_held3 (fun w' => w'.cell? ⟨w.heap.size, 0, none⟩ = some (.int .i64 cn) ∧ w'.cell? ⟨w.heap.size, 1, none⟩ = some (.int .i64 rn)) (first | exact ⟨j0, j1⟩ | go_keep)
            (first
              | (go_at_call 15; refine (folds_any a ln L c _ HLN.out (by first | exact hL1.below hq | exact (hL1.below hq).alloc _ | exact (hL1.alloc _).drew) HLL.out HNC.out).mono ?_; rintro e v ⟨v2, rfl, hO2, hbv⟩; obtain ⟨a2, d2, e2, hr2, -, -, -, -⟩ := hO2.rows fold_l; obtain ⟨n2, hn2⟩ : ∃ n, n = L.length := ⟨_, rfl⟩; rw [← hn2] at e2; subst e2; have HN2 := Lib.hid hn2; clear hn2; first | ((with_reducible have hq := keep_same hq hbv); (try (have bal := bal.below hbv; have fz := fun j => bal.free j; have hbl8 := bal.lt; have y0 := bal.cell 0; have y1 := bal.cell 1; have y2 := bal.cell 2; simp at y0 y1 y2)); have j0 := (hq.cell (p := ⟨w.heap.size, 0, none⟩) hbl).trans c0; have jn0 := World.new_ne _ _ j0; have j1 := (hq.cell (p := ⟨w.heap.size, 1, none⟩) hbl).trans c1; have jn1 := World.new_ne _ _ j1) | ((with_reducible have bal := box_new hbv); have fz := fun j => bal.free j; have hbl8 := bal.lt; have y0 := bal.cell 0; have y1 := bal.cell 1; have y2 := bal.cell 2; simp at y0 y1 y2; have hle := hq.size; obtain ⟨nx1, ny1⟩ := lt_ne (Nat.lt_of_lt_of_le hbl hq.size); (with_reducible have hq := keep_new hq hbv); have j0 := (hq.cell (p := ⟨w.heap.size, 0, none⟩) hbl).trans c0; have jn0 := World.new_ne _ _ j0; have j1 := (hq.cell (p := ⟨w.heap.size, 1, none⟩) hbl).trans c1; have jn1 := World.new_ne _ _ j1) | ((with_reducible have bal := box_newD hbv); have fz := fun j => bal.free j; have hbl8 := bal.lt; have y0 := bal.cell 0; have y1 := bal.cell 1; have y2 := bal.cell 2; simp at y0 y1 y2; have hle := Nat.le_refl wr.heap.size; obtain ⟨nx1, ny1⟩ := lt_ne (Nat.lt_of_lt_of_le hbl (Nat.le_refl wr.heap.size)); (with_reducible have hq := keep_newD hbv); have j0 := (hq.cell (p := ⟨w.heap.size, 0, none⟩) hbl).trans c0; have jn0 := World.new_ne _ _ j0; have j1 := (hq.cell (p := ⟨w.heap.size, 1, none⟩) hbl).trans c1; have jn1 := World.new_ne _ _ j1))
              | (go_at_call 14; refine (schemeOf_n (cn : Int) (rn : Int) a2 n2 L d2 _ HN2.out (by first | exact hr2 | exact hr2.alloc _) HLM.out HI.out HQ.out HD.out HM.out).mono ?_; rintro e v ⟨sa, sn, sc, rfl, hsn, hsr, hsnil, hbv⟩; have HSN := Lib.hid hsn; have HSX := Lib.hid hsnil; clear hsn hsnil; first | ((with_reducible have hq := keep_same hq hbv); (try (have bal := bal.below hbv; have fz := fun j => bal.free j; have hbl8 := bal.lt; have y0 := bal.cell 0; have y1 := bal.cell 1; have y2 := bal.cell 2; simp at y0 y1 y2)); have j0 := (hq.cell (p := ⟨w.heap.size, 0, none⟩) hbl).trans c0; have jn0 := World.new_ne _ _ j0; have j1 := (hq.cell (p := ⟨w.heap.size, 1, none⟩) hbl).trans c1; have jn1 := World.new_ne _ _ j1) | ((with_reducible have bal := box_new hbv); have fz := fun j => bal.free j; have hbl8 := bal.lt; have y0 := bal.cell 0; have y1 := bal.cell 1; have y2 := bal.cell 2; simp at y0 y1 y2; have hle := hq.size; obtain ⟨nx1, ny1⟩ := lt_ne (Nat.lt_of_lt_of_le hbl hq.size); (with_reducible have hq := keep_new hq hbv); have j0 := (hq.cell (p := ⟨w.heap.size, 0, none⟩) hbl).trans c0; have jn0 := World.new_ne _ _ j0; have j1 := (hq.cell (p := ⟨w.heap.size, 1, none⟩) hbl).trans c1; have jn1 := World.new_ne _ _ j1) | ((with_reducible have bal := box_newD hbv); have fz := fun j => bal.free j; have hbl8 := bal.lt; have y0 := bal.cell 0; have y1 := bal.cell 1; have y2 := bal.cell 2; simp at y0 y1 y2; have hle := Nat.le_refl wr.heap.size; obtain ⟨nx1, ny1⟩ := lt_ne (Nat.lt_of_lt_of_le hbl (Nat.le_refl wr.heap.size)); (with_reducible have hq := keep_newD hbv); have j0 := (hq.cell (p := ⟨w.heap.size, 0, none⟩) hbl).trans c0; have jn0 := World.new_ne _ _ j0; have j1 := (hq.cell (p := ⟨w.heap.size, 1, none⟩) hbl).trans c1; have jn1 := World.new_ne _ _ j1)))
          all_goals
            refine hM9 _ _ ?_
            refine Met.intro ?_
            refine hR9 _ _ ?_
            (repeat apply Exists.intro)
            refine ⟨?_, rfl⟩
          all_goals
            first
              | exact ⟨rfl, sa, sn, sc, HSN, HSX, (sc_fin1 hq hsr q).2⟩
              | exact ⟨rfl, sa, sn, sc, HSN, HSX, (sc_fin2 bal hle hq hsr q).2⟩
        case rest =>
        obtain ⟨rfl, sa, sn, sc, HSN, HSX, b5, rfl, bs, hsr, hq1⟩ := hcut
        rename World => w2
        have hB2 := hB1.trans (hq1.mono (B' := w.heap.size) hB1.size)
        have bx2 := bx1.below hq1
        clear hq1 hq bx1 hL1 hB1 c0 c1 hbl jn0 jn1
        by_cases he : q = 0
        · subst he
          have s1 : (D1, D2) = ((cn : Int), (rn : Int)) := by rw [← HD.out]; unfold schemeD; rw [if_pos HQ.out]
          injection s1 with e1 e2
          subst e1 e2
          have HMS : Hid (M = schemeP cn rn L) := Lib.hid (by rw [← HM.out]; unfold schemeC; rw [if_pos HQ.out])
          have hml : M.length = m := by rw [HMS.out, schemeP_len, HMM.out]
          have HML : Hid (M.length ≤ 1000000) := Lib.hid (by omega)
          have HNE : Hid (¬ (13 ≤ M.length ∧ M.length ≤ 16)) := Lib.hid (by omega)
          have HSR : Hid ((checkSc cn rn M).2 = 0) := Lib.hid (by rw [HMS.out]; exact schemeP_right HQ.out)
          obtain ⟨X, hX⟩ := scheme_found HQ.out HKK.out (by rw [← HMM.out]; exact hm12')
          have HX := Lib.hid hX
          have HFE : Hid (findE cn rn M = 0) := Lib.hid (by unfold findE; rw [if_neg (by simp [HSR.out]), if_neg (by omega), HMS.out, HX.out.eq]; rfl)
          have HFP : Hid (findP cn rn M = X) := Lib.hid (by unfold findP; rw [if_neg (by simp [HSR.out]), if_neg (by omega), HMS.out, HX.out.eq]; rfl)
          have HRE : Hid (readE cn rn M X = 0) := Lib.hid (by unfold readE; rw [if_pos HSR.out, HX.out.chk])
          have HRP : Hid (readP cn rn M X = ordP (2 * m)) := Lib.hid (by unfold readP; rw [if_pos ⟨HSR.out, HX.out.chk⟩, HMS.out, HX.out.ord, HMM.out])
          have HXL : Hid (X.length ≤ ln) := Lib.hid (by rw [HLN.out]; exact HX.out.len)
          have HXS : Hid (X.length ≤ 1000000) := Lib.hid (by have := HXL.out; omega)
          have HXM : Hid (X.length ≤ maxLen) := Lib.hid (by have := HXL.out; unfold maxLen; omega)
          have HXI : Hid (∀ z ∈ X, OkI z.c) := Lib.hid (fun z hz => okI_few (HX.out.few z hz))
          have d0 := bs.cell 0; have d1 := bs.cell 1; have d2 := bs.cell 2
          simp at d0 d1 d2
          clear hX hml
          go_wp2_with fail
          refine (copySc_n (cn : Int) (rn : Int) sa sn M sc _ HSN.out hsr HML.out HSX.out).mono ?_
          rintro e w5 ⟨a5, n5, e5, rfl, hn5, hr5, -, hb5⟩
          have HN5 := Lib.hid hn5
          have hB5 := hB2.trans (hb5.mono (B' := w.heap.size) hB2.size)
          have bx5 := bx2.below hb5; have bs5 := bs.below hb5; have hsr5 := hsr.below hb5
          clear hb5 hB2 bx2 bs hsr d0 d1 d2 hn5
          go_wp2_with fail
          refine (foldsFor_n (cn : Int) (rn : Int) a5 M n5 e5 _ HN5.out hr5 HML.out HNE.out HFE.out HFP.out).mono ?_
          rintro e w6 ⟨xa, xn, xc, rfl, hxn, hxr, hxnil, hb6⟩
          have HXN := Lib.hid hxn
          have HXC := Lib.hid hxnil
          have hxl : xn ≤ ln := by rw [hxn]; exact HXL.out
          have hB6 := hB5.trans (hb6.mono (B' := w.heap.size) hB5.size)
          have bx6 := bx5.below hb6; have bs6 := bs5.below hb6; have hsr6 := hsr5.below hb6
          clear hb6 hB5 bx5 bs5 hsr5 hr5 hxn hxnil
          have d0 := bs6.cell 0; have d1 := bs6.cell 1; have d2 := bs6.cell 2
          simp at d0 d1 d2
          go_wp2_with fail
          refine (copySc_n (cn : Int) (rn : Int) sa sn M sc _ HSN.out hsr6 HML.out HSX.out).mono ?_
          rintro e w7 ⟨a7, n7, e7, rfl, hn7, hr7, -, hb7⟩
          have HN7 := Lib.hid hn7
          have hB7 := hB6.trans (hb7.mono (B' := w.heap.size) hB6.size)
          have bx7 := bx6.below hb7; have hxr7 := hxr.below hb7
          clear hb7 hB6 bx6 bs6 hsr6 d0 d1 d2 hn7 hxr
          go_wp2_with fail
          refine (folds_any xa xn X xc _ HXN.out hxr7 HXS.out HXC.out).mono ?_
          rintro e w8 ⟨v8, rfl, hO8, hb8⟩
          obtain ⟨a8, d8, e8, hr8, -, -, -, -⟩ := hO8.rows fold_l
          obtain ⟨n8, hn8⟩ : ∃ n, n = X.length := ⟨_, rfl⟩
          rw [← hn8] at e8
          subst e8
          have HN8 := Lib.hid hn8
          have hr78 := hr7.below hb8
          have hB8 := hB7.trans (hb8.mono (B' := w.heap.size) hB7.size)
          have bx8 := bx7.below hb8
          clear hn8 hb8 hB7 bx7 hr7 hO8 hxr7
          go_wp2_with fail
          refine (reads_n (cn : Int) (rn : Int) a7 n7 M e7 a8 n8 X d8 _ HN7.out hr78 HML.out HN8.out hr8 HXM.out HXI.out HRE.out HRP.out).mono ?_
          rintro e w9 ⟨pa, pn, pc, rfl, hpn, hpr, -, hb9⟩
          have hB9 := hB8.trans (hb9.mono (B' := w.heap.size) hB8.size)
          have bx9 := bx8.below hb9
          rw [ordP_len] at hpn
          have HPN := Lib.hid hpn
          have hw2 : IntKind.i64.wrap (2 * (cn : Int)) = 2 * (cn : Int) := IntWalk.i64_in _ (by have := HC8.out; omega)
          have hpnI : 2 * (cn : Int) * (rn : Int) = (pn : Int) := by rw [hpn, Int.mul_assoc, hmI]; push_cast; rfl
          have hpn2 : pn ≤ 128 := by omega
          have hw3 : IntKind.i64.wrap (pn : Int) = (pn : Int) := IntWalk.i64_in _ (by omega)
          have hxI : (xn : Int) ≤ (ln : Int) := by omega
          have c0 := bx9.cell 0; have c1 := bx9.cell 1
          simp at c0 c1
          have HP2 : Hid (2 * m ≤ 1000) := Lib.hid (by omega)
          clear hb9 hB8 bx8 hr8 hr78 hpn
          go_wp2_with (go_at_call 18; refine (inOrder_any pa pn (2 * m) pc _ HPN.out hpr HP2.out).mono ?_; rintro e v ⟨rfl, hbv⟩; have hB10 := hB9.trans (hbv.mono (B' := w.heap.size) hB9.size))
          go_ret
          exact ⟨rfl, hB10⟩
        · have s1 : (D1, D2) = ((0 : Int), (0 : Int)) := by rw [← HD.out]; unfold schemeD; rw [if_neg (by rw [HQ.out]; exact he)]
          injection s1 with e1 e2
          subst e1 e2
          have e1 := HSN.out
          rw [show M = [] by rw [← HM.out]; unfold schemeC; rw [if_neg (by rw [HQ.out]; exact he)]] at e1
          simp at e1
          subst e1
          have heb : (q != 0) = true := by simpa using he
          have heb2 : (q == 0) = false := by simpa using he
          have d0 := bs.cell 0; have d1 := bs.cell 1; have d2 := bs.cell 2
          simp at d0 d1 d2
          clear he
          go_wp2_with (go_at_call 16; refine (none_any _ _ _).mono ?_; rintro e v ⟨rfl, hbv⟩; have hB4 := hB2.trans (hbv.mono (B' := w.heap.size) hB2.size))
          go_ret
          exact ⟨rfl, hB4⟩
  · have hd : (se == 0) = false := by simpa using hs0
    have hd2 : (se != 0) = true := by simpa using hs0
    go_wp2_with (go_at_call 13; refine (HCS.out _).mono ?_; rintro e w' ⟨rfl, rfl⟩)
    go_ret
    exact ⟨rfl, hB1⟩
end Go.Proofs.Ytmolejpbpcodbaa
