/-
  Deciding: the reference's walk.
-/
import Derived.Test.YtlkkociijfdcgaaGreatDoorLY
import Derived.Test.YtlkkociijfdcgaaGreatDoorVZ
import Derived.Test.YtlkkociijfdcgaaGreatDoorLZ
import Derived.Test.YtlkkociijfdcgaaGreatDoorZY
namespace Go.Proofs.YtlkkociijfdcgaaGreatDoor
open Go.RowKit Go.Maps Go.Shelf

/-- The level of a place. -/
def lvAt (r : RU) (s : ByteArray) (p : Nat) : Int := (lvTo (patG r.ps.l) (lowS s) r.ps.l.length).getD p 0
def decB (r : RU) (s : ByteArray) (p : Nat) (j : Nat) : Bool := (lvOne (patG r.ps.l j) (lowS s)).getD p 0 == lvAt r s p
/-- What the reference's Deciding answers. -/
def decR (r : RU) (s : ByteArray) (place : Int) : Int × Int := if inB place 0 s.size = false then (0, 2) else if lvAt r s place.toNat = 0 then (0, 12) else match firstAt (decB r s place.toNat) (r.ps.l.length - 0) 0 with
  | some i => ((i : Int), 0)
  | none => (0, 0)
structure DKnow (w : World) (r : RU) (wr : World) : Prop where
  box : wr.heap[w.heap.size]? = some (.cells #[.slice r.ps.a r.ps.l.length r.ps.c, .slice r.es.a r.es.l.length r.es.c, .slice r.bs.a r.bs.l.length r.bs.c, .int .i64 r.left, .int .i64 r.right] 24 (0, 0))
  low : Below w.heap.size w wr
theorem DKnow.below {w : World} {r : RU} {wr wr' : World} (h : DKnow w r wr) (hb : Below wr.heap.size wr wr') : DKnow w r wr' := ⟨(hb.block _ (heap_lt h.box)).trans h.box, h.low.trans (hb.mono h.low.size)⟩
set_option maxRecDepth 100000 in
set_option maxHeartbeats 2000000 in
theorem refDeciding_any (r : RU) (s : ByteArray) (place : Int) (w : World) (hR : r.at_ w) (hS : TXSmall r.ps.l) (he : (checkR r).2 = 0) (hs : s.size ≤ 900) :
    Calls Tryz.prog 60 #[.agg r.cells, .string s, .int .i64 place] w fun e w' => e = .returned (.tuple #[.int .i64 (decR r s place).1, .int .i64 (decR r s place).2]) ∧ Below w.heap.size w w' := by
  obtain ⟨h60, hfine⟩ := checkR_fine he
  have HR := Lib.hid (fun W (h : DKnow w r W) => hR.below h.low)
  have HF := Lib.hid hfine
  have HLO := Lib.hid (fun W (h : r.at_ W) => refLevelsOf_any r s W h hS he hs)
  have hK0 : DKnow w r (w.alloc (.cells #[.slice r.ps.a r.ps.l.length r.ps.c, .slice r.es.a r.es.l.length r.es.c, .slice r.bs.a r.bs.l.length r.bs.c, .int .i64 r.left, .int .i64 r.right] 24)) := ⟨heap_new w _, (Below.refl w.heap.size w).alloc (Nat.le_refl _) _⟩
  have HLV := Lib.hid (lvTo_ok (fn := patG r.ps.l) (s := lowS s) (m := r.ps.l.length) (fun j hj k => ((hfine j hj).2.1.digs k).2) r.ps.l.length (Nat.le_refl _))
  have HSZ := Lib.hid (lowS_size s)
  have HL := Lib.hid (fun x I A n c W h1 h2 h3 h4 h5 => refLevels_any x I A n c s W h1 h2 h3 h4 h5 hs)
  obtain ⟨D, hD⟩ : ∃ D, D = decR r s place := ⟨_, rfl⟩
  have HD := Lib.hid hD
  rw [← hD]
  unfold RU.cells at *
  clear hD hR hfine he
  cases hb : inB place 0 s.size
  · have HV := Lib.hid (show D = (0, 2) by rw [HD.out]; unfold decR; rw [if_pos hb])
    have hlow := hK0.low
    clear hK0
    go_enter Tryz.func60, Tryz.ntmps60
    go_wp2_with fail
    refine (within_any _ _ _ _).mono ?_
    rintro e w' ⟨rfl, rfl⟩
    rw [hb]
    go_wp2
    go_ret2
    rw [HV.out]
    exact ⟨rfl, hlow⟩
  · obtain ⟨p, rfl, hp⟩ : ∃ p : Nat, place = (p : Int) ∧ p ≤ s.size := by
      unfold inB at hb
      simp at hb
      exact ⟨place.toNat, by omega, by omega⟩
    have hp1 : p < s.size + 1 := by omega
    have HDR := Lib.hid (show D = (if lvAt r s p = 0 then ((0 : Int), (12 : Int)) else match firstAt (decB r s p) (r.ps.l.length - 0) 0 with | some i => ((i : Int), (0 : Int)) | none => ((0 : Int), (0 : Int))) by rw [HD.out]; unfold decR; rw [if_neg (by rw [hb]; decide)]; rfl)
    have hpI : (p : Int) < (s.size : Int) + 1 := by omega
    have hp0 : (0 : Int) ≤ (p : Int) := by omega
    have q : ∃ n, n = lvAt r s p := ⟨_, rfl⟩
    obtain ⟨n, hn⟩ := q
    rw [← hn] at HDR
    have HN := Lib.hid hn
    clear hn HD
    go_enter Tryz.func60, Tryz.ntmps60
    go_wp2_with fail
    refine (within_any _ _ _ _).mono ?_
    rintro e w' ⟨rfl, rfl⟩
    rw [hb]
    obtain ⟨q0, q1, q2, q3, q4⟩ : _ ∧ _ ∧ _ ∧ _ ∧ _ := ⟨cell_of_row _ _ 0 _ _ (0, 0) hK0.box, cell_of_row _ _ 1 _ _ (0, 0) hK0.box, cell_of_row _ _ 2 _ _ (0, 0) hK0.box, cell_of_row _ _ 3 _ _ (0, 0) hK0.box, cell_of_row _ _ 4 _ _ (0, 0) hK0.box⟩
    go_wp2_with fail
    refine (HLO.out _ (HR.out _ hK0)).mono ?_
    rintro e w2 ⟨h, rfl, hrow, hh, hb2⟩
    have hK2 := hK0.below hb2
    have hc : w2.cell? ⟨h, p, none⟩ = some (.int .i64 n) := by
      rw [HN.out]
      exact hrow.cell (j := p) (by rw [HLV.out.1, HSZ.out]; exact hp1)
    clear hrow hh hb2 hK0 q0 q1 q2 q3 q4 HLO
    by_cases hn0 : n = 0
    · have hnb : (n == 0) = true := by rw [hn0]; try rfl
      have HV := Lib.hid (show D = (0, 12) by rw [HDR.out, if_pos hn0])
      have hlow := hK2.low
      clear hn0
      go_wp2
      go_ret2
      rw [HV.out]
      exact ⟨rfl, hlow⟩
    have hnb : (n == 0) = false := by simpa using hn0
    have HDR2 := Lib.hid (HDR.out.trans (if_neg hn0))
    go_wp2_with fail
    clear hc hnb hn0
    go_loopw [9] (fun v9 wr => ∃ k : Nat, k ≤ r.ps.l.length ∧ v9 = .int .i64 k ∧ Hid (firstAt (decB r s p) (r.ps.l.length - 0) 0 = firstAt (decB r s p) (r.ps.l.length - k) k) ∧ DKnow w r wr) (fun v9 _ => r.ps.l.length - (intOf v9).toNat)
    case atStart => exact ⟨0, Nat.zero_le _, rfl, Lib.hid rfl, hK2⟩
    case round =>
      obtain ⟨k, hk, rfl, HFA, hK⟩ := hrel
      clear hK2
      have q0 : wr.cell? ⟨w.heap.size, 0, none⟩ = some (.slice r.ps.a r.ps.l.length r.ps.c) := cell_of_row wr _ 0 _ _ (0, 0) hK.box
      by_cases hlt : k < r.ps.l.length
      · have hkl : (k : Int) < (r.ps.l.length : Int) := by omega
        obtain ⟨p1, ep1, hp1', hc1⟩ := ((HR.out _ hK).1.1) k hlt
        rw [ep1] at q0
        obtain ⟨hpo, hfi, h16⟩ := HF.out k hlt
        have hz := hS k hlt
        obtain ⟨t, et⟩ : ∃ t, t = r.ps.l.getD k noTx := ⟨_, rfl⟩
        rw [← et] at hc1 hpo hz
        have HRP := Lib.hid (fun W => readPattern_any t W hz)
        have HPO := Lib.hid hpo
        have HDB := Lib.hid (show decB r s p k = ((lvOne (patG r.ps.l k) (lowS s)).getD p 0 == n) by rw [HN.out]; try rfl)
        obtain ⟨x, hx⟩ : ∃ x, x = patG r.ps.l k := ⟨_, rfl⟩
        rw [← hx] at hfi h16 HPO HDB
        have HFI := Lib.hid hfi
        clear et ep1 hx hpo hfi
        go_wp2_with fail
        refine (HRP.out _).mono ?_
        rintro e w2 ⟨hb2, I, A, m, c, rfl, hpp⟩
        obtain ⟨hIi, hrow⟩ := hpp x HPO.out
        obtain ⟨hm, hints⟩ := hrow.ints
        have HIi := Lib.hid hIi
        have HM := Lib.hid hm
        have hK2 := hK.below hb2
        have hb3 := (Below.refl w2.heap.size w2).alloc (Nat.le_refl _) (.cells #[.string I, .slice A m c] 149)
        have hK3 := hK2.below hb3
        have hints3 := hints.below hb3
        rw [HPO.out]
        clear hpp hIi hm hrow hints q0 hc1 hK hK2 hb2 hb3 HRP
        go_wp2_with fail
        refine (HL.out x I A m c _ HIi.out hints3 HM.out HFI.out h16).mono ?_
        rintro e w4 ⟨h, rfl, hrow4, hh, hb4⟩
        have hK4 := hK3.below hb4
        have hc := hrow4.cell (j := p) (by rw [lvOne_len, HSZ.out]; exact hp1)
        obtain ⟨dv, hdv⟩ : ∃ dv, dv = (lvOne x (lowS s)).getD p 0 := ⟨_, rfl⟩
        rw [← hdv] at hc HDB
        clear hdv hrow4 hh hb4 hK3 hints3 h16
        by_cases hd : dv = n
        · have hdb : (dv == n) = true := by rw [hd]; simp
          have hnb : decB r s p k = true := by rw [HDB.out, hdb]
          have HTN := Lib.hid (firstAt_stop hlt hnb)
          have HV := Lib.hid (show D = ((k : Int), 0) by rw [HDR2.out, HFA.out, HTN.out])
          have hlow := hK4.low
          clear hd hnb
          go_wp2
          go_ret2
          rw [HV.out]
          exact ⟨rfl, hlow⟩
        · have hdb : (dv == n) = false := by simpa using hd
          have hnb : decB r s p k = false := by rw [HDB.out, hdb]
          have HTN := Lib.hid (firstAt_go hlt hnb)
          clear hd hnb
          go_wp2
          go_roundw
          case rel => exact ⟨k + 1, by omega, by go_num, Lib.hid (HFA.out.trans HTN.out), hK4⟩
          case measure => simp [intOf]; omega
      · obtain rfl : k = r.ps.l.length := by omega
        have hkl : ¬ (r.ps.l.length : Int) < (r.ps.l.length : Int) := by omega
        have HTN := Lib.hid (firstAt_end (q := decB r s p) hlt)
        have HV := Lib.hid (show D = (0, 0) by rw [HDR2.out, HFA.out, HTN.out])
        have hlow := hK.low
        clear hK
        go_wp2
        go_ret2
        rw [HV.out]
        exact ⟨rfl, hlow⟩
end Go.Proofs.YtlkkociijfdcgaaGreatDoor

namespace Go.Proofs.YtlkkociijfdcgaaGreatDoor
open Go.RowKit Go.Maps Go.Shelf

def hasDig (ds : List Int) (level : Int) (at_ pl : Nat) : Bool := if at_ ≤ pl ∧ pl - at_ < ds.length then ds.getD (pl - at_) 0 == level else false
set_option maxRecDepth 100000 in
set_option maxHeartbeats 1000000 in
theorem hasDigit_any (ps : ByteArray) (A : Option Addr) (c : Nat) (ds : List Int) (b1 b2 : Bool) (level : Int) (at_ pl : Nat) (w : World) (hI : IntsAt w A ds) (hd : ds.length ≤ 1000) (ha : at_ ≤ 1000) (hp : pl ≤ 1000) :
    Calls Tryz.prog 166 #[.agg #[.string ps, .slice A ds.length c, .bool b1, .bool b2], .int .i64 level, .int .i64 at_, .int .i64 pl] w fun e w' => e = .returned (.bool (hasDig ds level at_ pl)) ∧ Below w.heap.size w w' := by
  have hb0 := (Below.refl w.heap.size w).alloc (Nat.le_refl _) (.cells #[.string ps, .slice A ds.length c, .bool b1, .bool b2] 249)
  have hI0 := hI.below hb0
  have hB := heap_new w (.cells #[.string ps, .slice A ds.length c, .bool b1, .bool b2] 249)
  have c1 : (w.alloc (.cells #[.string ps, .slice A ds.length c, .bool b1, .bool b2] 249)).cell? ⟨w.heap.size, 1, none⟩ = some (.slice A ds.length c) := cell_of_row _ _ 1 _ _ (0, 0) hB
  by_cases h1 : at_ ≤ pl
  · have g1 : ((at_ : Int) ≤ (pl : Int)) := by omega
    have hs : (pl : Int) - (at_ : Int) = ((pl - at_ : Nat) : Int) := by omega
    obtain ⟨k, hk⟩ : ∃ k, k = pl - at_ := ⟨_, rfl⟩
    rw [← hk] at hs
    by_cases h2 : k < ds.length
    · have g2 : (k : Int) < (ds.length : Int) := by omega
      obtain ⟨ad, rfl, hal, hy⟩ := hI0.at_ h2
      have hV : hasDig ds level at_ pl = (ds.getD k 0 == level) := by unfold hasDig; rw [← hk, if_pos ⟨h1, h2⟩]
      have HV := Lib.hid hV
      obtain ⟨dv, hdv⟩ : ∃ dv, dv = ds.getD k 0 := ⟨_, rfl⟩
      rw [← hdv] at hy HV
      have g0 : (0 : Int) ≤ (k : Int) := by omega
      have gd2 : decide ((k : Int) < (ds.length : Int)) = true := decide_eq_true g2
      have gd0 : decide ((0 : Int) ≤ (k : Int)) = true := decide_eq_true g0
      clear hV hdv hI hI0 hk
      go_enter Tryz.func166, Tryz.ntmps166
      go_wp2_with fail
      go_ret
      rw [HV.out]
      exact ⟨rfl, hb0⟩
    · have g2 : ¬ (k : Int) < (ds.length : Int) := by omega
      have hV : hasDig ds level at_ pl = false := by unfold hasDig; rw [← hk, if_neg (fun h => h2 h.2)]
      have HV := Lib.hid hV
      have g0 : (0 : Int) ≤ (k : Int) := by omega
      have gd2 : decide ((k : Int) < (ds.length : Int)) = false := decide_eq_false g2
      have gd0 : decide ((0 : Int) ≤ (k : Int)) = true := decide_eq_true g0
      have gd2n : decide (k < ds.length) = false := decide_eq_false h2
      clear hV hI hI0 hk
      go_enter Tryz.func166, Tryz.ntmps166
      go_wp2_with fail
      go_ret
      rw [HV.out]
      exact ⟨rfl, hb0⟩
  · have hV : hasDig ds level at_ pl = false := by unfold hasDig; rw [if_neg (fun h => h1 h.1)]
    have HV := Lib.hid hV
    obtain ⟨z, hz, hzn⟩ : ∃ z : Int, (pl : Int) - (at_ : Int) = z ∧ z < 0 := ⟨_, rfl, by omega⟩
    have hzl : -1000 ≤ z := by omega
    have gd0 : decide ((0 : Int) ≤ z) = false := decide_eq_false (by omega)
    have gn : ¬ (0 : Int) ≤ z := by omega
    clear hV hI hI0
    go_enter Tryz.func166, Tryz.ntmps166
    go_wp2_with fail
    go_ret
    rw [HV.out]
    exact ⟨rfl, hb0⟩
end Go.Proofs.YtlkkociijfdcgaaGreatDoor

namespace Go.Proofs.YtlkkociijfdcgaaGreatDoor
open Go.RowKit Go.Maps Go.Shelf

theorem mxs_mem {f : Nat → Int} : ∀ {l : List Nat} {m : Int}, mxs f l m = m ∨ ∃ a ∈ l, mxs f l m = f a
  | [], _ => Or.inl rfl
  | b :: l, m => by
    show mxs f l (max m (f b)) = m ∨ ∃ a ∈ b :: l, mxs f l (max m (f b)) = f a
    rcases mxs_mem (f := f) (l := l) (m := max m (f b)) with h | ⟨a, ha, h⟩
    · rcases Int.le_total m (f b) with hc | hc
      · exact Or.inr ⟨b, List.mem_cons_self, by rw [h, Int.max_eq_right hc]⟩
      · exact Or.inl (by rw [h, Int.max_eq_left hc])
    · exact Or.inr ⟨a, List.mem_cons_of_mem _ ha, h⟩
theorem hasDig_add {ds : List Int} {n : Int} {a p : Nat} (hn : 0 < n) : hasDig ds n a p = true ↔ addL ds a p = n := by
  unfold hasDig addL
  by_cases h : a ≤ p ∧ p - a < ds.length
  · rw [if_pos h, if_pos ⟨h.1, by omega⟩, beq_iff_eq]
    unfold mxD
    split <;> constructor <;> intro h2 <;> omega
  · rw [if_neg h, if_neg (fun h2 => h ⟨h2.1, by omega⟩)]
    constructor
    · intro h2; cases h2
    · intro h2; omega
theorem lvOne_hit {x : Pat} (hx : PatFine x) (s : ByteArray) {n : Int} {p : Nat} (hn : 0 < n) (hle : (lvOne x s).getD p 0 ≤ n) : (lvOne x s).getD p 0 = n ↔ ∃ a ∈ fixs (patP x) s, hasDig x.ds n a p = true := by
  have h := lvP_at hx s (M := List.replicate (s.size + 1) 0) (by simp) (fun j => by rw [rep_getD]; exact Int.le_refl _) p
  rw [rep_getD] at h
  change (lvOne x s).getD p 0 = _ at h
  rw [h] at hle ⊢
  constructor
  · intro he
    rcases mxs_mem (f := fun a => addL x.ds a p) (l := fixs (patP x) s) (m := 0) with h0 | ⟨a, ha, h1⟩
    · rw [h0] at he; omega
    · exact ⟨a, ha, (hasDig_add hn).2 (by rw [← he, h1])⟩
  · rintro ⟨a, ha, hd⟩
    have h1 := (mxs_le.1 (Int.le_refl (mxs (fun a => addL x.ds a p) (fixs (patP x) s) 0))).2 a ha
    have h2 := (hasDig_add hn).1 hd
    omega
theorem lvTo_ge {fn : Nat → Pat} {s : ByteArray} (p : Nat) : ∀ m, (∀ j, j < m → PatFine (fn j)) → ∀ j, j < m → (lvOne (fn j) s).getD p 0 ≤ (lvTo fn s m).getD p 0
  | 0, _, j, hj => absurd hj (Nat.not_lt_zero _)
  | m + 1, hf, j, hj => by
    have hok := lvTo_ok (fn := fn) (s := s) (m := m) (fun j hj k => ((hf j (by omega)).digs k).2) m (Nat.le_refl _)
    have h1 := lvP_one (hf m (by omega)) s hok.1 (fun j => (hok.2 j).1) p
    show _ ≤ (lvP (patP (fn m)) s (lvTo fn s m)).getD p 0
    rw [h1]
    by_cases e : j = m
    · subst e; exact Int.le_max_right _ _
    · exact Int.le_trans (lvTo_ge p m (fun j hj => hf j (by omega)) j (by omega)) (Int.le_max_left _ _)
/-- What the program looks for: a pattern that is found with the digit at the place. -/
theorem decB_found {r : RU} {s : ByteArray} {p j : Nat} (hf : ∀ j, j < r.ps.l.length → PatFine (patG r.ps.l j)) (hj : j < r.ps.l.length) (hn : 0 < lvAt r s p) : decB r s p j = true ↔ ∃ a ∈ fixs (patP (patG r.ps.l j)) (lowS s), hasDig (patG r.ps.l j).ds (lvAt r s p) a p = true := by
  unfold decB
  rw [beq_iff_eq]
  exact lvOne_hit (hf j hj) (lowS s) hn (lvTo_ge p _ hf j hj)
end Go.Proofs.YtlkkociijfdcgaaGreatDoor

namespace Go.Proofs.YtlkkociijfdcgaaGreatDoor
open Go.RowKit Go.Maps Go.Shelf
attribute [local go_sem] Oper.semAt_some

def hitB (fn : Nat → Pat) (ss : ByteArray) (lv : Int) (pl j : Nat) : Bool := decide (0 < lv) && (fixs (patP (fn j)) ss).any (fun a => hasDig (fn j).ds lv a pl)
/-- What deciding answers. -/
def decAns (fn : Nat → Pat) (ss : ByteArray) (n : Nat) (lv : Int) (pl : Nat) : Int × Int := match firstAt (hitB fn ss lv pl) (n - 0) 0 with
  | some i => ((i : Int), 0)
  | none => (0, 12)
theorem fixs_pat (x : Pat) (ls : ByteArray) (A : Option Addr) (c : Nat) (h : ls.data.toList = x.ls) (s : ByteArray) : fixs (pvOf x ls A c) s = fixs (patP x) s := by
  have e : ls = ⟨x.ls.toArray⟩ := by
    cases ls with
    | mk d => simp at h; rw [← h]
  subst e
  rfl
theorem founds_fix {p : PV} {s : ByteArray} (x : FoundIx p s) : x.1 ∈ fixs p s :=
  List.mem_filter.2 ⟨List.mem_range.2 (by have := x.2.1; unfold foundsN; omega), x.2.2⟩
theorem hit_yes {fn : Nat → Pat} {ss ls : ByteArray} {lv : Int} {pl j : Nat} {A : Option Addr} {c : Nat} (h : ls.data.toList = (fn j).ls) (hlv : 0 < lv) (x : FoundIx (pvOf (fn j) ls A c) ss) (hd : hasDig (fn j).ds lv x.1 pl = true) : hitB fn ss lv pl j = true := by
  unfold hitB
  rw [decide_eq_true hlv, Bool.true_and, List.any_eq_true]
  exact ⟨x.1, by rw [← fixs_pat (fn j) ls A c h ss]; exact founds_fix x, hd⟩
theorem hit_no {fn : Nat → Pat} {ss ls : ByteArray} {lv : Int} {pl j : Nat} {A : Option Addr} {c : Nat} (h : ls.data.toList = (fn j).ls) (hd : ∀ y ∈ founds (pvOf (fn j) ls A c) ss (foundsN (pvOf (fn j) ls A c) ss), (decide (0 < lv) && hasDig (fn j).ds lv y.1 pl) = false) : hitB fn ss lv pl j = false := by
  unfold hitB
  rw [Bool.eq_false_iff]
  intro hc
  rw [Bool.and_eq_true, List.any_eq_true] at hc
  obtain ⟨h1, a, ha, h2⟩ := hc
  rw [← fixs_pat (fn j) ls A c h ss] at ha
  have e := founds_ix (pvOf (fn j) ls A c) ss _ (Nat.le_refl _)
  have ha2 : a ∈ (founds (pvOf (fn j) ls A c) ss (foundsN (pvOf (fn j) ls A c) ss)).map (·.1) := by rw [e]; exact ha
  obtain ⟨y, hy, rfl⟩ := List.mem_map.1 ha2
  have := hd y hy
  rw [h1, h2] at this
  cases this
/-- The boxes of the call: the book, the place, the two results. -/
structure DeB (w : World) (g n : Nat) (m1 m2 : Option Nat) (le ri : Int) (pl : Nat) (W : World) : Prop where
  b0 : W.heap[w.heap.size]? = some (.cells #[.slice (some ⟨g, 0, none⟩) n n, .map m1, .map m2, .int .i64 le, .int .i64 ri] 134 (0, 0))
  b1 : W.heap[w.heap.size + 1]? = some (.cells #[.int .i64 pl] 3 (0, 0))
  b2 : W.heap[w.heap.size + 1 + 1]? = some (.cells #[.int .i64 0] 3 (0, 0))
  b3 : W.heap[w.heap.size + 1 + 1 + 1]? = some (.cells #[.int .i64 0] 27 (0, 0))
  low : Below w.heap.size w W
section
variable {w W W' : World} {g n : Nat} {m1 m2 : Option Nat} {le ri : Int} {pl : Nat}
theorem DeB.lt (h : DeB w g n m1 m2 le ri pl W) : w.heap.size + 3 < W.heap.size := heap_lt h.b3
theorem DeB.below (h : DeB w g n m1 m2 le ri pl W) (hb : Below W.heap.size W W') : DeB w g n m1 m2 le ri pl W' :=
  ⟨(hb.block _ (heap_lt h.b0)).trans h.b0, (hb.block _ (heap_lt h.b1)).trans h.b1, (hb.block _ (heap_lt h.b2)).trans h.b2, (hb.block _ (heap_lt h.b3)).trans h.b3, h.low.trans (hb.mono h.low.size)⟩
theorem DeB.alloc (h : DeB w g n m1 m2 le ri pl W) (o : Obj) : DeB w g n m1 m2 le ri pl (W.alloc o) := h.below ((Below.refl _ _).alloc (Nat.le_refl _) o)
theorem DeB.drew (h : DeB w g n m1 m2 le ri pl W) : DeB w g n m1 m2 le ri pl W.drew := ⟨h.b0, h.b1, h.b2, h.b3, h.low.drew⟩
theorem DeB.set (h : DeB w g n m1 m2 le ri pl W) {b : Nat} (hb : w.heap.size + 4 ≤ b) (j : Nat) (u : Value) : DeB w g n m1 m2 le ri pl (W.setCell ⟨b, j, none⟩ u) :=
  ⟨(Below.heap_setCell _ _ _ _ (by show w.heap.size ≠ b; omega)).trans h.b0, (Below.heap_setCell _ _ _ _ (by show w.heap.size + 1 ≠ b; omega)).trans h.b1, (Below.heap_setCell _ _ _ _ (by show w.heap.size + 1 + 1 ≠ b; omega)).trans h.b2, (Below.heap_setCell _ _ _ _ (by show w.heap.size + 1 + 1 + 1 ≠ b; omega)).trans h.b3, h.low.setCell (p := ⟨b, j, none⟩) (by show w.heap.size ≤ b; omega) u⟩
/-- What the region of the level loads. -/
def DeS (w : World) (g n : Nat) (m1 m2 : Option Nat) (le ri : Int) (pl : Nat) (Z : World) : Prop := Z.cell? ⟨w.heap.size, 0, none⟩ = some (.slice (some ⟨g, 0, none⟩) n n) ∧ Z.cell? ⟨w.heap.size, 1, none⟩ = some (.map m1) ∧ Z.cell? ⟨w.heap.size, 2, none⟩ = some (.map m2) ∧ Z.cell? ⟨w.heap.size, 3, none⟩ = some (.int .i64 le) ∧ Z.cell? ⟨w.heap.size, 4, none⟩ = some (.int .i64 ri) ∧ Z.cell? ⟨w.heap.size + 1, 0, none⟩ = some (.int .i64 pl)
theorem DeB.cells (h : DeB w g n m1 m2 le ri pl W) : DeS w g n m1 m2 le ri pl W :=
  ⟨cell_of_row W _ 0 _ _ (0, 0) h.b0, cell_of_row W _ 1 _ _ (0, 0) h.b0, cell_of_row W _ 2 _ _ (0, 0) h.b0, cell_of_row W _ 3 _ _ (0, 0) h.b0, cell_of_row W _ 4 _ _ (0, 0) h.b0, cell_of_row W _ 0 _ _ (0, 0) h.b1⟩
end
structure DeC (w1 : World) (Ds : List Nat) (W : World) : Prop where
  kept : Below w1.heap.size w1 W
  mks : Marks w1.heap.size Ds W
/-- The results when the call is left from a round. -/
structure DeR (w : World) (k : Nat) (Ds : List Nat) (V : World) : Prop where
  r2 : V.heap[w.heap.size + 1 + 1]? = some (.cells #[.int .i64 (k : Int)] 3 (0, 0))
  r3 : V.heap[w.heap.size + 1 + 1 + 1]? = some (.cells #[.int .i64 0] 27 (0, 0))
  low : Below w.heap.size w V
  mks : ∀ D, D ∈ Ds → V.heap[D]? = some (.deferred (some []))
theorem DeR.grown {w V V' : World} {k : Nat} {Ds : List Nat} {row : Option Nat} (h : DeR w k Ds V) (hg : V.grownBy V' row) (hr : ∀ r, row = some r → w.heap.size + 4 ≤ r ∧ ∀ D, D ∈ Ds → D < r) : DeR w k Ds V' :=
  ⟨(hg.block _ (heap_lt h.r2) (fun e => by have := (hr _ e.symm).1; omega)).trans h.r2, (hg.block _ (heap_lt h.r3) (fun e => by have := (hr _ e.symm).1; omega)).trans h.r3, h.low.grown hg h.low.size (fun r e => by have := (hr r e).1; omega),
   fun D hD => (hg.block _ (heap_lt (h.mks D hD)) (fun e => by have := (hr _ e.symm).2 D hD; omega)).trans (h.mks D hD)⟩
def deMu (n : Nat) (a : Act) (_ : World) : Nat := n - (intOf (a.tmps.getD 24 undef)).toNat
set_option maxRecDepth 100000 in
set_option maxHeartbeats 1600000 in
theorem deciding_any (g n : Nat) (fn : Nat → Pat) (m1 m2 : Option Nat) (le ri : Int) (s : ByteArray) (pl : Nat) (w : World) (hP : PRow w g n fn n) (hok : ∀ j, j < n → PatOk (fn j)) (hn : n ≤ 1000) (hs : s.size ≤ 900) (hpl : pl ≤ s.size) (hascii : ∀ (j : Nat) (b : UInt8), s.data.toList[j]? = some b → b.toNat < 128) :
    Calls Tryz.prog 119 #[.agg #[.slice (some ⟨g, 0, none⟩) n n, .map m1, .map m2, .int .i64 le, .int .i64 ri], .string s, .int .i64 pl] w fun e w' => e = .returned (.tuple #[.int .i64 (decAns fn (lowS s) n ((lvTo fn (lowS s) n).getD pl 0) pl).1, .int .i64 (decAns fn (lowS s) n ((lvTo fn (lowS s) n).getD pl 0) pl).2]) ∧ Below w.heap.size w w' := by
  have HP := Lib.hid hP
  have HOK := Lib.hid hok
  have hlv := Lib.hid (lvTo_ok (fn := fn) (s := lowS s) (m := n) (fun j hj k => ((hok j hj).digs k).2) n (Nat.le_refl _))
  obtain ⟨W0, hW0⟩ : ∃ W0, W0 = (((w.alloc (.cells #[.slice (some ⟨g, 0, none⟩) n n, .map m1, .map m2, .int .i64 le, .int .i64 ri] 134)).alloc (.cells #[.int .i64 pl] 3)).alloc (.cells #[.int .i64 0] 3)).alloc (.cells #[.int .i64 0] 27) := ⟨_, rfl⟩
  have hlow0 : Below w.heap.size w W0 := by rw [hW0]; exact ((((Below.refl _ _).alloc (Nat.le_refl _) _).alloc (by simp) _).alloc (by simp; omega) _).alloc (by simp; omega) _
  have HLV := Lib.hid (fun W (h : Below w.heap.size w W) => levels_any g n fn m1 m2 le ri s W (hP.below h) hok hn (by omega) hascii)
  have HTL := Lib.hid (fun W => Tryz.strings_ToLower_ascii s W (by omega) hascii)
  clear hP hok
  obtain ⟨ss, hss⟩ : ∃ ss, ss = lowS s := ⟨_, rfl⟩
  have hssz : ss.size = s.size := by rw [hss]; exact lowS_size s
  rw [← hss] at hlv HLV ⊢
  obtain ⟨lv, hlve⟩ : ∃ lv, lv = (lvTo fn ss n).getD pl 0 := ⟨_, rfl⟩
  rw [← hlve]
  have hlvb := hlv.out.2 pl
  have hlvl := hlv.out.1
  rw [← hlve] at hlvb
  have HLE := Lib.hid hlve
  have HLL := Lib.hid hlvl
  have HSS := Lib.hid hss
  have HSZ := Lib.hid hssz
  have HAS := Lib.hid hascii
  clear hlve hlvl hss hssz hascii hlv
  have z0 : W0.heap.size = w.heap.size + 4 := by rw [hW0]; simp
  have n0 : W0.heap[w.heap.size]? = some (.cells #[.slice (some ⟨g, 0, none⟩) n n, .map m1, .map m2, .int .i64 le, .int .i64 ri] 134 (0, 0)) := by
    rw [hW0]; exact heap_keep (heap_keep (heap_keep (heap_new w _)))
  have n1 : W0.heap[w.heap.size + 1]? = some (.cells #[.int .i64 pl] 3 (0, 0)) := by
    have h := heap_new (w.alloc (.cells #[.slice (some ⟨g, 0, none⟩) n n, .map m1, .map m2, .int .i64 le, .int .i64 ri] 134)) (.cells #[.int .i64 pl] 3)
    rw [World.size_alloc] at h
    rw [hW0]; exact heap_keep (heap_keep h)
  have n2 : W0.heap[w.heap.size + 1 + 1]? = some (.cells #[.int .i64 0] 3 (0, 0)) := by
    have h := heap_new ((w.alloc (.cells #[.slice (some ⟨g, 0, none⟩) n n, .map m1, .map m2, .int .i64 le, .int .i64 ri] 134)).alloc (.cells #[.int .i64 pl] 3)) (.cells #[.int .i64 0] 3)
    rw [World.size_alloc, World.size_alloc] at h
    rw [hW0]; exact heap_keep h
  have n3 : W0.heap[w.heap.size + 1 + 1 + 1]? = some (.cells #[.int .i64 0] 27 (0, 0)) := by
    have h := heap_new (((w.alloc (.cells #[.slice (some ⟨g, 0, none⟩) n n, .map m1, .map m2, .int .i64 le, .int .i64 ri] 134)).alloc (.cells #[.int .i64 pl] 3)).alloc (.cells #[.int .i64 0] 3)) (.cells #[.int .i64 0] 27)
    rw [World.size_alloc, World.size_alloc, World.size_alloc] at h
    rw [hW0]; exact h
  have HW0 := Lib.hid hW0
  clear hW0
  have hB0 : DeB w g n m1 m2 le ri pl W0 := ⟨n0, n1, n2, n3, hlow0⟩
  have hplI : (pl : Int) < (s.size : Int) + 1 := by omega
  refine (callsIn_wide (n := 9)).1 ?_
  refine callsIn_of_wp_marks Tryz.func119 rfl trivial ?_ rfl
  simp only [Tryz.ntmps119, List.size_toArray, List.length_cons, List.length_nil, Nat.reduceAdd, Nat.reduceSub, Array.replicate_succ, Array.replicate_zero, List.push_toArray, List.append_toArray, List.nil_append, List.cons_append]
  gi_wp2
  rw [← HW0.out]
  refine wpIn_wide.2 ?_
  have hpl0 : (0 : Int) ≤ (pl : Int) := by omega
  rename_i Q' K hK
  have KEY : ∀ (h b8 : Nat) (W4 : World), DeB w g n m1 m2 le ri pl W4 → W4.heap[b8]? = some (.cells #[.int .i64 lv] 3 (0, 0)) → w.heap.size + 4 ≤ b8 → K { tmps := #[.agg #[.slice (some ⟨g, 0, none⟩) n n, .map m1, .map m2, .int .i64 le, .int .i64 ri], .string s, .int .i64 pl, .pointer (some ⟨w.heap.size, 0, none⟩), undef, .pointer (some ⟨w.heap.size + 1, 0, none⟩), .pointer (some ⟨w.heap.size + 1 + 1, 0, none⟩), .pointer (some ⟨w.heap.size + 1 + 1 + 1, 0, none⟩), .pointer (some ⟨b8, 0, none⟩), undef, undef, undef, undef, .agg #[.slice (some ⟨g, 0, none⟩) n n, .map m1, .map m2, .int .i64 le, .int .i64 ri], .string s, .slice (some ⟨h, 0, none⟩) (s.size + 1) (s.size + 1), .int .i64 pl, .pointer (some ⟨h, pl, none⟩), .int .i64 lv, undef, undef, undef, undef, undef, undef, undef, undef, undef, undef, undef, undef, undef, undef, undef, undef, undef, undef, undef, undef, undef, undef, undef, undef, undef], defers := [] } W4 := by
    clear hB0 n0 n1 n2 n3 hlow0
    intro h b8 W4 hB hl8 ho8
    refine hK _ _ ?_
    clear hK K
    have hbk := hB.cells
    have hn0 := hB.b0
    have hlow4 := hB.low
    have hzb := hB.lt
    have q0 : W4.cell? ⟨w.heap.size, 0, none⟩ = some (.slice (some ⟨g, 0, none⟩) n n) := hbk.1
    clear hbk
    gi_wp2_with (refine ⟨trivial, ?_⟩; gi_at_call 164; refine (callsIn_wide.2 (HTL.out W4)).mono ?_; rintro e w1 ⟨rfl, hb1⟩; have k1 : w1.cell? ⟨w.heap.size, 0, none⟩ = some (.slice (some ⟨g, 0, none⟩) n n) := (hb1.cell (by show w.heap.size < W4.heap.size; omega)).trans q0; change Hid (ss = ⟨(Lib.toLowerA s.data.toList).toArray⟩) at HSS; rw [← HSS.out])
    have hB1 := hB.below hb1
    have hl81 := (hb1.block _ (heap_lt hl8)).trans hl8
    have hz1 := hb1.size
    have hlow1 := hB1.low
    clear hb1 hB hl8 q0 k1 hn0 hlow4 HTL
    refine wpIn_loop (fun a W => ∃ (Ds : List Nat) (k : Nat) (u10 u11 u25 u26 u27 u28 u29 u30 u31 u43 : Value), k ≤ n ∧ Hid (firstAt (hitB fn ss lv pl) (n - 0) 0 = firstAt (hitB fn ss lv pl) (n - k) k) ∧ a = { tmps := #[.agg #[.slice (some ⟨g, 0, none⟩) n n, .map m1, .map m2, .int .i64 le, .int .i64 ri], .string s, .int .i64 pl, .pointer (some ⟨w.heap.size, 0, none⟩), undef, .pointer (some ⟨w.heap.size + 1, 0, none⟩), .pointer (some ⟨w.heap.size + 1 + 1, 0, none⟩), .pointer (some ⟨w.heap.size + 1 + 1 + 1, 0, none⟩), .pointer (some ⟨b8, 0, none⟩), .string ss, u10, u11, undef, .agg #[.slice (some ⟨g, 0, none⟩) n n, .map m1, .map m2, .int .i64 le, .int .i64 ri], .string s, .slice (some ⟨h, 0, none⟩) (s.size + 1) (s.size + 1), .int .i64 pl, .pointer (some ⟨h, pl, none⟩), .int .i64 lv, .string s, .string ss, .pointer (some ⟨w.heap.size, 0, none⟩), .slice (some ⟨g, 0, none⟩) n n, .int .i64 (n : Int), .int .i64 (k : Int), u25, u26, u27, u28, u29, u30, u31, undef, undef, undef, undef, undef, undef, undef, undef, undef, undef, undef, u43], defers := marksOf Ds } ∧ DeC w1 Ds W) (deMu n) ⟨[], 0, undef, undef, undef, undef, undef, undef, undef, undef, undef, undef, Nat.zero_le _, Lib.hid rfl, rfl, ⟨Below.refl _ _, Marks.nil _ _⟩⟩ ?_
    rintro a W ⟨Ds, k, u10, u11, u25, u26, u27, u28, u29, u30, u31, u43, hk, HFA, rfl, hL⟩
    have hzW := hL.kept.size
    have hz1' := hB1.lt
    have hl8t := heap_lt hl81
    by_cases hlt : k < n
    · have hlt' : (k : Int) < (n : Int) := by omega
      have hmu : deMu n { tmps := #[.agg #[.slice (some ⟨g, 0, none⟩) n n, .map m1, .map m2, .int .i64 le, .int .i64 ri], .string s, .int .i64 pl, .pointer (some ⟨w.heap.size, 0, none⟩), undef, .pointer (some ⟨w.heap.size + 1, 0, none⟩), .pointer (some ⟨w.heap.size + 1 + 1, 0, none⟩), .pointer (some ⟨w.heap.size + 1 + 1 + 1, 0, none⟩), .pointer (some ⟨b8, 0, none⟩), .string ss, u10, u11, undef, .agg #[.slice (some ⟨g, 0, none⟩) n n, .map m1, .map m2, .int .i64 le, .int .i64 ri], .string s, .slice (some ⟨h, 0, none⟩) (s.size + 1) (s.size + 1), .int .i64 pl, .pointer (some ⟨h, pl, none⟩), .int .i64 lv, .string s, .string ss, .pointer (some ⟨w.heap.size, 0, none⟩), .slice (some ⟨g, 0, none⟩) n n, .int .i64 (n : Int), .int .i64 (k : Int), u25, u26, u27, u28, u29, u30, u31, undef, undef, undef, undef, undef, undef, undef, undef, undef, undef, undef, u43], defers := marksOf Ds } W = n - k := rfl
      refine wpIn_hide2 (fun Q' HQ0 => ?_)
      have HQ := Lib.hid HQ0
      rw [hmu] at HQ
      clear HQ0 hmu
      have hbW : Below w.heap.size w W := hlow1.trans (hL.kept.mono (by omega))
      have hgl := HP.out.lt
      obtain ⟨ps, A, cap, w0, w1', w2, w3, hps, hgA, hIw⟩ := HP.out.pats k hlt
      have p0 := (hbW.cell (show (⟨g, k * 4, none⟩ : Addr).block < w.heap.size from hgl)).trans w0
      have p1 := (hbW.cell (show (⟨g, k * 4 + 1, none⟩ : Addr).block < w.heap.size from hgl)).trans w1'
      have p2 := (hbW.cell (show (⟨g, k * 4 + 2, none⟩ : Addr).block < w.heap.size from hgl)).trans w2
      have p3 := (hbW.cell (show (⟨g, k * 4 + 3, none⟩ : Addr).block < w.heap.size from hgl)).trans w3
      clear w0 w1' w2 w3
      have hpo := HOK.out k hlt
      have hpsz : ps.size = (fn k).ls.length := by rw [← hps]; simp
      have hdl := hpo.len
      have hsh := hpo.short
      have HPO := Lib.hid hpo
      have HIW := Lib.hid hIw
      have hpsl : ps.size ≤ 1000 := by omega
      have hdl2 : (fn k).ds.length ≤ 17 := by omega
      clear hpo hIw hpsz hdl hsh hgA
      have HPS := Lib.hid hps
      have HFI := Lib.hid (foundIn_any (pvOf (fn k) ps (some A) cap) ss)
      unfold PV.cells pvOf at HFI
      dsimp only at HFI
      clear hps
      gi_wp2_with (refine ⟨trivial, ?_⟩; gi_at_call 165; refine (callsIn_wide.2 (HFI.out _)).mono ?_; rintro e w' ⟨rfl, rfl⟩)
      obtain ⟨V3, hV3⟩ : ∃ V3, V3 = (((W.alloc (.cells #[.int .i64 (k : Int)] 3)).alloc (.cells #[.string ps, .slice (some A) (fn k).ds.length cap, .bool (fn k).start, .bool (fn k).stop] 249)).alloc (.cells #[.string ps, .slice (some A) (fn k).ds.length cap, .bool (fn k).start, .bool (fn k).stop] 249)).alloc (.cells #[.string ss] 9) := ⟨_, rfl⟩
      have s3 : V3.heap.size = W.heap.size + 4 := by rw [hV3]; simp
      have hbl3 : Below W.heap.size W V3 := by rw [hV3]; exact ((((Below.refl _ _).alloc (Nat.le_refl _) _).alloc (by simp) _).alloc (by simp; omega) _).alloc (by simp; omega) _
      have hbi : V3.heap[W.heap.size]? = some (.cells #[.int .i64 (k : Int)] 3 (0, 0)) := by rw [hV3]; exact heap_keep (heap_keep (heap_keep (heap_new W _)))
      have hbx : V3.heap[W.heap.size + 1]? = some (.cells #[.string ps, .slice (some A) (fn k).ds.length cap, .bool (fn k).start, .bool (fn k).stop] 249 (0, 0)) := by
        have h := heap_keep (o := .cells #[.string ss] 9) (heap_keep (o := .cells #[.string ps, .slice (some A) (fn k).ds.length cap, .bool (fn k).start, .bool (fn k).stop] 249) (heap_new (W.alloc (.cells #[.int .i64 (k : Int)] 3)) (.cells #[.string ps, .slice (some A) (fn k).ds.length cap, .bool (fn k).start, .bool (fn k).stop] 249))); rw [World.size_alloc, ← hV3] at h; exact h
      have hb2 : V3.heap[W.heap.size + 1 + 1]? = some (.cells (pvOf (fn k) ps (some A) cap).cells 249 (0, 0)) := by
        have h := heap_keep (o := .cells #[.string ss] 9) (heap_new ((W.alloc (.cells #[.int .i64 (k : Int)] 3)).alloc (.cells #[.string ps, .slice (some A) (fn k).ds.length cap, .bool (fn k).start, .bool (fn k).stop] 249)) (.cells #[.string ps, .slice (some A) (fn k).ds.length cap, .bool (fn k).start, .bool (fn k).stop] 249)); rw [World.size_alloc, World.size_alloc, ← hV3] at h; exact h
      have hb1 : V3.heap[W.heap.size + 1 + 1 + 1]? = some (.cells #[.string ss] 9 (0, 0)) := by
        have h := heap_new (((W.alloc (.cells #[.int .i64 (k : Int)] 3)).alloc (.cells #[.string ps, .slice (some A) (fn k).ds.length cap, .bool (fn k).start, .bool (fn k).stop] 249)).alloc (.cells #[.string ps, .slice (some A) (fn k).ds.length cap, .bool (fn k).start, .bool (fn k).stop] 249)) (.cells #[.string ss] 9); rw [World.size_alloc, World.size_alloc, World.size_alloc, ← hV3] at h; exact h
      have hlow : Below w.heap.size w V3 := hbW.trans (hbl3.mono (by omega))
      have hk3 : Below w1.heap.size w1 V3 := hL.kept.trans (hbl3.mono hzW)
      have hmk3 : ∀ D, D ∈ Ds → V3.heap[D]? = some (.deferred (some [])) := fun D hD => (hbl3.block _ (hL.mks.lt hD)).trans (hL.mks.at_ D hD).2
      have hmD : ∀ D, D ∈ Ds → w1.heap.size ≤ D ∧ D < W.heap.size := fun D hD => ⟨(hL.mks.at_ D hD).1, hL.mks.lt hD⟩
      have hB3 := hB1.below hk3
      have hl83 := (hk3.block _ hl8t).trans hl81
      change Code.wpIn _ _ _ _ _ _ ((((W.alloc (.cells #[.int .i64 (k : Int)] 3)).alloc (.cells #[.string ps, .slice (some A) (fn k).ds.length cap, .bool (fn k).start, .bool (fn k).stop] 249)).alloc (.cells #[.string ps, .slice (some A) (fn k).ds.length cap, .bool (fn k).start, .bool (fn k).stop] 249)).alloc (.cells #[.string ss] 9))
      rw [← hV3]
      have hle : w.heap.size ≤ V3.heap.size := by omega
      have hsz2 : ss.size ≤ 1000 := by rw [HSZ.out]; omega
      clear hV3 p0 p1 p2 p3
      refine wpIn_rangeFunc_ownG rfl (by omega) (gf := 203) (lb := #[.pointer (some ⟨W.heap.size + 1 + 1 + 1, 0, none⟩), .pointer (some ⟨W.heap.size + 1 + 1, 0, none⟩)]) rfl trivial (enters_of Tryz.func203 (by kernel_rfl) rfl)
        (foundIn_stops (pvOf (fn k) ps (some A) cap) ss w.heap.size _ _ _ V3 hb1 hb2 hsz2 hpsl) (fun h k => h.trans k)
        (fun W l o o' hl h h1 h2 => ⟨belowK_b hle W l o o' hl h h1 h2, World.putObj_heap_other (fun e => by omega), World.putObj_heap_other (fun e => by omega)⟩)
        (Below.refl _ _) (fun _ => rfl)
        (fun pre V => Below V3.heap.size V3 V ∧ ∀ y ∈ pre, (decide (0 < lv) && hasDig (fn k).ds lv y.1 pl) = false)
        (fun c pre V => c = .ret ∧ (∃ (pre' : List (FoundIx (pvOf (fn k) ps (some A) cap) ss)) (x : FoundIx (pvOf (fn k) ps (some A) cap) ss), pre = pre' ++ [x] ∧ (decide (0 < lv) && hasDig (fn k).ds lv x.1 pl) = true) ∧ DeR w k Ds V)
        (fun s A B row hs hg hr => ⟨hs.1.grown hg hs.1.size (fun r e => (hr r e).1), hs.2⟩)
        (fun _ s A B row hs hg hr => ⟨hs.1, hs.2.1, hs.2.2.grown hg (fun r e => by have := (hr r e).1; exact ⟨by omega, fun D hD => by have := hmD D hD; omega⟩)⟩)
        ⟨Below.refl _ _, fun y hy => by cases hy⟩
        (fun x => { tmps := #[.agg #[.slice (some ⟨g, 0, none⟩) n n, .map m1, .map m2, .int .i64 le, .int .i64 ri], .string s, .int .i64 pl, .pointer (some ⟨w.heap.size, 0, none⟩), undef, .pointer (some ⟨w.heap.size + 1, 0, none⟩), .pointer (some ⟨w.heap.size + 1 + 1, 0, none⟩), .pointer (some ⟨w.heap.size + 1 + 1 + 1, 0, none⟩), .pointer (some ⟨b8, 0, none⟩), .string ss, .pointer (some ⟨W.heap.size, 0, none⟩), .pointer (some ⟨W.heap.size + 1, 0, none⟩), .int .i64 (x.1 : Int), .agg #[.slice (some ⟨g, 0, none⟩) n n, .map m1, .map m2, .int .i64 le, .int .i64 ri], .string s, .slice (some ⟨h, 0, none⟩) (s.size + 1) (s.size + 1), .int .i64 pl, .pointer (some ⟨h, pl, none⟩), .int .i64 lv, .string s, .string ss, .pointer (some ⟨w.heap.size, 0, none⟩), .slice (some ⟨g, 0, none⟩) n n, .int .i64 (n : Int), .int .i64 (k : Int), .bool true, .int .i64 (k : Int), .pointer (some ⟨g, k * 4, none⟩), .agg #[.string ps, .slice (some A) (fn k).ds.length cap, .bool (fn k).start, .bool (fn k).stop], .agg #[.string ps, .slice (some A) (fn k).ds.length cap, .bool (fn k).start, .bool (fn k).stop], .string ss, .func (.func 203) #[] #[.pointer (some ⟨W.heap.size + 1 + 1 + 1, 0, none⟩), .pointer (some ⟨W.heap.size + 1 + 1, 0, none⟩)], .int .i64 (x.1 : Int), undef, undef, undef, undef, undef, undef, undef, undef, undef, undef, u43], defers := [] }) ?assign ?body ?done ?stop
      case assign =>
        intro l x V K hK
        gi_wp2
        exact hK
      case body =>
        rintro l pre x V ⟨hkV, hno⟩ hlt2
        have hzV := hkV.size
        have h8 := (hkV.block _ (by omega)).trans hl83
        have c8 : V.cell? ⟨b8, 0, none⟩ = some (.int .i64 lv) := by rw [cell_of_row V _ 0 _ _ (0, 0) h8]; try rfl
        have h11 := (hkV.block _ (by omega)).trans hbx
        obtain ⟨x0, x1, x2, x3⟩ : _ ∧ _ ∧ _ ∧ _ := ⟨cell_of_row V _ 0 _ _ (0, 0) h11, cell_of_row V _ 1 _ _ (0, 0) h11, cell_of_row V _ 2 _ _ (0, 0) h11, cell_of_row V _ 3 _ _ (0, 0) h11⟩
        have hBV := hB3.below hkV
        have c5 : V.cell? ⟨w.heap.size + 1, 0, none⟩ = some (.int .i64 pl) := by rw [cell_of_row V _ 0 _ _ (0, 0) hBV.b1]; try rfl
        have hx1 : x.1 ≤ 1000 := by have := x.2.1; omega
        have HHD := Lib.hid (hasDigit_any ps (some A) cap (fn k).ds (fn k).start (fn k).stop lv x.1 pl V (HIW.out.below (hlow.trans (hkV.mono hle))) (by omega) hx1 (by omega))
        clear h8 h11
        by_cases hlv0 : 0 < lv
        · have hdl0 : decide (0 < lv) = true := decide_eq_true hlv0
          cases hd : hasDig (fn k).ds lv x.1 pl
          · have hno2 : ∀ y ∈ pre ++ [x], (decide (0 < lv) && hasDig (fn k).ds lv y.1 pl) = false := fun y hy => by
              rcases List.mem_append.1 hy with h | h
              · exact hno y h
              · rw [List.mem_singleton.1 h, hd, Bool.and_false]
            have HNO := Lib.hid hno2
            rw [hd] at HHD
            clear hno hno2
            gi_wp2_with (refine ⟨trivial, ?_⟩; gi_at_call 166; refine (CallsIn.inRound l (callsIn_wide.2 HHD.out)).mono ?_; rintro e W5 ⟨rfl, hb5⟩)
            refine ⟨⟨hb5.size, fun q o _ hq _ => (hb5.block q (heap_lt hq)).trans hq⟩, ⟨hb5.mono (by omega), hb5.block _ (by omega), hb5.block _ (by omega)⟩, hkV.trans (hb5.mono hzV), HNO.out⟩
          · rw [hd] at HHD
            gi_wp2_with (refine ⟨trivial, ?_⟩; gi_at_call 166; refine (CallsIn.inRound l (callsIn_wide.2 HHD.out)).mono ?_; rintro e W5 ⟨rfl, hb5⟩; have hB5 := hBV.below hb5; have hi5 := (hb5.block _ (by omega)).trans ((hkV.block _ (by omega)).trans hbi); have y10 : W5.cell? ⟨W.heap.size, 0, none⟩ = some (.int .i64 (k : Int)) := (by rw [cell_of_row W5 _ 0 _ _ (0, 0) hi5]; try rfl); have y6 : W5.cell? ⟨w.heap.size + 1 + 1, 0, none⟩ = some (.int .i64 0) := (by rw [cell_of_row W5 _ 0 _ _ (0, 0) hB5.b2]; try rfl); have y7 : W5.cell? ⟨w.heap.size + 1 + 1 + 1, 0, none⟩ = some (.int .i64 0) := (by rw [cell_of_row W5 _ 0 _ _ (0, 0) hB5.b3]; try rfl); have f6 : W5.frozen? ⟨w.heap.size + 1 + 1, 0, none⟩ = false := (by simp [World.frozen?, hB5.b2]); have f7 : W5.frozen? ⟨w.heap.size + 1 + 1 + 1, 0, none⟩ = false := (by simp [World.frozen?, hB5.b3]))
            refine ⟨KeepsFrom.trans ⟨hb5.size, fun q o _ hq _ => (hb5.block q (heap_lt hq)).trans hq⟩ (((KeepsOthers.setCell _ _ _).trans (KeepsOthers.setCell _ _ _)).from _), rfl, ⟨pre, x, rfl, by rw [hdl0, hd]; try rfl⟩, ?_⟩
            refine ⟨(Below.heap_setCell _ _ _ _ (by show w.heap.size + 1 + 1 ≠ w.heap.size + 1 + 1 + 1; omega)).trans (pat_set hB5.b2 0 _), pat_set ((Below.heap_setCell _ _ _ _ (by show w.heap.size + 1 + 1 + 1 ≠ w.heap.size + 1 + 1; omega)).trans hB5.b3) 0 _, (hB5.low.setCell (p := ⟨w.heap.size + 1 + 1, 0, none⟩) (by show w.heap.size ≤ w.heap.size + 1 + 1; omega) _).setCell (p := ⟨w.heap.size + 1 + 1 + 1, 0, none⟩) (by show w.heap.size ≤ w.heap.size + 1 + 1 + 1; omega) _, fun D hD => ?_⟩
            have hmd := hmD D hD
            exact (Below.heap_setCell _ _ _ _ (by show D ≠ w.heap.size + 1 + 1 + 1; omega)).trans ((Below.heap_setCell _ _ _ _ (by show D ≠ w.heap.size + 1 + 1; omega)).trans ((hb5.block _ (by omega)).trans ((hkV.block _ (by omega)).trans (hmk3 D hD))))
        · have hdl0 : decide (0 < lv) = false := decide_eq_false hlv0
          have hno2 : ∀ y ∈ pre ++ [x], (decide (0 < lv) && hasDig (fn k).ds lv y.1 pl) = false := fun y hy => by rw [hdl0, Bool.false_and]
          have HNO := Lib.hid hno2
          clear hno hno2 HHD
          gi_wp2
          refine ⟨trivial, ?_⟩
          rename_i K9 hK9
          refine hK9 _ _ ?_
          gi_wp2
          refine ⟨⟨Nat.le_refl _, fun q o _ hq _ => hq⟩, ⟨Below.refl _ _, rfl, rfl⟩, hkV, HNO.out⟩
      case done =>
        rintro D ys V hD rfl ⟨hkV, hno⟩ hKD
        have hnb : hitB fn ss lv pl k = false := hit_no HPS.out hno
        have HFA2 := Lib.hid (HFA.out.trans (firstAt_go hlt hnb))
        have hkW := hk3.trans (hkV.mono (by omega))
        have hzV := hkV.size
        clear hno hnb
        gi_wp2
        refine HQ.out _ _ _ ⟨⟨D :: Ds, k + 1, _, _, _, _, _, _, _, _, _, _, by omega, HFA2, rfl, hkW, ?_⟩, ?_⟩
        · refine (Marks.kept (w := V3) (Ds := Ds) (B := w1.heap.size) ⟨hL.mks.nodup, fun D hD => ⟨(hmD D hD).1, hmk3 D hD⟩⟩ (fun E hE => hkV.block _ (by have := hmD E hE; omega))).cons (by omega) hKD (fun hm => by have := hmD D hm; omega)
        · simp [deMu, intOf]; omega
      case stop =>
        rintro D c pre V hD ⟨k9, hk9, hpre9⟩ ⟨rfl, ⟨pre', x, hpx, hd⟩, hR⟩ hKD
        rw [Bool.and_eq_true] at hd
        have hnb : hitB fn ss lv pl k = true := hit_yes HPS.out (of_decide_eq_true hd.1) x hd.2
        have hfs : firstAt (hitB fn ss lv pl) (n - 0) 0 = some k := HFA.out.trans (firstAt_stop hlt hnb)
        have HV := Lib.hid (show decAns fn ss n lv pl = ((k : Int), 0) by unfold decAns; rw [hfs])
        have hmV : Marks w1.heap.size (D :: Ds) V := Marks.cons ⟨hL.mks.nodup, fun E hE => ⟨(hmD E hE).1, hR.mks E hE⟩⟩ (by omega) hKD (fun hm => by have := hmD D hm; omega)
        clear hnb hfs hd hpx
        gi_wp2
        refine HQ.out _ _ _ ?_
        refine leaves_marks (B := w1.heap.size) (v := .tuple #[.int .i64 (k : Int), .int .i64 0]) (D :: Ds) V hmV (fun w' hs' hk' hb => ?_)
        have t2 : w'.cell? ⟨w.heap.size + 1 + 1, 0, none⟩ = some (.int .i64 (k : Int)) := by rw [cell_of_row w' _ 0 _ _ (0, 0) ((hb.block _ (by omega)).trans hR.r2)]; try rfl
        have t3 : w'.cell? ⟨w.heap.size + 1 + 1 + 1, 0, none⟩ = some (.int .i64 0) := by rw [cell_of_row w' _ 0 _ _ (0, 0) ((hb.block _ (by omega)).trans hR.r3)]; try rfl
        refine ⟨by simp [results, Tryz.results119, go_sem, t2, t3], ?_⟩
        rw [HV.out]
        exact ⟨rfl, hR.low.trans (hb.mono (by omega))⟩
    · obtain rfl : k = n := by omega
      have hlt' : ¬ (k : Int) < (k : Int) := by omega
      have hfs : firstAt (hitB fn ss lv pl) (k - 0) 0 = none := HFA.out.trans (firstAt_end hlt)
      have HV := Lib.hid (show decAns fn ss k lv pl = (0, 12) by unfold decAns; rw [hfs])
      have hBW := hB1.below hL.kept
      have y6 : W.cell? ⟨w.heap.size + 1 + 1, 0, none⟩ = some (.int .i64 0) := (by rw [cell_of_row W _ 0 _ _ (0, 0) hBW.b2]; try rfl)
      have y7 : W.cell? ⟨w.heap.size + 1 + 1 + 1, 0, none⟩ = some (.int .i64 0) := (by rw [cell_of_row W _ 0 _ _ (0, 0) hBW.b3]; try rfl)
      have f6 : W.frozen? ⟨w.heap.size + 1 + 1, 0, none⟩ = false := (by simp [World.frozen?, hBW.b2])
      have f7 : W.frozen? ⟨w.heap.size + 1 + 1 + 1, 0, none⟩ = false := (by simp [World.frozen?, hBW.b3])
      clear hfs
      gi_wp2
      have g2 := (Below.heap_setCell (W.setCell ⟨w.heap.size + 1 + 1, 0, none⟩ (.int .i64 0)) ⟨w.heap.size + 1 + 1 + 1, 0, none⟩ (.int .i64 12) (w.heap.size + 1 + 1) (by show w.heap.size + 1 + 1 ≠ w.heap.size + 1 + 1 + 1; omega)).trans (pat_set hBW.b2 0 (.int .i64 0))
      have g3 := pat_set ((Below.heap_setCell W ⟨w.heap.size + 1 + 1, 0, none⟩ (.int .i64 0) (w.heap.size + 1 + 1 + 1) (by show w.heap.size + 1 + 1 + 1 ≠ w.heap.size + 1 + 1; omega)).trans hBW.b3) 0 (.int .i64 12)
      have gl := (hBW.low.setCell (p := ⟨w.heap.size + 1 + 1, 0, none⟩) (by show w.heap.size ≤ w.heap.size + 1 + 1; omega) (.int .i64 0)).setCell (p := ⟨w.heap.size + 1 + 1 + 1, 0, none⟩) (by show w.heap.size ≤ w.heap.size + 1 + 1 + 1; omega) (.int .i64 12)
      refine leaves_marks (B := w1.heap.size) (v := .tuple #[.int .i64 0, .int .i64 12]) Ds _ (hL.mks.kept (fun D hD => ?_)) (fun w' hs' hk' hb => ?_)
      · have hm := (hL.mks.at_ D hD).1
        exact (Below.heap_setCell _ _ _ _ (by show D ≠ w.heap.size + 1 + 1 + 1; omega)).trans (Below.heap_setCell _ _ _ _ (by show D ≠ w.heap.size + 1 + 1; omega))
      · have t2 : w'.cell? ⟨w.heap.size + 1 + 1, 0, none⟩ = some (.int .i64 0) := by rw [cell_of_row w' _ 0 _ _ (0, 0) ((hb.block _ (by omega)).trans g2)]; try rfl
        have t3 : w'.cell? ⟨w.heap.size + 1 + 1 + 1, 0, none⟩ = some (.int .i64 12) := by rw [cell_of_row w' _ 0 _ _ (0, 0) ((hb.block _ (by omega)).trans g3)]; try rfl
        refine ⟨by simp [results, Tryz.results119, go_sem, t2, t3], ?_⟩
        rw [HV.out]
        exact ⟨rfl, gl.trans (hb.mono (by omega))⟩
  clear hK
  have hB1 := hB0.drew
  have hS := hB1.cells
  clear n0 n1 n2 n3 hlow0 hB0
  refine Code.wp_mono (Q := Exit.then K (fun _ _ _ => False)) (fun e a w h => by cases e <;> first | exact h | exact h.elim) ?_
  refine wp_region_held (S := DeS w g n m1 m2 le ri pl) (by kernel_rfl) ?_
  change wpAnyH _ _ _ _ _ _ _ _ W0.drew
  refine takeL (i := 0) (v := .agg #[.slice (some ⟨g, 0, none⟩) n n, .map m1, .map m2, .int .i64 le, .int .i64 ri]) rfl (by kernel_rfl) (by kernel_rfl) (by kernel_rfl) (fun _ _ _ h => h.elim) (Or.inl ⟨by rfl, fun V9 h9 => by unfold DeS at h9; go_simp⟩) (by assumption) ?_
  try simp only [Act.put, List.setIfInBounds_toArray, List.set_cons_zero, List.set_cons_succ]
  refine takeL (i := 1) (v := .string s) rfl (by kernel_rfl) (by kernel_rfl) (by kernel_rfl) (fun _ _ _ h => h.elim) (Or.inl ⟨by rfl, fun V9 h9 => by unfold DeS at h9; go_simp⟩) (by assumption) ?_
  try simp only [Act.put, List.setIfInBounds_toArray, List.set_cons_zero, List.set_cons_succ]
  refine takeL (i := 3) (v := .int .i64 pl) rfl (by kernel_rfl) (by kernel_rfl) (by kernel_rfl) (fun _ _ _ h => h.elim) (Or.inl ⟨by rfl, fun V9 h9 => by unfold DeS at h9; go_simp⟩) (by assumption) ?_
  try simp only [Act.put, List.setIfInBounds_toArray, List.set_cons_zero, List.set_cons_succ]
  refine wpAnyH_ready (rs := [2, 6]) (by kernel_rfl) (by simp) (consL rfl (fun K9 hK9 => ?_) (consL rfl (fun K9 hK9 => ?_) AllReadyH.nil))
  · go_simp
    have hA := hB1
    refine (HLV.out _ hA.low).mono ?_
    rintro e w5 ⟨h, rfl, hrow, hh, hb5⟩
    have h5 := hA.below hb5
    have hlc : w5.cell? ⟨h, pl, none⟩ = some (.int .i64 lv) := by rw [HLE.out]; exact hrow.cell (by rw [HLL.out, HSZ.out]; omega)
    refine hK9.out _ _ h5.cells (fun hS => ?_)
    clear hK9 K9
    try simp only [Act.put, List.setIfInBounds_toArray, List.set_cons_zero, List.set_cons_succ]
    refine takeL (i := 4) (v := .pointer (some ⟨h, pl, none⟩)) rfl (by kernel_rfl) (by kernel_rfl) (by kernel_rfl) (fun _ _ _ h => h.elim) (Or.inl ⟨by rfl, fun V9 h9 => by unfold DeS at h9; go_simp⟩) (by assumption) ?_
    try simp only [Act.put, List.setIfInBounds_toArray, List.set_cons_zero, List.set_cons_succ]
    refine wpAnyH_ready (rs := [5, 6]) (by kernel_rfl) (by simp) (consL rfl (fun K9 hK9 => ?_) (consL rfl (fun K9 hK9 => ?_) AllReadyH.nil))
    · go_simp
      refine hK9.out _ _ h5.cells (fun hS => ?_)
      clear hK9 K9
      try simp only [Act.put, List.setIfInBounds_toArray, List.set_cons_zero, List.set_cons_succ]
      refine wpAnyH_ready (rs := [6]) (by kernel_rfl) (by simp) (consL rfl (fun K9 hK9 => ?_) AllReadyH.nil)
      go_simp
      have h6 := h5.alloc (.cells #[.int .i64 0] 3)
      refine hK9.out _ _ h6.cells (fun hS => ?_)
      clear hK9 K9
      try simp only [Act.put, List.setIfInBounds_toArray, List.set_cons_zero, List.set_cons_succ]
      have ho8 : w.heap.size + 4 ≤ w5.heap.size := by have := h5.lt; omega
      refine wpAnyH_ready (rs := [7]) (by kernel_rfl) (by simp) (consL rfl (fun K9 hK9 => ?_) AllReadyH.nil)
      go_simp
      have h7 := h5.alloc (.cells #[.int .i64 lv] 3)
      refine hK9.out _ _ h7.cells (fun _ => wpAnyH_done (by kernel_rfl) ?_ _)
      exact KEY h w5.heap.size _ h7 (heap_new w5 _) ho8
    · go_simp
      have h6 := h5.alloc (.cells #[.int .i64 0] 3)
      refine hK9.out _ _ h6.cells (fun hS => ?_)
      clear hK9 K9
      try simp only [Act.put, List.setIfInBounds_toArray, List.set_cons_zero, List.set_cons_succ]
      have ho8 : w.heap.size + 4 ≤ w5.heap.size := by have := h5.lt; omega
      have hlc6 := cell_alloc_keep (o := .cells #[.int .i64 0] 3) hlc
      refine wpAnyH_ready (rs := [5]) (by kernel_rfl) (by simp) (consL rfl (fun K9 hK9 => ?_) AllReadyH.nil)
      go_simp
      refine hK9.out _ _ h6.cells (fun hS => ?_)
      clear hK9 K9
      try simp only [Act.put, List.setIfInBounds_toArray, List.set_cons_zero, List.set_cons_succ]
      refine wpAnyH_ready (rs := [7]) (by kernel_rfl) (by simp) (consL rfl (fun K9 hK9 => ?_) AllReadyH.nil)
      go_simp
      have h7 := h5.alloc (.cells #[.int .i64 lv] 3)
      refine hK9.out _ _ h7.cells (fun _ => wpAnyH_done (by kernel_rfl) ?_ _)
      exact KEY h w5.heap.size _ h7 (heap_new w5 _) ho8
  · go_simp
    have hA := hB1.alloc (.cells #[.int .i64 0] 3)
    refine hK9.out _ _ hA.cells (fun hS => ?_)
    clear hK9 K9
    try simp only [Act.put, List.setIfInBounds_toArray, List.set_cons_zero, List.set_cons_succ]
    refine wpAnyH_ready (rs := [2]) (by kernel_rfl) (by simp) (consL rfl (fun K9 hK9 => ?_) AllReadyH.nil)
    go_simp
    refine (HLV.out _ hA.low).mono ?_
    rintro e w5 ⟨h, rfl, hrow, hh, hb5⟩
    have h5 := hA.below hb5
    have hlc : w5.cell? ⟨h, pl, none⟩ = some (.int .i64 lv) := by rw [HLE.out]; exact hrow.cell (by rw [HLL.out, HSZ.out]; omega)
    refine hK9.out _ _ h5.cells (fun hS => ?_)
    clear hK9 K9
    try simp only [Act.put, List.setIfInBounds_toArray, List.set_cons_zero, List.set_cons_succ]
    refine takeL (i := 4) (v := .pointer (some ⟨h, pl, none⟩)) rfl (by kernel_rfl) (by kernel_rfl) (by kernel_rfl) (fun _ _ _ h => h.elim) (Or.inl ⟨by rfl, fun V9 h9 => by unfold DeS at h9; go_simp⟩) (by assumption) ?_
    try simp only [Act.put, List.setIfInBounds_toArray, List.set_cons_zero, List.set_cons_succ]
    have ho8 : w.heap.size + 4 ≤ w.heap.size + 4 := Nat.le_refl _
    have hn8 : (W0.drew.alloc (.cells #[.int .i64 0] 3)).heap[w.heap.size + 4]? = some (.cells #[.int .i64 0] 3 (0, 0)) := by rw [← z0]; exact heap_new W0.drew _
    have h58 := (hb5.block _ (heap_lt hn8)).trans hn8
    have y8 : w5.cell? ⟨w.heap.size + 4, 0, none⟩ = some (.int .i64 0) := cell_of_row w5 _ 0 _ _ (0, 0) h58
    have f8 : w5.frozen? ⟨w.heap.size + 4, 0, none⟩ = false := by simp [World.frozen?, h58]
    refine wpAnyH_ready (rs := [5]) (by kernel_rfl) (by simp) (consL rfl (fun K9 hK9 => ?_) AllReadyH.nil)
    go_simp
    refine hK9.out _ _ h5.cells (fun hS => ?_)
    clear hK9 K9
    try simp only [Act.put, List.setIfInBounds_toArray, List.set_cons_zero, List.set_cons_succ]
    refine wpAnyH_ready (rs := [7]) (by kernel_rfl) (by simp) (consL rfl (fun K9 hK9 => ?_) AllReadyH.nil)
    go_simp
    refine hK9.out _ _ (h5.set ho8 0 _).cells (fun _ => wpAnyH_done (by kernel_rfl) ?_ _)
    exact KEY h (w.heap.size + 4) _ (h5.set ho8 0 _) (pat_set h58 0 _) ho8
end Go.Proofs.YtlkkociijfdcgaaGreatDoor

namespace Go.Proofs.YtlkkociijfdcgaaGreatDoor
open Go.RowKit Go.Maps Go.Shelf

theorem firstAt_congr {q q' : Nat → Bool} : ∀ n k, (∀ j, k ≤ j → j < k + n → q j = q' j) → firstAt q n k = firstAt q' n k
  | 0, _, _ => rfl
  | n + 1, k, h => by
    show (if q k = true then some k else firstAt q n (k + 1)) = (if q' k = true then some k else firstAt q' n (k + 1))
    rw [h k (Nat.le_refl _) (by omega), firstAt_congr n (k + 1) (fun j h1 h2 => h j (by omega) (by omega))]
theorem lvTo_hit {fn : Nat → Pat} {s : ByteArray} (p : Nat) : ∀ m, (∀ j, j < m → PatFine (fn j)) → 0 < (lvTo fn s m).getD p 0 → ∃ j, j < m ∧ (lvOne (fn j) s).getD p 0 = (lvTo fn s m).getD p 0
  | 0, _, h => by
    have e : (lvTo fn s 0).getD p 0 = 0 := rep_getD _ _
    rw [e] at h
    exact absurd h (by decide)
  | m + 1, hf, h => by
    have hok := lvTo_ok (fn := fn) (s := s) (m := m) (fun j hj k => ((hf j (by omega)).digs k).2) m (Nat.le_refl _)
    have h1 : (lvTo fn s (m + 1)).getD p 0 = max ((lvTo fn s m).getD p 0) ((lvOne (fn m) s).getD p 0) := lvP_one (hf m (by omega)) s hok.1 (fun j => (hok.2 j).1) p
    rcases Int.le_total ((lvTo fn s m).getD p 0) ((lvOne (fn m) s).getD p 0) with hc | hc
    · exact ⟨m, by omega, by rw [h1, Int.max_eq_right hc]⟩
    · rw [Int.max_eq_left hc] at h1
      obtain ⟨j, hj, e⟩ := lvTo_hit p m (fun j hj => hf j (by omega)) (by rw [← h1]; exact h)
      exact ⟨j, by omega, by rw [e, h1]⟩
theorem decAns_ref {r : RU} {s : ByteArray} {p : Nat} (hf : ∀ j, j < r.ps.l.length → PatFine (patG r.ps.l j)) (hp : p ≤ s.size) :
    decAns (patG r.ps.l) (lowS s) r.ps.l.length (lvAt r s p) p = decR r s (p : Int) := by
  have hin : inB (p : Int) 0 (s.size : Int) = true := inB_eq (by omega) (by omega)
  have hok := lvTo_ok (fn := patG r.ps.l) (s := lowS s) (m := r.ps.l.length) (fun j hj k => ((hf j hj).digs k).2) r.ps.l.length (Nat.le_refl _)
  have h0 := (hok.2 p).1
  change 0 ≤ lvAt r s p at h0
  have hd : decR r s (p : Int) = if lvAt r s p = 0 then ((0 : Int), (12 : Int)) else match firstAt (decB r s p) (r.ps.l.length - 0) 0 with | some i => ((i : Int), (0 : Int)) | none => ((0 : Int), (0 : Int)) := by
    unfold decR
    rw [if_neg (by rw [hin]; decide), show (p : Int).toNat = p from rfl]
    try rfl
  rw [hd]
  by_cases hz : lvAt r s p = 0
  · rw [if_pos hz]
    have hn : firstAt (hitB (patG r.ps.l) (lowS s) (lvAt r s p) p) (r.ps.l.length - 0) 0 = none := by
      cases hc : firstAt (hitB (patG r.ps.l) (lowS s) (lvAt r s p) p) (r.ps.l.length - 0) 0 with
      | none => rfl
      | some i =>
        have := (firstAt_some hc).1
        unfold hitB at this
        rw [hz, Bool.and_eq_true] at this
        exact absurd this.1 (by decide)
    unfold decAns
    rw [hn]
  · rw [if_neg hz]
    have hpos : 0 < lvAt r s p := by omega
    have hcg : firstAt (hitB (patG r.ps.l) (lowS s) (lvAt r s p) p) (r.ps.l.length - 0) 0 = firstAt (decB r s p) (r.ps.l.length - 0) 0 := by
      refine firstAt_congr _ _ (fun j _ hj => ?_)
      have hj' : j < r.ps.l.length := by omega
      have hb := decB_found (r := r) (s := s) (p := p) (j := j) hf hj' hpos
      have hh : hitB (patG r.ps.l) (lowS s) (lvAt r s p) p j = true ↔ ∃ a ∈ fixs (patP (patG r.ps.l j)) (lowS s), hasDig (patG r.ps.l j).ds (lvAt r s p) a p = true := by
        unfold hitB
        rw [decide_eq_true hpos, Bool.true_and, List.any_eq_true]
      exact Bool.eq_iff_iff.2 (hh.trans hb.symm)
    unfold decAns
    rw [hcg]
    cases hc : firstAt (decB r s p) (r.ps.l.length - 0) 0 with
    | some i => rfl
    | none =>
      obtain ⟨j, hj, e⟩ := lvTo_hit (fn := patG r.ps.l) (s := lowS s) p r.ps.l.length hf hpos
      have := firstAt_none hc j (Nat.zero_le _) (by omega)
      unfold decB lvAt at this
      rw [e] at this
      simp at this
/-- What the program's Deciding answers. -/
def decP (r : RU) (s : ByteArray) (place : Int) : Int × Int := if ruleErr r s = 0 then decR r s place else (0, ruleErr r s)
set_option maxRecDepth 100000 in
set_option maxHeartbeats 1600000 in
theorem deciding_fn (r : RU) (s : ByteArray) (place : Int) (w : World) (hR : r.at_ w) (hs : s.size ≤ maxLen) :
    Calls Tryz.prog 58 #[.agg r.cells, .string s, .int .i64 place] w fun e w' => e = .returned (.tuple #[.int .i64 (decP r s place).1, .int .i64 (decP r s place).2]) ∧ Below w.heap.size w w' := by
  have hb0 := (Below.refl w.heap.size w).alloc (Nat.le_refl _) (boxR r)
  have HC := Lib.hid (bookFor_any r s (w.alloc (boxR r)) (hR.below hb0) hs)
  unfold boxR RU.cells at *
  obtain ⟨D, hD⟩ : ∃ D, D = decP r s place := ⟨_, rfl⟩
  rw [← hD]
  by_cases he : ruleErr r s = 0
  · obtain ⟨o1, o2⟩ := rules_ok he
    obtain ⟨hn, hok⟩ := checkR_pats o1
    have hfine := (checkR_fine o1).2
    have hsz := (word_size o2).2
    have HDR := Lib.hid (show D = decR r s place by rw [hD]; unfold decP; rw [if_pos he])
    have HDG := Lib.hid (fun p (h : p ≤ s.size) => decAns_ref (r := r) (s := s) (p := p) (fun j hj => (hfine j hj).2.1) h)
    have HLV := Lib.hid (fun g b1 b2 p W (hp : p ≤ s.size) (h : BookAt W (w.heap.size + 1) r g b1 b2) => deciding_any g r.ps.l.length (patG r.ps.l) (some b1) (some b2) r.left r.right s p W h.pats hok (by omega) (by omega) hp (word_ascii o2))
    clear hok o1 o2 hD hfine
    go_enter Tryz.func58, Tryz.ntmps58
    go_wp2_with fail
    refine HC.out.mono ?_
    rintro e w1 ⟨hb1, hp1⟩
    rw [if_pos he] at hp1
    obtain ⟨g, b1, b2, rfl, hbk⟩ := hp1
    have hlow := hb0.trans (hb1.mono hb0.size)
    have hbk2 := hbk.alloc (.cells #[.slice (some ⟨g, 0, none⟩) r.ps.l.length r.ps.l.length, .map (some b1), .map (some b2), .int .i64 r.left, .int .i64 r.right] 134)
    have hlow2 := hlow.alloc (by have := hlow.size; omega) (.cells #[.slice (some ⟨g, 0, none⟩) r.ps.l.length r.ps.l.length, .map (some b1), .map (some b2), .int .i64 r.left, .int .i64 r.right] 134)
    have HL := Lib.hid (fun p hp => HLV.out g b1 b2 p _ hp (by simpa using hbk2))
    have hz := hlow2.size
    clear HC HLV hbk hbk2 hb1 hb0
    unfold bookV at *
    have z0 : (0 : Int) ≤ (s.size : Int) := by omega
    by_cases hlo : place < 0
    · have g1 : decide (place < 0) = true := decide_eq_true hlo
      have HV := Lib.hid (show D = (0, 2) by rw [HDR.out]; unfold decR; rw [if_pos (inB_no (Or.inl hlo))])
      clear HL HDG
      go_wp2_with fail
      go_ret2
      rw [HV.out]
      exact ⟨rfl, hlow2⟩
    · obtain ⟨p, rfl⟩ : ∃ p : Nat, place = (p : Int) := ⟨place.toNat, by omega⟩
      have g1 : decide ((p : Int) < 0) = false := decide_eq_false hlo
      by_cases hhi : s.size < p
      · have hhiI : (s.size : Int) < (p : Int) := by omega
        have g2 : decide ((s.size : Int) < (p : Int)) = true := decide_eq_true hhiI
        have HV := Lib.hid (show D = (0, 2) by rw [HDR.out]; unfold decR; rw [if_pos (inB_no (Or.inr hhiI))])
        clear HL HDG
        go_wp2_with fail
        go_ret2
        rw [HV.out]
        exact ⟨rfl, hlow2⟩
      · have hhiI : ¬ (s.size : Int) < (p : Int) := by omega
        have g2 : decide ((s.size : Int) < (p : Int)) = false := decide_eq_false hhiI
        have HDC := Lib.hid (HL.out p (by omega))
        have HV := Lib.hid (show decAns (patG r.ps.l) (lowS s) r.ps.l.length ((lvTo (patG r.ps.l) (lowS s) r.ps.l.length).getD p 0) p = D by rw [HDR.out]; exact HDG.out p (by omega))
        have HDC2 := Lib.hid (HV.out ▸ HDC.out)
        clear HL HDG HDC
        go_wp2_with fail
        refine HDC2.out.mono ?_
        rintro e w2 ⟨rfl, hb2⟩
        go_wp2
        go_ret2
        exact ⟨rfl, hlow2.trans (hb2.mono hz)⟩
  · have HV := Lib.hid (show D = (0, ruleErr r s) by rw [hD]; unfold decP; rw [if_neg he])
    clear hD
    go_enter Tryz.func58, Tryz.ntmps58
    go_wp2_with fail
    refine HC.out.mono ?_
    rintro e w1 ⟨hb1, hp1⟩
    rw [if_neg he] at hp1
    obtain ⟨v, rfl, a0, n0, c0, m1, m2, l0, r0, rfl⟩ := hp1
    have hlow := hb0.trans (hb1.mono hb0.size)
    have hlow2 := hlow.alloc (by have := hlow.size; omega) (.cells #[.slice a0 n0 c0, .map m1, .map m2, .int .i64 l0, .int .i64 r0] 134)
    clear HC hb0 hb1
    go_wp2
    go_ret2
    rw [HV.out]
    exact ⟨rfl, hlow2⟩
end Go.Proofs.YtlkkociijfdcgaaGreatDoor

namespace Go.Proofs.YtlkkociijfdcgaaGreatDoor
open Go.RowKit Go.Maps Go.Shelf

theorem LvKnow.c {w : World} {r : RU} {wr : World} (h : DKnow w r wr) : wr.cell? ⟨w.heap.size, 0, none⟩ = some (.slice r.ps.a r.ps.l.length r.ps.c) ∧ wr.cell? ⟨w.heap.size, 1, none⟩ = some (.slice r.es.a r.es.l.length r.es.c) ∧ wr.cell? ⟨w.heap.size, 2, none⟩ = some (.slice r.bs.a r.bs.l.length r.bs.c) ∧ wr.cell? ⟨w.heap.size, 3, none⟩ = some (.int .i64 r.left) ∧ wr.cell? ⟨w.heap.size, 4, none⟩ = some (.int .i64 r.right) :=
  ⟨cell_of_row wr _ 0 _ _ (0, 0) h.box, cell_of_row wr _ 1 _ _ (0, 0) h.box, cell_of_row wr _ 2 _ _ (0, 0) h.box, cell_of_row wr _ 3 _ _ (0, 0) h.box, cell_of_row wr _ 4 _ _ (0, 0) h.box⟩
theorem decP_same {r r' : RU} (h : SameR r r') (s : ByteArray) (place : Int) : decP r' s place = decP r s place := by
  unfold decP
  rw [ruleErr_same h]
  unfold decR decB lvAt
  rw [h.1]
theorem levelsP_same {w : World} {r r' : RU} (h : SameR r r') (s : ByteArray) {e : Ending} {w' : World} (hp : LevelsPost w r' s e w') : LevelsPost w r s e w' := by
  unfold LevelsPost at hp ⊢
  rwa [ruleErr_same h, h.1] at hp
set_option maxRecDepth 100000 in
set_option maxHeartbeats 4000000 in
theorem levels_walk (r : RU) (s : ByteArray) (place : Int) (w : World) (hR : r.at_ w) (hT : TabOk w) (hc : capR r) (hs : s.size ≤ maxLen) :
    Calls Tryz.prog 10 #[.agg r.cells, .string s, .int .i64 place] w fun e w' => e = .returned (.bool true) ∧ Below w.heap.size w w' := by
  have hK0 : DKnow w r (w.alloc (.cells #[.slice r.ps.a r.ps.l.length r.ps.c, .slice r.es.a r.es.l.length r.es.c, .slice r.bs.a r.bs.l.length r.bs.c, .int .i64 r.left, .int .i64 r.right] 24)) := ⟨heap_new _ _, (Below.refl _ _).alloc (Nat.le_refl _) _⟩
  unfold RU.cells
  go_enter Tryz.func10, Tryz.ntmps10
  go_wp2_with fail
  refine (awake_any _ (hT.below hK0.low hT.1)).mono ?_
  rintro e w2 ⟨rfl, hb2⟩
  have hK2 := hK0.below hb2
  clear hK0 hb2
  obtain ⟨c0, c1, c2, c3, c4⟩ := LvKnow.c hK2
  go_wp2_with fail
  refine (Short_any r _ (hR.below hK2.low)).mono ?_
  rintro e w3 ⟨rfl, hb3⟩
  have hK3 := hK2.below hb3
  clear hK2 hb3 c0 c1 c2 c3 c4
  obtain ⟨c0, c1, c2, c3, c4⟩ := LvKnow.c hK3
  cases hsh : shortR r
  · have hlow := hK3.low
    go_wp2
    go_ret
    exact ⟨rfl, hlow⟩
  by_cases h40 : 40 < s.size
  · have hlow := hK3.low
    have g1 : decide ((40 : Int) < (s.size : Int)) = true := decide_eq_true (by omega)
    have i1 : (40 : Int) < (s.size : Int) := by omega
    go_wp2
    go_ret
    exact ⟨rfl, hlow⟩
  have g1 : decide ((40 : Int) < (s.size : Int)) = false := decide_eq_false (by omega)
  have i1 : ¬ (40 : Int) < (s.size : Int) := by omega
  obtain ⟨hSm, hl1, hl2, hl3⟩ := small_short hsh
  have hz : SizesOk r.ps.l ∧ SizesOk r.es.l ∧ SizesOk r.bs.l := ⟨hR.1.2.2, hR.2.1.2.2, hR.2.2.2.2⟩
  have hl : r.ps.l.length ≤ 1000 ∧ r.es.l.length ≤ 1000 ∧ r.bs.l.length ≤ 1000 := ⟨by omega, by omega, by omega⟩
  have HCP := Lib.hid (fun W (h : r.at_ W) => copyRules_any r W h hc hl.1 hl.2.1 hl.2.2)
  have HR := Lib.hid (fun W (h : DKnow w r W) => hR.below h.low)
  clear hR hT hc hsh
  unfold RU.cells at HCP
  go_wp2_with fail
  refine (HCP.out _ (HR.out _ hK3)).mono ?_
  rintro e w4 ⟨r1, rfl, hS1, hO1, hb4⟩
  have hA1 := own_at (w := w4) hS1 hO1 hz hl
  have hK4 := hK3.below hb4
  clear hK3 hb4 hO1 c0 c1 c2 c3 c4 g1 i1
  have HH1 := Lib.hid (Calls.mono (levelsOf_fn r1 s w4 hA1 hs) (fun e w' h => levelsP_same hS1 s h))
  clear hA1 hS1
  unfold RU.cells at HH1
  go_wp2_with fail
  refine HH1.out.mono ?_
  rintro e w5 ⟨hb5, hp5⟩
  have hK5 := hK4.below hb5
  clear hK4 hb5 HH1
  obtain ⟨c0, c1, c2, c3, c4⟩ := LvKnow.c hK5
  by_cases he : ruleErr r s = 0
  · rw [if_pos he] at hp5
    obtain ⟨h5, rfl, hX5, hh5⟩ := hp5
    go_wp2_with fail
    refine (HCP.out _ (HR.out _ hK5)).mono ?_
    rintro e w6 ⟨r2, rfl, hS2, hO2, hb6⟩
    have hA2 := own_at (w := w6) hS2 hO2 hz hl
    have hK6 := hK5.below hb6
    have hX6 := hX5.below hb6
    clear hK5 hb6 hO2 c0 c1 c2 c3 c4 hX5 hh5
    have HH2 := Lib.hid (deciding_fn r2 s place w6 hA2 hs)
    rw [decP_same hS2] at HH2
    have HV := Lib.hid (show decP r s place = decR r s place by unfold decP; rw [if_pos he])
    rw [HV.out] at HH2
    clear hA2 hS2
    obtain ⟨d1, hd1⟩ : ∃ d, d = (decR r s place).1 := ⟨_, rfl⟩
    obtain ⟨d2, hd2⟩ : ∃ d, d = (decR r s place).2 := ⟨_, rfl⟩
    rw [← hd1, ← hd2] at HH2
    have HD := Lib.hid (And.intro hd1 hd2)
    clear hd1 hd2 HV
    unfold RU.cells at HH2
    go_wp2_with fail
    refine HH2.out.mono ?_
    rintro e w7 ⟨rfl, hb7⟩
    have hK7 := hK6.below hb7
    have hX7 := hX6.below hb7
    clear hK6 hX6 hb7 HH2
    obtain ⟨c0, c1, c2, c3, c4⟩ := LvKnow.c hK7
    go_wp2_with fail
    refine (rulesErr_any r s _ (HR.out _ hK7) hSm hs).mono ?_
    rintro e w8 ⟨rfl, hb8⟩
    have hK8 := hK7.below hb8
    have hX8 := hX7.below hb8
    clear hK7 hX7 hb8 c0 c1 c2 c3 c4
    rw [he]
    obtain ⟨c0, c1, c2, c3, c4⟩ := LvKnow.c hK8
    obtain ⟨ho1, ho2⟩ := rules_ok he
    have hs30 := (word_size ho2).2
    have HRD := Lib.hid (fun W (h : r.at_ W) => refDeciding_any r s place W h hSm.1 ho1 (by omega))
    have HRL := Lib.hid (fun W (h : r.at_ W) => refLevelsOf_any r s W h hSm.1 ho1 (by omega))
    rw [← HD.out.1, ← HD.out.2] at HRD
    unfold RU.cells at HRD HRL
    have HLL := Lib.hid (show (lvTo (patG r.ps.l) (lowS s) r.ps.l.length).length = s.size + 1 by
      have h := (lvTo_ok (fn := patG r.ps.l) (s := lowS s) (m := r.ps.l.length) (fun j hj k => (((checkR_fine ho1).2 j hj).2.1.digs k).2) r.ps.l.length (Nat.le_refl _)).1
      rw [h, lowS_size])
    clear ho1 ho2 he HD
    go_wp2_with fail
    refine (HRD.out _ (HR.out _ hK8)).mono ?_
    rintro e w9 ⟨rfl, hb9⟩
    have hK9 := hK8.below hb9
    have hX9 := hX8.below hb9
    clear hK8 hX8 hb9 c0 c1 c2 c3 c4 HRD
    obtain ⟨c0, c1, c2, c3, c4⟩ := LvKnow.c hK9
    go_wp2_with fail
    refine (HRL.out _ (HR.out _ hK9)).mono ?_
    rintro e w10 ⟨h10, rfl, hY10, hh10, hb10⟩
    have hK10 := hK9.below hb10
    have hX10 := hX9.below hb10
    clear hK9 hX9 hb10 c0 c1 c2 c3 c4 HRL
    have HI := ints_any (some ⟨h5, 0, none⟩) (lvTo (patG r.ps.l) (lowS s) r.ps.l.length) (s.size + 1) (some ⟨h10, 0, none⟩) (lvTo (patG r.ps.l) (lowS s) r.ps.l.length) (s.size + 1) w10 hX10.ints hY10.ints (by rw [HLL.out]; unfold maxLen; omega) (by rw [HLL.out]; unfold maxLen; omega)
    rw [decide_eq_true rfl, HLL.out] at HI
    have hlow := hK10.low
    clear hX10 hY10 hK10 hh10
    go_wp2_with fail
    refine HI.mono ?_
    rintro e w11 ⟨rfl, hD11⟩
    have hlow11 : Below w.heap.size w w11 := hD11.below hlow
    clear hD11 HI hlow
    have e1 : (d1 == d1) = true := by simp
    have e2 : (d2 == d2) = true := by simp
    go_wp2
    go_ret
    exact ⟨rfl, hlow11⟩
  · rw [if_neg he] at hp5
    subst hp5
    go_wp2_with fail
    refine (HCP.out _ (HR.out _ hK5)).mono ?_
    rintro e w6 ⟨r2, rfl, hS2, hO2, hb6⟩
    have hA2 := own_at (w := w6) hS2 hO2 hz hl
    have hK6 := hK5.below hb6
    clear hK5 hb6 hO2 c0 c1 c2 c3 c4
    have HH2 := Lib.hid (deciding_fn r2 s place w6 hA2 hs)
    rw [decP_same hS2] at HH2
    have HV := Lib.hid (show decP r s place = (0, ruleErr r s) by unfold decP; rw [if_neg he])
    rw [HV.out] at HH2
    clear hA2 hS2
    unfold RU.cells at HH2
    go_wp2_with fail
    refine HH2.out.mono ?_
    rintro e w7 ⟨rfl, hb7⟩
    have hK7 := hK6.below hb7
    clear hK6 hb7 HH2
    obtain ⟨c0, c1, c2, c3, c4⟩ := LvKnow.c hK7
    go_wp2_with fail
    refine (rulesErr_any r s _ (HR.out _ hK7) hSm hs).mono ?_
    rintro e w8 ⟨rfl, hb8⟩
    have hlow := (hK7.below hb8).low
    obtain ⟨E, hE⟩ : ∃ E, E = ruleErr r s := ⟨_, rfl⟩
    rw [← hE] at he ⊢
    have hE0 : (E != 0) = true := by simpa using he
    have hE1 : (E == 0) = false := by simpa using he
    have hE2 : (E == E) = true := by simp
    clear hK7 hb8 c0 c1 c2 c3 c4 hE
    go_wp2
    go_ret
    exact ⟨rfl, hlow⟩
end Go.Proofs.YtlkkociijfdcgaaGreatDoor
