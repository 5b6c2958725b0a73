/-
  The errors of any number of cases.
-/
import Derived.Test.YtjkcomafgkabeaaDoorA8
import Derived.Test.YtjkcomafgkabeaaDoorM2
namespace Go.Proofs.YtjkcomafgkabeaaDoor
open Go.RowKit Go.Maps

def IntsAt (w : World) (a : Option Addr) (l : List Int) : Prop :=
  ∀ k, k < l.length → ∃ ad, a = some ad ∧ ad.block < w.heap.size ∧ w.cell? (ad.add k) = some (.int .i64 (l.getD k 0))
theorem IntsAt.below {w w' : World} {a : Option Addr} {l : List Int} (h : IntsAt w a l) (hb : Below w.heap.size w w') : IntsAt w' a l := fun k hk => by
  obtain ⟨ad, e, hlt, hs⟩ := h k hk
  exact ⟨ad, e, Nat.lt_of_lt_of_le hlt hb.size, (hb.cell (by rw [add_block]; exact hlt)).trans hs⟩
theorem IntsAt.alloc {w : World} {a : Option Addr} {l : List Int} (h : IntsAt w a l) (o : Obj) : IntsAt (w.alloc o) a l := h.below ((Below.refl _ _).alloc (Nat.le_refl _) o)
theorem IntsAt.at_ {w : World} {a : Option Addr} {l : List Int} {k : Nat} (h : IntsAt w a l) (hk : k < l.length) : ∃ ad, a = some ad ∧ ad.block < w.heap.size ∧ w.cell? (ad.add k) = some (.int .i64 (l.getD k 0)) := h k hk

/-- The world wr is w0 behind some draws. -/
def Drew (w0 wr : World) : Prop := ∃ n, wr = w0.drewN n
theorem Drew.refl (w : World) : Drew w w := ⟨0, rfl⟩
theorem Drew.drew {w0 wr : World} (h : Drew w0 wr) : Drew w0 wr.drew := by obtain ⟨n, rfl⟩ := h; exact ⟨n + 1, rfl⟩
theorem Drew.drewN {w0 wr : World} (h : Drew w0 wr) (m : Nat) : Drew w0 (wr.drewN m) := by obtain ⟨n, rfl⟩ := h; exact ⟨n + m, by rw [World.drewN_drewN]⟩
theorem Drew.ints {w0 wr : World} (h : Drew w0 wr) {a : Option Addr} {l : List Int} (hi : IntsAt w0 a l) : IntsAt wr a l := by obtain ⟨n, rfl⟩ := h; exact hi
theorem Drew.sorts {w0 wr : World} (h : Drew w0 wr) {a : Option Addr} {l : List TS} (hi : SortsAt w0 a l) : SortsAt wr a l := by obtain ⟨n, rfl⟩ := h; exact hi
theorem Drew.cell {w0 wr : World} (h : Drew w0 wr) {p : Addr} {v : Value} (hi : w0.cell? p = some v) : wr.cell? p = some v := by obtain ⟨n, rfl⟩ := h; exact hi
theorem Drew.size {w0 wr : World} (h : Drew w0 wr) : wr.heap.size = w0.heap.size := by obtain ⟨n, rfl⟩ := h; rfl
theorem below_drewN {B : Nat} {a w : World} (h : Below B a w) (n : Nat) : Below B a (w.drewN n) := ⟨h.os, h.tape, h.output, h.size, h.block⟩
theorem Drew.below {w0 wr : World} (h : Drew w0 wr) {B : Nat} {a : World} (hb : Below B a w0) : Below B a wr := by obtain ⟨n, rfl⟩ := h; exact below_drewN hb n

/-- A slice of numbers: where it lies, its capacity, what it reads. -/
structure IS where
  a : Option Addr
  c : Nat
  l : List Int
def noIS : IS := ⟨none, 0, []⟩
def IS.at_ (x : IS) (w : World) : Prop := IntsAt w x.a x.l ∧ x.l.length ≤ maxLen
def ListsAt (w : World) (a : Option Addr) (ls : List IS) : Prop :=
  ∀ k, k < ls.length → ∃ ad, a = some ad ∧ ad.block < w.heap.size ∧ w.cell? (ad.add k) = some (.slice (ls.getD k noIS).a (ls.getD k noIS).l.length (ls.getD k noIS).c) ∧ (ls.getD k noIS).at_ w
theorem ListsAt.below {w w' : World} {a : Option Addr} {ls : List IS} (h : ListsAt w a ls) (hb : Below w.heap.size w w') : ListsAt w' a ls := fun k hk => by
  obtain ⟨ad, e, hlt, hs, hi⟩ := h k hk
  exact ⟨ad, e, Nat.lt_of_lt_of_le hlt hb.size, (hb.cell (by rw [add_block]; exact hlt)).trans hs, hi.1.below hb, hi.2⟩
theorem ListsAt.alloc {w : World} {a : Option Addr} {l : List IS} (h : ListsAt w a l) (o : Obj) : ListsAt (w.alloc o) a l := h.below ((Below.refl _ _).alloc (Nat.le_refl _) o)
theorem ListsAt.at_ {w : World} {a : Option Addr} {ls : List IS} {k : Nat} (h : ListsAt w a ls) (hk : k < ls.length) : ∃ ad, a = some ad ∧ ad.block < w.heap.size ∧ w.cell? (ad.add k) = some (.slice (ls.getD k noIS).a (ls.getD k noIS).l.length (ls.getD k noIS).c) ∧ (ls.getD k noIS).at_ w := h k hk
theorem map_getD (ls : List IS) (k : Nat) : (ls.map (·.l)).getD k [] = (ls.getD k noIS).l := by
  rw [List.getD_eq_getElem?_getD, List.getD_eq_getElem?_getD, List.getElem?_map]
  cases ls[k]? <;> rfl
theorem casesErr_fount {f : FT} {ls : List (List Int)} (h : (checkF f).2 ≠ 0) : casesErr f ls = (checkF f).2 := by unfold casesErr; rw [if_pos h]
theorem casesErr_rest {f : FT} {ls : List (List Int)} (h : (checkF f).2 = 0) : casesErr f ls = listsErr f.sorts.length ls := by unfold casesErr; rw [if_neg (by simp [h])]

set_option maxRecDepth 100000 in
set_option maxHeartbeats 1000000 in
theorem errorOfCounts_any (f : FT) (a : Option Addr) (c : Nat) (A : Option Addr) (ls : List IS) (C : Nat) (w : World) (hO : OkF f) (hF : SortsAt w a f.sorts) (hT : TabOk w) (hL : ListsAt w A ls) (hl : ls.length ≤ maxLen) :
    Calls Tryd.prog 85 #[.agg #[.string f.name, .int .i64 f.body, .slice a f.sorts.length c], .slice A ls.length C] w fun e w' => e = .returned (.int .i64 (casesErr f (ls.map (·.l)))) ∧ Below w.heap.size w w' := by
  have hO2 := hO.2.1
  by_cases h1 : (checkF f).2 = 0
  · have HC := Lib.hid (casesErr_rest (ls := ls.map (·.l)) h1)
    unfold maxLen at hl hO2
    go_enter Tryd.func85, Tryd.ntmps85
    go_wp2_with fail
    refine (checkFount_any f a c _ hO (by exact hF.alloc _) (by exact hT.alloc _)).mono ?_
    rintro e w1 ⟨rfl, hb⟩
    rw [h1]
    clear h1
    obtain ⟨hc, hf⟩ := bcell hb
    have hz : w.heap.size + 1 ≤ w1.heap.size := by have := hb.size; simpa using this
    have hB := ((Below.refl w.heap.size w).alloc (Nat.le_refl _) (.cells #[.string f.name, .int .i64 f.body, .slice a f.sorts.length c] 24)).trans (hb.mono (B' := w.heap.size) (by simp))
    have hL1 := hL.below hB
    have b2 : w1.cell? ⟨w.heap.size, 2, none⟩ = some (.slice a f.sorts.length c) := by rw [hc _ _ (by simp)]; simp
    clear hb hc hf
    go_wp2_with fail
    go_loop [21] (fun i => ∃ k : Nat, k ≤ ls.length ∧ i = .int .i64 k ∧ Hid (listsErr f.sorts.length (ls.map (·.l)) = listsErr f.sorts.length ((ls.map (·.l)).drop k))) (fun i => ls.length - (intOf i).toNat)
    case atStart => exact ⟨0, Nat.zero_le _, rfl, Lib.hid (by rw [List.drop_zero])⟩
    case round =>
      obtain ⟨k, hk, rfl, HR⟩ := hrel
      by_cases hlt : k < ls.length
      · obtain ⟨ad, rfl, had, hcell, hi, hil⟩ := hL1.at_ hlt
        obtain ⟨x, ex⟩ : ∃ x, x = ls.getD k noIS := ⟨_, rfl⟩
        have hxl : x.l = (ls.map (·.l)).getD k [] := by rw [map_getD, ex]
        rw [← ex] at hcell hi hil
        have HX := Lib.hid hxl; clear hxl ex
        unfold maxLen at hil
        by_cases hn : x.l.length = f.sorts.length
        · have hne : ((x.l.length : Int) != (f.sorts.length : Int)) = false := by simp [hn]
          have HN := Lib.hid (countErr_rest hn)
          have hn1 := Lib.hid hn; clear hn
          go_wp2
          go_loop [33] (fun i => ∃ j : Nat, j ≤ x.l.length ∧ i = .int .i64 j ∧ Hid (x.l.any outB = (x.l.drop j).any outB)) (fun i => x.l.length - (intOf i).toNat)
          case atStart => exact ⟨0, Nat.zero_le _, rfl, Lib.hid (by rw [List.drop_zero])⟩
          case round =>
            obtain ⟨j, hj, rfl, HJ⟩ := hrel
            by_cases hjl : j < x.l.length
            · obtain ⟨bd, hbd, hbdl, hjc⟩ := hi.at_ hjl
              have hoc := outs_cons hjl
              obtain ⟨v, ev⟩ : ∃ v, v = x.l.getD j 0 := ⟨_, rfl⟩
              rw [← ev] at hjc hoc
              clear ev
              by_cases ho : v < 0 ∨ 1000000 < v
              · rw [out_yes ho, Bool.true_or] at hoc
                have HOC := Lib.hid hoc; clear hoc
                have hlo := Lib.hid (show listsErr f.sorts.length ((ls.map (·.l)).drop k) = 2 by
                  have e2 : countErr f.sorts.length ((ls.map (·.l)).getD k []) = 2 := by rw [← HX.out, HN.out, HJ.out, HOC.out]; rfl
                  rw [listsErr_stop (by simpa using hlt) (by rw [e2]; decide), e2])
                go_wp2
                all_goals first | (exfalso; omega) | (exfalso; (simp at *) <;> omega) | skip
                all_goals go_ret
                all_goals exact ⟨ret_int (by rw [HC.out, HR.out, hlo.out]), hB⟩
              · rw [out_no ho, Bool.false_or] at hoc
                have HOC := Lib.hid hoc; clear hoc
                have h33 : 0 ≤ v := by omega
                have h126 : v ≤ 1000000 := by omega
                clear ho
                go_wp2
                go_round
                case rel => (repeat apply Exists.intro); exact ⟨⟨j + 1, by omega, by go_num, Lib.hid (HJ.out.trans HOC.out)⟩, rfl, rfl, rfl⟩
                case measure => simp [intOf]; omega
            · have HOC := Lib.hid (outs_end hjl)
              have hlo := Lib.hid (show listsErr f.sorts.length ((ls.map (·.l)).drop k) = listsErr f.sorts.length ((ls.map (·.l)).drop (k + 1)) by
                have e2 : countErr f.sorts.length ((ls.map (·.l)).getD k []) = 0 := by rw [← HX.out, HN.out, HJ.out, HOC.out]; rfl
                rw [listsErr_go (by simpa using hlt) e2])
              go_wp2
              go_round
              case rel => exact ⟨k + 1, by omega, by go_num, Lib.hid (HR.out.trans hlo.out)⟩
              case measure => simp [intOf]; omega
        · have hne : ((x.l.length : Int) != (f.sorts.length : Int)) = true := by simp; omega
          have hlo := Lib.hid (show listsErr f.sorts.length ((ls.map (·.l)).drop k) = 10 by
            have e2 : countErr f.sorts.length ((ls.map (·.l)).getD k []) = 10 := by rw [← HX.out, countErr_len hn]
            rw [listsErr_stop (by simpa using hlt) (by rw [e2]; decide), e2])
          clear hn
          go_wp2
          go_ret
          exact ⟨ret_int (by rw [HC.out, HR.out, hlo.out]), hB⟩
      · have hlo := Lib.hid (listsErr_end (n := f.sorts.length) (ls := ls.map (·.l)) (k := k) (by simpa using hlt))
        go_wp2
        go_ret
        exact ⟨ret_int (by rw [HC.out, HR.out, hlo.out]), hB⟩
  · have HC := Lib.hid (casesErr_fount (ls := ls.map (·.l)) h1)
    have heb : ((checkF f).2 != 0) = true := by simpa using h1
    clear h1
    go_enter Tryd.func85, Tryd.ntmps85
    go_wp2_with fail
    refine (checkFount_any f a c _ hO (by exact hF.alloc _) (by exact hT.alloc _)).mono ?_
    rintro e w1 ⟨rfl, hb⟩
    have hB := ((Below.refl w.heap.size w).alloc (Nat.le_refl _) (.cells #[.string f.name, .int .i64 f.body, .slice a f.sorts.length c] 24)).trans (hb.mono (B' := w.heap.size) (by simp))
    go_wp2
    go_ret
    exact ⟨ret_int (by rw [HC.out]), hB⟩
end Go.Proofs.YtjkcomafgkabeaaDoor
