/-
  The reference's small letters; the dots of its patterns.
-/
import Derived.Test.YtlkkociijfdcgaaGreatDoorW3
import Derived.Lib.Case
import Derived.Test.YtlkkociijfdcgaaGreatDoorQX
import Derived.Test.YtlkkociijfdcgaaGreatDoorZ4
import Derived.Test.YtlkkociijfdcgaaGreatDoorVO
import Derived.Test.YtlkkociijfdcgaaGreatDoorZY
import Derived.Test.YtlkkociijfdcgaaGreatDoorVY
import Derived.Deep.RegionHeld3
import Derived.Test.YtlkkociijfdcgaaGreatDoorYN
namespace Go.Proofs.YtlkkociijfdcgaaGreatDoor
open Go.RowKit Go.Maps

end Go.Proofs.YtlkkociijfdcgaaGreatDoor
/-
  The dots of the reference's patterns.
-/
namespace Go.Proofs.YtlkkociijfdcgaaGreatDoor
open Go.RowKit
end Go.Proofs.YtlkkociijfdcgaaGreatDoor

/-
  The levels of a pattern, as the reference reckons them: maths.
-/
namespace Go.Proofs.YtlkkociijfdcgaaGreatDoor
open Go.RowKit Go.Maps Go.Shelf

theorem rep_getD (n j : Nat) : (List.replicate n (0 : Int)).getD j 0 = 0 := by
  rw [List.getD_eq_getElem?_getD, List.getElem?_replicate]
  split <;> rfl
theorem ext_list (s : ByteArray) (i j : Nat) : (s.extract i j).data.toList = (s.data.toList.drop i).take (j - i) := by
  rw [ByteArray.data_extract, Array.toList_extract, List.extract_eq_take_drop]
end Go.Proofs.YtlkkociijfdcgaaGreatDoor

namespace Go.Proofs.YtlkkociijfdcgaaGreatDoor
open Go.RowKit Go.Maps Go.Shelf

/-- What lies between two rounds of the inner loop. -/
structure LvIn (w : World) (I : ByteArray) (A : Option Addr) (c : Nat) (x : Pat) (M : List Int) (wr : World) : Prop where
  box : wr.heap[w.heap.size]? = some (.cells #[.string I, .slice A (refLv x).length c] 149 (0, 0))
  row : RowX wr (w.heap.size + 1) M
  low : Below w.heap.size w wr
theorem LvIn.set_ {w : World} {I : ByteArray} {A : Option Addr} {c : Nat} {x : Pat} {M : List Int} {wr : World} (h : LvIn w I A c x M wr) (j : Nat) (v : Int) : LvIn w I A c x (M.set j v) (wr.setCell ⟨w.heap.size + 1, j, none⟩ (.int .i64 v)) :=
  ⟨(Below.heap_setCell _ _ _ _ (by show w.heap.size ≠ w.heap.size + 1; omega)).trans h.box, h.row.set_ j v, h.low.setCell (by show w.heap.size ≤ w.heap.size + 1; omega) _⟩
theorem LvIn.drewN {w : World} {I : ByteArray} {A : Option Addr} {c : Nat} {x : Pat} {M : List Int} {wr : World} (h : LvIn w I A c x M wr) (n : Nat) : LvIn w I A c x M (wr.drewN n) := ⟨h.box, h.row.drewN n, below_drewN h.low n⟩
theorem LvIn.drew {w : World} {I : ByteArray} {A : Option Addr} {c : Nat} {x : Pat} {M : List Int} {wr : World} (h : LvIn w I A c x M wr) : LvIn w I A c x M wr.drew := ⟨h.box, h.row.drew, h.low.drew⟩
end Go.Proofs.YtlkkociijfdcgaaGreatDoor
/-
  The levels of all patterns: the reference's walk.
-/
namespace Go.Proofs.YtlkkociijfdcgaaGreatDoor
open Go.RowKit Go.Maps Go.Shelf

theorem IRow.ints {w : World} {base : Nat} {A : Option Addr} {n c : Nat} {l : List Int} (h : IRow w base (.slice A n c) l) : n = l.length ∧ IntsAt w A l := by
  obtain ⟨a, c', e, hI, _⟩ := h.shape
  injection e with e1 e2 e3
  subst e1
  exact ⟨e2, hI⟩
structure LOKnow (w : World) (r : RU) (M : List Int) (wr : World) : Prop where
  box : wr.heap[w.heap.size]? = some (.cells #[.slice r.ps.a r.ps.l.length r.ps.c, .slice r.es.a r.es.l.length r.es.c, .slice r.bs.a r.bs.l.length r.bs.c, .int .i64 r.left, .int .i64 r.right] 24 (0, 0))
  row : RowX wr (w.heap.size + 1) M
  low : Below w.heap.size w wr
theorem LOKnow.below {w : World} {r : RU} {M : List Int} {wr wr' : World} (h : LOKnow w r M wr) (hb : Below wr.heap.size wr wr') : LOKnow w r M wr' := ⟨(hb.block _ (heap_lt h.box)).trans h.box, h.row.below hb, h.low.trans (hb.mono h.low.size)⟩
theorem LOKnow.set_ {w : World} {r : RU} {M : List Int} {wr : World} (h : LOKnow w r M wr) (j : Nat) (v : Int) : LOKnow w r (M.set j v) (wr.setCell ⟨w.heap.size + 1, j, none⟩ (.int .i64 v)) :=
  ⟨(Below.heap_setCell _ _ _ _ (by show w.heap.size ≠ w.heap.size + 1; omega)).trans h.box, h.row.set_ j v, h.low.setCell (by show w.heap.size ≤ w.heap.size + 1; omega) _⟩
theorem LOKnow.drew {w : World} {r : RU} {M : List Int} {wr : World} (h : LOKnow w r M wr) : LOKnow w r M wr.drew := ⟨h.box, h.row.drew, h.low.drew⟩
end Go.Proofs.YtlkkociijfdcgaaGreatDoor

namespace Go.Proofs.YtlkkociijfdcgaaGreatDoor
open Go.RowKit Go.Maps Go.Shelf

structure HyKnow (w : World) (r : RU) (wr : World) : Prop where
  box : wr.heap[w.heap.size]? = some (.cells #[.slice r.ps.a r.ps.l.length r.ps.c, .slice r.es.a r.es.l.length r.es.c, .slice r.bs.a r.bs.l.length r.bs.c, .int .i64 r.left, .int .i64 r.right] 24 (0, 0))
  low : Below w.heap.size w wr
theorem HyKnow.below {w : World} {r : RU} {wr wr' : World} (h : HyKnow w r wr) (hb : Below wr.heap.size wr wr') : HyKnow w r wr' := ⟨(hb.block _ (heap_lt h.box)).trans h.box, h.low.trans (hb.mono h.low.size)⟩
theorem HyKnow.drewN {w : World} {r : RU} {wr : World} (h : HyKnow w r wr) (n : Nat) : HyKnow w r (wr.drewN n) := ⟨h.box, below_drewN h.low n⟩
theorem HyKnow.own {w : World} {r : RU} {wr wr' : World} (h : HyKnow w r wr) (hb : Below (w.heap.size + 1) wr wr') : HyKnow w r wr' := ⟨(hb.block _ (by omega)).trans h.box, h.low.trans (hb.mono (by omega))⟩
end Go.Proofs.YtlkkociijfdcgaaGreatDoor
/-
  A word with its hyphens: the reference's walk.
-/
namespace Go.Proofs.YtlkkociijfdcgaaGreatDoor
open Go.RowKit Go.Maps Go.Shelf

theorem mem_getD {l : List Int} {n : Int} : n ∈ l ↔ ∃ j, j < l.length ∧ l.getD j 0 = n := by
  constructor
  · intro h
    obtain ⟨j, hj, e⟩ := List.getElem_of_mem h
    exact ⟨j, hj, by rw [List.getD_eq_getElem?_getD, List.getElem?_eq_getElem hj]; exact e⟩
  · rintro ⟨j, hj, e⟩
    rw [List.getD_eq_getElem?_getD, List.getElem?_eq_getElem hj] at e
    exact e ▸ List.getElem_mem hj
end Go.Proofs.YtlkkociijfdcgaaGreatDoor

namespace Go.Proofs.YtlkkociijfdcgaaGreatDoor
open Go.RowKit Go.Maps Go.Shelf

end Go.Proofs.YtlkkociijfdcgaaGreatDoor
/-
  The set word: the reference's walk.
-/
namespace Go.Proofs.YtlkkociijfdcgaaGreatDoor
open Go.RowKit Go.Maps Go.Shelf

/-- Sorts that print something have a text. -/
def Texted (f : FT) : Prop := ∀ i, i < f.sorts.length → (f.sorts.getD i noTS).kind ≠ 3 → 0 < (f.sorts.getD i noTS).text.size
theorem may_kind {p : PC} {pl : Nat} {x : TS} (h : mayB p pl x = true) : x.kind ≠ 3 := by
  unfold mayB at h
  rw [Bool.and_eq_true] at h
  intro e
  have := h.1
  rw [e] at this
  cases this
structure SetKnow (w : World) (f : FT) (a : Option Addr) (c : Nat) (wr : World) : Prop where
  box : wr.heap[w.heap.size]? = some (.cells #[.string f.name, .int .i64 f.body, .slice a f.sorts.length c] 59 (0, 0))
  low : Below w.heap.size w wr
theorem SetKnow.below {w : World} {f : FT} {a : Option Addr} {c : Nat} {wr wr' : World} (h : SetKnow w f a c wr) (hb : Below wr.heap.size wr wr') : SetKnow w f a c wr' := ⟨(hb.block _ (heap_lt h.box)).trans h.box, h.low.trans (hb.mono h.low.size)⟩
theorem SetKnow.own {w : World} {f : FT} {a : Option Addr} {c : Nat} {wr wr' : World} (h : SetKnow w f a c wr) (hb : Below (w.heap.size + 1) wr wr') : SetKnow w f a c wr' := ⟨(hb.block _ (by omega)).trans h.box, h.low.trans (hb.mono (by omega))⟩
theorem SetKnow.c {w : World} {f : FT} {a : Option Addr} {c : Nat} {wr : World} (h : SetKnow w f a c wr) : wr.cell? ⟨w.heap.size, 0, none⟩ = some (.string f.name) ∧ wr.cell? ⟨w.heap.size, 1, none⟩ = some (.int .i64 f.body) ∧ wr.cell? ⟨w.heap.size, 2, none⟩ = some (.slice a f.sorts.length c) :=
  ⟨cell_of_row wr _ 0 _ _ (0, 0) h.box, cell_of_row wr _ 1 _ _ (0, 0) h.box, cell_of_row wr _ 2 _ _ (0, 0) h.box⟩
end Go.Proofs.YtlkkociijfdcgaaGreatDoor

/-
  SortsOf: the reference's walk.
-/
namespace Go.Proofs.YtlkkociijfdcgaaGreatDoor
open Go.RowKit Go.Maps Go.Shelf

theorem texted {f : FT} (h : (checkF f).2 = 0) : Texted f := by
  intro k hk hk3
  obtain ⟨_, _, ha⟩ := checkF_right h
  obtain ⟨_, _, h3, _, h5⟩ := sortErr_zero (ha k hk)
  unfold textErr at h5
  split at h5
  · cases h5
  rename_i h6
  have h6 : inB (f.sorts.getD k noTS).text.size (leastOf (f.sorts.getD k noTS).kind) (mostOf (f.sorts.getD k noTS).kind) = true := by simpa using h6
  have h7 := (of_decide_eq_true (show decide _ = true from h6))
  unfold leastOf mostOf at h7
  split at h7
  · omega
  · split at h7
    · omega
    · have h8 := of_decide_eq_true (show decide _ = true from h3)
      omega
theorem bytes_eq4 {a b : ByteArray} (h : a.data.toList = b.data.toList) : a = b := by
  cases a; cases b; congr; exact Array.toList_inj.1 h
theorem ext_whole (s : ByteArray) : s.extract 0 s.size = s := by
  apply bytes_eq4
  rw [ext_list, List.drop_zero, Nat.sub_zero, List.take_of_length_le (by rw [Array.length_toList]; exact Nat.le_refl _)]
end Go.Proofs.YtlkkociijfdcgaaGreatDoor

namespace Go.Proofs.YtlkkociijfdcgaaGreatDoor
open Go.RowKit Go.Maps Go.Shelf

/-- At most 20 sorts, or too many, with short names and texts. -/
def few2X (x : TS) : Bool := decide (30 < x.name.size ∨ 10 < x.text.size)
def few2B (f : FT) : Bool := !(decide (30 < f.name.size ∨ (20 < f.sorts.length ∧ f.sorts.length ≤ 120) ∨ 122 < f.sorts.length)) && !(f.sorts.any few2X)
set_option maxRecDepth 100000 in
set_option maxHeartbeats 1000000 in
theorem few2_any (f : FT) (a : Option Addr) (c : Nat) (w : World) (hO : OkF f) (hF : SortsAt w a f.sorts) :
    Calls Tryz.prog 36 #[.agg #[.string f.name, .int .i64 f.body, .slice a f.sorts.length c]] w fun e w' => e = .returned (.bool (few2B f)) ∧ Below w.heap.size w w' := by
  have hO1 := hO.1
  have hO2 := hO.2.1
  unfold maxLen at hO1 hO2
  have hB0 := (Below.refl w.heap.size w).alloc (Nat.le_refl _) (.cells #[.string f.name, .int .i64 f.body, .slice a f.sorts.length c] 59)
  by_cases h1 : 30 < f.name.size ∨ (20 < f.sorts.length ∧ f.sorts.length ≤ 120) ∨ 122 < f.sorts.length
  · have HE := Lib.hid (show few2B f = false by unfold few2B; rw [decide_eq_true h1]; try rfl)
    go_enter Tryz.func36, Tryz.ntmps36
    go_wp2
    all_goals first | (exfalso; omega) | (exfalso; (simp at *) <;> omega) | skip
    all_goals go_ret
    all_goals exact ⟨ret_bool HE.out.symm, hB0⟩
  · have HE := Lib.hid (show few2B f = !(f.sorts.any few2X) by unfold few2B; rw [decide_eq_false h1]; try rfl)
    have hF1 := hF.alloc (.cells #[.string f.name, .int .i64 f.body, .slice a f.sorts.length c] 59)
    have g1 : f.name.size ≤ 30 := by omega
    have g2 : f.sorts.length ≤ 20 ∨ 120 < f.sorts.length := by omega
    have g3 : f.sorts.length ≤ 122 := by omega
    clear h1
    rcases g2 with g2 | g2
    all_goals
      go_enter Tryz.func36, Tryz.ntmps36
      go_wp2
      go_loop [3] (fun i => ∃ k : Nat, k ≤ f.sorts.length ∧ i = .int .i64 k ∧ Hid (firstAt (fun i => few2X (f.sorts.getD i noTS)) (f.sorts.length - 0) 0 = firstAt (fun i => few2X (f.sorts.getD i noTS)) (f.sorts.length - k) k)) (fun i => f.sorts.length - (intOf i).toNat)
      case atStart => exact ⟨0, Nat.zero_le _, rfl, Lib.hid rfl⟩
      case round =>
        obtain ⟨k, hk, rfl, HR⟩ := hrel
        by_cases hlt : k < f.sorts.length
        · obtain ⟨ad, rfl, had, s0, s1, s2, s3⟩ := hF1.at_ hlt
          have hx := hO.at_ hlt
          obtain ⟨x, ex⟩ : ∃ x, x = f.sorts.getD k noTS := ⟨_, rfl⟩
          rw [← ex] at s0 s1 s2 s3 hx
          have EX := Lib.hid ex; clear ex s2 s3
          obtain ⟨hx1, hx2⟩ := hx
          unfold maxLen at hx1 hx2
          by_cases hq : 30 < x.name.size ∨ 10 < x.text.size
          · have HS := Lib.hid (firstAt_stop (q := fun i => few2X (f.sorts.getD i noTS)) hlt (by show few2X _ = true; rw [← EX.out]; exact decide_eq_true hq))
            go_wp2
            all_goals first | (exfalso; omega) | (exfalso; (simp at *) <;> omega) | skip
            all_goals go_ret
            all_goals exact ⟨ret_bool (by rw [HE.out, any_firstAt (p := few2X) (HR.out.trans HS.out)]; rfl), hB0⟩
          · have HS := Lib.hid (firstAt_go (q := fun i => few2X (f.sorts.getD i noTS)) hlt (by show few2X _ = false; rw [← EX.out]; exact decide_eq_false hq))
            have q1 : x.name.size ≤ 30 := by omega
            have q2 : x.text.size ≤ 10 := by omega
            clear hq
            go_wp2
            go_round
            case rel => exact ⟨k + 1, by omega, by go_num, Lib.hid (HR.out.trans HS.out)⟩
            case measure => simp [intOf]; omega
        · have HS := Lib.hid (firstAt_end (q := fun i => few2X (f.sorts.getD i noTS)) hlt)
          go_wp2
          go_ret
          exact ⟨ret_bool (by rw [HE.out, any_firstAt (p := few2X) (HR.out.trans HS.out)]; rfl), hB0⟩

theorem few2_len {f : FT} (h : few2B f = true) : f.sorts.length ≤ 122 := by
  unfold few2B at h
  rw [Bool.and_eq_true] at h
  have h1 := h.1
  rw [Bool.not_eq_true'] at h1
  have := of_decide_eq_false h1
  omega
/-- A fount as it comes in. -/
structure FIn (w : World) (f : FT) (a : Option Addr) (c : Nat) : Prop where
  at_ : FAt w a f
  cap : f.sorts.length ≤ c
  nil : a = none → c = 0
theorem FIn.below {w w' : World} {f : FT} {a : Option Addr} {c : Nat} (h : FIn w f a c) (hb : Below w.heap.size w w') : FIn w' f a c := ⟨h.at_.below hb, h.cap, h.nil⟩
theorem refFountErr_any (f : FT) (a : Option Addr) (c : Nat) (w : World) (hF : FIn w f a c) :
    Calls Tryz.prog 40 #[.agg #[.string f.name, .int .i64 f.body, .slice a f.sorts.length c]] w fun e w' => e = .returned (.int .i64 (checkF f).2) ∧ Below w.heap.size w w' := by
  have hb0 := (Below.refl w.heap.size w).alloc (Nat.le_refl _) (.cells #[.string f.name, .int .i64 f.body, .slice a f.sorts.length c] 59)
  have HC := Lib.hid (refCheckFount_any f a c _ hF.cap hF.at_.ok (hF.at_.at_.below hb0))
  go_enter Tryz.func40, Tryz.ntmps40
  go_wp2_with fail
  refine HC.out.mono ?_
  rintro e w2 ⟨rfl, hb2⟩
  have hlow := hb0.trans (hb2.mono hb0.size)
  clear HC hb2 hb0
  go_wp2
  go_ret
  exact ⟨rfl, hlow⟩
set_option maxRecDepth 100000 in
set_option maxHeartbeats 1000000 in
theorem wordErrF_any (f : FT) (a : Option Addr) (c : Nat) (r : RU) (s : ByteArray) (w : World) (hF : FIn w f a c) (hR : r.at_ w) (hS : RSmall r) (hs : s.size ≤ maxLen) :
    Calls Tryz.prog 43 #[.agg #[.string f.name, .int .i64 f.body, .slice a f.sorts.length c], .agg r.cells, .string s] w fun e w' => e = .returned (.int .i64 (setErrW f r s)) ∧ Below w.heap.size w w' := by
  have hb0 := ((Below.refl w.heap.size w).alloc (Nat.le_refl _) (.cells #[.string f.name, .int .i64 f.body, .slice a f.sorts.length c] 59)).alloc (by simp) (.cells #[.slice r.ps.a r.ps.l.length r.ps.c, .slice r.es.a r.es.l.length r.es.c, .slice r.bs.a r.bs.l.length r.bs.c, .int .i64 r.left, .int .i64 r.right] 24)
  have n1 := heap_new (w.alloc (.cells #[.string f.name, .int .i64 f.body, .slice a f.sorts.length c] 59)) (.cells #[.slice r.ps.a r.ps.l.length r.ps.c, .slice r.es.a r.es.l.length r.es.c, .slice r.bs.a r.bs.l.length r.bs.c, .int .i64 r.left, .int .i64 r.right] 24)
  rw [World.size_alloc] at n1
  have HFE := Lib.hid (refFountErr_any f a c _ (hF.below hb0))
  have HRE := Lib.hid (fun W (hb : Below w.heap.size w W) => refErr_any r W (hR.below hb) hS.1 hS.2.1 hS.2.2)
  have HIW := Lib.hid (fun W => refIsWord_any s W hs)
  have HE := Lib.hid (show setErrW f r s = if (checkF f).2 ≠ 0 then (checkF f).2 else if (checkR r).2 ≠ 0 then (checkR r).2 else wordErr s by
    unfold setErrW setErr
    by_cases h1 : (checkF f).2 = 0
    · by_cases h2 : (checkR r).2 = 0 <;> simp [h1, h2]
    · simp [h1])
  unfold RU.cells at *
  obtain ⟨E, hE⟩ : ∃ E, E = setErrW f r s := ⟨_, rfl⟩
  rw [← hE] at HE ⊢
  clear hE
  by_cases h1 : (checkF f).2 = 0
  · have hb : ((checkF f).2 != 0) = false := by rw [h1]; try rfl
    by_cases h2 : (checkR r).2 = 0
    · have hbr : ((checkR r).2 != 0) = false := by rw [h2]; try rfl
      have HV := Lib.hid (show E = wordErr s by rw [HE.out, if_neg (fun h => h h1), if_neg (fun h => h h2)])
      clear h1 h2 HE
      go_enter Tryz.func43, Tryz.ntmps43
      go_wp2_with fail
      refine HFE.out.mono ?_
      rintro e w2 ⟨rfl, hb2⟩
      have hlow := hb0.trans (hb2.mono hb0.size)
      have hbx := (hb2.block _ (heap_lt n1)).trans n1
      have d0 := cell_of_row w2 _ 0 _ _ (0, 0) hbx
      have d1 := cell_of_row w2 _ 1 _ _ (0, 0) hbx
      have d2 := cell_of_row w2 _ 2 _ _ (0, 0) hbx
      have d3 := cell_of_row w2 _ 3 _ _ (0, 0) hbx
      have d4 := cell_of_row w2 _ 4 _ _ (0, 0) hbx
      clear hbx hb2 n1 hb0 HFE
      go_wp2_with fail
      refine (HRE.out _ hlow).mono ?_
      rintro e w3 ⟨rfl, hb3⟩
      have hlow3 := hlow.trans (hb3.mono hlow.size)
      clear d0 d1 d2 d3 d4 hb3 HRE hlow
      go_wp2_with fail
      refine (HIW.out _).mono ?_
      rintro e w4 ⟨rfl, rfl⟩
      cases hw : isWordB s
      · have HV2 := Lib.hid (show E = 3 by rw [HV.out]; unfold wordErr; rw [hw]; try rfl)
        clear hw
        go_wp2
        go_ret
        exact ⟨by rw [HV2.out]; try rfl, hlow3⟩
      · have HV2 := Lib.hid (show E = 0 by rw [HV.out]; unfold wordErr; rw [hw]; try rfl)
        clear hw
        go_wp2
        go_ret
        exact ⟨by rw [HV2.out]; try rfl, hlow3⟩
    · have hbr : ((checkR r).2 != 0) = true := by simpa using h2
      have HV := Lib.hid (show E = (checkR r).2 by rw [HE.out, if_neg (fun h => h h1), if_pos h2])
      clear h1 h2 HE
      go_enter Tryz.func43, Tryz.ntmps43
      go_wp2_with fail
      refine HFE.out.mono ?_
      rintro e w2 ⟨rfl, hb2⟩
      have hlow := hb0.trans (hb2.mono hb0.size)
      have hbx := (hb2.block _ (heap_lt n1)).trans n1
      have d0 := cell_of_row w2 _ 0 _ _ (0, 0) hbx
      have d1 := cell_of_row w2 _ 1 _ _ (0, 0) hbx
      have d2 := cell_of_row w2 _ 2 _ _ (0, 0) hbx
      have d3 := cell_of_row w2 _ 3 _ _ (0, 0) hbx
      have d4 := cell_of_row w2 _ 4 _ _ (0, 0) hbx
      clear hbx hb2 n1 hb0 HFE
      go_wp2_with fail
      refine (HRE.out _ hlow).mono ?_
      rintro e w3 ⟨rfl, hb3⟩
      have hlow3 := hlow.trans (hb3.mono hlow.size)
      clear d0 d1 d2 d3 d4 hb3 HRE hlow
      go_wp2
      go_ret
      exact ⟨by rw [HV.out]; try rfl, hlow3⟩
  · have hb : ((checkF f).2 != 0) = true := by simpa using h1
    have HV := Lib.hid (show E = (checkF f).2 by rw [HE.out, if_pos h1])
    clear h1 HE n1
    go_enter Tryz.func43, Tryz.ntmps43
    go_wp2_with fail
    refine HFE.out.mono ?_
    rintro e w2 ⟨rfl, hb2⟩
    have hlow := hb0.trans (hb2.mono hb0.size)
    clear hb2 hb0 HFE
    go_wp2
    go_ret
    exact ⟨by rw [HV.out]; try rfl, hlow⟩
end Go.Proofs.YtlkkociijfdcgaaGreatDoor
/-
  FirstMissing: the program's and the reference's.
-/
namespace Go.Proofs.YtlkkociijfdcgaaGreatDoor
open Go.RowKit Go.Maps Go.Shelf

end Go.Proofs.YtlkkociijfdcgaaGreatDoor

/-
  FirstMissing: the reference's walk.
-/
namespace Go.Proofs.YtlkkociijfdcgaaGreatDoor
open Go.RowKit Go.Maps Go.Shelf

end Go.Proofs.YtlkkociijfdcgaaGreatDoor

namespace Go.Proofs.YtlkkociijfdcgaaGreatDoor
open Go.RowKit Go.Maps Go.Shelf

/-- The boxes of a fount and of rules, as a law's walk goes on. -/
structure FRK (w : World) (f : FT) (a : Option Addr) (c : Nat) (r : RU) (wr : World) : Prop where
  fb : wr.heap[w.heap.size]? = some (.cells #[.string f.name, .int .i64 f.body, .slice a f.sorts.length c] 59 (0, 0))
  rb : wr.heap[w.heap.size + 1]? = some (.cells #[.slice r.ps.a r.ps.l.length r.ps.c, .slice r.es.a r.es.l.length r.es.c, .slice r.bs.a r.bs.l.length r.bs.c, .int .i64 r.left, .int .i64 r.right] 24 (0, 0))
  low : Below w.heap.size w wr
section
variable {w : World} {f : FT} {a : Option Addr} {c : Nat} {r : RU} {wr wr' : World}
theorem FRK.below (h : FRK w f a c r wr) (hb : Below wr.heap.size wr wr') : FRK w f a c r wr' := ⟨(hb.block _ (heap_lt h.fb)).trans h.fb, (hb.block _ (heap_lt h.rb)).trans h.rb, h.low.trans (hb.mono h.low.size)⟩
theorem FRK.fc (h : FRK w f a c r wr) : wr.cell? ⟨w.heap.size, 0, none⟩ = some (.string f.name) ∧ wr.cell? ⟨w.heap.size, 1, none⟩ = some (.int .i64 f.body) ∧ wr.cell? ⟨w.heap.size, 2, none⟩ = some (.slice a f.sorts.length c) :=
  ⟨cell_of_row wr _ 0 _ _ (0, 0) h.fb, cell_of_row wr _ 1 _ _ (0, 0) h.fb, cell_of_row wr _ 2 _ _ (0, 0) h.fb⟩
theorem FRK.rc (h : FRK w f a c r wr) : wr.cell? ⟨w.heap.size + 1, 0, none⟩ = some (.slice r.ps.a r.ps.l.length r.ps.c) ∧ wr.cell? ⟨w.heap.size + 1, 1, none⟩ = some (.slice r.es.a r.es.l.length r.es.c) ∧ wr.cell? ⟨w.heap.size + 1, 2, none⟩ = some (.slice r.bs.a r.bs.l.length r.bs.c) ∧ wr.cell? ⟨w.heap.size + 1, 3, none⟩ = some (.int .i64 r.left) ∧ wr.cell? ⟨w.heap.size + 1, 4, none⟩ = some (.int .i64 r.right) :=
  ⟨cell_of_row wr _ 0 _ _ (0, 0) h.rb, cell_of_row wr _ 1 _ _ (0, 0) h.rb, cell_of_row wr _ 2 _ _ (0, 0) h.rb, cell_of_row wr _ 3 _ _ (0, 0) h.rb, cell_of_row wr _ 4 _ _ (0, 0) h.rb⟩
theorem FRK.lt (h : FRK w f a c r wr) : w.heap.size + 1 < wr.heap.size := heap_lt h.rb
end
theorem frk_start (w : World) (f : FT) (a : Option Addr) (c : Nat) (r : RU) : FRK w f a c r ((w.alloc (.cells #[.string f.name, .int .i64 f.body, .slice a f.sorts.length c] 59)).alloc (.cells #[.slice r.ps.a r.ps.l.length r.ps.c, .slice r.es.a r.es.l.length r.es.c, .slice r.bs.a r.bs.l.length r.bs.c, .int .i64 r.left, .int .i64 r.right] 24)) := by
  refine ⟨heap_keep (heap_new _ _), ?_, ((Below.refl _ _).alloc (Nat.le_refl _) _).alloc (by simp) _⟩
  have h := heap_new (w.alloc (.cells #[.string f.name, .int .i64 f.body, .slice a f.sorts.length c] 59)) (.cells #[.slice r.ps.a r.ps.l.length r.ps.c, .slice r.es.a r.es.l.length r.es.c, .slice r.bs.a r.bs.l.length r.bs.c, .int .i64 r.left, .int .i64 r.right] 24)
  rw [World.size_alloc] at h
  exact h
theorem setErrW_same {f : FT} {r r' : RU} (h : SameR r r') (s : ByteArray) : setErrW f r' s = setErrW f r s := by unfold setErrW setErr; rw [checkR_same h]
theorem barsOf_same {r r' : RU} (h : SameR r r') (s : ByteArray) : barsOf r' s = barsOf r s := by unfold barsOf; rw [h.2.2.1]
end Go.Proofs.YtlkkociijfdcgaaGreatDoor

namespace Go.Proofs.YtlkkociijfdcgaaGreatDoor
open Go.RowKit Go.Maps Go.Shelf

/-- Sorts that print a piece from a place on, one behind the other, none over a bar. -/
def PathP (p : PC) : Nat → List Int → Prop
  | pl, [] => pl = p.t.size
  | pl, x :: l => ∃ i : Nat, x = (i : Int) ∧ i < p.f.sorts.length ∧ mayB p pl (p.f.sorts.getD i noTS) = true ∧ PathP p (pl + tsize p i) l
theorem may_one {p : PC} (hT : Texted p.f) {pl i : Nat} (hi : i < p.f.sorts.length) (hm : mayB p pl (p.f.sorts.getD i noTS) = true) : 1 ≤ tsize p i := hT i hi (may_kind hm)
theorem path_len {p : PC} (hT : Texted p.f) : ∀ (l : List Int) (pl : Nat), PathP p pl l → l.length + pl ≤ p.t.size
  | [], pl, h => by have h : pl = p.t.size := h; simp; omega
  | x :: l, pl, ⟨i, _, hi, hm, h⟩ => by
    have h1 := path_len hT l _ h
    have h2 := may_one hT hi hm
    rw [List.length_cons]
    omega
theorem mays_mem {p : PC} {pl i : Nat} (hi : i < p.f.sorts.length) (hm : mayB p pl (p.f.sorts.getD i noTS) = true) : ∃ x, x ∈ mays p pl p.f.sorts.length ∧ x.1 = i := by
  have h : i ∈ (mays p pl p.f.sorts.length).map (·.1) := by
    rw [mays_ix p pl _ (Nat.le_refl _)]
    exact List.mem_filter.2 ⟨List.mem_range.2 hi, hm⟩
  obtain ⟨x, hx, e⟩ := List.mem_map.1 h
  exact ⟨x, hx, e⟩
theorem lcFold_le {p : PC} {pl : Nat} {M0 : List Int} (hl : pl < M0.length) : ∀ (l : List (MayIx p pl)) (M : List Int), (∀ x, x ∈ l → 1 ≤ tsize p x.1) → M.length = M0.length → (∀ j, j ≠ pl → M.getD j 0 = M0.getD j 0) →
    (l.foldl (fun M x => lcStep p pl M x.1) M).getD pl 0 ≤ M.getD pl 0 ∧ ∀ x, x ∈ l → (l.foldl (fun M x => lcStep p pl M x.1) M).getD pl 0 ≤ M0.getD (pl + tsize p x.1) 0 + 1
  | [], _, _, _, _ => ⟨Int.le_refl _, fun _ h => by cases h⟩
  | y :: l, M, hz, hM, ho => by
    have hy := hz y List.mem_cons_self
    have e1 : (lcStep p pl M y.1).getD pl 0 = min (M.getD pl 0) (M0.getD (pl + tsize p y.1) 0 + 1) := by
      unfold lcStep
      rw [getD_set_self (by omega), ho (pl + tsize p y.1) (by omega)]
    obtain ⟨h1, h2⟩ := lcFold_le hl l (lcStep p pl M y.1) (fun x hx => hz x (List.mem_cons_of_mem _ hx)) (by unfold lcStep; rw [List.length_set]; exact hM) (fun j hj => by unfold lcStep; rw [getD_set_other (fun e => hj e.symm)]; exact ho j hj)
    rw [List.foldl_cons]
    rw [e1] at h1
    refine ⟨by omega, fun x hx => ?_⟩
    rcases List.mem_cons.1 hx with rfl | hx
    · omega
    · exact h2 x hx
theorem lc_le {p : PC} (hT : Texted p.f) {pl i : Nat} (hpl : pl < p.t.size) (hi : i < p.f.sorts.length) (hm : mayB p pl (p.f.sorts.getD i noTS) = true) : (lcL p).getD pl 0 ≤ (lcL p).getD (pl + tsize p i) 0 + 1 := by
  obtain ⟨k, hk⟩ : ∃ k, k = p.t.size - 1 - pl := ⟨_, rfl⟩
  have hpk : pl = p.t.size - 1 - k := by omega
  have hkl : k < p.t.size := by omega
  obtain ⟨x, hx, rfl⟩ := mays_mem hi hm
  have hlen : pl < (lcTo p k).length := by rw [(lcTo_ok p _).1]; omega
  have hs := (lcFold_le (p := p) (pl := pl) (M0 := lcTo p k) hlen (mays p pl p.f.sorts.length) ((lcTo p k).set pl 31) (fun y _ => may_one hT y.2.1 y.2.2) List.length_set (fun j hj => getD_set_other (fun e => hj e.symm))).2 x hx
  have e1 : (lcL p).getD pl 0 = (lcF p pl (lcTo p k) (mays p pl p.f.sorts.length)).getD pl 0 := by
    have h := lcTo_keep p (k + 1) pl (by omega) (p.t.size - (k + 1)) (by omega)
    rw [show k + 1 + (p.t.size - (k + 1)) = p.t.size by omega] at h
    refine h.trans ?_
    show (lcAt p (p.t.size - 1 - k) (lcTo p k)).getD pl 0 = _
    rw [← hpk]
    rfl
  have h1 := may_one hT x.2.1 x.2.2
  have h2 := lcTo_keep p k (pl + tsize p x.1) (by omega) (p.t.size - k) (by omega)
  rw [show k + (p.t.size - k) = p.t.size by omega] at h2
  rw [e1]
  change _ = (lcTo p k).getD (pl + tsize p x.1) 0 at h2
  show (lcF p pl (lcTo p k) (mays p pl p.f.sorts.length)).getD pl 0 ≤ (lcTo p p.t.size).getD (pl + tsize p x.1) 0 + 1
  rw [h2]
  exact hs
theorem lc_end (p : PC) : (lcL p).getD p.t.size 0 = 0 := by
  have h := lcTo_keep p 0 p.t.size (by omega) p.t.size (by omega)
  rw [Nat.zero_add] at h
  refine h.trans ?_
  show (List.replicate (p.t.size + 1) (0 : Int)).getD p.t.size 0 = 0
  exact rep_getD _ _
theorem lc_path {p : PC} (hT : Texted p.f) : ∀ (l : List Int) (pl : Nat), pl ≤ p.t.size → PathP p pl l → (lcL p).getD pl 0 ≤ (l.length : Int)
  | [], pl, _, h => by
    have h : pl = p.t.size := h
    rw [h, lc_end]; exact Int.le_refl _
  | x :: l, pl, hpl, ⟨i, _, hi, hm, h⟩ => by
    have h1 := may_one hT hi hm
    have h2 := may_fits hm hpl
    change pl + tsize p i ≤ _ at h2
    have h3 := lc_path hT l _ h2 h
    have h4 := lc_le hT (pl := pl) (by omega) hi hm
    rw [List.length_cons]
    omega
theorem few_path {p : PC} (hT : Texted p.f) : ∀ (k pl : Nat) (acc l : List Int), fewSet p (lcL p) k pl acc = some l → pl ≤ p.t.size → ∃ l2, l = acc ++ l2 ∧ PathP p pl l2 ∧ ((lcL p).getD pl 0 ≠ 31 → (l2.length : Int) = (lcL p).getD pl 0)
  | 0, _, _, _, h, _ => by cases h
  | k + 1, pl, acc, l, h, hpl => by
    by_cases h1 : pl < p.t.size
    · cases hx : leX p (lcL p) pl with
      | none =>
        have : fewSet p (lcL p) (k + 1) pl acc = none := by
          show (if _ then _ else _) = _
          rw [if_pos h1, hx]
        rw [this] at h; cases h
      | some x =>
        rw [fewSet_step h1 hx] at h
        have hle := List.find?_some hx
        have hf := may_fits x.2.2 hpl
        change pl + tsize p x.1 ≤ _ at hf
        obtain ⟨l2, e, hp, hn⟩ := few_path hT k _ _ _ h hf
        refine ⟨(x.1 : Int) :: l2, by rw [e, List.append_assoc]; try rfl, ⟨x.1, rfl, x.2.1, x.2.2, hp⟩, fun h31 => ?_⟩
        unfold leB at hle
        rw [beq_iff_eq] at hle
        have hb := (lcTo_ok p p.t.size).2 pl
        change 0 ≤ (lcL p).getD pl 0 ∧ (lcL p).getD pl 0 ≤ 31 at hb
        rw [List.length_cons]
        have := hn (by omega)
        omega
    · rw [fewSet_end h1] at h
      injection h with h
      have e : pl = p.t.size := by omega
      exact ⟨[], by rw [h, List.append_nil], e, fun _ => by rw [e, lc_end]; try rfl⟩
theorem few_some {p : PC} (hT : Texted p.f) : ∀ (k pl : Nat) (acc : List Int), p.t.size < pl + k → pl ≤ p.t.size → (lcL p).getD pl 0 ≠ 31 → ∃ l, fewSet p (lcL p) k pl acc = some l
  | 0, _, _, h, h2, _ => by omega
  | k + 1, pl, acc, h, hpl, h31 => by
    by_cases h1 : pl < p.t.size
    · obtain ⟨x, hx⟩ := leX_some h1 h31
      have hle := List.find?_some hx
      have hf := may_fits x.2.2 hpl
      change pl + tsize p x.1 ≤ _ at hf
      have hz := may_one hT x.2.1 x.2.2
      unfold leB at hle
      rw [beq_iff_eq] at hle
      have hb := (lcTo_ok p p.t.size).2 pl
      change 0 ≤ (lcL p).getD pl 0 ∧ (lcL p).getD pl 0 ≤ 31 at hb
      obtain ⟨l, e⟩ := few_some hT k (pl + tsize p x.1) (acc ++ [(x.1 : Int)]) (by omega) hf (by omega)
      exact ⟨l, by rw [fewSet_step h1 hx]; exact e⟩
    · exact ⟨acc, fewSet_end h1⟩
theorem long_path {p : PC} : ∀ (k pl : Nat) (acc l : List Int), longSet p k pl acc = some l → pl ≤ p.t.size → ∃ l2, l = acc ++ l2 ∧ PathP p pl l2
  | 0, _, _, _, h, _ => by cases h
  | k + 1, pl, acc, l, h, hpl => by
    unfold longSet at h
    by_cases h1 : pl < p.t.size
    · rw [if_pos h1] at h
      by_cases h2 : 0 < (longAt p pl).2
      · rw [if_pos h2] at h
        rcases longF_ok p pl (mays p pl p.f.sorts.length) with h3 | ⟨h3, h4, h5⟩
        · change (longAt p pl).2 = 0 at h3; omega
        · change (longAt p pl).1 < _ at h3
          change (longAt p pl).2 = tsize p (longAt p pl).1 at h4
          have hf := may_fits h5 hpl
          change pl + tsize p (longAt p pl).1 ≤ _ at hf
          rw [h4] at h
          obtain ⟨l2, e, hp⟩ := long_path k _ _ _ h hf
          exact ⟨((longAt p pl).1 : Int) :: l2, by rw [e, List.append_assoc]; try rfl, ⟨_, rfl, h3, h5, hp⟩⟩
      · rw [if_neg h2] at h; cases h
    · rw [if_neg h1] at h
      injection h with h
      exact ⟨[], by rw [h, List.append_nil], show pl = p.t.size by omega⟩
/-- What fewP and longP answer. -/
theorem fewP_some {p : PC} (hT : Texted p.f) {l : List Int} (h : fewP p = some l) : PathP p 0 l ∧ ∀ l', PathP p 0 l' → l.length ≤ l'.length := by
  unfold fewP at h
  by_cases h31 : (lcL p).getD 0 0 = 31
  · rw [if_pos h31] at h; cases h
  · rw [if_neg h31] at h
    obtain ⟨l2, e, hp, hn⟩ := few_path hT _ _ _ _ h (Nat.zero_le _)
    rw [List.nil_append] at e
    subst e
    refine ⟨hp, fun l' hp' => ?_⟩
    have h1 := hn h31
    have h2 := lc_path hT l' 0 (Nat.zero_le _) hp'
    omega
theorem fewP_none {p : PC} (hT : Texted p.f) (hs : p.t.size ≤ 30) (h : fewP p = none) (l' : List Int) : ¬ PathP p 0 l' := by
  intro hp'
  have h1 := lc_path hT l' 0 (Nat.zero_le _) hp'
  have h2 := path_len hT l' 0 hp'
  unfold fewP at h
  rw [if_neg (by omega)] at h
  obtain ⟨l, e⟩ := few_some hT (p.t.size + 1) 0 [] (by omega) (Nat.zero_le _) (by omega)
  rw [e] at h; cases h
theorem longP_some {p : PC} {l : List Int} (h : longP p = some l) : PathP p 0 l := by
  obtain ⟨l2, e, hp⟩ := long_path _ _ _ _ h (Nat.zero_le _)
  rw [List.nil_append] at e
  subst e
  exact hp
/-- The number of a sort that there is not. -/
def outR (f : FT) (x : Int) : Bool := !(decide (0 ≤ x ∧ x < (f.sorts.length : Int)))
def kindAt (f : FT) (x : Int) : Int := (f.sorts.getD x.toNat noTS).kind
def badPr (f : FT) (l : List Int) (k : Nat) : Bool := outR f (l.getD k 0) || kindAt f (l.getD k 0) == 3
/-- The error of sorts that print nothing. -/
def prErr (f : FT) (l : List Int) : Int := match firstAt (badPr f l) (l.length - 0) 0 with
  | none => 0
  | some j => if outR f (l.getD j 0) = true then 6 else 15
def txtAt (p : PC) (x : Int) : ByteArray := (p.f.sorts.getD x.toNat noTS).text
/-- The error of sorts for a piece, from a place on. -/
def erR (p : PC) : List Int → Nat → Bool → Int
  | [], pl, b => if pl < p.t.size then 3 else if b = true then 26 else 0
  | x :: l, pl, b => if preB (p.t.extract pl p.t.size) (txtAt p x) = true then erR p l (pl + (txtAt p x).size) (b || p.bl.any (barredB pl (txtAt p x).size)) else 3
theorem prErr_ok {f : FT} {l : List Int} : prErr f l = 0 ↔ ∀ k, k < l.length → badPr f l k = false := by
  unfold prErr
  cases hf : firstAt (badPr f l) (l.length - 0) 0 with
  | none => exact ⟨fun _ k hk => firstAt_none hf k (Nat.zero_le _) (by omega), fun _ => rfl⟩
  | some j =>
    obtain ⟨h1, _, h2, _⟩ := firstAt_some hf
    constructor
    · intro h
      have h : (if outR f (l.getD j 0) = true then (6 : Int) else 15) = 0 := h
      split at h <;> exact absurd h (by decide)
    · intro h
      have := h j (by omega)
      rw [h1] at this; cases this
theorem erR_path {p : PC} : ∀ (l : List Int) (pl : Nat) (b : Bool), (∀ x ∈ l, outR p.f x = false ∧ kindAt p.f x ≠ 3) → pl ≤ p.t.size → (erR p l pl b = 0 ↔ b = false ∧ PathP p pl l)
  | [], pl, b, _, hpl => by
    show (if pl < p.t.size then (3 : Int) else if b = true then 26 else 0) = 0 ↔ b = false ∧ pl = p.t.size
    by_cases h : pl < p.t.size
    · rw [if_pos h]; exact ⟨fun h => absurd h (by decide), fun h2 => by omega⟩
    · rw [if_neg h]
      cases b
      · exact ⟨fun _ => ⟨rfl, by omega⟩, fun _ => rfl⟩
      · exact ⟨fun h => absurd h (by decide), fun h => by cases h.1⟩
  | x :: l, pl, b, hx, hpl => by
    obtain ⟨h1, h2⟩ := hx x List.mem_cons_self
    unfold outR at h1
    have h1 : 0 ≤ x ∧ x < (p.f.sorts.length : Int) := by simpa using h1
    obtain ⟨i, rfl⟩ : ∃ i : Nat, x = (i : Int) := ⟨x.toNat, by omega⟩
    have hi : i < p.f.sorts.length := by omega
    have e1 : txtAt p (i : Int) = (p.f.sorts.getD i noTS).text := by unfold txtAt; rw [Int.toNat_natCast]
    have e2 : kindAt p.f (i : Int) = (p.f.sorts.getD i noTS).kind := by unfold kindAt; rw [Int.toNat_natCast]
    rw [e2] at h2
    have hk3 : ((p.f.sorts.getD i noTS).kind == 3) = false := by simpa using h2
    show (if preB (p.t.extract pl p.t.size) (txtAt p (i : Int)) = true then erR p l (pl + (txtAt p (i : Int)).size) (b || p.bl.any (barredB pl (txtAt p (i : Int)).size)) else 3) = 0 ↔ b = false ∧ ∃ i' : Nat, (i : Int) = (i' : Int) ∧ i' < p.f.sorts.length ∧ mayB p pl (p.f.sorts.getD i' noTS) = true ∧ PathP p (pl + tsize p i') l
    rw [e1]
    by_cases hp : preB (p.t.extract pl p.t.size) (p.f.sorts.getD i noTS).text = true
    · rw [if_pos hp]
      have hz := preB_size hp
      rw [ByteArray.size_extract] at hz
      have ih := erR_path l (pl + (p.f.sorts.getD i noTS).text.size) (b || p.bl.any (barredB pl (p.f.sorts.getD i noTS).text.size)) (fun x h => hx x (List.mem_cons_of_mem _ h)) (by omega)
      rw [ih, Bool.or_eq_false_iff]
      constructor
      · rintro ⟨⟨hb, hbar⟩, hpath⟩
        refine ⟨hb, i, rfl, hi, ?_, hpath⟩
        unfold mayB
        rw [hk3, hp, hbar]; try rfl
      · rintro ⟨hb, i', e, hi', hm, hpath⟩
        obtain rfl : i = i' := by omega
        unfold mayB at hm
        rw [hk3, hp] at hm
        exact ⟨⟨hb, by simpa using hm⟩, hpath⟩
    · rw [if_neg hp]
      constructor
      · intro h; exact absurd h (by decide)
      · rintro ⟨_, i', e, hi', hm, _⟩
        obtain rfl : i = i' := by omega
        unfold mayB at hm
        rw [Bool.and_eq_true, Bool.and_eq_true] at hm
        exact absurd hm.2.1 hp
theorem path_in {p : PC} : ∀ (l : List Int) (pl : Nat), PathP p pl l → ∀ x ∈ l, outR p.f x = false ∧ kindAt p.f x ≠ 3
  | [], _, _, x, hx => by cases hx
  | y :: l, pl, ⟨i, e, hi, hm, h⟩, x, hx => by
    rcases List.mem_cons.1 hx with rfl | hx
    · subst e
      refine ⟨?_, ?_⟩
      · unfold outR
        rw [decide_eq_true ⟨by omega, by omega⟩]; try rfl
      · unfold kindAt
        rw [Int.toNat_natCast]
        exact may_kind hm
    · exact path_in l _ h x hx
/-- Sorts are accepted just if they print the piece. -/
theorem acc_path {p : PC} {l : List Int} : (prErr p.f l = 0 ∧ erR p l 0 false = 0) ↔ PathP p 0 l := by
  constructor
  · rintro ⟨h1, h2⟩
    have hall : ∀ x ∈ l, outR p.f x = false ∧ kindAt p.f x ≠ 3 := fun x hx => by
      obtain ⟨k, hk, e⟩ := mem_getD.1 hx
      have := prErr_ok.1 h1 k hk
      unfold badPr at this
      rw [e, Bool.or_eq_false_iff] at this
      exact ⟨this.1, by simpa using this.2⟩
    exact ((erR_path l 0 false hall (Nat.zero_le _)).1 h2).2
  · intro h
    have hall := path_in l 0 h
    refine ⟨prErr_ok.2 fun k hk => ?_, (erR_path l 0 false hall (Nat.zero_le _)).2 ⟨rfl, h⟩⟩
    have hm : l.getD k 0 ∈ l := by rw [List.getD_eq_getElem?_getD, List.getElem?_eq_getElem hk]; exact List.getElem_mem hk
    obtain ⟨h1, h2⟩ := hall _ hm
    unfold badPr
    rw [h1, Bool.false_or]
    simpa using h2
end Go.Proofs.YtlkkociijfdcgaaGreatDoor

namespace Go.Proofs.YtlkkociijfdcgaaGreatDoor
open Go.RowKit Go.Maps Go.Shelf

theorem hasSortT_any (f : FT) (a : Option Addr) (c : Nat) (x : Int) (w : World) :
    Calls Tryz.prog 160 #[.agg #[.string f.name, .int .i64 f.body, .slice a f.sorts.length c], .int .i64 x] w fun e w' => e = .returned (.bool (!outR f x)) ∧ w' = w.alloc (.cells #[.string f.name, .int .i64 f.body, .slice a f.sorts.length c] 59) := by
  have hV : (!outR f x) = decide (0 ≤ x ∧ x < (f.sorts.length : Int)) := by unfold outR; rw [Bool.not_not]
  rw [hV]
  by_cases h0 : 0 ≤ x
  · have g0 : decide (0 ≤ x) = true := decide_eq_true h0
    by_cases h1 : x < (f.sorts.length : Int)
    · have g1 : decide (x < (f.sorts.length : Int)) = true := decide_eq_true h1
      have gv : decide (0 ≤ x ∧ x < (f.sorts.length : Int)) = true := decide_eq_true ⟨h0, h1⟩
      rw [gv]
      clear gv hV
      go_enter Tryz.func160, Tryz.ntmps160
      go_wp2
      go_ret
      exact ⟨rfl, rfl⟩
    · have g1 : decide (x < (f.sorts.length : Int)) = false := decide_eq_false h1
      have gv : decide (0 ≤ x ∧ x < (f.sorts.length : Int)) = false := decide_eq_false (fun h => h1 h.2)
      rw [gv]
      clear gv hV
      go_enter Tryz.func160, Tryz.ntmps160
      go_wp2
      go_ret
      exact ⟨rfl, rfl⟩
  · have g0 : decide (0 ≤ x) = false := decide_eq_false h0
    have gv : decide (0 ≤ x ∧ x < (f.sorts.length : Int)) = false := decide_eq_false (fun h => h0 h.1)
    rw [gv]
    clear gv hV
    go_enter Tryz.func160, Tryz.ntmps160
    go_wp2
    go_ret
    exact ⟨rfl, rfl⟩
set_option maxRecDepth 100000 in
set_option maxHeartbeats 2000000 in
theorem errorOfPrinting_any (f : FT) (a : Option Addr) (c : Nat) (b : Option Addr) (l : List Int) (d : Nat) (w : World) (hF : SortsAt w a f.sorts) (hX : IntsAt w b l) (hl : l.length ≤ maxLen) :
    Calls Tryz.prog 111 #[.agg #[.string f.name, .int .i64 f.body, .slice a f.sorts.length c], .slice b l.length d] w fun e w' => e = .returned (.int .i64 (prErr f l)) ∧ Below w.heap.size w w' := by
  unfold maxLen at hl
  have hb0 := (Below.refl w.heap.size w).alloc (Nat.le_refl _) (.cells #[.string f.name, .int .i64 f.body, .slice a f.sorts.length c] 59)
  have n0 := heap_new w (.cells #[.string f.name, .int .i64 f.body, .slice a f.sorts.length c] 59)
  have HF := Lib.hid hF
  have HX := Lib.hid hX
  have HHS := Lib.hid (fun x W => hasSortT_any f a c x W)
  obtain ⟨W0, hW0⟩ : ∃ W0, W0 = w.alloc (.cells #[.string f.name, .int .i64 f.body, .slice a f.sorts.length c] 59) := ⟨_, rfl⟩
  rw [← hW0] at hb0 n0
  have HW0 := Lib.hid hW0
  obtain ⟨E, hE⟩ : ∃ E, E = prErr f l := ⟨_, rfl⟩
  have HE := Lib.hid (show E = match firstAt (badPr f l) (l.length - 0) 0 with | none => 0 | some j => if outR f (l.getD j 0) = true then 6 else 15 from hE)
  rw [← hE]
  clear hE hF hX hW0
  go_enter Tryz.func111, Tryz.ntmps111
  go_wp2_with fail
  rw [← HW0.out]
  go_loopw [9] (fun v9 wr => ∃ k : Nat, k ≤ l.length ∧ v9 = .int .i64 k ∧ Hid (firstAt (badPr f l) (l.length - 0) 0 = firstAt (badPr f l) (l.length - k) k) ∧ Below W0.heap.size W0 wr) (fun v9 _ => l.length - (intOf v9).toNat)
  case atStart => exact ⟨0, Nat.zero_le _, rfl, Lib.hid rfl, Below.refl _ _⟩
  case round =>
    obtain ⟨k, hk, rfl, HS, hB⟩ := hrel
    have hlow := hb0.trans (hB.mono hb0.size)
    have n1 := (hB.block _ (heap_lt n0)).trans n0
    obtain ⟨c0, c1, c2⟩ : _ ∧ _ ∧ _ := ⟨cell_of_row wr _ 0 _ _ (0, 0) n1, cell_of_row wr _ 1 _ _ (0, 0) n1, cell_of_row wr _ 2 _ _ (0, 0) n1⟩
    by_cases hlt : k < l.length
    · have hkl : (k : Int) < (l.length : Int) := by omega
      obtain ⟨ad, rfl, hal, hy⟩ := (HX.out.below hlow).at_ hlt
      have hbd : badPr f l k = (outR f (l.getD k 0) || kindAt f (l.getD k 0) == 3) := rfl
      have HEk := Lib.hid (fun (h : firstAt (badPr f l) (l.length - k) k = some k) => show E = if outR f (l.getD k 0) = true then 6 else 15 by rw [HE.out, HS.out, h])
      obtain ⟨x, hx⟩ : ∃ x, x = l.getD k 0 := ⟨_, rfl⟩
      rw [← hx] at hy hbd HEk
      have HBD := Lib.hid hbd
      have HH := Lib.hid (HHS.out x wr)
      clear hx hbd
      cases ho : outR f x
      · have hin : 0 ≤ x ∧ x < (f.sorts.length : Int) := by
          unfold outR at ho
          simpa using ho
        obtain ⟨i, rfl⟩ : ∃ i : Nat, x = (i : Int) := ⟨x.toNat, by omega⟩
        have hi : i < f.sorts.length := by omega
        have hil := hin.2
        have hi0 := hin.1
        have hka : kindAt f (i : Int) = (f.sorts.getD i noTS).kind := by unfold kindAt; rw [Int.toNat_natCast]
        have hb3 := (Below.refl wr.heap.size wr).alloc (Nat.le_refl _) (.cells #[.string f.name, .int .i64 f.body, .slice a f.sorts.length c] 59)
        have hlow3 := hlow.trans (hb3.mono hlow.size)
        obtain ⟨ad2, ha2, had2, hsx⟩ := (HF.out.below hlow3).at_ hi
        have y3 := hsx.2.2.1
        obtain ⟨kd, hkd⟩ : ∃ kd, kd = (f.sorts.getD i noTS).kind := ⟨_, rfl⟩
        rw [← hkd] at hka y3
        rw [ho, hka] at HBD
        rw [ho] at HH
        have n3 := (hb3.block _ (heap_lt n1)).trans n1
        have c2' := cell_of_row (wr.alloc (.cells #[.string f.name, .int .i64 f.body, .slice a f.sorts.length c] 59)) _ 2 _ _ (0, 0) n3
        have hB3 := hB.trans (hb3.mono hB.size)
        subst ha2
        clear hkd hsx hka hin n3 hb3 n1
        by_cases h3 : kd = 3
        · have hkb : (kd == 3) = true := by rw [h3]; try rfl
          have hnb : badPr f l k = true := by rw [HBD.out, hkb]; try rfl
          have HV := Lib.hid (show E = 15 by rw [HEk.out (firstAt_stop hlt hnb), ho]; rfl)
          clear hnb h3
          go_wp2_with fail
          refine HH.out.mono ?_
          rintro e w3 ⟨rfl, rfl⟩
          go_wp2
          go_ret
          rw [HV.out]
          exact ⟨rfl, hlow3⟩
        · have hkb : (kd == 3) = false := by simpa using h3
          have hnb : badPr f l k = false := by rw [HBD.out, hkb]; try rfl
          have HS2 := Lib.hid (HS.out.trans (firstAt_go hlt hnb))
          clear hnb h3
          go_wp2_with fail
          refine HH.out.mono ?_
          rintro e w3 ⟨rfl, rfl⟩
          go_wp2
          go_roundw
          case rel => exact ⟨k + 1, by omega, by go_num, HS2, hB3⟩
          case measure => simp [intOf]; omega
      · have hnb : badPr f l k = true := by rw [HBD.out, ho]; try rfl
        have HV := Lib.hid (show E = 6 by rw [HEk.out (firstAt_stop hlt hnb), ho]; rfl)
        have hb3 := (Below.refl wr.heap.size wr).alloc (Nat.le_refl _) (.cells #[.string f.name, .int .i64 f.body, .slice a f.sorts.length c] 59)
        have hlow3 := hlow.trans (hb3.mono hlow.size)
        rw [ho] at HH
        clear hnb
        go_wp2_with fail
        refine HH.out.mono ?_
        rintro e w3 ⟨rfl, rfl⟩
        go_wp2
        go_ret
        rw [HV.out]
        exact ⟨rfl, hlow3⟩
    · obtain rfl : k = l.length := by omega
      have hkl : ¬ (l.length : Int) < (l.length : Int) := by omega
      have h1 := firstAt_end (q := badPr f l) hlt
      have HV := Lib.hid (show E = 0 by rw [HE.out, HS.out, h1])
      clear h1
      go_wp2
      go_ret
      rw [HV.out]
      exact ⟨rfl, hlow⟩
set_option maxRecDepth 100000 in
set_option maxHeartbeats 2000000 in
theorem errorOf_any (p : PC) (b : Option Addr) (l : List Int) (d : Nat) (w : World) (hp : p.at_ w) (hf : p.Fine) (hX : IntsAt w b l) (hl : l.length ≤ maxLen) (hall : ∀ x ∈ l, outR p.f x = false) :
    Calls Tryz.prog 113 #[.agg p.cells, .slice b l.length d] w fun e w' => e = .returned (.int .i64 (erR p l 0 false)) ∧ Below w.heap.size w w' := by
  unfold maxLen at hl
  obtain ⟨hpt, hts, hns⟩ := hf
  have hb0 := (Below.refl w.heap.size w).alloc (Nat.le_refl _) (pcBox p)
  have n0 := heap_new w (pcBox p)
  have HP := Lib.hid hp
  have HX := Lib.hid hX
  have HTS := Lib.hid hts
  have HAL := Lib.hid hall
  have HPR := Lib.hid (fun x W (h : p.at_ W) hx => printed_any p x W h hx)
  have HIB := Lib.hid (fun i t W (h : p.at_ W) hi ht => isBarred_any p i t W h hi ht)
  obtain ⟨W0, hW0⟩ : ∃ W0, W0 = w.alloc (pcBox p) := ⟨_, rfl⟩
  rw [← hW0] at hb0 n0
  have HW0 := Lib.hid hW0
  obtain ⟨E, hE⟩ : ∃ E, E = erR p l 0 false := ⟨_, rfl⟩
  have HE := Lib.hid (show E = erR p (l.drop 0) 0 false from hE)
  rw [← hE]
  clear hE hp hX hW0 hts hall
  unfold pcBox PC.cells at *
  go_enter Tryz.func113, Tryz.ntmps113
  go_wp2_with fail
  rw [← HW0.out]
  go_loopw [5, 6, 12] (fun v5 v6 v12 wr => ∃ (k pl : Nat) (bb : Bool), k ≤ l.length ∧ pl ≤ p.t.size ∧ v12 = .int .i64 k ∧ v5 = .int .i64 pl ∧ v6 = .bool bb ∧ Hid (E = erR p (l.drop k) pl bb) ∧ Below W0.heap.size W0 wr) (fun _ _ v12 _ => l.length - (intOf v12).toNat)
  case atStart => exact ⟨0, 0, false, Nat.zero_le _, Nat.zero_le _, rfl, rfl, rfl, HE, Below.refl _ _⟩
  case round =>
    obtain ⟨k, pl, bb, hk, hpl, rfl, rfl, rfl, HS, hB⟩ := hrel
    have hlow := hb0.trans (hB.mono hb0.size)
    have n1 := (hB.block _ (heap_lt n0)).trans n0
    obtain ⟨c0, c1, c2, c3, c4⟩ : _ ∧ _ ∧ _ ∧ _ ∧ _ := ⟨cell_of_row wr _ 0 _ _ (0, 0) n1, cell_of_row wr _ 1 _ _ (0, 0) n1, cell_of_row wr _ 2 _ _ (0, 0) n1, cell_of_row wr _ 3 _ _ (0, 0) n1, cell_of_row wr _ 4 _ _ (0, 0) n1⟩
    by_cases hlt : k < l.length
    · have hkl : (k : Int) < (l.length : Int) := by omega
      obtain ⟨ad, rfl, hal, hy⟩ := (HX.out.below hlow).at_ hlt
      have hdrop : l.drop k = l.getD k 0 :: l.drop (k + 1) := by rw [List.drop_eq_getElem_cons hlt, List.getD_eq_getElem?_getD, List.getElem?_eq_getElem hlt]; try rfl
      have hmem : l.getD k 0 ∈ l := by rw [List.getD_eq_getElem?_getD, List.getElem?_eq_getElem hlt]; exact List.getElem_mem hlt
      have hor := HAL.out _ hmem
      obtain ⟨x, hx⟩ : ∃ x, x = l.getD k 0 := ⟨_, rfl⟩
      rw [← hx] at hy hdrop hor
      have hin : 0 ≤ x ∧ x < (p.f.sorts.length : Int) := by
        unfold outR at hor
        simpa using hor
      obtain ⟨i, rfl⟩ : ∃ i : Nat, x = (i : Int) := ⟨x.toNat, by omega⟩
      have hi : i < p.f.sorts.length := by omega
      have htz := HTS.out i hi
      have hta : txtAt p (i : Int) = (p.f.sorts.getD i noTS).text := by unfold txtAt; rw [Int.toNat_natCast]
      obtain ⟨tx, htx⟩ : ∃ tx, tx = (p.f.sorts.getD i noTS).text := ⟨_, rfl⟩
      have HPx := Lib.hid (HPR.out i wr (HP.out.below hlow) hi)
      rw [← htx] at htz hta HPx
      have HSE := Lib.hid (show E = if preB (p.t.extract pl p.t.size) tx = true then erR p (l.drop (k + 1)) (pl + tx.size) (bb || p.bl.any (barredB pl tx.size)) else 3 by rw [HS.out, hdrop, ← hta]; try rfl)
      have hb3 := (Below.refl wr.heap.size wr).alloc (Nat.le_refl _) (.cells #[.string p.f.name, .int .i64 p.f.body, .slice p.a p.f.sorts.length p.c, .string p.t, .slice p.ba p.bl.length p.bc] 178)
      have hB3 := hB.trans (hb3.mono hB.size)
      have hlow3 := hlow.trans (hb3.mono hlow.size)
      have n3 := (hb3.block _ (heap_lt n1)).trans n1
      have HB3 := Lib.hid (HIB.out pl tx (wr.alloc (.cells #[.string p.f.name, .int .i64 p.f.body, .slice p.a p.f.sorts.length p.c, .string p.t, .slice p.ba p.bl.length p.bc] 178)) (HP.out.below hlow3) (by omega) htz)
      obtain ⟨e0, e1, e2, e3, e4⟩ : _ ∧ _ ∧ _ ∧ _ ∧ _ := ⟨cell_of_row (wr.alloc (.cells #[.string p.f.name, .int .i64 p.f.body, .slice p.a p.f.sorts.length p.c, .string p.t, .slice p.ba p.bl.length p.bc] 178)) _ 0 _ _ (0, 0) n3, cell_of_row (wr.alloc (.cells #[.string p.f.name, .int .i64 p.f.body, .slice p.a p.f.sorts.length p.c, .string p.t, .slice p.ba p.bl.length p.bc] 178)) _ 1 _ _ (0, 0) n3, cell_of_row (wr.alloc (.cells #[.string p.f.name, .int .i64 p.f.body, .slice p.a p.f.sorts.length p.c, .string p.t, .slice p.ba p.bl.length p.bc] 178)) _ 2 _ _ (0, 0) n3, cell_of_row (wr.alloc (.cells #[.string p.f.name, .int .i64 p.f.body, .slice p.a p.f.sorts.length p.c, .string p.t, .slice p.ba p.bl.length p.bc] 178)) _ 3 _ _ (0, 0) n3, cell_of_row (wr.alloc (.cells #[.string p.f.name, .int .i64 p.f.body, .slice p.a p.f.sorts.length p.c, .string p.t, .slice p.ba p.bl.length p.bc] 178)) _ 4 _ _ (0, 0) n3⟩
      have i0 : (0 : Int) ≤ (pl : Int) := by omega
      have i1 : (pl : Int) ≤ (p.t.size : Int) := by omega
      clear htx hta hdrop hmem hor hx hin n3 n1 hb3 HS
      cases hpf : preB (p.t.extract pl p.t.size) tx
      · have HV := Lib.hid (show E = 3 by rw [HSE.out, hpf]; try rfl)
        go_wp2_with fail
        refine HPx.out.mono ?_
        rintro e w3 ⟨rfl, rfl⟩
        go_wp2_with fail
        refine (hasPre_eq hpf).mono ?_
        rintro e w4 ⟨rfl, rfl⟩
        go_wp2
        go_ret
        rw [HV.out]
        exact ⟨rfl, hlow3⟩
      · have HV := Lib.hid (show E = erR p (l.drop (k + 1)) (pl + tx.size) (bb || p.bl.any (barredB pl tx.size)) by rw [HSE.out, hpf]; try rfl)
        have hfz := preB_size hpf
        rw [ByteArray.size_extract] at hfz
        have hpl2 : pl + tx.size ≤ p.t.size := by omega
        cases bb
        · rw [Bool.false_or] at HV
          go_wp2_with fail
          refine HPx.out.mono ?_
          rintro e w3 ⟨rfl, rfl⟩
          go_wp2_with fail
          refine (hasPre_eq hpf).mono ?_
          rintro e w4 ⟨rfl, rfl⟩
          go_wp2_with fail
          refine HB3.out.mono ?_
          rintro e w5 ⟨rfl, hb5⟩
          have hB5 := hB3.trans (hb5.mono hB3.size)
          clear hb5
          go_wp2
          go_roundw
          case rel => exact ⟨k + 1, pl + tx.size, _, by omega, hpl2, by go_num, by go_num, rfl, HV, hB5⟩
          case measure => simp [intOf]; omega
        · rw [Bool.true_or] at HV
          go_wp2_with fail
          refine HPx.out.mono ?_
          rintro e w3 ⟨rfl, rfl⟩
          go_wp2_with fail
          refine (hasPre_eq hpf).mono ?_
          rintro e w4 ⟨rfl, rfl⟩
          go_wp2
          go_roundw
          case rel => exact ⟨k + 1, pl + tx.size, _, by omega, hpl2, by go_num, by go_num, rfl, HV, hB3⟩
          case measure => simp [intOf]; omega
    · obtain rfl : k = l.length := by omega
      have hkl : ¬ (l.length : Int) < (l.length : Int) := by omega
      have hdrop : l.drop l.length = [] := List.drop_length
      have HV := Lib.hid (show E = if pl < p.t.size then 3 else if bb = true then 26 else 0 by rw [HS.out, hdrop]; try rfl)
      clear hdrop HS
      by_cases hps : pl < p.t.size
      · have hpi : (pl : Int) < (p.t.size : Int) := by omega
        have HV2 := Lib.hid (show E = 3 by rw [HV.out, if_pos hps])
        go_wp2
        go_ret
        rw [HV2.out]
        exact ⟨rfl, hlow⟩
      · have hpi : ¬ (pl : Int) < (p.t.size : Int) := by omega
        have HV2 := Lib.hid (show E = if bb = true then 26 else 0 by rw [HV.out, if_neg hps])
        cases bb
        · go_wp2
          go_ret
          rw [HV2.out]
          exact ⟨rfl, hlow⟩
        · go_wp2
          go_ret
          rw [HV2.out]
          exact ⟨rfl, hlow⟩
end Go.Proofs.YtlkkociijfdcgaaGreatDoor

namespace Go.Proofs.YtlkkociijfdcgaaGreatDoor
open Go.RowKit Go.Maps Go.Shelf

/-- The error of CheckSorts. -/
def chkErr (f : FT) (r : RU) (s : ByteArray) (l : List Int) : Int := if setErrW f r s ≠ 0 then setErrW f r s else if prErr f l ≠ 0 then prErr f l else erR (wordP f none 0 r s 0 s.size) l 0 false
theorem erR_same (f : FT) (a a' : Option Addr) (c c' : Nat) (t : ByteArray) (ba ba' : Option Addr) (bc bc' : Nat) (bl : List Int) : ∀ (l : List Int) (pl : Nat) (b : Bool), erR ⟨f, a, c, t, ba, bc, bl⟩ l pl b = erR ⟨f, a', c', t, ba', bc', bl⟩ l pl b
  | [], _, _ => rfl
  | x :: l, pl, b => by
    show (if _ then erR ⟨f, a, c, t, ba, bc, bl⟩ l _ _ else 3) = (if _ then erR ⟨f, a', c', t, ba', bc', bl⟩ l _ _ else 3)
    rw [erR_same f a a' c c' t ba ba' bc bc' bl l]
    rfl
structure CSK (w : World) (f : FT) (a : Option Addr) (c : Nat) (r : RU) (s : ByteArray) (b : Option Addr) (l : List Int) (d : Nat) (wr : World) : Prop where
  fr : FRK w f a c r wr
  sb : wr.heap[w.heap.size + 2]? = some (.cells #[.string s, .slice b l.length d] 74 (0, 0))
section
variable {w wr wr' : World} {f : FT} {a : Option Addr} {c : Nat} {r : RU} {s : ByteArray} {b : Option Addr} {l : List Int} {d : Nat}
theorem CSK.below (h : CSK w f a c r s b l d wr) (hb : Below wr.heap.size wr wr') : CSK w f a c r s b l d wr' := ⟨h.fr.below hb, (hb.block _ (heap_lt h.sb)).trans h.sb⟩
theorem CSK.start : CSK w f a c r s b l d (((w.alloc (.cells #[.string f.name, .int .i64 f.body, .slice a f.sorts.length c] 59)).alloc (.cells #[.slice r.ps.a r.ps.l.length r.ps.c, .slice r.es.a r.es.l.length r.es.c, .slice r.bs.a r.bs.l.length r.bs.c, .int .i64 r.left, .int .i64 r.right] 24)).alloc (.cells #[.string s, .slice b l.length d] 74)) := by
  refine ⟨(frk_start w f a c r).below ((Below.refl _ _).alloc (Nat.le_refl _) _), ?_⟩
  have h := heap_new ((w.alloc (.cells #[.string f.name, .int .i64 f.body, .slice a f.sorts.length c] 59)).alloc (.cells #[.slice r.ps.a r.ps.l.length r.ps.c, .slice r.es.a r.es.l.length r.es.c, .slice r.bs.a r.bs.l.length r.bs.c, .int .i64 r.left, .int .i64 r.right] 24)) (.cells #[.string s, .slice b l.length d] 74)
  rw [World.size_alloc, World.size_alloc] at h
  exact h
theorem CSK.sc (h : CSK w f a c r s b l d wr) : wr.cell? ⟨w.heap.size + 2, 0, none⟩ = some (.string s) ∧ wr.cell? ⟨w.heap.size + 2, 1, none⟩ = some (.slice b l.length d) := ⟨cell_of_row wr _ 0 _ _ (0, 0) h.sb, cell_of_row wr _ 1 _ _ (0, 0) h.sb⟩
end
set_option maxRecDepth 100000 in
set_option maxHeartbeats 2000000 in
theorem checkSorts_any (f : FT) (a : Option Addr) (c : Nat) (r : RU) (s : ByteArray) (b : Option Addr) (l : List Int) (d : Nat) (w : World) (hF : FAt w a f) (hR : r.at_ w) (hs : s.size ≤ maxLen) (hX : IntsAt w b l) (hl : l.length ≤ maxLen) :
    Calls Tryz.prog 47 #[.agg #[.string f.name, .int .i64 f.body, .slice a f.sorts.length c], .agg r.cells, .agg #[.string s, .slice b l.length d]] w fun e w' => e = .returned (.int .i64 (chkErr f r s l)) ∧ Below w.heap.size w w' := by
  have hK0 : CSK w f a c r s b l d _ := CSK.start
  have HSF := Lib.hid (setterFor_any f a c r s _ (hF.below hK0.fr.low) (hR.below hK0.fr.low) hs)
  have HXX := Lib.hid (fun W (h : CSK w f a c r s b l d W) => hX.below h.fr.low)
  have HPG := Lib.hid (fun W (h : CSK w f a c r s b l d W) => errorOfPrinting_any f a c b l d W (hF.at_.below h.fr.low) (hX.below h.fr.low) hl)
  have HFS := Lib.hid hF.at_
  obtain ⟨E, hE⟩ : ∃ E, E = chkErr f r s l := ⟨_, rfl⟩
  have HE := Lib.hid hE
  rw [← hE]
  unfold RU.cells at *
  clear hE hF hR hX
  by_cases h0 : setErrW f r s = 0
  · obtain ⟨hcf, hcr, hwe⟩ := setErrW_ok h0
    have hz := (word_size hwe).2
    have hfi := fount_fine hcf
    have hbp := barsOf_places r s
    have HPO := Lib.hid (fun g b1 b2 base W (hB : BookAt W base r g b1 b2) => (show Calls Tryz.prog 112 #[.agg #[.string f.name, .int .i64 f.body, .slice a f.sorts.length c, .slice (some ⟨g, 0, none⟩) r.ps.l.length r.ps.l.length, .map (some b1), .map (some b2), .int .i64 r.left, .int .i64 r.right], .string s, .int .i64 (0 : Nat), .int .i64 s.size] W (fun e w' => Below W.heap.size W w' ∧ ∃ ba bc, e = .returned (.agg #[.string f.name, .int .i64 f.body, .slice a f.sorts.length c, .string (s.extract 0 s.size), .slice ba (minusL (barsOf r s) (0 : Nat)).length bc]) ∧ IntsAt w' ba (minusL (barsOf r s) (0 : Nat))) from pieceOf_any f a c r g b1 b2 base s 0 s.size W (Nat.zero_le _) (Nat.le_refl _) hz hB))
    have HER := Lib.hid (fun W ba bc (h : CSK w f a c r s b l d W) (hI : IntsAt W ba (minusL (barsOf r s) (0 : Nat))) (hpr : prErr f l = 0) => errorOf_any (PC.mk f a c (s.extract 0 s.size) ba bc (minusL (barsOf r s) (0 : Nat))) b l d W ⟨HFS.out.below h.fr.low, hI, places_minus hbp (by decide)⟩ ⟨by show (s.extract 0 s.size).size ≤ 1000; rw [ByteArray.size_extract]; omega, hfi.2, hfi.1⟩ (HXX.out W h) hl (fun x hx => by
      obtain ⟨k, hk, e⟩ := mem_getD.1 hx
      have := prErr_ok.1 hpr k hk
      unfold badPr at this
      rw [e, Bool.or_eq_false_iff] at this
      exact this.1))
    have HSM := Lib.hid (fun ba bc => erR_same f a none c 0 (s.extract 0 s.size) ba none bc 0 (minusL (barsOf r s) (0 : Nat)) l 0 false)
    have HE2 := Lib.hid (show E = if prErr f l ≠ 0 then prErr f l else erR (wordP f none 0 r s 0 s.size) l 0 false by rw [HE.out]; unfold chkErr; rw [if_neg (fun h => h h0)])
    have H0 := Lib.hid h0
    unfold PC.cells at HER
    clear h0 hcf hcr hwe hfi hbp HE
    go_enter Tryz.func47, Tryz.ntmps47
    go_wp2_with fail
    refine HSF.out.mono ?_
    rintro e w1 ⟨hb1, hp1⟩
    rw [if_pos H0.out] at hp1
    obtain ⟨g, b1, b2, rfl, hbk⟩ := hp1
    unfold setV
    have hK1 := hK0.below hb1
    have hb2 := (Below.refl w1.heap.size w1).alloc (Nat.le_refl _) (.cells #[.string f.name, .int .i64 f.body, .slice a f.sorts.length c, .slice (some ⟨g, 0, none⟩) r.ps.l.length r.ps.l.length, .map (some b1), .map (some b2), .int .i64 r.left, .int .i64 r.right] 183)
    have hK2 := hK1.below hb2
    have hbk2 := hbk.below (hb2.mono (Nat.le_refl _))
    have n2 := heap_new w1 (.cells #[.string f.name, .int .i64 f.body, .slice a f.sorts.length c, .slice (some ⟨g, 0, none⟩) r.ps.l.length r.ps.l.length, .map (some b1), .map (some b2), .int .i64 r.left, .int .i64 r.right] 183)
    obtain ⟨W2, hW2⟩ : ∃ W2, W2 = w1.alloc (.cells #[.string f.name, .int .i64 f.body, .slice a f.sorts.length c, .slice (some ⟨g, 0, none⟩) r.ps.l.length r.ps.l.length, .map (some b1), .map (some b2), .int .i64 r.left, .int .i64 r.right] 183) := ⟨_, rfl⟩
    rw [← hW2] at hK2 hbk2 n2
    have HW2 := Lib.hid hW2
    have hz1 := heap_lt hK1.sb
    obtain ⟨s0, s1⟩ := hK2.sc
    clear hW2 hK0 hK1 hb1 hb2 hbk HSF
    have HPG2 := Lib.hid (HPG.out W2 hK2)
    obtain ⟨PE, hPE⟩ : ∃ PE, PE = prErr f l := ⟨_, rfl⟩
    rw [← hPE] at HPG2 HE2
    obtain ⟨c0, c1, c2⟩ := hK2.fr.fc
    rw [HW2.out] at c0 c1 c2 s0 s1
    go_wp2_with fail
    rw [← HW2.out]
    refine HPG2.out.mono ?_
    rintro e w3 ⟨rfl, hb3⟩
    have hK3 := hK2.below hb3
    have hbk3 := hbk2.below hb3
    have n3 := (hb3.block _ (heap_lt n2)).trans n2
    clear hK2 hbk2 n2 hb3 HPG2 c0 c1 c2 s0 s1
    by_cases hpe : PE = 0
    · have hpb : (PE != 0) = false := by rw [hpe]; try rfl
      have HV := Lib.hid (show E = erR (wordP f none 0 r s 0 s.size) l 0 false by rw [HE2.out, if_neg (fun h => h hpe)])
      have HER2 := Lib.hid (fun W ba bc h hI => HER.out W ba bc h hI (by rw [← hPE]; exact hpe))
      have E0 := Lib.hid (show s.extract 0 s.size = s from ext_whole s)
      rw [E0.out] at HPO HER2 HSM
      obtain ⟨q0, q1, q2, q3, q4, q5, q6, q7⟩ : _ ∧ _ ∧ _ ∧ _ ∧ _ ∧ _ ∧ _ ∧ _ := ⟨cell_of_row w3 _ 0 _ _ (0, 0) n3, cell_of_row w3 _ 1 _ _ (0, 0) n3, cell_of_row w3 _ 2 _ _ (0, 0) n3, cell_of_row w3 _ 3 _ _ (0, 0) n3, cell_of_row w3 _ 4 _ _ (0, 0) n3, cell_of_row w3 _ 5 _ _ (0, 0) n3, cell_of_row w3 _ 6 _ _ (0, 0) n3, cell_of_row w3 _ 7 _ _ (0, 0) n3⟩
      obtain ⟨q8, q9⟩ := hK3.sc
      have hltA : w1.heap.size < w3.heap.size := heap_lt n3
      have hltB : w.heap.size + 2 < w3.heap.size := heap_lt hK3.sb
      clear hpe hPE
      go_wp2_with fail
      go_region_held3 (fun w' => w'.cell? ⟨w1.heap.size, 0, none⟩ = some (.string f.name) ∧ w'.cell? ⟨w1.heap.size, 1, none⟩ = some (.int .i64 f.body) ∧ w'.cell? ⟨w1.heap.size, 2, none⟩ = some (.slice a f.sorts.length c) ∧ w'.cell? ⟨w1.heap.size, 3, none⟩ = some (.slice (some ⟨g, 0, none⟩) r.ps.l.length r.ps.l.length) ∧ w'.cell? ⟨w1.heap.size, 4, none⟩ = some (.map (some b1)) ∧ w'.cell? ⟨w1.heap.size, 5, none⟩ = some (.map (some b2)) ∧ w'.cell? ⟨w1.heap.size, 6, none⟩ = some (.int .i64 r.left) ∧ w'.cell? ⟨w1.heap.size, 7, none⟩ = some (.int .i64 r.right) ∧ w'.cell? ⟨w.heap.size + 2, 0, none⟩ = some (.string s) ∧ w'.cell? ⟨w.heap.size + 2, 1, none⟩ = some (.slice b l.length d)) (go_keep)
        (first
         | (go_at_call 112; refine (HPO.out g b1 b2 _ _ (by first | exact hbk3 | exact hbk3.drew)).mono ?_; rintro e w5 ⟨hb5d, ba5, bc5, rfl, hI5⟩; have hb5 : Below w3.heap.size w3 w5 := (Below.refl _ _).drew.trans hb5d; have k0 := (hb5.cell (p := ⟨w1.heap.size, 0, none⟩) hltA).trans q0; have k1 := (hb5.cell (p := ⟨w1.heap.size, 1, none⟩) hltA).trans q1; have k2 := (hb5.cell (p := ⟨w1.heap.size, 2, none⟩) hltA).trans q2; have k3 := (hb5.cell (p := ⟨w1.heap.size, 3, none⟩) hltA).trans q3; have k4 := (hb5.cell (p := ⟨w1.heap.size, 4, none⟩) hltA).trans q4; have k5 := (hb5.cell (p := ⟨w1.heap.size, 5, none⟩) hltA).trans q5; have k6 := (hb5.cell (p := ⟨w1.heap.size, 6, none⟩) hltA).trans q6; have k7 := (hb5.cell (p := ⟨w1.heap.size, 7, none⟩) hltA).trans q7; have k8 := (hb5.cell (p := ⟨w.heap.size + 2, 0, none⟩) hltB).trans q8; have k9 := (hb5.cell (p := ⟨w.heap.size + 2, 1, none⟩) hltB).trans q9)
         | (go_at_call 113; refine (HER2.out _ ba5 bc5 (hK3.below hb5) hI5).mono ?_; rintro e w6 ⟨rfl, hb6d⟩; have hb6 : Below w3.heap.size w3 w6 := hb5.trans (hb6d.mono hb5.size); have k0 := (hb6.cell (p := ⟨w1.heap.size, 0, none⟩) hltA).trans q0; have k1 := (hb6.cell (p := ⟨w1.heap.size, 1, none⟩) hltA).trans q1; have k2 := (hb6.cell (p := ⟨w1.heap.size, 2, none⟩) hltA).trans q2; have k3 := (hb6.cell (p := ⟨w1.heap.size, 3, none⟩) hltA).trans q3; have k4 := (hb6.cell (p := ⟨w1.heap.size, 4, none⟩) hltA).trans q4; have k5 := (hb6.cell (p := ⟨w1.heap.size, 5, none⟩) hltA).trans q5; have k6 := (hb6.cell (p := ⟨w1.heap.size, 6, none⟩) hltA).trans q6; have k7 := (hb6.cell (p := ⟨w1.heap.size, 7, none⟩) hltA).trans q7; have k8 := (hb6.cell (p := ⟨w.heap.size + 2, 0, none⟩) hltB).trans q8; have k9 := (hb6.cell (p := ⟨w.heap.size + 2, 1, none⟩) hltB).trans q9))
      have hlow := (hK3.below hb6).fr.low
      have HV2 := Lib.hid (show E = erR (PC.mk f a c s ba5 bc5 (minusL (barsOf r s) (0 : Nat))) l 0 false by rw [HV.out, HSM.out ba5 bc5]; unfold wordP; rw [E0.out])
      clear HSM HER2 hI5 hb5 hb5d hb6 hb6d
      go_wp2
      go_ret
      rw [HV2.out]
      exact ⟨rfl, hlow⟩
    · have hpb : (PE != 0) = true := by simpa using hpe
      have HV := Lib.hid (show E = PE by rw [HE2.out, if_pos hpe])
      have hlow := hK3.fr.low
      clear hpe hPE
      go_wp2
      go_ret
      rw [HV.out]
      exact ⟨rfl, hlow⟩
  · have HV := Lib.hid (show E = setErrW f r s by rw [HE.out]; unfold chkErr; rw [if_pos h0])
    have hb : (setErrW f r s != 0) = true := by simpa using h0
    have H0 := Lib.hid h0
    clear h0 HE HPG
    go_enter Tryz.func47, Tryz.ntmps47
    go_wp2_with fail
    refine HSF.out.mono ?_
    rintro e w1 ⟨hb1, hp1⟩
    rw [if_neg H0.out] at hp1
    obtain ⟨v, rfl, nm, bd, a1, n1, c1, a2, n2, c2, m1, m2, le, ri, rfl⟩ := hp1
    have hK1 := hK0.below hb1
    have hlow1 := hK1.fr.low
    have hlow2 := hlow1.alloc hlow1.size (.cells #[.string nm, .int .i64 bd, .slice a1 n1 c1, .slice a2 n2 c2, .map m1, .map m2, .int .i64 le, .int .i64 ri] 183)
    clear hb1 hK0 hK1 HSF hlow1
    go_wp2
    go_ret
    rw [HV.out]
    exact ⟨rfl, hlow2⟩
end Go.Proofs.YtlkkociijfdcgaaGreatDoor
