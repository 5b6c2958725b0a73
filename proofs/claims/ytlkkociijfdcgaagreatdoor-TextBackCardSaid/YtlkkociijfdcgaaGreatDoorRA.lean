/-
  The reference's small letters; the dots of its patterns.
-/
import Derived.Test.YtlkkociijfdcgaaGreatDoorW3
import Derived.Lib.Case
import Derived.Test.YtlkkociijfdcgaaGreatDoorQX
import Derived.Test.YtlkkociijfdcgaaGreatDoorZ4
import Derived.Test.YtlkkociijfdcgaaGreatDoorVO
import Derived.Test.YtlkkociijfdcgaaGreatDoorPL
import Derived.Test.YtlkkociijfdcgaaGreatDoorVY
import Derived.Deep.RegionHeld3
import Derived.Test.YtlkkociijfdcgaaGreatDoorYN
import Derived.Test.YtlkkociijfdcgaaGreatDoorW5
namespace Go.Proofs.YtlkkociijfdcgaaGreatDoor
open Go.RowKit Go.Maps

end Go.Proofs.YtlkkociijfdcgaaGreatDoor
/-
  The dots of the reference's patterns.
-/
namespace Go.Proofs.YtlkkociijfdcgaaGreatDoor
open Go.RowKit
end Go.Proofs.YtlkkociijfdcgaaGreatDoor

/-
  The levels of a pattern, as the reference reckons them: maths.
-/
namespace Go.Proofs.YtlkkociijfdcgaaGreatDoor
open Go.RowKit Go.Maps Go.Shelf

theorem ext_list (s : ByteArray) (i j : Nat) : (s.extract i j).data.toList = (s.data.toList.drop i).take (j - i) := by
  rw [ByteArray.data_extract, Array.toList_extract, List.extract_eq_take_drop]
end Go.Proofs.YtlkkociijfdcgaaGreatDoor

namespace Go.Proofs.YtlkkociijfdcgaaGreatDoor
open Go.RowKit Go.Maps Go.Shelf

/-- What lies between two rounds of the inner loop. -/
structure LvIn (w : World) (I : ByteArray) (A : Option Addr) (c : Nat) (x : Pat) (M : List Int) (wr : World) : Prop where
  box : wr.heap[w.heap.size]? = some (.cells #[.string I, .slice A (refLv x).length c] 149 (0, 0))
  row : RowX wr (w.heap.size + 1) M
  low : Below w.heap.size w wr
theorem LvIn.set_ {w : World} {I : ByteArray} {A : Option Addr} {c : Nat} {x : Pat} {M : List Int} {wr : World} (h : LvIn w I A c x M wr) (j : Nat) (v : Int) : LvIn w I A c x (M.set j v) (wr.setCell ⟨w.heap.size + 1, j, none⟩ (.int .i64 v)) :=
  ⟨(Below.heap_setCell _ _ _ _ (by show w.heap.size ≠ w.heap.size + 1; omega)).trans h.box, h.row.set_ j v, h.low.setCell (by show w.heap.size ≤ w.heap.size + 1; omega) _⟩
theorem LvIn.drewN {w : World} {I : ByteArray} {A : Option Addr} {c : Nat} {x : Pat} {M : List Int} {wr : World} (h : LvIn w I A c x M wr) (n : Nat) : LvIn w I A c x M (wr.drewN n) := ⟨h.box, h.row.drewN n, below_drewN h.low n⟩
theorem LvIn.drew {w : World} {I : ByteArray} {A : Option Addr} {c : Nat} {x : Pat} {M : List Int} {wr : World} (h : LvIn w I A c x M wr) : LvIn w I A c x M wr.drew := ⟨h.box, h.row.drew, h.low.drew⟩
end Go.Proofs.YtlkkociijfdcgaaGreatDoor
/-
  The levels of all patterns: the reference's walk.
-/
namespace Go.Proofs.YtlkkociijfdcgaaGreatDoor
open Go.RowKit Go.Maps Go.Shelf

theorem IRow.ints {w : World} {base : Nat} {A : Option Addr} {n c : Nat} {l : List Int} (h : IRow w base (.slice A n c) l) : n = l.length ∧ IntsAt w A l := by
  obtain ⟨a, c', e, hI, _⟩ := h.shape
  injection e with e1 e2 e3
  subst e1
  exact ⟨e2, hI⟩
structure LOKnow (w : World) (r : RU) (M : List Int) (wr : World) : Prop where
  box : wr.heap[w.heap.size]? = some (.cells #[.slice r.ps.a r.ps.l.length r.ps.c, .slice r.es.a r.es.l.length r.es.c, .slice r.bs.a r.bs.l.length r.bs.c, .int .i64 r.left, .int .i64 r.right] 24 (0, 0))
  row : RowX wr (w.heap.size + 1) M
  low : Below w.heap.size w wr
theorem LOKnow.below {w : World} {r : RU} {M : List Int} {wr wr' : World} (h : LOKnow w r M wr) (hb : Below wr.heap.size wr wr') : LOKnow w r M wr' := ⟨(hb.block _ (heap_lt h.box)).trans h.box, h.row.below hb, h.low.trans (hb.mono h.low.size)⟩
theorem LOKnow.set_ {w : World} {r : RU} {M : List Int} {wr : World} (h : LOKnow w r M wr) (j : Nat) (v : Int) : LOKnow w r (M.set j v) (wr.setCell ⟨w.heap.size + 1, j, none⟩ (.int .i64 v)) :=
  ⟨(Below.heap_setCell _ _ _ _ (by show w.heap.size ≠ w.heap.size + 1; omega)).trans h.box, h.row.set_ j v, h.low.setCell (by show w.heap.size ≤ w.heap.size + 1; omega) _⟩
theorem LOKnow.drew {w : World} {r : RU} {M : List Int} {wr : World} (h : LOKnow w r M wr) : LOKnow w r M wr.drew := ⟨h.box, h.row.drew, h.low.drew⟩
end Go.Proofs.YtlkkociijfdcgaaGreatDoor

namespace Go.Proofs.YtlkkociijfdcgaaGreatDoor
open Go.RowKit Go.Maps Go.Shelf

structure HyKnow (w : World) (r : RU) (wr : World) : Prop where
  box : wr.heap[w.heap.size]? = some (.cells #[.slice r.ps.a r.ps.l.length r.ps.c, .slice r.es.a r.es.l.length r.es.c, .slice r.bs.a r.bs.l.length r.bs.c, .int .i64 r.left, .int .i64 r.right] 24 (0, 0))
  low : Below w.heap.size w wr
theorem HyKnow.below {w : World} {r : RU} {wr wr' : World} (h : HyKnow w r wr) (hb : Below wr.heap.size wr wr') : HyKnow w r wr' := ⟨(hb.block _ (heap_lt h.box)).trans h.box, h.low.trans (hb.mono h.low.size)⟩
theorem HyKnow.drewN {w : World} {r : RU} {wr : World} (h : HyKnow w r wr) (n : Nat) : HyKnow w r (wr.drewN n) := ⟨h.box, below_drewN h.low n⟩
theorem HyKnow.own {w : World} {r : RU} {wr wr' : World} (h : HyKnow w r wr) (hb : Below (w.heap.size + 1) wr wr') : HyKnow w r wr' := ⟨(hb.block _ (by omega)).trans h.box, h.low.trans (hb.mono (by omega))⟩
end Go.Proofs.YtlkkociijfdcgaaGreatDoor
/-
  A word with its hyphens: the reference's walk.
-/
namespace Go.Proofs.YtlkkociijfdcgaaGreatDoor
open Go.RowKit Go.Maps Go.Shelf

end Go.Proofs.YtlkkociijfdcgaaGreatDoor

namespace Go.Proofs.YtlkkociijfdcgaaGreatDoor
open Go.RowKit Go.Maps Go.Shelf

end Go.Proofs.YtlkkociijfdcgaaGreatDoor
/-
  The set word: the reference's walk.
-/
namespace Go.Proofs.YtlkkociijfdcgaaGreatDoor
open Go.RowKit Go.Maps Go.Shelf

/-- Sorts that print something have a text. -/
def Texted (f : FT) : Prop := ∀ i, i < f.sorts.length → (f.sorts.getD i noTS).kind ≠ 3 → 0 < (f.sorts.getD i noTS).text.size
theorem may_kind {p : PC} {pl : Nat} {x : TS} (h : mayB p pl x = true) : x.kind ≠ 3 := by
  unfold mayB at h
  rw [Bool.and_eq_true] at h
  intro e
  have := h.1
  rw [e] at this
  cases this
structure SetKnow (w : World) (f : FT) (a : Option Addr) (c : Nat) (wr : World) : Prop where
  box : wr.heap[w.heap.size]? = some (.cells #[.string f.name, .int .i64 f.body, .slice a f.sorts.length c] 59 (0, 0))
  low : Below w.heap.size w wr
theorem SetKnow.below {w : World} {f : FT} {a : Option Addr} {c : Nat} {wr wr' : World} (h : SetKnow w f a c wr) (hb : Below wr.heap.size wr wr') : SetKnow w f a c wr' := ⟨(hb.block _ (heap_lt h.box)).trans h.box, h.low.trans (hb.mono h.low.size)⟩
theorem SetKnow.own {w : World} {f : FT} {a : Option Addr} {c : Nat} {wr wr' : World} (h : SetKnow w f a c wr) (hb : Below (w.heap.size + 1) wr wr') : SetKnow w f a c wr' := ⟨(hb.block _ (by omega)).trans h.box, h.low.trans (hb.mono (by omega))⟩
theorem SetKnow.c {w : World} {f : FT} {a : Option Addr} {c : Nat} {wr : World} (h : SetKnow w f a c wr) : wr.cell? ⟨w.heap.size, 0, none⟩ = some (.string f.name) ∧ wr.cell? ⟨w.heap.size, 1, none⟩ = some (.int .i64 f.body) ∧ wr.cell? ⟨w.heap.size, 2, none⟩ = some (.slice a f.sorts.length c) :=
  ⟨cell_of_row wr _ 0 _ _ (0, 0) h.box, cell_of_row wr _ 1 _ _ (0, 0) h.box, cell_of_row wr _ 2 _ _ (0, 0) h.box⟩
end Go.Proofs.YtlkkociijfdcgaaGreatDoor

/-
  SortsOf: the reference's walk.
-/
namespace Go.Proofs.YtlkkociijfdcgaaGreatDoor
open Go.RowKit Go.Maps Go.Shelf

theorem texted {f : FT} (h : (checkF f).2 = 0) : Texted f := by
  intro k hk hk3
  obtain ⟨_, _, ha⟩ := checkF_right h
  obtain ⟨_, _, h3, _, h5⟩ := sortErr_zero (ha k hk)
  unfold textErr at h5
  split at h5
  · cases h5
  rename_i h6
  have h6 : inB (f.sorts.getD k noTS).text.size (leastOf (f.sorts.getD k noTS).kind) (mostOf (f.sorts.getD k noTS).kind) = true := by simpa using h6
  have h7 := (of_decide_eq_true (show decide _ = true from h6))
  unfold leastOf mostOf at h7
  split at h7
  · omega
  · split at h7
    · omega
    · have h8 := of_decide_eq_true (show decide _ = true from h3)
      omega
theorem bytes_eq4 {a b : ByteArray} (h : a.data.toList = b.data.toList) : a = b := by
  cases a; cases b; congr; exact Array.toList_inj.1 h
theorem ext_whole (s : ByteArray) : s.extract 0 s.size = s := by
  apply bytes_eq4
  rw [ext_list, List.drop_zero, Nat.sub_zero, List.take_of_length_le (by rw [Array.length_toList]; exact Nat.le_refl _)]
def wordSet (f : FT) (r : RU) (s : ByteArray) : Option (List Int) := longP (wordP f none 0 r s 0 s.size)
end Go.Proofs.YtlkkociijfdcgaaGreatDoor

namespace Go.Proofs.YtlkkociijfdcgaaGreatDoor
open Go.RowKit Go.Maps Go.Shelf

/-- At most 20 sorts, or too many, with short names and texts. -/
def few2X (x : TS) : Bool := decide (30 < x.name.size ∨ 10 < x.text.size)
def few2B (f : FT) : Bool := !(decide (30 < f.name.size ∨ (20 < f.sorts.length ∧ f.sorts.length ≤ 120) ∨ 122 < f.sorts.length)) && !(f.sorts.any few2X)
set_option maxRecDepth 100000 in
set_option maxHeartbeats 1000000 in
theorem few2_any (f : FT) (a : Option Addr) (c : Nat) (w : World) (hO : OkF f) (hF : SortsAt w a f.sorts) :
    Calls Tryz.prog 36 #[.agg #[.string f.name, .int .i64 f.body, .slice a f.sorts.length c]] w fun e w' => e = .returned (.bool (few2B f)) ∧ Below w.heap.size w w' := by
  have hO1 := hO.1
  have hO2 := hO.2.1
  unfold maxLen at hO1 hO2
  have hB0 := (Below.refl w.heap.size w).alloc (Nat.le_refl _) (.cells #[.string f.name, .int .i64 f.body, .slice a f.sorts.length c] 59)
  by_cases h1 : 30 < f.name.size ∨ (20 < f.sorts.length ∧ f.sorts.length ≤ 120) ∨ 122 < f.sorts.length
  · have HE := Lib.hid (show few2B f = false by unfold few2B; rw [decide_eq_true h1]; try rfl)
    go_enter Tryz.func36, Tryz.ntmps36
    go_wp2
    all_goals first | (exfalso; omega) | (exfalso; (simp at *) <;> omega) | skip
    all_goals go_ret
    all_goals exact ⟨ret_bool HE.out.symm, hB0⟩
  · have HE := Lib.hid (show few2B f = !(f.sorts.any few2X) by unfold few2B; rw [decide_eq_false h1]; try rfl)
    have hF1 := hF.alloc (.cells #[.string f.name, .int .i64 f.body, .slice a f.sorts.length c] 59)
    have g1 : f.name.size ≤ 30 := by omega
    have g2 : f.sorts.length ≤ 20 ∨ 120 < f.sorts.length := by omega
    have g3 : f.sorts.length ≤ 122 := by omega
    clear h1
    rcases g2 with g2 | g2
    all_goals
      go_enter Tryz.func36, Tryz.ntmps36
      go_wp2
      go_loop [3] (fun i => ∃ k : Nat, k ≤ f.sorts.length ∧ i = .int .i64 k ∧ Hid (firstAt (fun i => few2X (f.sorts.getD i noTS)) (f.sorts.length - 0) 0 = firstAt (fun i => few2X (f.sorts.getD i noTS)) (f.sorts.length - k) k)) (fun i => f.sorts.length - (intOf i).toNat)
      case atStart => exact ⟨0, Nat.zero_le _, rfl, Lib.hid rfl⟩
      case round =>
        obtain ⟨k, hk, rfl, HR⟩ := hrel
        by_cases hlt : k < f.sorts.length
        · obtain ⟨ad, rfl, had, s0, s1, s2, s3⟩ := hF1.at_ hlt
          have hx := hO.at_ hlt
          obtain ⟨x, ex⟩ : ∃ x, x = f.sorts.getD k noTS := ⟨_, rfl⟩
          rw [← ex] at s0 s1 s2 s3 hx
          have EX := Lib.hid ex; clear ex s2 s3
          obtain ⟨hx1, hx2⟩ := hx
          unfold maxLen at hx1 hx2
          by_cases hq : 30 < x.name.size ∨ 10 < x.text.size
          · have HS := Lib.hid (firstAt_stop (q := fun i => few2X (f.sorts.getD i noTS)) hlt (by show few2X _ = true; rw [← EX.out]; exact decide_eq_true hq))
            go_wp2
            all_goals first | (exfalso; omega) | (exfalso; (simp at *) <;> omega) | skip
            all_goals go_ret
            all_goals exact ⟨ret_bool (by rw [HE.out, any_firstAt (p := few2X) (HR.out.trans HS.out)]; rfl), hB0⟩
          · have HS := Lib.hid (firstAt_go (q := fun i => few2X (f.sorts.getD i noTS)) hlt (by show few2X _ = false; rw [← EX.out]; exact decide_eq_false hq))
            have q1 : x.name.size ≤ 30 := by omega
            have q2 : x.text.size ≤ 10 := by omega
            clear hq
            go_wp2
            go_round
            case rel => exact ⟨k + 1, by omega, by go_num, Lib.hid (HR.out.trans HS.out)⟩
            case measure => simp [intOf]; omega
        · have HS := Lib.hid (firstAt_end (q := fun i => few2X (f.sorts.getD i noTS)) hlt)
          go_wp2
          go_ret
          exact ⟨ret_bool (by rw [HE.out, any_firstAt (p := few2X) (HR.out.trans HS.out)]; rfl), hB0⟩

theorem few2_len {f : FT} (h : few2B f = true) : f.sorts.length ≤ 122 := by
  unfold few2B at h
  rw [Bool.and_eq_true] at h
  have h1 := h.1
  rw [Bool.not_eq_true'] at h1
  have := of_decide_eq_false h1
  omega
/-- A fount as it comes in. -/
structure FIn (w : World) (f : FT) (a : Option Addr) (c : Nat) : Prop where
  at_ : FAt w a f
  cap : f.sorts.length ≤ c
  nil : a = none → c = 0
theorem FIn.below {w w' : World} {f : FT} {a : Option Addr} {c : Nat} (h : FIn w f a c) (hb : Below w.heap.size w w') : FIn w' f a c := ⟨h.at_.below hb, h.cap, h.nil⟩
theorem refFountErr_any (f : FT) (a : Option Addr) (c : Nat) (w : World) (hF : FIn w f a c) :
    Calls Tryz.prog 40 #[.agg #[.string f.name, .int .i64 f.body, .slice a f.sorts.length c]] w fun e w' => e = .returned (.int .i64 (checkF f).2) ∧ Below w.heap.size w w' := by
  have hb0 := (Below.refl w.heap.size w).alloc (Nat.le_refl _) (.cells #[.string f.name, .int .i64 f.body, .slice a f.sorts.length c] 59)
  have HC := Lib.hid (refCheckFount_any f a c _ hF.cap hF.at_.ok (hF.at_.at_.below hb0))
  go_enter Tryz.func40, Tryz.ntmps40
  go_wp2_with fail
  refine HC.out.mono ?_
  rintro e w2 ⟨rfl, hb2⟩
  have hlow := hb0.trans (hb2.mono hb0.size)
  clear HC hb2 hb0
  go_wp2
  go_ret
  exact ⟨rfl, hlow⟩
end Go.Proofs.YtlkkociijfdcgaaGreatDoor
/-
  FirstMissing: the program's and the reference's.
-/
namespace Go.Proofs.YtlkkociijfdcgaaGreatDoor
open Go.RowKit Go.Maps Go.Shelf

end Go.Proofs.YtlkkociijfdcgaaGreatDoor

/-
  FirstMissing: the reference's walk.
-/
namespace Go.Proofs.YtlkkociijfdcgaaGreatDoor
open Go.RowKit Go.Maps Go.Shelf

end Go.Proofs.YtlkkociijfdcgaaGreatDoor

namespace Go.Proofs.YtlkkociijfdcgaaGreatDoor
open Go.RowKit Go.Maps Go.Shelf

/-- Sorts that print a piece from a place on, one behind the other, none over a bar. -/
def PathP (p : PC) : Nat → List Int → Prop
  | pl, [] => pl = p.t.size
  | pl, x :: l => ∃ i : Nat, x = (i : Int) ∧ i < p.f.sorts.length ∧ mayB p pl (p.f.sorts.getD i noTS) = true ∧ PathP p (pl + tsize p i) l
theorem may_one {p : PC} (hT : Texted p.f) {pl i : Nat} (hi : i < p.f.sorts.length) (hm : mayB p pl (p.f.sorts.getD i noTS) = true) : 1 ≤ tsize p i := hT i hi (may_kind hm)
theorem path_len {p : PC} (hT : Texted p.f) : ∀ (l : List Int) (pl : Nat), PathP p pl l → l.length + pl ≤ p.t.size
  | [], pl, h => by have h : pl = p.t.size := h; simp; omega
  | x :: l, pl, ⟨i, _, hi, hm, h⟩ => by
    have h1 := path_len hT l _ h
    have h2 := may_one hT hi hm
    rw [List.length_cons]
    omega
theorem long_path {p : PC} : ∀ (k pl : Nat) (acc l : List Int), longSet p k pl acc = some l → pl ≤ p.t.size → ∃ l2, l = acc ++ l2 ∧ PathP p pl l2
  | 0, _, _, _, h, _ => by cases h
  | k + 1, pl, acc, l, h, hpl => by
    unfold longSet at h
    by_cases h1 : pl < p.t.size
    · rw [if_pos h1] at h
      by_cases h2 : 0 < (longAt p pl).2
      · rw [if_pos h2] at h
        rcases longF_ok p pl (mays p pl p.f.sorts.length) with h3 | ⟨h3, h4, h5⟩
        · change (longAt p pl).2 = 0 at h3; omega
        · change (longAt p pl).1 < _ at h3
          change (longAt p pl).2 = tsize p (longAt p pl).1 at h4
          have hf := may_fits h5 hpl
          change pl + tsize p (longAt p pl).1 ≤ _ at hf
          rw [h4] at h
          obtain ⟨l2, e, hp⟩ := long_path k _ _ _ h hf
          exact ⟨((longAt p pl).1 : Int) :: l2, by rw [e, List.append_assoc]; try rfl, ⟨_, rfl, h3, h5, hp⟩⟩
      · rw [if_neg h2] at h; cases h
    · rw [if_neg h1] at h
      injection h with h
      exact ⟨[], by rw [h, List.append_nil], show pl = p.t.size by omega⟩
theorem longP_some {p : PC} {l : List Int} (h : longP p = some l) : PathP p 0 l := by
  obtain ⟨l2, e, hp⟩ := long_path _ _ _ _ h (Nat.zero_le _)
  rw [List.nil_append] at e
  subst e
  exact hp
/-- The number of a sort that there is not. -/
def outR (f : FT) (x : Int) : Bool := !(decide (0 ≤ x ∧ x < (f.sorts.length : Int)))
def kindAt (f : FT) (x : Int) : Int := (f.sorts.getD x.toNat noTS).kind
theorem path_in {p : PC} : ∀ (l : List Int) (pl : Nat), PathP p pl l → ∀ x ∈ l, outR p.f x = false ∧ kindAt p.f x ≠ 3
  | [], _, _, x, hx => by cases hx
  | y :: l, pl, ⟨i, e, hi, hm, h⟩, x, hx => by
    rcases List.mem_cons.1 hx with rfl | hx
    · subst e
      refine ⟨?_, ?_⟩
      · unfold outR
        rw [decide_eq_true ⟨by omega, by omega⟩]; try rfl
      · unfold kindAt
        rw [Int.toNat_natCast]
        exact may_kind hm
    · exact path_in l _ h x hx
end Go.Proofs.YtlkkociijfdcgaaGreatDoor

namespace Go.Proofs.YtlkkociijfdcgaaGreatDoor
open Go.RowKit Go.Maps Go.Shelf

end Go.Proofs.YtlkkociijfdcgaaGreatDoor

namespace Go.Proofs.YtlkkociijfdcgaaGreatDoor
open Go.RowKit Go.Maps Go.Shelf

theorem rdTo_fold (f : FT) (st : List ByteArray × List UInt8) (l : List Int) : ∀ k, k ≤ l.length → rdTo f st l k = (l.take k).foldl (rdSort f) st
  | 0, _ => rfl
  | k + 1, h => by
    show rdSort f (rdTo f st l k) (l.getD k 0) = _
    rw [rdTo_fold f st l k (by omega), List.take_succ_eq_append_getElem (by omega), List.foldl_append, List.getD_eq_getElem?_getD, List.getElem?_eq_getElem (by omega)]
    rfl
theorem preB_drop {t x : ByteArray} {pl : Nat} (h : preB (t.extract pl t.size) x = true) : x.data.toList = (t.data.toList.drop pl).take x.size := by
  have hz := preB_size h
  rw [preB_long hz, beq_iff_eq] at h
  have h2 := toList_inj h
  have h3 : x.data.toList = ((t.extract pl t.size).extract 0 x.size).data.toList := by rw [h2]
  rw [h3, ext_list, ext_list, List.drop_zero, Nat.sub_zero, List.take_take]
  congr 1
  rw [ByteArray.size_extract] at hz
  omega
theorem rd_path {p : PC} : ∀ (l : List Int) (pl : Nat) (ws : List ByteArray) (acc : List UInt8), PathP p pl l → l.foldl (rdSort p.f) (ws, acc) = (ws, acc ++ p.t.data.toList.drop pl)
  | [], pl, ws, acc, h => by
    have h : pl = p.t.size := h
    have hs : p.t.data.toList.length = p.t.size := by rw [Array.length_toList]; try rfl
    rw [List.foldl_nil, List.drop_eq_nil_of_le (by omega), List.append_nil]
  | x :: l, pl, ws, acc, ⟨i, e, hi, hm, h⟩ => by
    subst e
    have hk := may_kind hm
    unfold mayB at hm
    rw [Bool.and_eq_true, Bool.and_eq_true] at hm
    have hp := preB_drop hm.2.1
    rw [List.foldl_cons]
    have e1 : rdSort p.f (ws, acc) (i : Int) = (ws, acc ++ (p.f.sorts.getD i noTS).text.data.toList) := by
      unfold rdSort
      rw [Int.toNat_natCast, if_neg hk]
    rw [e1, rd_path l _ ws _ h, List.append_assoc]
    congr 2
    rw [hp]
    have hl : (p.f.sorts.getD i noTS).text.data.toList.length = tsize p i := by rw [Array.length_toList]; try rfl
    show (p.t.data.toList.drop pl).take (tsize p i) ++ p.t.data.toList.drop (pl + tsize p i) = _
    rw [← List.drop_drop, List.take_append_drop]
theorem path_idx {p : PC} {l : List Int} {pl : Nat} (h : PathP p pl l) : l.any (idxBad p.f.sorts.length) = false := by
  rw [List.any_eq_false]
  intro x hx
  obtain ⟨h1, _⟩ := path_in l pl h x hx
  unfold outR at h1
  unfold idxBad
  simpa using h1
end Go.Proofs.YtlkkociijfdcgaaGreatDoor

namespace Go.Proofs.YtlkkociijfdcgaaGreatDoor
open Go.RowKit Go.Maps Go.Shelf

/-- The boxes of a fount and of rules, as a law's walk goes on. -/
structure FRK (w : World) (f : FT) (a : Option Addr) (c : Nat) (r : RU) (wr : World) : Prop where
  fb : wr.heap[w.heap.size]? = some (.cells #[.string f.name, .int .i64 f.body, .slice a f.sorts.length c] 59 (0, 0))
  rb : wr.heap[w.heap.size + 1]? = some (.cells #[.slice r.ps.a r.ps.l.length r.ps.c, .slice r.es.a r.es.l.length r.es.c, .slice r.bs.a r.bs.l.length r.bs.c, .int .i64 r.left, .int .i64 r.right] 24 (0, 0))
  low : Below w.heap.size w wr
section
variable {w : World} {f : FT} {a : Option Addr} {c : Nat} {r : RU} {wr wr' : World}
theorem FRK.below (h : FRK w f a c r wr) (hb : Below wr.heap.size wr wr') : FRK w f a c r wr' := ⟨(hb.block _ (heap_lt h.fb)).trans h.fb, (hb.block _ (heap_lt h.rb)).trans h.rb, h.low.trans (hb.mono h.low.size)⟩
theorem FRK.fc (h : FRK w f a c r wr) : wr.cell? ⟨w.heap.size, 0, none⟩ = some (.string f.name) ∧ wr.cell? ⟨w.heap.size, 1, none⟩ = some (.int .i64 f.body) ∧ wr.cell? ⟨w.heap.size, 2, none⟩ = some (.slice a f.sorts.length c) :=
  ⟨cell_of_row wr _ 0 _ _ (0, 0) h.fb, cell_of_row wr _ 1 _ _ (0, 0) h.fb, cell_of_row wr _ 2 _ _ (0, 0) h.fb⟩
theorem FRK.rc (h : FRK w f a c r wr) : wr.cell? ⟨w.heap.size + 1, 0, none⟩ = some (.slice r.ps.a r.ps.l.length r.ps.c) ∧ wr.cell? ⟨w.heap.size + 1, 1, none⟩ = some (.slice r.es.a r.es.l.length r.es.c) ∧ wr.cell? ⟨w.heap.size + 1, 2, none⟩ = some (.slice r.bs.a r.bs.l.length r.bs.c) ∧ wr.cell? ⟨w.heap.size + 1, 3, none⟩ = some (.int .i64 r.left) ∧ wr.cell? ⟨w.heap.size + 1, 4, none⟩ = some (.int .i64 r.right) :=
  ⟨cell_of_row wr _ 0 _ _ (0, 0) h.rb, cell_of_row wr _ 1 _ _ (0, 0) h.rb, cell_of_row wr _ 2 _ _ (0, 0) h.rb, cell_of_row wr _ 3 _ _ (0, 0) h.rb, cell_of_row wr _ 4 _ _ (0, 0) h.rb⟩
theorem FRK.lt (h : FRK w f a c r wr) : w.heap.size + 1 < wr.heap.size := heap_lt h.rb
end
theorem frk_start (w : World) (f : FT) (a : Option Addr) (c : Nat) (r : RU) : FRK w f a c r ((w.alloc (.cells #[.string f.name, .int .i64 f.body, .slice a f.sorts.length c] 59)).alloc (.cells #[.slice r.ps.a r.ps.l.length r.ps.c, .slice r.es.a r.es.l.length r.es.c, .slice r.bs.a r.bs.l.length r.bs.c, .int .i64 r.left, .int .i64 r.right] 24)) := by
  refine ⟨heap_keep (heap_new _ _), ?_, ((Below.refl _ _).alloc (Nat.le_refl _) _).alloc (by simp) _⟩
  have h := heap_new (w.alloc (.cells #[.string f.name, .int .i64 f.body, .slice a f.sorts.length c] 59)) (.cells #[.slice r.ps.a r.ps.l.length r.ps.c, .slice r.es.a r.es.l.length r.es.c, .slice r.bs.a r.bs.l.length r.bs.c, .int .i64 r.left, .int .i64 r.right] 24)
  rw [World.size_alloc] at h
  exact h
theorem barsOf_same {r r' : RU} (h : SameR r r') (s : ByteArray) : barsOf r' s = barsOf r s := by unfold barsOf; rw [h.2.2.1]
theorem wordSet_same {f : FT} {r r' : RU} (h : SameR r r') (s : ByteArray) : wordSet f r' s = wordSet f r s := by unfold wordSet wordP; rw [barsOf_same h]
theorem longSet_len {p : PC} : ∀ (k pl : Nat) (acc l : List Int), longSet p k pl acc = some l → pl ≤ p.t.size → l.length + pl ≤ acc.length + p.t.size
  | 0, _, _, _, h, _ => by cases h
  | k + 1, pl, acc, l, h, hpl => by
    unfold longSet at h
    by_cases h1 : pl < p.t.size
    · rw [if_pos h1] at h
      by_cases h2 : 0 < (longAt p pl).2
      · rw [if_pos h2] at h
        have hok := (longAt_ok p pl hpl).resolve_left (by omega)
        have ih := longSet_len k _ _ l h hok.2.2
        rw [List.length_append, List.length_singleton] at ih
        omega
      · rw [if_neg h2] at h; cases h
    · rw [if_neg h1] at h
      injection h with h
      subst h
      omega
theorem wordSet_len {f : FT} {r : RU} {s : ByteArray} {l : List Int} (h : wordSet f r s = some l) : l.length ≤ s.size := by
  have h1 := longSet_len _ _ _ _ h (Nat.zero_le _)
  have h2 : (wordP f none 0 r s 0 s.size).t.size ≤ s.size := by
    show (s.extract 0 s.size).size ≤ s.size
    rw [ext_whole]
    exact Nat.le_refl _
  have h3 : ([] : List Int).length = 0 := rfl
  omega
/-- What text.SortsOf answers. -/
def SortsAns (w : World) (E : Int) (o : Option (List Int)) (e : Ending) (w' : World) : Prop :=
  Below w.heap.size w w' ∧ if E ≠ 0 then e = .returned (.tuple #[.slice none 0 0, .int .i64 E]) else match o with
    | none => e = .returned (.tuple #[.slice none 0 0, .int .i64 6])
    | some l => ∃ A k, e = .returned (.tuple #[.slice A l.length k, .int .i64 0]) ∧ IRow w' w.heap.size (.slice A l.length k) l
end Go.Proofs.YtlkkociijfdcgaaGreatDoor

namespace Go.Proofs.YtlkkociijfdcgaaGreatDoor
open Go.RowKit Go.Maps Go.Shelf

def boxSt (f : FT) (a : Option Addr) (c : Nat) (r : RU) (g b1 b2 : Nat) : Obj := .cells #[.string f.name, .int .i64 f.body, .slice a f.sorts.length c, .slice (some ⟨g, 0, none⟩) r.ps.l.length r.ps.l.length, .map (some b1), .map (some b2), .int .i64 r.left, .int .i64 r.right] 183
/-- A setter's box in a world. -/
structure StK (w : World) (B : Nat) (f : FT) (a : Option Addr) (c : Nat) (r : RU) (g b1 b2 : Nat) (wr : World) : Prop where
  box : wr.heap[B]? = some (.cells #[.string f.name, .int .i64 f.body, .slice a f.sorts.length c, .slice (some ⟨g, 0, none⟩) r.ps.l.length r.ps.l.length, .map (some b1), .map (some b2), .int .i64 r.left, .int .i64 r.right] 183 (0, 0))
  low : Below w.heap.size w wr
section
variable {w wr wr' : World} {B : Nat} {f : FT} {a : Option Addr} {c : Nat} {r : RU} {g b1 b2 : Nat}
theorem StK.below (h : StK w B f a c r g b1 b2 wr) (hb : Below wr.heap.size wr wr') : StK w B f a c r g b1 b2 wr' := ⟨(hb.block _ (heap_lt h.box)).trans h.box, h.low.trans (hb.mono h.low.size)⟩
theorem StK.sc (h : StK w B f a c r g b1 b2 wr) : wr.cell? ⟨B, 0, none⟩ = some (.string f.name) ∧ wr.cell? ⟨B, 1, none⟩ = some (.int .i64 f.body) ∧ wr.cell? ⟨B, 2, none⟩ = some (.slice a f.sorts.length c) ∧ wr.cell? ⟨B, 3, none⟩ = some (.slice (some ⟨g, 0, none⟩) r.ps.l.length r.ps.l.length) ∧ wr.cell? ⟨B, 4, none⟩ = some (.map (some b1)) ∧ wr.cell? ⟨B, 5, none⟩ = some (.map (some b2)) ∧ wr.cell? ⟨B, 6, none⟩ = some (.int .i64 r.left) ∧ wr.cell? ⟨B, 7, none⟩ = some (.int .i64 r.right) :=
  ⟨cell_of_row wr _ 0 _ _ (0, 0) h.box, cell_of_row wr _ 1 _ _ (0, 0) h.box, cell_of_row wr _ 2 _ _ (0, 0) h.box, cell_of_row wr _ 3 _ _ (0, 0) h.box, cell_of_row wr _ 4 _ _ (0, 0) h.box, cell_of_row wr _ 5 _ _ (0, 0) h.box, cell_of_row wr _ 6 _ _ (0, 0) h.box, cell_of_row wr _ 7 _ _ (0, 0) h.box⟩
end
theorem stk_start (w : World) (f : FT) (a : Option Addr) (c : Nat) (r : RU) (g b1 b2 : Nat) : StK w w.heap.size f a c r g b1 b2 (w.alloc (boxSt f a c r g b1 b2)) := ⟨heap_new _ _, (Below.refl _ _).alloc (Nat.le_refl _) _⟩
set_option maxRecDepth 100000 in
set_option maxHeartbeats 2000000 in
theorem setWord_any (f : FT) (a : Option Addr) (c : Nat) (r : RU) (g b1 b2 base : Nat) (s : ByteArray) (w : World) (hFS : SortsAt w a f.sorts) (hB : BookAt w base r g b1 b2) (hf : (checkF f).2 = 0) (hs : s.size ≤ maxLen) :
    Calls Tryz.prog 116 #[setV f a c r g b1 b2, .string s] w (SortsAns w (wordErr s) (wordSet f r s)) := by
  have hK0 := stk_start w f a c r g b1 b2
  have HW := Lib.hid (fun W => errorOfWord_any s W hs)
  have hfi := fount_fine hf
  have hbp := barsOf_places r s
  by_cases h0 : wordErr s = 0
  · have hb : (wordErr s != 0) = false := by rw [h0]; try rfl
    have hsz := (word_size h0).2
    have HPO := Lib.hid (fun W (h : Below w.heap.size w W) (hB2 : BookAt W base r g b1 b2) => pieceOf_any f a c r g b1 b2 base s 0 s.size W (Nat.zero_le _) (Nat.le_refl _) hsz hB2)
    have HLO := Lib.hid (fun W (ba : Option Addr) (bc : Nat) (h : Below w.heap.size w W) (hI : IntsAt W ba (minusL (barsOf r s) (0 : Nat))) => longest_any (PC.mk f a c (s.extract 0 s.size) ba bc (minusL (barsOf r s) (0 : Nat))) W ⟨hFS.below h, hI, places_minus hbp (by decide)⟩ ⟨by show (s.extract 0 s.size).size ≤ 1000; rw [ByteArray.size_extract]; omega, hfi.2, hfi.1⟩)
    have HSM := Lib.hid (fun (ba : Option Addr) (bc : Nat) => show longP (PC.mk f a c (s.extract 0 s.size) ba bc (minusL (barsOf r s) (0 : Nat))) = wordSet f r s from longSet_same ..)
    have hbk := hB.below (hK0.low)
    have H0 := Lib.hid h0
    obtain ⟨o, ho⟩ : ∃ o, o = wordSet f r s := ⟨_, rfl⟩
    rw [← ho] at HSM ⊢
    unfold boxSt at hK0 hbk
    unfold setV at *
    unfold PC.cells at *
    dsimp only at HLO
    have E0 := Lib.hid (show s.extract 0 s.size = s from ext_whole s)
    rw [E0.out] at HPO HLO HSM
    clear ho hf hfi hbp hB hFS h0
    cases o with
    | none =>
      go_enter Tryz.func116, Tryz.ntmps116
      go_wp2_with fail
      refine (HW.out _).mono ?_
      rintro e w2 ⟨rfl, rfl⟩
      obtain ⟨c0, c1, c2, c3, c4, c5, c6, c7⟩ := hK0.sc
      go_wp2_with fail
      refine (HPO.out _ hK0.low hbk).mono ?_
      rintro e w3 ⟨hb3, ba, bc, rfl, hI3⟩
      have hK3 := hK0.below hb3
      have HL := Lib.hid (HLO.out _ ba bc hK3.low hI3)
      rw [HSM.out ba bc] at HL
      unfold PC.cells
      go_wp2_with fail
      refine HL.out.mono ?_
      intro e w4 hp4
      obtain ⟨hb4, rfl⟩ := SetPost.none hp4
      have hlow := (hK3.below hb4).low
      clear hp4 hb4 HL hK0 hbk hb3 hI3
      go_wp2_with fail
      refine (sortsOf_none none 0 0 _).mono ?_
      rintro e w5 ⟨rfl, rfl⟩
      go_wp2
      go_ret2
      exact ⟨hlow, by rw [if_neg (fun h => h H0.out)]; try rfl⟩
    | some l =>
      go_enter Tryz.func116, Tryz.ntmps116
      go_wp2_with fail
      refine (HW.out _).mono ?_
      rintro e w2 ⟨rfl, rfl⟩
      obtain ⟨c0, c1, c2, c3, c4, c5, c6, c7⟩ := hK0.sc
      go_wp2_with fail
      refine (HPO.out _ hK0.low hbk).mono ?_
      rintro e w3 ⟨hb3, ba, bc, rfl, hI3⟩
      have hK3 := hK0.below hb3
      have HL := Lib.hid (HLO.out _ ba bc hK3.low hI3)
      rw [HSM.out ba bc] at HL
      unfold PC.cells
      go_wp2_with fail
      refine HL.out.mono ?_
      intro e w4 hp4
      obtain ⟨hb4, a9, c9, rfl, hrow⟩ := SetPost.some hp4
      have hlow := (hK3.below hb4).low
      clear hp4 hb4 HL hK0 hbk hb3 hI3
      go_wp2_with fail
      refine (sortsOf_some a9 l.length c9 _).mono ?_
      rintro e w5 ⟨rfl, rfl⟩
      go_wp2
      go_ret2
      exact ⟨hlow, by rw [if_neg (fun h => h H0.out)]; exact ⟨a9, c9, rfl, hrow.mono hK3.low.size⟩⟩
  · have hb : (wordErr s != 0) = true := by simpa using h0
    have H0 := Lib.hid h0
    have hlow := hK0.low
    unfold boxSt at *
    unfold setV at *
    clear h0 hK0
    go_enter Tryz.func116, Tryz.ntmps116
    go_wp2_with fail
    refine (HW.out _).mono ?_
    rintro e w2 ⟨rfl, rfl⟩
    go_wp2
    go_ret2
    exact ⟨hlow, by rw [if_pos H0.out]; try rfl⟩
end Go.Proofs.YtlkkociijfdcgaaGreatDoor
/-
  breaksOf, wordOf: the program's words with their breaks.
-/
namespace Go.Proofs.YtlkkociijfdcgaaGreatDoor
open Go.RowKit Go.Maps Go.Shelf

theorem containsI_any (A : Option Addr) (c : Nat) (l : List Int) (n : Int) (w : World) (base : Nat) (hI : IRow w base (.slice A l.length c) l) (hl : l.length ≤ maxLen) :
    Calls Tryz.prog 125 #[.slice A l.length c, .int .i64 n] w fun e w' => e = .returned (.bool (decide (n ∈ l))) ∧ w = w' := by
  unfold maxLen at hl
  rcases hI.2 with ⟨e1, e2⟩ | ⟨g, cap, cur, e1, _, hh, _⟩
  · have h0 : l = [] := List.length_eq_zero_iff.1 e2
    subst h0
    refine (Tryz.slices_Contains_int_empty A c n w).mono ?_
    rintro e w' ⟨rfl, rfl⟩
    exact ⟨rfl, rfl⟩
  · injection e1 with e1 _ e3
    subst e1
    subst e3
    have hi := hI.ints.2
    refine (Tryz.slices_Contains_int g 0 l.length c l n w (Nat.le_refl _) hl (fun j hj => ?_)).mono ?_
    · obtain ⟨ad, e, _, hc⟩ := hi j hj
      have e2 : (⟨g, 0, none⟩ : Addr) = ad := Option.some.inj e
      subst e2
      rw [Addr.add_mid] at hc
      exact hc
    · rintro e w' ⟨rfl, rfl⟩
      refine ⟨?_, rfl⟩
      rw [List.take_length]
      congr 2
      rw [Bool.eq_iff_iff, List.contains_iff_mem, decide_eq_true_eq]
/-- How many bytes the first sorts of a list print. -/
def plOf (f : FT) (L : List Int) : Nat → Int
  | 0 => 0
  | k + 1 => plOf f L k + ((f.sorts.getD (L.getD k 0).toNat noTS).text.size : Int)
/-- The breaks of a word: how many sorts are ahead of its hyphens. -/
def brTo (f : FT) (H L : List Int) : Nat → List Int
  | 0 => []
  | k + 1 => if plOf f L k ∈ H then brTo f H L k ++ [(k : Int)] else brTo f H L k
theorem brTo_len (f : FT) (H L : List Int) : ∀ k, (brTo f H L k).length ≤ k
  | 0 => Nat.le_refl _
  | k + 1 => by
    have := brTo_len f H L k
    unfold brTo
    split
    · rw [List.length_append]; simp; omega
    · omega
theorem plOf_bd {f : FT} (hf : (checkF f).2 = 0) {L : List Int} (hL : OkIdx L f.sorts.length) : ∀ k, k ≤ L.length → 0 ≤ plOf f L k ∧ plOf f L k ≤ 4 * (k : Int)
  | 0, _ => ⟨Int.le_refl _, Int.le_refl _⟩
  | k + 1, h => by
    have ih := plOf_bd hf hL k (by omega)
    obtain ⟨x, hx, e⟩ := hL k (by omega)
    have ht := text_bd hf hx
    unfold plOf
    rw [e, Int.toNat_natCast]
    omega
theorem longSet_idx {p : PC} : ∀ (k pl : Nat) (acc l : List Int), longSet p k pl acc = some l → pl ≤ p.t.size → OkIdx acc p.f.sorts.length → OkIdx l p.f.sorts.length
  | 0, _, _, _, h, _, _ => by cases h
  | k + 1, pl, acc, l, h, hpl, ha => by
    unfold longSet at h
    by_cases h1 : pl < p.t.size
    · rw [if_pos h1] at h
      by_cases h2 : 0 < (longAt p pl).2
      · rw [if_pos h2] at h
        have hok := (longAt_ok p pl hpl).resolve_left (by omega)
        refine longSet_idx k _ _ l h hok.2.2 (fun j hj => ?_)
        rw [List.length_append, List.length_singleton] at hj
        by_cases hj2 : j < acc.length
        · obtain ⟨x, hx, e⟩ := ha j hj2
          refine ⟨x, hx, ?_⟩
          rw [List.getD_eq_getElem?_getD, List.getElem?_append_left hj2, ← List.getD_eq_getElem?_getD]
          exact e
        · obtain rfl : j = acc.length := by omega
          exact ⟨_, hok.1, by rw [List.getD_eq_getElem?_getD, List.getElem?_append_right (Nat.le_refl _), Nat.sub_self]; try rfl⟩
      · rw [if_neg h2] at h; cases h
    · rw [if_neg h1] at h
      injection h with h
      subst h
      exact ha
theorem wordSet_idx {f : FT} {r : RU} {s : ByteArray} {l : List Int} (h : wordSet f r s = some l) : OkIdx l f.sorts.length :=
  longSet_idx _ _ _ _ h (Nat.zero_le _) (fun _ hj => absurd hj (Nat.not_lt_zero _))
def RIPost (w : World) (l : List Int) (e : Ending) (w' : World) : Prop := (∃ A c, e = .returned (.slice A l.length c) ∧ IRow w' w.heap.size (.slice A l.length c) l) ∧ Below w.heap.size w w'
set_option maxRecDepth 100000 in
set_option maxHeartbeats 2000000 in
theorem breaksOf_any (f : FT) (a : Option Addr) (c : Nat) (r : RU) (g b1 b2 base : Nat) (s : ByteArray) (A : Option Addr) (L : List Int) (k : Nat) (w : World) (hFS : SortsAt w a f.sorts) (hB : BookAt w base r g b1 b2) (hf : (checkF f).2 = 0) (he : ruleErr r s = 0)
    (hI : IntsAt w A L) (hL : OkIdx L f.sorts.length) (hLl : L.length ≤ 1000) :
    Calls Tryz.prog 163 #[setV f a c r g b1 b2, .string s, .slice A L.length k] w (RIPost w (brTo f (ruleHyph r s) L L.length)) := by
  have hK0 := stk_start w f a c r g b1 b2
  obtain ⟨o1, o2⟩ := rules_ok he
  obtain ⟨hn, hok⟩ := checkR_pats o1
  have hsz := (word_size o2).2
  have hbd := (hyph_bounds he).1
  have hHl := (hyph_bounds he).2.1
  have HHY := Lib.hid (fun W (hB2 : BookAt W base r g b1 b2) => hyphens_any r base g b1 b2 s W hB2 hok (by omega) (by omega) (word_ascii o2) hbd)
  have hbk := hB.below hK0.low
  have HFS := Lib.hid hFS
  have HI := Lib.hid hI
  have HOI := Lib.hid hL
  have HTB := Lib.hid (fun k (hk : k < f.sorts.length) => text_bd hf hk)
  have HPB := Lib.hid (plOf_bd hf hL)
  obtain ⟨H, hH⟩ : ∃ H, H = ruleHyph r s := ⟨_, rfl⟩
  rw [← hH] at HHY hHl ⊢
  unfold bookV at HHY
  unfold boxSt at hK0 hbk
  unfold setV
  clear hH hFS hB hf he hI hL o1 o2 hok hbd
  obtain ⟨c0, c1, c2, c3, c4, c5, c6, c7⟩ := hK0.sc
  go_enter Tryz.func163, Tryz.ntmps163
  go_wp2_with fail
  refine (HHY.out _ hbk).mono ?_
  rintro e w2 ⟨A2, k2, rfl, hrow, hb2⟩
  have hK2 := hK0.below hb2
  have HCN := Lib.hid (fun W n (h : Below w2.heap.size w2 W) => containsI_any A2 k2 H n W _ (hrow.below h) (by unfold maxLen; omega))
  have hsz2 := heap_lt hK2.box
  clear hK0 hbk hb2 HHY c0 c1 c2 c3 c4 c5 c6 c7 hrow
  go_wp2_with fail
  go_loopw [8, 9, 18] (fun v8 v9 v18 wr => ∃ q : Nat, q ≤ L.length ∧ v18 = .int .i64 q ∧ v9 = .int .i64 (plOf f L q) ∧ IRow wr w2.heap.size v8 (brTo f H L q) ∧ Below w2.heap.size w2 wr) (fun _ _ v18 _ => L.length - (intOf v18).toNat)
  case atStart => exact ⟨0, Nat.zero_le _, rfl, rfl, IRow.nil _ _, Below.refl _ _⟩
  case round =>
    obtain ⟨q, hq, rfl, rfl, hIr, hbr⟩ := hrel
    have hKr := hK2.below hbr
    by_cases hql : q < L.length
    · have hql' : (q : Int) < (L.length : Int) := by omega
      obtain ⟨ad, rfl, hal, hy⟩ := (HI.out.below hKr.low).at_ hql
      obtain ⟨x, hx, ex⟩ := HOI.out q hql
      obtain ⟨ad2, rfl, had2, hsx⟩ := HFS.out.at_ hx
      rw [ex] at hy
      have c2 := hKr.sc.2.2.1
      have tw := hsx.2.1
      have htb := HTB.out x hx
      have hpb := HPB.out q hq
      have HPN := Lib.hid (show plOf f L (q + 1) = plOf f L q + ((f.sorts.getD x noTS).text.size : Int) by
        show plOf f L q + ((f.sorts.getD (L.getD q 0).toNat noTS).text.size : Int) = _
        rw [ex, Int.toNat_natCast])
      have HST := Lib.hid (show brTo f H L (q + 1) = if plOf f L q ∈ H then brTo f H L q ++ [(q : Int)] else brTo f H L q from rfl)
      generalize (f.sorts.getD x noTS).text = xt at tw htb HPN
      have t1 := (hKr.low.cell (p := ⟨(ad2.add (x * 4)).block, (ad2.add (x * 4)).off + 1, none⟩) (by rw [add_block]; exact had2)).trans tw
      have hxl : (x : Int) < (f.sorts.length : Int) := by omega
      have hx0 : (0 : Int) ≤ (x : Int) := by omega
      obtain ⟨P, hP⟩ : ∃ P, P = plOf f L q := ⟨_, rfl⟩
      rw [← hP] at hpb HPN HST ⊢
      have HC := Lib.hid (HCN.out wr P hbr)
      have hbl := brTo_len f H L q
      clear hP hsx ex hKr
      by_cases hm : P ∈ H
      · have HST2 := Lib.hid (HST.out.trans (if_pos hm))
        rw [decide_eq_true hm] at HC
        clear hm HST
        obtain ⟨a9, d9, hv9, -, -, -⟩ := hIr.shape
        subst hv9
        have hbl2 := hbr.size
        have hq1 : (brTo f H L q).length ≤ 1000000 := by omega
        go_wp2_with fail
        refine HC.out.mono ?_
        rintro e w4 ⟨rfl, rfl⟩
        go_wp2_with (at_builtin; refine wpList_app1 wr _ rfl _ _ rfl w2.heap.size _ (brTo f H L q) rfl hIr rfl hq1 hbl2 ?_; intro g9 c9 w9 hrow9 hgrow9 hb9; have hK9 := hK2.below (hbr.trans hb9); have c2 := hK9.sc.2.2.1; have t1 : w9.cell? ⟨(ad2.add (x * 4)).block, (ad2.add (x * 4)).off + 1, none⟩ = some (.string xt) := (hK9.low.cell (p := ⟨(ad2.add (x * 4)).block, (ad2.add (x * 4)).off + 1, none⟩) (by rw [add_block]; exact had2)).trans tw)
        go_roundw
        case rel => exact ⟨q + 1, by omega, by go_num, by rw [HPN.out], by rw [HST2.out]; simpa using hrow9, hbr.trans hb9⟩
        case measure => simp [intOf]; omega
      · have HST2 := Lib.hid (HST.out.trans (if_neg hm))
        rw [decide_eq_false hm] at HC
        clear hm HST
        go_wp2_with fail
        refine HC.out.mono ?_
        rintro e w4 ⟨rfl, rfl⟩
        go_wp2
        go_roundw
        case rel => exact ⟨q + 1, by omega, by go_num, by rw [HPN.out], by rw [HST2.out]; exact hIr, hbr⟩
        case measure => simp [intOf]; omega
    · obtain rfl : q = L.length := by omega
      have hql' : ¬ (L.length : Int) < (L.length : Int) := by omega
      obtain ⟨a9, d9, hv9, -, -, -⟩ := hIr.shape
      subst hv9
      have hlow := hKr.low
      have hI9 := hIr.mono hK2.low.size
      clear hIr hKr
      go_wp2
      go_ret
      exact ⟨⟨a9, d9, rfl, hI9⟩, hlow⟩
end Go.Proofs.YtlkkociijfdcgaaGreatDoor

/-
  wordOf: a word with its sorts and breaks.
-/
namespace Go.Proofs.YtlkkociijfdcgaaGreatDoor
open Go.RowKit Go.Maps Go.Shelf

def wordBr (f : FT) (r : RU) (s : ByteArray) (l : List Int) : List Int := brTo f (ruleHyph r s) l l.length
def WordOf (w : World) (f : FT) (r : RU) (s : ByteArray) (E : Int) (o : Option (List Int)) (e : Ending) (w' : World) : Prop :=
  Below w.heap.size w w' ∧ if E ≠ 0 then e = .returned (.tuple #[.agg #[.slice none 0 0, .slice none 0 0], .int .i64 E]) else match o with
    | none => e = .returned (.tuple #[.agg #[.slice none 0 0, .slice none 0 0], .int .i64 6])
    | some l => ∃ A k A2 k2, e = .returned (.tuple #[.agg #[.slice A l.length k, .slice A2 (wordBr f r s l).length k2], .int .i64 0]) ∧ IRow w' w.heap.size (.slice A l.length k) l ∧ IRow w' w.heap.size (.slice A2 (wordBr f r s l).length k2) (wordBr f r s l)
theorem ruleErr_of {r : RU} {s : ByteArray} (h1 : (checkR r).2 = 0) (h2 : wordErr s = 0) : ruleErr r s = 0 := by
  unfold ruleErr
  rw [if_neg (fun h => h h1)]
  exact h2
set_option maxRecDepth 100000 in
set_option maxHeartbeats 2000000 in
theorem wordOf_any (f : FT) (a : Option Addr) (c : Nat) (r : RU) (g b1 b2 base : Nat) (s : ByteArray) (w : World) (hFS : SortsAt w a f.sorts) (hB : BookAt w base r g b1 b2) (hf : (checkF f).2 = 0) (he : (checkR r).2 = 0) (hs : s.size ≤ maxLen) :
    Calls Tryz.prog 115 #[setV f a c r g b1 b2, .string s] w (WordOf w f r s (wordErr s) (wordSet f r s)) := by
  have hK0 := stk_start w f a c r g b1 b2
  have hK1 : StK w w.heap.size f a c r g b1 b2 ((w.alloc (boxSt f a c r g b1 b2)).alloc (.cells #[.slice none 0 0, .slice none 0 0] 121)) := hK0.below ((Below.refl _ _).alloc (Nat.le_refl _) _)
  have hres := heap_new (w.alloc (boxSt f a c r g b1 b2)) (.cells #[.slice none 0 0, .slice none 0 0] 121)
  rw [World.size_alloc] at hres
  have HSW := Lib.hid (fun W (h : StK w w.heap.size f a c r g b1 b2 W) => setWord_any f a c r g b1 b2 base s W (hFS.below h.low) (hB.below h.low) hf hs)
  have HBR := Lib.hid (fun W (h : StK w w.heap.size f a c r g b1 b2 W) (h0 : wordErr s = 0) (A : Option Addr) (L : List Int) (k : Nat) (hI : IntsAt W A L) (ho : wordSet f r s = some L) (hl : L.length ≤ 1000) => breaksOf_any f a c r g b1 b2 base s A L k W (hFS.below h.low) (hB.below h.low) hf (ruleErr_of he h0) hI (wordSet_idx ho) hl)
  have HLN := Lib.hid (fun (h0 : wordErr s = 0) (L : List Int) (ho : wordSet f r s = some L) => show L.length ≤ 30 from Nat.le_trans (wordSet_len ho) (word_size h0).2)
  obtain ⟨o, ho⟩ : ∃ o, o = wordSet f r s := ⟨_, rfl⟩
  obtain ⟨E, hE⟩ : ∃ E, E = wordErr s := ⟨_, rfl⟩
  rw [← ho] at HSW HBR HLN ⊢
  rw [← hE] at HSW HBR HLN ⊢
  unfold boxSt at hK0 hK1 hres
  unfold setV at *
  clear ho hE hFS hB hf he hK0
  obtain ⟨c0, c1, c2, c3, c4, c5, c6, c7⟩ := hK1.sc
  by_cases h0 : E = 0
  · subst h0
    cases o with
    | none =>
      go_enter Tryz.func115, Tryz.ntmps115
      go_wp2_with fail
      refine (HSW.out _ hK1).mono ?_
      rintro e w2 ⟨hb2, hp2⟩
      rw [if_neg (fun h => h rfl)] at hp2
      dsimp only at hp2
      subst hp2
      have hlow := (hK1.below hb2).low
      have hr2 := (hb2.block _ (heap_lt hres)).trans hres
      have x0 : w2.cell? ⟨w.heap.size + 1, 0, none⟩ = some (.slice none 0 0) := cell_of_row w2 _ 0 _ _ (0, 0) hr2
      have x1 : w2.cell? ⟨w.heap.size + 1, 1, none⟩ = some (.slice none 0 0) := cell_of_row w2 _ 1 _ _ (0, 0) hr2
      have y0 : w2.frozen? ⟨w.heap.size + 1, 0, none⟩ = false := by simp [World.frozen?, hr2]
      have y1 : w2.frozen? ⟨w.heap.size + 1, 1, none⟩ = false := by simp [World.frozen?, hr2]
      have hr3 := heap_set2 (heap_set2 hr2 0 (.slice none 0 0)) 1 (.slice none 0 0)
      obtain ⟨W9, hW9⟩ : ∃ W9, W9 = (w2.setCell ⟨w.heap.size + 1, 0, none⟩ (.slice none 0 0)).setCell ⟨w.heap.size + 1, 1, none⟩ (.slice none 0 0) := ⟨_, rfl⟩
      rw [← hW9] at hr3
      have z0 : W9.cell? ⟨w.heap.size + 1, 0, none⟩ = some (.slice none 0 0) := cell_of_row W9 _ 0 _ _ (0, 0) hr3
      have z1 : W9.cell? ⟨w.heap.size + 1, 1, none⟩ = some (.slice none 0 0) := cell_of_row W9 _ 1 _ _ (0, 0) hr3
      have hlow9 : Below w.heap.size w W9 := by rw [hW9]; exact (hlow.setCell (by show w.heap.size ≤ w.heap.size + 1; omega) _).setCell (by show w.heap.size ≤ w.heap.size + 1; omega) _
      have HW9 := Lib.hid hW9
      clear hW9 hr3 hr2 hb2 hK1 c0 c1 c2 c3 c4 c5 c6 c7
      go_wp2
      rw [← HW9.out]
      refine bodyPost_ret (v := .tuple #[.agg #[.slice none 0 0, .slice none 0 0], .int .i64 6]) (by simp [results, Tryz.results115, go_sem, z0, z1]) rfl ⟨hlow9, ?_⟩
      rw [if_neg (fun h => h rfl)]
    | some l =>
      go_enter Tryz.func115, Tryz.ntmps115
      go_wp2_with fail
      refine (HSW.out _ hK1).mono ?_
      rintro e w2 ⟨hb2, hp2⟩
      rw [if_neg (fun h => h rfl)] at hp2
      dsimp only at hp2
      obtain ⟨A2, k2, rfl, hI2⟩ := hp2
      have hK2 := hK1.below hb2
      have hr2 := (hb2.block _ (heap_lt hres)).trans hres
      have hln := HLN.out (by simp) l (by simp)
      have HB := Lib.hid (HBR.out _ hK2 (by simp) A2 l k2 hI2.ints.2 (by simp) (by omega))
      have hlo2 := hK1.low.size
      clear hK1 hb2 c0 c1 c2 c3 c4 c5 c6 c7 HSW HBR HLN
      obtain ⟨c0, c1, c2, c3, c4, c5, c6, c7⟩ := hK2.sc
      go_wp2_with fail
      refine HB.out.mono ?_
      rintro e w3 ⟨⟨A3, k3, rfl, hI3⟩, hb3⟩
      have hlow := (hK2.below hb3).low
      have hr3' := (hb3.block _ (heap_lt hr2)).trans hr2
      have hJ3 := hI2.below hb3
      have hlo3 := hK2.low.size
      have x0 : w3.cell? ⟨w.heap.size + 1, 0, none⟩ = some (.slice none 0 0) := cell_of_row w3 _ 0 _ _ (0, 0) hr3'
      have x1 : w3.cell? ⟨w.heap.size + 1, 1, none⟩ = some (.slice none 0 0) := cell_of_row w3 _ 1 _ _ (0, 0) hr3'
      have y0 : w3.frozen? ⟨w.heap.size + 1, 0, none⟩ = false := by simp [World.frozen?, hr3']
      have y1 : w3.frozen? ⟨w.heap.size + 1, 1, none⟩ = false := by simp [World.frozen?, hr3']
      clear hr2 hb3 hK2 hI2 c0 c1 c2 c3 c4 c5 c6 c7
      have hr3 := heap_set2 (heap_set2 hr3' 0 (.slice A2 l.length k2)) 1 (.slice A3 (brTo f (ruleHyph r s) l l.length).length k3)
      obtain ⟨W9, hW9⟩ : ∃ W9, W9 = (w3.setCell ⟨w.heap.size + 1, 0, none⟩ (.slice A2 l.length k2)).setCell ⟨w.heap.size + 1, 1, none⟩ (.slice A3 (brTo f (ruleHyph r s) l l.length).length k3) := ⟨_, rfl⟩
      rw [← hW9] at hr3
      have z0 : W9.cell? ⟨w.heap.size + 1, 0, none⟩ = some (.slice A2 l.length k2) := cell_of_row W9 _ 0 _ _ (0, 0) hr3
      have z1 : W9.cell? ⟨w.heap.size + 1, 1, none⟩ = some (.slice A3 (brTo f (ruleHyph r s) l l.length).length k3) := cell_of_row W9 _ 1 _ _ (0, 0) hr3
      have hlow9 : Below w.heap.size w W9 := by rw [hW9]; exact (hlow.setCell (by show w.heap.size ≤ w.heap.size + 1; omega) _).setCell (by show w.heap.size ≤ w.heap.size + 1; omega) _
      have hj9 : IRow W9 w.heap.size (.slice A2 l.length k2) l := by rw [hW9]; exact own_put (own_put (hJ3.mono hlo2) hr3' (by decide) 0 _) (heap_set2 hr3' 0 _) (by decide) 1 _
      have hi9 : IRow W9 w.heap.size (.slice A3 (brTo f (ruleHyph r s) l l.length).length k3) (brTo f (ruleHyph r s) l l.length) := by rw [hW9]; exact own_put (own_put (hI3.mono hlo3) hr3' (by decide) 0 _) (heap_set2 hr3' 0 _) (by decide) 1 _
      have HW9 := Lib.hid hW9
      clear hW9 hr3 hr3'
      go_wp2
      rw [← HW9.out]
      refine bodyPost_ret (v := .tuple #[.agg #[.slice A2 l.length k2, .slice A3 (brTo f (ruleHyph r s) l l.length).length k3], .int .i64 0]) (by simp [results, Tryz.results115, go_sem, z0, z1]) rfl ⟨hlow9, ?_⟩
      rw [if_neg (fun h => h rfl)]
      exact ⟨A2, k2, A3, k3, rfl, hj9, hi9⟩
  · have hE1 : (E != 0) = true := by simpa using h0
    go_enter Tryz.func115, Tryz.ntmps115
    go_wp2_with fail
    refine (HSW.out _ hK1).mono ?_
    rintro e w2 ⟨hb2, hp2⟩
    rw [if_pos h0] at hp2
    subst hp2
    have hlow := (hK1.below hb2).low
    have hr2 := (hb2.block _ (heap_lt hres)).trans hres
    have x0 : w2.cell? ⟨w.heap.size + 1, 0, none⟩ = some (.slice none 0 0) := cell_of_row w2 _ 0 _ _ (0, 0) hr2
    have x1 : w2.cell? ⟨w.heap.size + 1, 1, none⟩ = some (.slice none 0 0) := cell_of_row w2 _ 1 _ _ (0, 0) hr2
    have y0 : w2.frozen? ⟨w.heap.size + 1, 0, none⟩ = false := by simp [World.frozen?, hr2]
    have y1 : w2.frozen? ⟨w.heap.size + 1, 1, none⟩ = false := by simp [World.frozen?, hr2]
    have hr3 := heap_set2 (heap_set2 hr2 0 (.slice none 0 0)) 1 (.slice none 0 0)
    obtain ⟨W9, hW9⟩ : ∃ W9, W9 = (w2.setCell ⟨w.heap.size + 1, 0, none⟩ (.slice none 0 0)).setCell ⟨w.heap.size + 1, 1, none⟩ (.slice none 0 0) := ⟨_, rfl⟩
    rw [← hW9] at hr3
    have z0 : W9.cell? ⟨w.heap.size + 1, 0, none⟩ = some (.slice none 0 0) := cell_of_row W9 _ 0 _ _ (0, 0) hr3
    have z1 : W9.cell? ⟨w.heap.size + 1, 1, none⟩ = some (.slice none 0 0) := cell_of_row W9 _ 1 _ _ (0, 0) hr3
    have hlow9 : Below w.heap.size w W9 := by rw [hW9]; exact (hlow.setCell (by show w.heap.size ≤ w.heap.size + 1; omega) _).setCell (by show w.heap.size ≤ w.heap.size + 1; omega) _
    have HW9 := Lib.hid hW9
    clear hW9 hr3 hr2 hb2 hK1 c0 c1 c2 c3 c4 c5 c6 c7
    go_wp2
    rw [← HW9.out]
    refine bodyPost_ret (v := .tuple #[.agg #[.slice none 0 0, .slice none 0 0], .int .i64 E]) (by simp [results, Tryz.results115, go_sem, z0, z1]) rfl ⟨hlow9, ?_⟩
    rw [if_pos h0]
end Go.Proofs.YtlkkociijfdcgaaGreatDoor

/-
  Words: the program's walk.
-/
namespace Go.Proofs.YtlkkociijfdcgaaGreatDoor
open Go.RowKit Go.Maps Go.Shelf

def wErrO (f : FT) (r : RU) (s : ByteArray) : Int := if wordErr s ≠ 0 then wordErr s else match wordSet f r s with
  | none => 6
  | some _ => 0
def wordX (f : FT) (r : RU) (s : ByteArray) : List Int × List Int := match wordSet f r s with
  | none => ([], [])
  | some l => (l, wordBr f r s l)
def badW (f : FT) (r : RU) (ws : List ByteArray) (j : Nat) : Bool := wErrO f r (ws.getD j noTx) != 0
/-- The error of a list of words. -/
def wordsE (f : FT) (r : RU) (ws : List ByteArray) : Int := if 100 < ws.length then 8 else match firstAt (badW f r ws) (ws.length - 0) 0 with
  | none => 0
  | some i => wErrO f r (ws.getD i noTx)
def wordsX (f : FT) (r : RU) (ws : List ByteArray) (j : Nat) : List Int × List Int := wordX f r (ws.getD j noTx)
/-- Two cells that are a word's lists. -/
def WordAt (w : World) (B : Nat) (p : Addr) (x : List Int × List Int) : Prop := ∃ v1 v2, w.cell? p = some v1 ∧ w.cell? ⟨p.block, p.off + 1, none⟩ = some v2 ∧ IRow w B v1 x.1 ∧ IRow w B v2 x.2
/-- A row of n words' cells in block G, the first k of which are those of fn. -/
structure WRow (w : World) (B G n : Nat) (fn : Nat → List Int × List Int) (k : Nat) : Prop where
  row : ∃ cs : Array Value, w.heap[G]? = some (.cells cs 121 (0, 0)) ∧ cs.size = n * 2
  wds : ∀ j, j < k → WordAt w B ⟨G, j * 2, none⟩ (fn j)
section
variable {w w' : World} {B G n k : Nat} {fn : Nat → List Int × List Int}
theorem WRow.lt (h : WRow w B G n fn k) : G < w.heap.size := by
  obtain ⟨cs, h1, _⟩ := h.row
  exact heap_lt h1
theorem WRow.some_ (h : WRow w B G n fn k) {j : Nat} (hj : j < n * 2) : ∃ v, w.cell? ⟨G, j, none⟩ = some v := by
  obtain ⟨cs, h1, h2⟩ := h.row
  exact ⟨cs[j]'(by omega), by rw [cell_of_row w G j cs _ (0, 0) h1]; exact Array.getElem?_eq_getElem (by omega)⟩
theorem WRow.frozen (h : WRow w B G n fn k) (j : Nat) : w.frozen? ⟨G, j, none⟩ = false := by
  obtain ⟨cs, h1, _⟩ := h.row
  simp [World.frozen?, h1]
theorem WRow.below (h : WRow w B G n fn k) (hb : Below w.heap.size w w') : WRow w' B G n fn k := by
  have hlt := h.lt
  obtain ⟨cs, h1, h2⟩ := h.row
  refine ⟨⟨cs, (hb.block G hlt).trans h1, h2⟩, fun j hj => ?_⟩
  obtain ⟨v1, v2, c1, c2, i1, i2⟩ := h.wds j hj
  exact ⟨v1, v2, (hb.cell (p := ⟨_, _, none⟩) hlt).trans c1, (hb.cell (p := ⟨_, _, none⟩) hlt).trans c2, i1.below hb, i2.below hb⟩
theorem irow_put (h : WRow w B G n fn k) {v : Value} {l : List Int} {b : Nat} (hI : IRow w b v l) (j : Nat) (u : Value) : IRow (w.setCell ⟨G, j, none⟩ u) b v l := by
  obtain ⟨cs, h1, _⟩ := h.row
  exact own_put hI h1 (by decide) j u
theorem WRow.set_ (h : WRow w B G n fn k) {j : Nat} (hj : k * 2 ≤ j) (u : Value) : WRow (w.setCell ⟨G, j, none⟩ u) B G n fn k := by
  have h0 := h
  obtain ⟨cs, h1, h2⟩ := h.row
  refine ⟨⟨_, pat_set h1 j u, by simp [h2]⟩, fun i hi => ?_⟩
  obtain ⟨v1, v2, c1, c2, i1, i2⟩ := h.wds i hi
  exact ⟨v1, v2, by rw [cell_else (by omega)]; exact c1, by show (w.setCell ⟨G, j, none⟩ u).cell? ⟨G, i * 2 + 1, none⟩ = _; rw [cell_else (by omega)]; exact c2, irow_put h0 i1 j u, irow_put h0 i2 j u⟩
theorem WRow.same (h : WRow w B G n fn k) {j : Nat} (hj : j < n * 2) (u : Value) : (w.setCell ⟨G, j, none⟩ u).cell? ⟨G, j, none⟩ = some u := by
  obtain ⟨cs, h1, h2⟩ := h.row
  rw [cell_of_row _ G j _ _ (0, 0) (pat_set h1 j u)]
  simp [h2, hj]
theorem WRow.push (h : WRow w B G n fn k) (hk : k < n) {v1 v2 : Value} {l1 l2 : List Int} (hx : fn k = (l1, l2)) (i1 : IRow w B v1 l1) (i2 : IRow w B v2 l2) :
    WRow ((w.setCell ⟨G, k * 2, none⟩ v1).setCell ⟨G, k * 2 + 1, none⟩ v2) B G n fn (k + 1) := by
  have h1 := h.set_ (j := k * 2) (Nat.le_refl _) v1
  have h2 := h1.set_ (j := k * 2 + 1) (by omega) v2
  refine ⟨h2.row, fun i hi => ?_⟩
  by_cases e : i = k
  · subst e
    rw [hx]
    refine ⟨v1, v2, ?_, ?_, irow_put h1 (irow_put h i1 _ _) _ _, irow_put h1 (irow_put h i2 _ _) _ _⟩
    · rw [cell_else (by omega)]; exact h.same (by omega) _
    · exact h1.same (by omega) _
  · exact h2.wds i (by omega)
end
theorem infoPW : (Tryz.prog.info? 121).map (fun i => (i.zero, i.size, i.bytes)) = some (some (.agg #[.slice none 0 0, .slice none 0 0]), 2, 48) := by kernel_rfl
/-- What Words answers behind its error. -/
def WordsPost (w : World) (E : Int) (n : Nat) (fn : Nat → List Int × List Int) (e : Ending) (w' : World) : Prop :=
  Below w.heap.size w w' ∧ if E = 0 then ∃ G c, e = .returned (.tuple #[.slice (some ⟨G, 0, none⟩) n c, .int .i64 0]) ∧ WRow w' w.heap.size G n fn n else e = .returned (.tuple #[.slice none 0 0, .int .i64 E])
set_option maxRecDepth 100000 in
set_option maxHeartbeats 4000000 in
theorem words_any (f : FT) (a : Option Addr) (c : Nat) (r : RU) (b : Option Addr) (ws : List ByteArray) (d : Nat) (w : World) (hF : FAt w a f) (hR : r.at_ w) (hX : TextsAt w b ws) (hl : ws.length ≤ maxLen) (hS : ∀ k, k < ws.length → (ws.getD k noTx).size ≤ maxLen) :
    Calls Tryz.prog 50 #[.agg #[.string f.name, .int .i64 f.body, .slice a f.sorts.length c], .agg r.cells, .slice b ws.length d] w (WordsPost w (if setErr f r ≠ 0 then setErr f r else wordsE f r ws) ws.length (wordsX f r ws)) := by
  have hb0 := ((Below.refl w.heap.size w).alloc (Nat.le_refl _) (.cells #[.string f.name, .int .i64 f.body, .slice a f.sorts.length c] 59)).alloc (by simp) (.cells #[.slice r.ps.a r.ps.l.length r.ps.c, .slice r.es.a r.es.l.length r.es.c, .slice r.bs.a r.bs.l.length r.bs.c, .int .i64 r.left, .int .i64 r.right] 24)
  have HSO := Lib.hid (setterOf_any f a c r _ (hF.below hb0) (hR.below hb0))
  have hl' : ws.length ≤ 9223372036854775807 := by unfold maxLen at hl; omega
  have HX := Lib.hid hX
  obtain ⟨E, hE⟩ : ∃ E, E = (if setErr f r ≠ 0 then setErr f r else wordsE f r ws) := ⟨_, rfl⟩
  have HE := Lib.hid hE
  rw [← hE]
  unfold RU.cells at *
  clear hE hX
  by_cases h0 : setErr f r = 0
  · have hb : (setErr f r != 0) = false := by rw [h0]; try rfl
    have hcf : (checkF f).2 = 0 ∧ (checkR r).2 = 0 := by
      unfold setErr at h0
      by_cases h1 : (checkF f).2 = 0
      · rw [if_neg (fun h => h h1)] at h0; exact ⟨h1, h0⟩
      · rw [if_pos h1] at h0; exact absurd h0 h1
    have HWO := Lib.hid (fun W g b1 b2 base s (hFS : SortsAt W a f.sorts) (hB : BookAt W base r g b1 b2) (hs : s.size ≤ maxLen) => wordOf_any f a c r g b1 b2 base s W hFS hB hcf.1 hcf.2 hs)
    have HFS := Lib.hid hF.at_
    have H0 := Lib.hid h0
    have HE2 := Lib.hid (show E = wordsE f r ws by rw [HE.out, if_neg (fun h => h h0)])
    unfold setV at HWO
    clear hF hR h0 HE hcf
    go_enter Tryz.func50, Tryz.ntmps50
    go_wp2_with fail
    refine HSO.out.mono ?_
    rintro e w1 ⟨hb1, hp1⟩
    rw [if_pos H0.out] at hp1
    obtain ⟨g, b1, b2, rfl, hbk⟩ := hp1
    have hlow1 := hb0.trans (hb1.mono hb0.size)
    have hst := heap_new w1 (.cells #[.string f.name, .int .i64 f.body, .slice a f.sorts.length c, .slice (some ⟨g, 0, none⟩) r.ps.l.length r.ps.l.length, .map (some b1), .map (some b2), .int .i64 r.left, .int .i64 r.right] 183)
    have hlow2 := hlow1.alloc hlow1.size (.cells #[.string f.name, .int .i64 f.body, .slice a f.sorts.length c, .slice (some ⟨g, 0, none⟩) r.ps.l.length r.ps.l.length, .map (some b1), .map (some b2), .int .i64 r.left, .int .i64 r.right] 183)
    have hbk2 := hbk.alloc (.cells #[.string f.name, .int .i64 f.body, .slice a f.sorts.length c, .slice (some ⟨g, 0, none⟩) r.ps.l.length r.ps.l.length, .map (some b1), .map (some b2), .int .i64 r.left, .int .i64 r.right] 183)
    unfold setV
    obtain ⟨W2, hW2⟩ : ∃ W2, W2 = w1.alloc (.cells #[.string f.name, .int .i64 f.body, .slice a f.sorts.length c, .slice (some ⟨g, 0, none⟩) r.ps.l.length r.ps.l.length, .map (some b1), .map (some b2), .int .i64 r.left, .int .i64 r.right] 183) := ⟨_, rfl⟩
    rw [← hW2] at hst hlow2 hbk2
    have hK2 : StK w w1.heap.size f a c r g b1 b2 W2 := ⟨hst, hlow2⟩
    have HW2 := Lib.hid hW2
    have hlt1 := hlow1.size
    clear hW2 hst hbk hb1 HSO hlow1 hb0
    have hzW : W2.heap.size = w1.heap.size + 1 := by rw [HW2.out]; simp
    by_cases h100 : 100 < ws.length
    · have h100' : (100 : Int) < (ws.length : Int) := by omega
      have HV := Lib.hid (show E = 8 by rw [HE2.out]; unfold wordsE; rw [if_pos h100])
      go_wp2
      go_ret2
      rw [HV.out]
      rw [← HW2.out]
      exact ⟨hlow2, rfl⟩
    · have h100' : ¬ (100 : Int) < (ws.length : Int) := by omega
      have hd100 : decide ((100 : Int) < (ws.length : Int)) = false := decide_eq_false h100'
      have hd100n : decide (100 < ws.length) = false := decide_eq_false h100
      have HE3 := Lib.hid (show E = match firstAt (badW f r ws) (ws.length - 0) 0 with | none => 0 | some i => wErrO f r (ws.getD i noTx) by rw [HE2.out]; unfold wordsE; rw [if_neg h100])
      obtain ⟨i0, hi0, hz0, hz1, hz2⟩ := info_parts infoPW
      obtain ⟨W3, hmk, hown3, hg3⟩ := run_make_full (P := Tryz.prog) (w := W2) W2.heap.size 79 121 i0 _ 2 Tryz.underlying79 hi0 hz0 hz1 .i64 .i64 ws.length (by rw [hz2]; omega) hl (Nat.le_refl _)
      have hB3 : Below W2.heap.size W2 W3 := (Below.refl _ _).grown hg3 (Nat.le_refl _) (fun q hq => by cases hq)
      have hr3 : WRow W3 w.heap.size (w1.heap.size + 1) ws.length (wordsX f r ws) 0 := by
        refine ⟨?_, fun j hj => absurd hj (Nat.not_lt_zero _)⟩
        rcases hown3.2 with ⟨ev, _⟩ | ⟨g9, cap, cur, ev, _, hh, _, _, hsz, _⟩
        · cases ev
        · injection ev with e1 e2 e3
          injection e1 with e1
          injection e1 with e1 _ _
          rw [← e1, hzW] at hh
          exact ⟨cur, hh, by rw [hsz, ← e3]⟩
      rw [HW2.out] at hmk
      have HZ2 := Lib.hid hzW
      clear hown3 hg3 hz0 hz1 hz2 hi0 h100 HE2 hzW
      go_wp2_with fail
      clear hmk
      go_loopw [30] (fun v30 wr => ∃ k : Nat, k ≤ ws.length ∧ v30 = .int .i64 k ∧ Hid (firstAt (badW f r ws) (ws.length - 0) 0 = firstAt (badW f r ws) (ws.length - k) k) ∧ Below W2.heap.size W2 wr ∧ WRow wr w.heap.size (w1.heap.size + 1) ws.length (wordsX f r ws) k) (fun v30 _ => ws.length - (intOf v30).toNat)
      case atStart => exact ⟨0, Nat.zero_le _, rfl, Lib.hid rfl, hB3, hr3⟩
      case round =>
        obtain ⟨k, hk, rfl, HS, hB, hrow⟩ := hrel
        clear hB3 hr3
        have hK := hK2.below hB
        by_cases hlt : k < ws.length
        · have hkl : (k : Int) < (ws.length : Int) := by omega
          obtain ⟨p1, rfl, hp1, hc1⟩ := (HX.out.below hK.low).at_ hlt
          have hsz := hS k hlt
          have hbw : badW f r ws k = (wErrO f r (ws.getD k noTx) != 0) := rfl
          have hwx : wordsX f r ws k = wordX f r (ws.getD k noTx) := rfl
          have hvE : wErrO f r (ws.getD k noTx) = if wordErr (ws.getD k noTx) ≠ 0 then wordErr (ws.getD k noTx) else match wordSet f r (ws.getD k noTx) with | none => 6 | some _ => 0 := rfl
          have hvX : wordX f r (ws.getD k noTx) = match wordSet f r (ws.getD k noTx) with | none => ([], []) | some l => (l, wordBr f r (ws.getD k noTx) l) := rfl
          have HEk := Lib.hid (fun (h : firstAt (badW f r ws) (ws.length - k) k = some k) => show E = wErrO f r (ws.getD k noTx) by rw [HE3.out, HS.out, h])
          obtain ⟨t, ht⟩ : ∃ t, t = ws.getD k noTx := ⟨_, rfl⟩
          rw [← ht] at hc1 hsz hbw hwx hvE hvX HEk
          have HW := Lib.hid (HWO.out wr g b1 b2 _ t (HFS.out.below hK.low) (hbk2.below hB) hsz)
          obtain ⟨o, ho⟩ : ∃ o, o = wordSet f r t := ⟨_, rfl⟩
          obtain ⟨E1, hE1⟩ : ∃ E1, E1 = wordErr t := ⟨_, rfl⟩
          rw [← ho] at HW hvE hvX
          rw [← hE1] at HW hvE
          obtain ⟨c0, c1, c2, c3, c4, c5, c6, c7⟩ := hK.sc
          have HBW := Lib.hid hbw
          have HWX := Lib.hid hwx
          have HVE := Lib.hid hvE
          have HVX := Lib.hid hvX
          clear ht ho hE1 hbw hwx hvE hvX
          obtain ⟨z0, y0⟩ := hrow.some_ (j := k * 2) (by omega)
          obtain ⟨z1, y1⟩ := hrow.some_ (j := k * 2 + 1) (by omega)
          by_cases h1 : E1 = 0
          · subst h1
            cases o with
            | none =>
              go_wp2_with fail
              refine HW.out.mono ?_
              rintro e w5 ⟨hb5, hp5⟩
              rw [if_neg (fun h => h rfl)] at hp5
              dsimp only at hp5
              subst hp5
              have hr5 := hrow.below hb5
              have hlow5 := (hK.below hb5).low
              obtain ⟨z0, y0⟩ := hr5.some_ (j := k * 2) (by omega)
              obtain ⟨z1, y1⟩ := hr5.some_ (j := k * 2 + 1) (by omega)
              have hfz := hr5.frozen
              have hnb : badW f r ws k = true := by rw [HBW.out, HVE.out]; try rfl
              have HTN := Lib.hid (firstAt_stop hlt hnb)
              have HV := Lib.hid (show E = 6 by rw [HEk.out HTN.out, HVE.out]; try rfl)
              have hlow6 := (hlow5.setCell (p := ⟨w1.heap.size + 1, k * 2, none⟩) (by show w.heap.size ≤ w1.heap.size + 1; omega) (.slice none 0 0)).setCell (p := ⟨w1.heap.size + 1, k * 2 + 1, none⟩) (by show w.heap.size ≤ w1.heap.size + 1; omega) (.slice none 0 0)
              clear hr5 hlow5 hnb hb5 hK hrow hB
              go_wp2
              go_ret2
              rw [HV.out]
              exact ⟨hlow6, rfl⟩
            | some l =>
              go_wp2_with fail
              refine HW.out.mono ?_
              rintro e w5 ⟨hb5, hp5⟩
              rw [if_neg (fun h => h rfl)] at hp5
              dsimp only at hp5
              obtain ⟨A5, k5, A6, k6, rfl, hI5, hI6⟩ := hp5
              have hr5 := hrow.below hb5
              have hlo5 := hK.low.size
              have hJ5 := hI5.mono hlo5
              have hJ6 := hI6.mono hlo5
              have hB5 := hB.trans (hb5.mono hB.size)
              obtain ⟨z0, y0⟩ := hr5.some_ (j := k * 2) (by omega)
              obtain ⟨z1, y1⟩ := hr5.some_ (j := k * 2 + 1) (by omega)
              have hfz := hr5.frozen
              have hnb : badW f r ws k = false := by rw [HBW.out, HVE.out]; try rfl
              have HTN := Lib.hid (firstAt_go hlt hnb)
              have hr6 := hr5.push hlt (l1 := l) (l2 := wordBr f r t l) (by rw [HWX.out, HVX.out]) hJ5 hJ6
              have hB6 := (hB5.setCell (p := ⟨w1.heap.size + 1, k * 2, none⟩) (by rw [HZ2.out]; exact Nat.le_refl _) (.slice A5 l.length k5)).setCell (p := ⟨w1.heap.size + 1, k * 2 + 1, none⟩) (by rw [HZ2.out]; exact Nat.le_refl _) (.slice A6 (wordBr f r t l).length k6)
              clear hr5 hB5 hI5 hI6 hJ5 hJ6 hnb hb5 hK hrow hB
              go_wp2
              go_roundw
              case rel => exact ⟨k + 1, by omega, by go_num, Lib.hid (HS.out.trans HTN.out), hB6, hr6⟩
              case measure => simp [intOf]; omega
          · have hE1b : (E1 != 0) = true := by simpa using h1
            go_wp2_with fail
            refine HW.out.mono ?_
            rintro e w5 ⟨hb5, hp5⟩
            rw [if_pos h1] at hp5
            subst hp5
            have hr5 := hrow.below hb5
            have hlow5 := (hK.below hb5).low
            obtain ⟨z0, y0⟩ := hr5.some_ (j := k * 2) (by omega)
            obtain ⟨z1, y1⟩ := hr5.some_ (j := k * 2 + 1) (by omega)
            have hfz := hr5.frozen
            have hnb : badW f r ws k = true := by rw [HBW.out, HVE.out, if_pos h1]; exact hE1b
            have HTN := Lib.hid (firstAt_stop hlt hnb)
            have HV := Lib.hid (show E = E1 by rw [HEk.out HTN.out, HVE.out]; rw [if_pos h1])
            have hlow6 := (hlow5.setCell (p := ⟨w1.heap.size + 1, k * 2, none⟩) (by show w.heap.size ≤ w1.heap.size + 1; omega) (.slice none 0 0)).setCell (p := ⟨w1.heap.size + 1, k * 2 + 1, none⟩) (by show w.heap.size ≤ w1.heap.size + 1; omega) (.slice none 0 0)
            clear hr5 hlow5 hnb hb5 hK hrow hB
            go_wp2
            go_ret2
            rw [HV.out]
            exact ⟨hlow6, by rw [if_neg h1]; try rfl⟩
        · obtain rfl : k = ws.length := by omega
          have hkl : ¬ (ws.length : Int) < (ws.length : Int) := by omega
          have HTN := Lib.hid (firstAt_end (q := badW f r ws) hlt)
          have HV := Lib.hid (show E = 0 by rw [HE3.out, HS.out, HTN.out])
          have hlow := hK.low
          clear hK
          go_wp2
          go_ret2
          rw [HV.out]
          exact ⟨hlow, ⟨_, _, rfl, hrow⟩⟩
  · have hb : (setErr f r != 0) = true := by simpa using h0
    have HV := Lib.hid (show E = setErr f r by rw [HE.out, if_pos h0])
    have H0 := Lib.hid h0
    clear h0 HE hF hR
    go_enter Tryz.func50, Tryz.ntmps50
    go_wp2_with fail
    refine HSO.out.mono ?_
    rintro e w1 ⟨hb1, hp1⟩
    rw [if_neg H0.out] at hp1
    subst hp1
    have hlow1 := hb0.trans (hb1.mono hb0.size)
    have hlow2 := hlow1.alloc hlow1.size (.cells #[.string ⟨#[]⟩, .int .i64 0, .slice none 0 0, .slice none 0 0, .map none, .map none, .int .i64 0, .int .i64 0] 183)
    unfold noSet
    clear hb1 hb0 HSO hlow1
    go_wp2
    go_ret2
    rw [HV.out]
    exact ⟨hlow2, by rw [if_neg H0.out]; try rfl⟩
end Go.Proofs.YtlkkociijfdcgaaGreatDoor

/-
  Words: the reference's walk.
-/
namespace Go.Proofs.YtlkkociijfdcgaaGreatDoor
open Go.RowKit Go.Maps Go.Shelf

/-- A list of words that is one's own. -/
def WOwn (w : World) (B : Nat) (v : Value) (n : Nat) (fn : Nat → List Int × List Int) : Prop :=
  ∃ xs, w.ownsRow B 121 2 v n xs ∧ ∀ j, j < n → ∃ v1 v2, xs[j * 2]? = some v1 ∧ xs[j * 2 + 1]? = some v2 ∧ IRow w B v1 (fn j).1 ∧ IRow w B v2 (fn j).2
theorem own_monoG {w : World} {base base' e n size : Nat} {v : Value} {xs : List Value} (h : w.ownsRow base e size v n xs) (hB : base' ≤ base) : w.ownsRow base' e size v n xs := by
  rcases h.2 with ⟨e1, e2⟩ | ⟨g, cap, cur, e1, e2, e3, e4⟩
  · exact ⟨h.1, Or.inl ⟨e1, e2⟩⟩
  · exact ⟨h.1, Or.inr ⟨g, cap, cur, e1, Nat.le_trans hB e2, e3, e4⟩⟩
theorem WOwn.nil (w : World) (B : Nat) (fn : Nat → List Int × List Int) : WOwn w B (.slice none 0 0) 0 fn := ⟨[], World.ownsRow_nil _ _ _ _, fun _ hj => absurd hj (Nat.not_lt_zero _)⟩
theorem WOwn.below {w w' : World} {B n : Nat} {v : Value} {fn : Nat → List Int × List Int} (h : WOwn w B v n fn) (hb : Below w.heap.size w w') : WOwn w' B v n fn := by
  obtain ⟨xs, h1, h2⟩ := h
  refine ⟨xs, own_low2 h1 hb, fun j hj => ?_⟩
  obtain ⟨v1, v2, e1, e2, i1, i2⟩ := h2 j hj
  exact ⟨v1, v2, e1, e2, i1.below hb, i2.below hb⟩
theorem WOwn.mono {w : World} {B B' n : Nat} {v : Value} {fn : Nat → List Int × List Int} (h : WOwn w B v n fn) (hB : B' ≤ B) : WOwn w B' v n fn := by
  obtain ⟨xs, h1, h2⟩ := h
  refine ⟨xs, own_monoG h1 hB, fun j hj => ?_⟩
  obtain ⟨v1, v2, e1, e2, i1, i2⟩ := h2 j hj
  exact ⟨v1, v2, e1, e2, i1.mono hB, i2.mono hB⟩
end Go.Proofs.YtlkkociijfdcgaaGreatDoor

/-
  law02.words: two lists of words that are the same.
-/
namespace Go.Proofs.YtlkkociijfdcgaaGreatDoor
open Go.RowKit Go.Maps Go.Shelf

/-- A list of words as it is read: the words are those of fn. -/
def WView (w : World) (A : Option Addr) (n : Nat) (fn : Nat → List Int × List Int) : Prop :=
  ∀ j, j < n → ∃ g a1 c1 a2 c2, A = some ⟨g, 0, none⟩ ∧ g < w.heap.size ∧ w.cell? ⟨g, j * 2, none⟩ = some (.slice a1 (fn j).1.length c1) ∧ w.cell? ⟨g, j * 2 + 1, none⟩ = some (.slice a2 (fn j).2.length c2) ∧ IntsAt w a1 (fn j).1 ∧ IntsAt w a2 (fn j).2
theorem WView.below {w w' : World} {A : Option Addr} {n : Nat} {fn : Nat → List Int × List Int} (h : WView w A n fn) (hb : Below w.heap.size w w') : WView w' A n fn := fun j hj => by
  obtain ⟨g, a1, c1, a2, c2, e, hg, h1, h2, i1, i2⟩ := h j hj
  exact ⟨g, a1, c1, a2, c2, e, Nat.lt_of_lt_of_le hg hb.size, (hb.cell (p := ⟨g, j * 2, none⟩) hg).trans h1, (hb.cell (p := ⟨g, j * 2 + 1, none⟩) hg).trans h2, i1.below hb, i2.below hb⟩
theorem WView.zero (w : World) (A : Option Addr) (fn : Nat → List Int × List Int) : WView w A 0 fn := fun _ hj => absurd hj (Nat.not_lt_zero _)
theorem WRow.view {w : World} {B G n : Nat} {fn : Nat → List Int × List Int} (h : WRow w B G n fn n) : WView w (some ⟨G, 0, none⟩) n fn := fun j hj => by
  obtain ⟨v1, v2, h1, h2, i1, i2⟩ := h.wds j hj
  obtain ⟨a1, c1, rfl, hi1, -, -⟩ := i1.shape
  obtain ⟨a2, c2, rfl, hi2, -, -⟩ := i2.shape
  exact ⟨G, a1, c1, a2, c2, rfl, h.lt, h1, h2, hi1, hi2⟩
theorem WOwn.view {w : World} {B n : Nat} {v : Value} {fn : Nat → List Int × List Int} (h : WOwn w B v n fn) : ∃ A c, v = .slice A n c ∧ WView w A n fn := by
  obtain ⟨xs, hrow, hwds⟩ := h
  rcases hrow.2 with ⟨e1, e2⟩ | ⟨g, cap, cur, e1, e2, e3, e4, e5, e6, e7⟩
  · subst e2
    exact ⟨none, 0, e1, WView.zero _ _ _⟩
  · refine ⟨some ⟨g, 0, none⟩, cap, e1, fun j hj => ?_⟩
    obtain ⟨v1, v2, x1, x2, i1, i2⟩ := hwds j hj
    obtain ⟨a1, c1, rfl, hi1, -, -⟩ := i1.shape
    obtain ⟨a2, c2, rfl, hi2, -, -⟩ := i2.shape
    have hl := hrow.1
    have hget : ∀ i u, xs[i]? = some u → cur[i]? = some u := fun i u hu => by
      have hi : i < n * 2 := by
        rcases Nat.lt_or_ge i (n * 2) with h | h
        · exact h
        · rw [List.getElem?_eq_none (by omega)] at hu; cases hu
      rw [← e7, List.getElem?_take_of_lt hi, Array.getElem?_toList] at hu
      exact hu
    refine ⟨g, a1, c1, a2, c2, rfl, heap_lt e3, ?_, ?_, hi1, hi2⟩
    · rw [cell_of_row w g (j * 2) cur _ (0, 0) e3]; exact hget _ _ x1
    · rw [cell_of_row w g (j * 2 + 1) cur _ (0, 0) e3]; exact hget _ _ x2
end Go.Proofs.YtlkkociijfdcgaaGreatDoor

/-
  The walk of TextWords.
-/
namespace Go.Proofs.YtlkkociijfdcgaaGreatDoor
open Go.RowKit Go.Maps Go.Shelf

/-- What both Words answer. -/
def WAns (w : World) (E : Int) (n : Nat) (fn : Nat → List Int × List Int) (e : Ending) (w' : World) : Prop :=
  Below w.heap.size w w' ∧ ∃ A m c, e = .returned (.tuple #[.slice A m c, .int .i64 E]) ∧ WView w' A m fn ∧ m = (if E = 0 then n else 0)
theorem wordX_same {f : FT} {r r' : RU} (h : SameR r r') (s : ByteArray) : wordX f r' s = wordX f r s := by
  unfold wordX wordBr
  rw [wordSet_same h, ruleHyph_same h]
theorem wErrO_same {f : FT} {r r' : RU} (h : SameR r r') (s : ByteArray) : wErrO f r' s = wErrO f r s := by
  unfold wErrO
  rw [wordSet_same h]
theorem wordsE_same {f : FT} {r r' : RU} (h : SameR r r') (ws : List ByteArray) : wordsE f r' ws = wordsE f r ws := by
  have hb : badW f r' ws = badW f r ws := by funext j; unfold badW; rw [wErrO_same h]
  unfold wordsE
  rw [hb]
  simp only [wErrO_same h]
theorem wordsX_same {f : FT} {r r' : RU} (h : SameR r r') (ws : List ByteArray) : wordsX f r' ws = wordsX f r ws := by
  funext j
  unfold wordsX
  rw [wordX_same h]
theorem setErr_same {f : FT} {r r' : RU} (h : SameR r r') : setErr f r' = setErr f r := by unfold setErr; rw [checkR_same h]
theorem words_ans (f : FT) (a : Option Addr) (c : Nat) (r r' : RU) (b : Option Addr) (ws : List ByteArray) (d : Nat) (w : World) (hF : FAt w a f) (hR : r'.at_ w) (hSm : SameR r r') (hX : TextsAt w b ws) (hl : ws.length ≤ maxLen) (hS : ∀ k, k < ws.length → (ws.getD k noTx).size ≤ maxLen) :
    Calls Tryz.prog 50 #[.agg #[.string f.name, .int .i64 f.body, .slice a f.sorts.length c], .agg r'.cells, .slice b ws.length d] w (WAns w (if setErr f r ≠ 0 then setErr f r else wordsE f r ws) ws.length (wordsX f r ws)) := by
  have h := words_any f a c r' b ws d w hF hR hX hl hS
  rw [setErr_same hSm, wordsE_same hSm, wordsX_same hSm] at h
  refine h.mono ?_
  intro e w' hp
  obtain ⟨hb, hp⟩ := hp
  generalize (if setErr f r ≠ 0 then setErr f r else wordsE f r ws) = E at hp ⊢
  refine ⟨hb, ?_⟩
  by_cases h0 : E = 0
  · rw [if_pos h0] at hp ⊢
    subst h0
    obtain ⟨G, c9, rfl, hrow⟩ := hp
    exact ⟨_, _, _, rfl, hrow.view, rfl⟩
  · rw [if_neg h0] at hp ⊢
    subst hp
    exact ⟨_, _, _, rfl, WView.zero _ _ _, rfl⟩
end Go.Proofs.YtlkkociijfdcgaaGreatDoor
