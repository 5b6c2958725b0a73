/-
  Parted: the program's.
-/
import Derived.Test.YtlkkociijfdcgaaGreatDoorRA
import Derived.Deep.AppendLies
namespace Go.Proofs.YtlkkociijfdcgaaGreatDoor
open Go.RowKit Go.Maps Go.Shelf

/-- What both Parted answer. -/
def PAns (w : World) (x : Int × List Int × List Int) (e : Ending) (w' : World) : Prop :=
  Below w.heap.size w w' ∧ ∃ A0 k0 A1 k1, e = .returned (.tuple #[.agg #[.slice A0 x.2.1.length k0, .slice A1 x.2.2.length k1], .int .i64 x.1]) ∧ IRow w' w.heap.size (.slice A0 x.2.1.length k0) x.2.1 ∧ IRow w' w.heap.size (.slice A1 x.2.2.length k1) x.2.2
theorem PAns.err {w w' : World} (E : Int) (hb : Below w.heap.size w w') : PAns w (E, [], []) (.returned (.tuple #[.agg #[.slice none 0 0, .slice none 0 0], .int .i64 E])) w' :=
  ⟨hb, none, 0, none, 0, rfl, IRow.nil _ _, IRow.nil _ _⟩
/-- The boxes of the call. -/
structure PTK (w : World) (f : FT) (a : Option Addr) (c : Nat) (r : RU) (s : ByteArray) (place : Int) (wr : World) : Prop where
  fr : FRK w f a c r wr
  tb : wr.heap[w.heap.size + 2]? = some (.cells #[.string s, .int .i64 place] 104 (0, 0))
  rb : wr.heap[w.heap.size + 3]? = some (.cells #[.slice none 0 0, .slice none 0 0] 105 (0, 0))
section
variable {w wr wr' : World} {f : FT} {a : Option Addr} {c : Nat} {r : RU} {s : ByteArray} {place : Int}
theorem PTK.below (h : PTK w f a c r s place wr) (hb : Below wr.heap.size wr wr') : PTK w f a c r s place wr' := ⟨h.fr.below hb, (hb.block _ (heap_lt h.tb)).trans h.tb, (hb.block _ (heap_lt h.rb)).trans h.rb⟩
theorem PTK.drew (h : PTK w f a c r s place wr) : PTK w f a c r s place wr.drew := ⟨⟨h.fr.fb, h.fr.rb, h.fr.low.drew⟩, h.tb, h.rb⟩
theorem PTK.start : PTK w f a c r s place ((((w.alloc (.cells #[.string f.name, .int .i64 f.body, .slice a f.sorts.length c] 59)).alloc (.cells #[.slice r.ps.a r.ps.l.length r.ps.c, .slice r.es.a r.es.l.length r.es.c, .slice r.bs.a r.bs.l.length r.bs.c, .int .i64 r.left, .int .i64 r.right] 24)).alloc (.cells #[.string s, .int .i64 place] 104)).alloc (.cells #[.slice none 0 0, .slice none 0 0] 105)) := by
  have h0 := frk_start w f a c r
  have h1 := h0.below ((Below.refl _ _).alloc (Nat.le_refl _) (.cells #[.string s, .int .i64 place] 104))
  have h2 := h1.below ((Below.refl _ _).alloc (Nat.le_refl _) (.cells #[.slice none 0 0, .slice none 0 0] 105))
  have t1 := heap_new ((w.alloc (.cells #[.string f.name, .int .i64 f.body, .slice a f.sorts.length c] 59)).alloc (.cells #[.slice r.ps.a r.ps.l.length r.ps.c, .slice r.es.a r.es.l.length r.es.c, .slice r.bs.a r.bs.l.length r.bs.c, .int .i64 r.left, .int .i64 r.right] 24)) (.cells #[.string s, .int .i64 place] 104)
  have t2 := heap_new (((w.alloc (.cells #[.string f.name, .int .i64 f.body, .slice a f.sorts.length c] 59)).alloc (.cells #[.slice r.ps.a r.ps.l.length r.ps.c, .slice r.es.a r.es.l.length r.es.c, .slice r.bs.a r.bs.l.length r.bs.c, .int .i64 r.left, .int .i64 r.right] 24)).alloc (.cells #[.string s, .int .i64 place] 104)) (.cells #[.slice none 0 0, .slice none 0 0] 105)
  rw [World.size_alloc, World.size_alloc] at t1
  rw [World.size_alloc, World.size_alloc, World.size_alloc] at t2
  exact ⟨h2, heap_keep t1, t2⟩
theorem PTK.tc (h : PTK w f a c r s place wr) : wr.cell? ⟨w.heap.size + 2, 0, none⟩ = some (.string s) ∧ wr.cell? ⟨w.heap.size + 2, 1, none⟩ = some (.int .i64 place) := ⟨cell_of_row wr _ 0 _ _ (0, 0) h.tb, cell_of_row wr _ 1 _ _ (0, 0) h.tb⟩
theorem PTK.rc (h : PTK w f a c r s place wr) : wr.cell? ⟨w.heap.size + 3, 0, none⟩ = some (.slice none 0 0) ∧ wr.cell? ⟨w.heap.size + 3, 1, none⟩ = some (.slice none 0 0) := ⟨cell_of_row wr _ 0 _ _ (0, 0) h.rb, cell_of_row wr _ 1 _ _ (0, 0) h.rb⟩
end
end Go.Proofs.YtlkkociijfdcgaaGreatDoor

namespace Go.Proofs.YtlkkociijfdcgaaGreatDoor
open Go.RowKit Go.Maps Go.Shelf Go.Deep

/-- The boxes of the call. -/
structure RTK (w : World) (f : FT) (a : Option Addr) (c : Nat) (r : RU) (s : ByteArray) (place : Int) (wr : World) : Prop where
  kn : PTK w f a c r s place wr
  b8 : wr.heap[w.heap.size + 4]? = some (.cells #[.slice none 0 0, .slice none 0 0] 105 (0, 0))
  b9 : wr.heap[w.heap.size + 5]? = some (.cells #[.slice none 0 0, .slice none 0 0] 105 (0, 0))
section
variable {w wr wr' : World} {f : FT} {a : Option Addr} {c : Nat} {r : RU} {s : ByteArray} {place : Int}
theorem RTK.below (h : RTK w f a c r s place wr) (hb : Below wr.heap.size wr wr') : RTK w f a c r s place wr' := ⟨h.kn.below hb, (hb.block _ (heap_lt h.b8)).trans h.b8, (hb.block _ (heap_lt h.b9)).trans h.b9⟩
theorem RTK.start : RTK w f a c r s place ((((((w.alloc (.cells #[.string f.name, .int .i64 f.body, .slice a f.sorts.length c] 59)).alloc (.cells #[.slice r.ps.a r.ps.l.length r.ps.c, .slice r.es.a r.es.l.length r.es.c, .slice r.bs.a r.bs.l.length r.bs.c, .int .i64 r.left, .int .i64 r.right] 24)).alloc (.cells #[.string s, .int .i64 place] 104)).alloc (.cells #[.slice none 0 0, .slice none 0 0] 105)).alloc (.cells #[.slice none 0 0, .slice none 0 0] 105)).alloc (.cells #[.slice none 0 0, .slice none 0 0] 105)) := by
  have h0 : PTK w f a c r s place _ := PTK.start
  obtain ⟨W, hW⟩ : ∃ W, W = ((((w.alloc (.cells #[.string f.name, .int .i64 f.body, .slice a f.sorts.length c] 59)).alloc (.cells #[.slice r.ps.a r.ps.l.length r.ps.c, .slice r.es.a r.es.l.length r.es.c, .slice r.bs.a r.bs.l.length r.bs.c, .int .i64 r.left, .int .i64 r.right] 24)).alloc (.cells #[.string s, .int .i64 place] 104)).alloc (.cells #[.slice none 0 0, .slice none 0 0] 105)) := ⟨_, rfl⟩
  have hz : W.heap.size = w.heap.size + 4 := by rw [hW]; simp
  rw [← hW] at h0 ⊢
  have t1 := heap_new W (.cells #[.slice none 0 0, .slice none 0 0] 105)
  have t2 := heap_new (W.alloc (.cells #[.slice none 0 0, .slice none 0 0] 105)) (.cells #[.slice none 0 0, .slice none 0 0] 105)
  rw [World.size_alloc, hz] at t2
  rw [hz] at t1
  exact ⟨(h0.below ((Below.refl _ _).alloc (Nat.le_refl _) _)).below ((Below.refl _ _).alloc (Nat.le_refl _) _), heap_keep t1, t2⟩
end
end Go.Proofs.YtlkkociijfdcgaaGreatDoor

namespace Go.Proofs.YtlkkociijfdcgaaGreatDoor
open Go.RowKit Go.Maps Go.Shelf

/-- The boxes of the call. -/
structure LTK (w : World) (f : FT) (a : Option Addr) (c : Nat) (r : RU) (s : ByteArray) (place : Int) (wr : World) : Prop where
  fr : FRK w f a c r wr
  tb : wr.heap[w.heap.size + 2]? = some (.cells #[.string s, .int .i64 place] 104 (0, 0))
section
variable {w wr wr' : World} {f : FT} {a : Option Addr} {c : Nat} {r : RU} {s : ByteArray} {place : Int}
theorem LTK.below (h : LTK w f a c r s place wr) (hb : Below wr.heap.size wr wr') : LTK w f a c r s place wr' := ⟨h.fr.below hb, (hb.block _ (heap_lt h.tb)).trans h.tb⟩
theorem LTK.drew (h : LTK w f a c r s place wr) : LTK w f a c r s place wr.drew := ⟨⟨h.fr.fb, h.fr.rb, h.fr.low.drew⟩, h.tb⟩
theorem LTK.alloc (h : LTK w f a c r s place wr) (o : Obj) : LTK w f a c r s place (wr.alloc o) := h.below ((Below.refl _ _).alloc (Nat.le_refl _) o)
theorem LTK.set (h : LTK w f a c r s place wr) {p : Addr} (hp : w.heap.size + 3 ≤ p.block) (u : Value) : LTK w f a c r s place (wr.setCell p u) :=
  ⟨⟨(Below.heap_setCell _ _ _ _ (by omega)).trans h.fr.fb, (Below.heap_setCell _ _ _ _ (by omega)).trans h.fr.rb, h.fr.low.setCell (by omega) u⟩, (Below.heap_setCell _ _ _ _ (by omega)).trans h.tb⟩
theorem LTK.tc (h : LTK w f a c r s place wr) : wr.cell? ⟨w.heap.size + 2, 0, none⟩ = some (.string s) ∧ wr.cell? ⟨w.heap.size + 2, 1, none⟩ = some (.int .i64 place) := ⟨cell_of_row wr _ 0 _ _ (0, 0) h.tb, cell_of_row wr _ 1 _ _ (0, 0) h.tb⟩
theorem LTK.start : LTK w f a c r s place (((w.alloc (.cells #[.string f.name, .int .i64 f.body, .slice a f.sorts.length c] 59)).alloc (.cells #[.slice r.ps.a r.ps.l.length r.ps.c, .slice r.es.a r.es.l.length r.es.c, .slice r.bs.a r.bs.l.length r.bs.c, .int .i64 r.left, .int .i64 r.right] 24)).alloc (.cells #[.string s, .int .i64 place] 104)) := by
  refine ⟨(frk_start w f a c r).below ((Below.refl _ _).alloc (Nat.le_refl _) _), ?_⟩
  have h := heap_new ((w.alloc (.cells #[.string f.name, .int .i64 f.body, .slice a f.sorts.length c] 59)).alloc (.cells #[.slice r.ps.a r.ps.l.length r.ps.c, .slice r.es.a r.es.l.length r.es.c, .slice r.bs.a r.bs.l.length r.bs.c, .int .i64 r.left, .int .i64 r.right] 24)) (.cells #[.string s, .int .i64 place] 104)
  rw [World.size_alloc, World.size_alloc] at h
  exact h
theorem LTK.lt (h : LTK w f a c r s place wr) : w.heap.size + 2 < wr.heap.size := heap_lt h.tb
theorem LTK.cells (h : LTK w f a c r s place wr) : wr.cell? ⟨w.heap.size, 0, none⟩ = some (.string f.name) ∧ wr.cell? ⟨w.heap.size, 1, none⟩ = some (.int .i64 f.body) ∧ wr.cell? ⟨w.heap.size, 2, none⟩ = some (.slice a f.sorts.length c) ∧ wr.cell? ⟨w.heap.size + 1, 0, none⟩ = some (.slice r.ps.a r.ps.l.length r.ps.c) ∧ wr.cell? ⟨w.heap.size + 1, 1, none⟩ = some (.slice r.es.a r.es.l.length r.es.c) ∧ wr.cell? ⟨w.heap.size + 1, 2, none⟩ = some (.slice r.bs.a r.bs.l.length r.bs.c) ∧ wr.cell? ⟨w.heap.size + 1, 3, none⟩ = some (.int .i64 r.left) ∧ wr.cell? ⟨w.heap.size + 1, 4, none⟩ = some (.int .i64 r.right) ∧ wr.cell? ⟨w.heap.size + 2, 0, none⟩ = some (.string s) ∧ wr.cell? ⟨w.heap.size + 2, 1, none⟩ = some (.int .i64 place) :=
  ⟨h.fr.fc.1, h.fr.fc.2.1, h.fr.fc.2.2, h.fr.rc.1, h.fr.rc.2.1, h.fr.rc.2.2.1, h.fr.rc.2.2.2.1, h.fr.rc.2.2.2.2, h.tc.1, h.tc.2⟩
end
theorem ba {w : World} (o : Obj) : Below w.heap.size w (w.alloc o) := (Below.refl _ _).alloc (Nat.le_refl _) o
theorem takeU {P : Program} {md : Region.Mode} {ops : Array Oper} {K : Act → World → Prop} {S : World → Prop} {i : Nat} {oi : Oper} {v : Value} {fuel : Nat} {listed : Array Bool} {a : Act} {w : World} (hi : ops.toList[i]? = some oi) (hd : (Region.noSelect ops && (Region.free md ops listed i && (Region.ready md ops listed).contains i)) = true) (hy : YieldsIf P ops S oi v a) (hS : S w)
    (h : wpAnyH P md ops (Exit.then K fun _ _ _ => False) S fuel (listed.setIfInBounds i true) (a.put oi.dst v) w) : wpAnyH P md ops (Exit.then K fun _ _ _ => False) S (fuel + 1) listed a w := by
  rw [Bool.and_eq_true, Bool.and_eq_true] at hd
  exact takeL hi hd.1 hd.2.1 hd.2.2 (fun _ _ _ h => h.elim) hy hS h
theorem row_texts {w : World} {base : Nat} {v : Value} {l : List ByteArray} (h : w.ownsRow base 9 1 v l.length (txs l)) : ∃ A c, v = .slice A l.length c ∧ TextsAt w A l := by
  have h' := h
  rcases h.2 with ⟨e1, e2⟩ | ⟨g, cap, cur, e1, _⟩
  · exact ⟨none, 0, by rw [e1, e2], fun k hk => by omega⟩
  · subst e1
    exact ⟨_, _, rfl, texts_of_row h'⟩
/-- What is known ahead of reading back. -/
structure K14 (w : World) (f : FT) (a : Option Addr) (c : Nat) (r : RU) (s : ByteArray) (place : Int) (b7 : Nat) (A0 A1 : Option Addr) (k0 k1 : Nat) (L0 L1 : List Int) (wr : World) : Prop where
  kn : LTK w f a c r s place wr
  b : wr.heap[b7]? = some (.cells #[.slice A0 L0.length k0, .slice A1 L1.length k1] 105 (0, 0))
  i0 : IntsAt wr A0 L0
  i1 : IntsAt wr A1 L1
section
variable {w wr wr' : World} {f : FT} {a : Option Addr} {c : Nat} {r : RU} {s : ByteArray} {place : Int} {b7 : Nat} {A0 A1 : Option Addr} {k0 k1 : Nat} {L0 L1 : List Int}
theorem K14.below (h : K14 w f a c r s place b7 A0 A1 k0 k1 L0 L1 wr) (hb : Below wr.heap.size wr wr') : K14 w f a c r s place b7 A0 A1 k0 k1 L0 L1 wr' := ⟨h.kn.below hb, (hb.block _ (heap_lt h.b)).trans h.b, h.i0.below hb, h.i1.below hb⟩
theorem K14.alloc (h : K14 w f a c r s place b7 A0 A1 k0 k1 L0 L1 wr) (o : Obj) : K14 w f a c r s place b7 A0 A1 k0 k1 L0 L1 (wr.alloc o) := h.below ((Below.refl _ _).alloc (Nat.le_refl _) o)
theorem K14.drew (h : K14 w f a c r s place b7 A0 A1 k0 k1 L0 L1 wr) : K14 w f a c r s place b7 A0 A1 k0 k1 L0 L1 wr.drew := h.below (Below.refl _ _).drew
theorem K14.cells (h : K14 w f a c r s place b7 A0 A1 k0 k1 L0 L1 wr) : wr.cell? ⟨w.heap.size, 0, none⟩ = some (.string f.name) ∧ wr.cell? ⟨w.heap.size, 1, none⟩ = some (.int .i64 f.body) ∧ wr.cell? ⟨w.heap.size, 2, none⟩ = some (.slice a f.sorts.length c) ∧ wr.cell? ⟨b7, 0, none⟩ = some (.slice A0 L0.length k0) ∧ wr.cell? ⟨b7, 1, none⟩ = some (.slice A1 L1.length k1) :=
  ⟨h.kn.fr.fc.1, h.kn.fr.fc.2.1, h.kn.fr.fc.2.2, cell_of_row wr _ 0 _ _ (0, 0) h.b, cell_of_row wr _ 1 _ _ (0, 0) h.b⟩
end
end Go.Proofs.YtlkkociijfdcgaaGreatDoor

namespace Go.Proofs.YtlkkociijfdcgaaGreatDoor
open Go.RowKit Go.Maps Go.Shelf

theorem rdTo_all (f : FT) (st : List ByteArray × List UInt8) (l : List Int) : rdTo f st l l.length = l.foldl (rdSort f) st := by
  rw [rdTo_fold f st l _ (Nat.le_refl _), List.take_length]
theorem rdLine_false (f : FT) (st : List ByteArray × List UInt8) (l : List Int) : rdLine f st l false = endW (l.foldl (rdSort f) st) := by
  show endW (rdTo f st l l.length) = _
  rw [rdTo_all]
theorem rd_space {f : FT} {i : Nat} (h : (f.sorts.getD i noTS).kind = 3) (st : List ByteArray × List UInt8) : rdSort f st (i : Int) = endW st := by
  unfold rdSort
  rw [Int.toNat_natCast, if_pos h]
theorem endW_nil (ws : List ByteArray) : endW (ws, []) = (ws, []) := by
  unfold endW
  rw [if_pos rfl]
theorem endW_word (ws : List ByteArray) {s : ByteArray} (h : 1 ≤ s.size) : endW (ws, s.data.toList) = (ws ++ [s], []) := by
  have hz : s.data.toList.length = s.size := by rw [Array.length_toList]; try rfl
  unfold endW
  rw [if_neg (fun e => by rw [show s.data.toList = [] from e] at hz; have : (0 : Nat) = s.size := hz; omega)]
theorem rd_word {f : FT} {r : RU} {s : ByteArray} {l : List Int} (h : PathP (wordP f none 0 r s 0 s.size) 0 l) (ws : List ByteArray) : l.foldl (rdSort f) (ws, []) = (ws, s.data.toList) := by
  have e := rd_path (p := wordP f none 0 r s 0 s.size) l 0 ws [] h
  have et : (wordP f none 0 r s 0 s.size).t = s := ext_whole s
  rw [et, List.drop_zero, List.nil_append] at e
  exact e
/-- The lines that the first k words make: two words a line, every second line begins with a space. -/
def modL (g : List Int → List Int) (L : List (List Int)) : List (List Int) := L.dropLast ++ [g (L.getLastD [])]
theorem modL_snoc (g : List Int → List Int) (L : List (List Int)) (x : List Int) : modL g (L ++ [x]) = L ++ [g x] := by
  unfold modL
  rw [List.dropLast_concat, List.getLastD_concat]
def bkTo (sp : Int) (q : Nat → List Int) : Nat → List (List Int)
  | 0 => []
  | k + 1 => if k % 2 = 0 then bkTo sp q k ++ [List.replicate (k / 2 % 2) sp ++ q k] else modL (fun x => x ++ [sp] ++ q k) (bkTo sp q k)
theorem bkTo_odd (sp : Int) (q : Nat → List Int) (m : Nat) : bkTo sp q (2 * m + 1) = bkTo sp q (2 * m) ++ [List.replicate (m % 2) sp ++ q (2 * m)] := by
  show (if 2 * m % 2 = 0 then _ else _) = _
  rw [if_pos (by omega), show 2 * m / 2 = m by omega]
theorem bkTo_even (sp : Int) (q : Nat → List Int) (m : Nat) : bkTo sp q (2 * m + 2) = bkTo sp q (2 * m) ++ [List.replicate (m % 2) sp ++ q (2 * m) ++ [sp] ++ q (2 * m + 1)] := by
  show (if (2 * m + 1) % 2 = 0 then _ else modL _ (bkTo sp q (2 * m + 1))) = _
  rw [if_neg (by omega), bkTo_odd, modL_snoc]
/-- What all lines say, one behind the other. -/
def rdAll (f : FT) (st : List ByteArray × List UInt8) (L : List (List Int)) : List ByteArray × List UInt8 := L.foldl (fun st l => rdLine f st l false) st
theorem rdAll_snoc (f : FT) (st : List ByteArray × List UInt8) (L : List (List Int)) (x : List Int) : rdAll f st (L ++ [x]) = rdLine f (rdAll f st L) x false := by
  unfold rdAll
  rw [List.foldl_append]; try rfl
theorem rd_lead {f : FT} {i : Nat} (h : (f.sorts.getD i noTS).kind = 3) (ws : List ByteArray) : ∀ n, (List.replicate n (i : Int)).foldl (rdSort f) (ws, []) = (ws, [])
  | 0 => rfl
  | n + 1 => by rw [List.replicate_succ, List.foldl_cons, rd_space h, endW_nil, rd_lead h ws n]
section
variable {f : FT} {r : RU} {l : List ByteArray} {q : Nat → List Int} {i : Nat}
theorem line_one (h : (f.sorts.getD i noTS).kind = 3) {s : ByteArray} (hs : 1 ≤ s.size) {x : List Int} (hx : PathP (wordP f none 0 r s 0 s.size) 0 x) (n : Nat) (ws : List ByteArray) : rdLine f (ws, []) (List.replicate n (i : Int) ++ x) false = (ws ++ [s], []) := by
  rw [rdLine_false, List.foldl_append, rd_lead h, rd_word hx, endW_word ws hs]
theorem line_two (h : (f.sorts.getD i noTS).kind = 3) {s t : ByteArray} (hs : 1 ≤ s.size) (ht : 1 ≤ t.size) {x y : List Int} (hx : PathP (wordP f none 0 r s 0 s.size) 0 x) (hy : PathP (wordP f none 0 r t 0 t.size) 0 y) (n : Nat) (ws : List ByteArray) : rdLine f (ws, []) (List.replicate n (i : Int) ++ x ++ [(i : Int)] ++ y) false = (ws ++ [s, t], []) := by
  rw [rdLine_false, List.foldl_append, List.foldl_append, List.foldl_append, rd_lead h, rd_word hx, List.foldl_cons, List.foldl_nil, rd_space h, endW_word ws hs, rd_word hy, endW_word _ ht, List.append_assoc]
  rfl
theorem bk_even (h : (f.sorts.getD i noTS).kind = 3) (hq : ∀ k, k < l.length → 1 ≤ (l.getD k noTx).size ∧ PathP (wordP f none 0 r (l.getD k noTx) 0 (l.getD k noTx).size) 0 (q k)) : ∀ m, 2 * m ≤ l.length → rdAll f ([], []) (bkTo (i : Int) q (2 * m)) = (l.take (2 * m), [])
  | 0, _ => rfl
  | m + 1, hm => by
    obtain ⟨h1, h2⟩ := hq (2 * m) (by omega)
    obtain ⟨h3, h4⟩ := hq (2 * m + 1) (by omega)
    rw [show 2 * (m + 1) = 2 * m + 2 by omega, bkTo_even, rdAll_snoc, bk_even h hq m (by omega), line_two h h1 h3 h2 h4, List.take_succ_eq_append_getElem (by omega : 2 * m + 1 < l.length), List.take_succ_eq_append_getElem (by omega : 2 * m < l.length), List.getD_eq_getElem?_getD, List.getElem?_eq_getElem (by omega : 2 * m < l.length), List.getD_eq_getElem?_getD, List.getElem?_eq_getElem (by omega : 2 * m + 1 < l.length), List.append_assoc]
    rfl
theorem bk_odd (h : (f.sorts.getD i noTS).kind = 3) (hq : ∀ k, k < l.length → 1 ≤ (l.getD k noTx).size ∧ PathP (wordP f none 0 r (l.getD k noTx) 0 (l.getD k noTx).size) 0 (q k)) (m : Nat) (hm : 2 * m + 1 ≤ l.length) : rdAll f ([], []) (bkTo (i : Int) q (2 * m + 1)) = (l.take (2 * m + 1), []) := by
  obtain ⟨h1, h2⟩ := hq (2 * m) (by omega)
  rw [bkTo_odd, rdAll_snoc, bk_even h hq m (by omega), line_one h h1 h2, List.take_succ_eq_append_getElem (by omega : 2 * m < l.length), List.getD_eq_getElem?_getD, List.getElem?_eq_getElem (by omega : 2 * m < l.length)]
  rfl
/-- All the words are read again. -/
theorem bk_words (h : (f.sorts.getD i noTS).kind = 3) (hq : ∀ k, k < l.length → 1 ≤ (l.getD k noTx).size ∧ PathP (wordP f none 0 r (l.getD k noTx) 0 (l.getD k noTx).size) 0 (q k)) : (rdAll f ([], []) (bkTo (i : Int) q l.length)).1 = l := by
  rcases Nat.mod_two_eq_zero_or_one l.length with h2 | h2
  · have e : l.length = 2 * (l.length / 2) := by omega
    rw [e, bk_even h hq (l.length / 2) (by omega), ← e, List.take_length]
  · have e : l.length = 2 * (l.length / 2) + 1 := by omega
    rw [e, bk_odd h hq (l.length / 2) (by omega), ← e, List.take_length]
end
end Go.Proofs.YtlkkociijfdcgaaGreatDoor

namespace Go.Proofs.YtlkkociijfdcgaaGreatDoor
open Go.RowKit Go.Maps Go.Shelf

theorem getD_rep (n k : Nat) : (List.replicate n false).getD k false = false := by
  rw [List.getD_eq_getElem?_getD, List.getElem?_replicate]
  split <;> rfl
theorem rbTo_all (f : FT) (L : List LN) (n : Nat) : ∀ k, k ≤ L.length → rbTo f L (List.replicate n false) k = rdAll f ([], []) ((L.take k).map LN.l)
  | 0, _ => rfl
  | k + 1, h => by
    show rdLine f (rbTo f L (List.replicate n false) k) (L.getD k noLN).l ((List.replicate n false).getD k false) = _
    rw [rbTo_all f L n k (by omega), getD_rep, List.take_succ_eq_append_getElem (by omega), List.map_append, List.map_cons, List.map_nil, rdAll_snoc, List.getD_eq_getElem?_getD, List.getElem?_eq_getElem (by omega)]
    rfl
/-- A line that may be read: short, of sorts of the fount. -/
def LnOk (n : Nat) (x : List Int) : Prop := x.length ≤ 300 ∧ x.any (idxBad n) = false
theorem head_false {f : FT} {L : List LN} (h : LnOk f.sorts.length (L.getD 0 noLN).l) : headErr f L false = 0 := by
  unfold headErr
  rw [if_neg (by have := h.1; omega), if_neg (by rw [h.2]; decide), if_pos rfl]
theorem readErr_lines {f : FT} {L : List LN} (hf : (checkF f).2 = 0) (hn : L.length ≤ 400) (h : ∀ k, k < L.length → LnOk f.sorts.length (L.getD k noLN).l) : readErr f L (List.replicate L.length false) = 0 := by
  unfold readErr
  rw [if_neg (fun h => h hf), if_neg (by simp), if_neg (by omega)]
  have hb : ∀ k, k < L.length → badL f L (List.replicate L.length false) k = false := by
    intro k hk
    unfold badL
    rw [getD_rep, head_false (by rw [dropL]; exact h k hk)]
    rfl
  have hs : ∀ d k, k + d = L.length → firstAt (badL f L (List.replicate L.length false)) d k = none := by
    intro d
    induction d with
    | zero => intro k hk; rfl
    | succ d ih =>
      intro k hk
      show (if badL f L (List.replicate L.length false) k = true then some k else firstAt _ d (k + 1)) = none
      rw [if_neg (by rw [hb k (by omega)]; decide)]
      exact ih (k + 1) (by omega)
  rw [hs (L.length - 0) 0 (by omega)]
theorem readW_lines {f : FT} {r : RU} {L : List LN} {l : List ByteArray} {q : Nat → List Int} {i : Nat} (h : (f.sorts.getD i noTS).kind = 3) (hq : ∀ k, k < l.length → 1 ≤ (l.getD k noTx).size ∧ PathP (wordP f none 0 r (l.getD k noTx) 0 (l.getD k noTx).size) 0 (q k)) (hL : L.map LN.l = bkTo (i : Int) q l.length) : readW f L (List.replicate L.length false) = l := by
  unfold readW
  rw [rbTo_all f L _ _ (Nat.le_refl _), List.take_length, hL]
  exact bk_words h hq
section
variable {n : Nat} {q : Nat → List Int} {i : Nat}
theorem lnOk_rep (hi : i < n) : ∀ k, k ≤ 1 → LnOk n (List.replicate k (i : Int)) ∧ (List.replicate k (i : Int)).length ≤ 1 := fun k hk => by
  refine ⟨⟨by rw [List.length_replicate]; omega, ?_⟩, by rw [List.length_replicate]; exact hk⟩
  rw [List.any_eq_false]
  intro x hx
  obtain ⟨_, rfl⟩ := List.mem_replicate.1 hx
  unfold idxBad
  simp
  omega
theorem any_app {p : Int → Bool} {x y : List Int} (hx : x.any p = false) (hy : y.any p = false) : (x ++ y).any p = false := by rw [List.any_append, hx, hy]; try rfl
/-- All lines are right, and there are few. -/
theorem bk_ok (hi : i < n) {m : Nat} (hq : ∀ k, k < m → (q k).length ≤ 100 ∧ (q k).any (idxBad n) = false) : ∀ k, k ≤ m → (bkTo (i : Int) q k).length ≤ k ∧ (∀ x ∈ bkTo (i : Int) q k, LnOk n x) ∧ (k % 2 = 1 → ((bkTo (i : Int) q k).getLastD []).length ≤ 101 ∧ ((bkTo (i : Int) q k).getLastD []).any (idxBad n) = false ∧ bkTo (i : Int) q k ≠ [])
  | 0, _ => ⟨Nat.le_refl _, fun _ h => absurd h (by simp [bkTo]), fun h => absurd h (by decide)⟩
  | k + 1, hk => by
    obtain ⟨h1, h2, h3⟩ := bk_ok hi hq k (by omega)
    obtain ⟨g1, g2⟩ := hq k (by omega)
    have hs1 : ([(i : Int)] : List Int).any (idxBad n) = false := by
      rw [List.any_cons, List.any_nil, Bool.or_false]
      unfold idxBad
      simp
      omega
    by_cases he : k % 2 = 0
    · have e : bkTo (i : Int) q (k + 1) = bkTo (i : Int) q k ++ [List.replicate (k / 2 % 2) (i : Int) ++ q k] := if_pos he
      obtain ⟨⟨-, r2⟩, r3⟩ := lnOk_rep hi (k / 2 % 2) (by omega)
      have hl : (List.replicate (k / 2 % 2) (i : Int) ++ q k).length ≤ 101 := by rw [List.length_append]; omega
      have ha : (List.replicate (k / 2 % 2) (i : Int) ++ q k).any (idxBad n) = false := any_app r2 g2
      rw [e]
      refine ⟨by rw [List.length_append, List.length_singleton]; omega, ?_, fun _ => ?_⟩
      · intro x hx
        rcases List.mem_append.1 hx with hx | hx
        · exact h2 x hx
        · rw [List.mem_singleton.1 hx]; exact ⟨by omega, ha⟩
      · rw [List.getLastD_concat]
        exact ⟨hl, ha, by simp⟩
    · have e : bkTo (i : Int) q (k + 1) = modL (fun x => x ++ [(i : Int)] ++ q k) (bkTo (i : Int) q k) := if_neg he
      obtain ⟨l1, l2, l3⟩ := h3 (by omega)
      rw [e]
      unfold modL
      refine ⟨?_, ?_, fun h => absurd h (by omega)⟩
      · rw [List.length_append, List.length_singleton, List.length_dropLast]
        omega
      · intro x hx
        rcases List.mem_append.1 hx with hx | hx
        · exact h2 x (List.dropLast_subset _ hx)
        · rw [List.mem_singleton.1 hx]
          refine ⟨?_, any_app (any_app l2 hs1) g2⟩
          show ((bkTo (i : Int) q k).getLastD [] ++ [(i : Int)] ++ q k).length ≤ 300
          rw [List.length_append, List.length_append, List.length_singleton]
          omega
end
end Go.Proofs.YtlkkociijfdcgaaGreatDoor

namespace Go.Proofs.YtlkkociijfdcgaaGreatDoor
open Go.RowKit Go.Maps Go.Shelf

def LN.sl (x : LN) : Value := .slice x.a x.l.length x.c
def flatL : List LN → List Value
  | [] => []
  | x :: L => .int .i64 x.ms :: x.sl :: flatL L
theorem flatL_snoc (x : LN) : ∀ L : List LN, flatL (L ++ [x]) = flatL L ++ [.int .i64 x.ms, x.sl]
  | [] => rfl
  | y :: L => by show _ :: _ :: flatL (L ++ [x]) = _; rw [flatL_snoc x L]; try rfl
theorem flatL_len : ∀ L : List LN, (flatL L).length = L.length * 2
  | [] => rfl
  | x :: L => by show (flatL L).length + 1 + 1 = (L.length + 1) * 2; rw [flatL_len L]; omega
theorem flatL_last (x y : LN) (h : x.ms = y.ms) (L : List LN) : (flatL (L ++ [x])).set (L.length * 2 + 1) y.sl = flatL (L ++ [y]) := by
  rw [flatL_snoc, flatL_snoc, ← flatL_len, List.set_append_right _ _ (by omega), show (flatL L).length + 1 - (flatL L).length = 1 by omega, h]
  rfl
/-- A store into a row of one's own. -/
theorem own_cell {w : World} {base e n size g c : Nat} {xs : List Value} (h : w.ownsRow base e size (.slice (some ⟨g, 0, none⟩) n c) n xs) (j : Nat) (u : Value) : (w.setCell ⟨g, j, none⟩ u).ownsRow base e size (.slice (some ⟨g, 0, none⟩) n c) n (xs.set j u) := by
  rcases h.2 with ⟨e1, _⟩ | ⟨g', cap, cur, e1, h1, h2, h3, h4, h5, h6⟩
  · cases e1
  · cases e1
    refine ⟨by rw [List.length_set]; exact h.1, Or.inr ⟨g, c, cur.setIfInBounds j u, rfl, h1, heap_set2 h2 j u, h3, h4, by rw [Array.size_setIfInBounds]; exact h5, ?_⟩⟩
    rw [Array.toList_setIfInBounds, List.take_set, h6]
theorem own_grown {w w' : World} {base e n size : Nat} {v : Value} {xs : List Value} {row : Option Nat} (h : w.ownsRow base e size v n xs) (hg : w.grownBy w' row) (hne : ∀ g, v.ownBlock = some g → some g ≠ row) : w'.ownsRow base e size v n xs := by
  rcases h.2 with ⟨e1, e2⟩ | ⟨g, cap, cur, e1, e2, e3, e4⟩
  · exact ⟨h.1, Or.inl ⟨e1, e2⟩⟩
  · exact ⟨h.1, Or.inr ⟨g, cap, cur, e1, e2, (hg.block g (heap_lt e3) (hne g (by rw [e1]; try rfl))).trans e3, e4⟩⟩
theorem int_line : (3 : TypeId) ≠ 113 := by decide
/-- Lines under way: their row and the rows of their sorts, all one's own. -/
structure BkAt (B : Nat) (W0 : World) (L : List LN) (v : Value) (wr : World) : Prop where
  row : wr.ownsRow B 113 2 v L.length (flatL L)
  ints : ∀ x ∈ L, IRow wr B x.sl x.l
  apart : L.Pairwise (fun x y => ∀ g, x.sl.ownBlock = some g → y.sl.ownBlock ≠ some g)
  low : Below B W0 wr
  size : B ≤ wr.heap.size
section
variable {B : Nat} {W0 wr w1 w2 : World} {L : List LN} {v v' : Value} {x : LN}
theorem BkAt.start (hB : B ≤ W0.heap.size) : BkAt B W0 [] (.slice none 0 0) W0 := ⟨World.ownsRow_nil _ _ _ _, fun _ h => absurd h List.not_mem_nil, List.Pairwise.nil, Below.refl _ _, hB⟩
theorem BkAt.below (h : BkAt B W0 L v wr) (hb : Below wr.heap.size wr w1) : BkAt B W0 L v w1 := ⟨own_low2 h.row hb, fun y hy => (h.ints y hy).below hb, h.apart, h.low.trans (hb.mono h.size), Nat.le_trans h.size hb.size⟩
/-- Rows of sorts lie off the row of lines. -/
theorem BkAt.off (h : BkAt B W0 L v wr) {y : LN} (hy : y ∈ L) (g : Nat) (e : y.sl.ownBlock = some g) : some g ≠ v.ownBlock := fun e2 => by
  rcases own_apart (h.ints y hy) h.row int_line with h1 | h1
  · rw [h1] at e; cases e
  · exact h1 (by rw [e, e2])
/-- A new line. -/
theorem BkAt.push (h : BkAt B W0 L v wr) (hb : Below wr.heap.size wr w1) (hx : IRow w1 wr.heap.size x.sl x.l) (hg : w1.grownBy w2 v.ownBlock) (hr : w2.ownsRow B 113 2 v' (L.length + 1) (flatL L ++ [.int .i64 x.ms, x.sl])) : BkAt B W0 (L ++ [x]) v' w2 := by
  have h1 := h.below hb
  have hxo : ∀ g, x.sl.ownBlock = some g → some g ≠ v.ownBlock := fun g e e2 => by
    have a1 := (hx.lt g e).1
    have a2 := (h.row.lt g e2.symm).2
    omega
  refine ⟨by rw [List.length_append, List.length_singleton, flatL_snoc]; exact hr, ?_, ?_, h1.low.grown hg h1.size (fun q e => (h1.row.lt q e).1), Nat.le_trans h1.size hg.size⟩
  · intro y hy
    rcases List.mem_append.1 hy with hy | hy
    · exact own_grown (h1.ints y hy) hg (fun g e => h1.off hy g e)
    · rw [List.mem_singleton.1 hy]
      exact own_grown (hx.mono h.size) hg hxo
  · refine List.pairwise_append.2 ⟨h.apart, List.pairwise_singleton .., fun y hy z hz g e e2 => ?_⟩
    rw [List.mem_singleton.1 hz] at e2
    have a1 := (hx.lt g e2).1
    have a2 := ((h.ints y hy).lt g e).2
    omega
/-- The last line grows. -/
theorem BkAt.last {gv c g cap : Nat} {n : Nat} {l' : List Int} (h : BkAt B W0 (L ++ [x]) (.slice (some ⟨gv, 0, none⟩) n c) wr) (hb : Below wr.heap.size wr w1) (hg : w1.grownBy w2 x.sl.ownBlock) (hr : IRow w2 B (.slice (some ⟨g, 0, none⟩) l'.length cap) l') (hor : x.sl.ownBlock = some g ∨ g = w1.heap.size) :
    BkAt B W0 (L ++ [⟨x.ms, some ⟨g, 0, none⟩, cap, l'⟩]) (.slice (some ⟨gv, 0, none⟩) n c) (w2.setCell ⟨gv, L.length * 2 + 1, none⟩ (.slice (some ⟨g, 0, none⟩) l'.length cap)) := by
  have h1 := h.below hb
  have hx : x ∈ L ++ [x] := List.mem_append_right _ (List.mem_singleton.2 rfl)
  obtain ⟨-, -, hap⟩ := List.pairwise_append.1 h.apart
  have r2 := own_grown h1.row hg (fun q e e2 => h1.off hx q e2.symm e.symm)
  obtain ⟨cur, hcur⟩ : ∃ cur, w2.heap[gv]? = some (.cells cur 113 (0, 0)) := by
    rcases r2.2 with ⟨e1, _⟩ | ⟨g', cap', cur, e1, _, e3, _⟩
    · cases e1
    · cases e1; exact ⟨cur, e3⟩
  have hlen : (L ++ [x]).length = L.length + 1 := by rw [List.length_append, List.length_singleton]
  have hgv := (h1.row.lt gv rfl).1
  refine ⟨?_, ?_, ?_, (h1.low.grown hg h1.size (fun q e => ((h1.ints x hx).lt q e).1)).setCell (p := ⟨gv, L.length * 2 + 1, none⟩) hgv _, by rw [World.size_setCell]; exact Nat.le_trans h1.size hg.size⟩
  · have hn : n = (L ++ [x]).length := by
      rcases r2.2 with ⟨e1, _⟩ | ⟨g', cap', cur, e1, _⟩
      · cases e1
      · cases e1; rfl
    subst hn
    have r3 := own_cell r2 (L.length * 2 + 1) (.slice (some ⟨g, 0, none⟩) l'.length cap)
    rw [show (flatL (L ++ [x])).set (L.length * 2 + 1) (.slice (some ⟨g, 0, none⟩) l'.length cap) = flatL (L ++ [⟨x.ms, some ⟨g, 0, none⟩, cap, l'⟩]) from flatL_last x ⟨x.ms, some ⟨g, 0, none⟩, cap, l'⟩ rfl L] at r3
    simp only [List.length_append, List.length_singleton] at r3 ⊢
    exact r3
  · intro y hy
    rcases List.mem_append.1 hy with hy | hy
    · have hy2 : y ∈ L ++ [x] := List.mem_append_left _ hy
      exact own_put (own_grown (h1.ints y hy2) hg (fun q e e2 => hap y hy x (List.mem_singleton.2 rfl) q e e2.symm)) hcur int_line.symm _ _
    · rw [List.mem_singleton.1 hy]
      exact own_put hr hcur int_line.symm _ _
  · obtain ⟨p1, -, -⟩ := List.pairwise_append.1 h.apart
    refine List.pairwise_append.2 ⟨p1, List.pairwise_singleton .., fun y hy z hz q e e2 => ?_⟩
    rw [List.mem_singleton.1 hz] at e2
    have e2 : g = q := by simpa [LN.sl, Value.ownBlock] using e2
    subst e2
    rcases hor with ho | ho
    · exact hap y hy x (List.mem_singleton.2 rfl) g e ho
    · have a2 := ((h.ints y (List.mem_append_left _ hy)).lt g e).2
      have := hb.size
      omega
end
end Go.Proofs.YtlkkociijfdcgaaGreatDoor
