/-
  strings.Builder: copyCheck, WriteString, WriteByte laid at this program.
-/
import Derived.Test.YtnpehnfcccdcbaaGreatDoorShelf
import Derived.Shelf.Strings.Builder1
import Derived.Shelf.Strings.BuilderK
import Derived.Test.YtnpehnfcccdcbaaGreatDoorDY
import Derived.Test.YtnpehnfcccdcbaaGreatDoorYB
namespace Go.Proofs.YtnpehnfcccdcbaaGreatDoor
open Go.Shelf Go.RowKit

def Tryz.bl166_ren : Go.Shelf.Ren := ⟨fun | 166 => 23 | 240 => 50 | 276 => 64 | n => n, fun | 0 => 0 | 3 => 3 | 4 => 4 | 5 => 5 | 9 => 9 | 20 => 20 | 37 => 70 | 70 => 69 | 72 => 72 | 75 => 74 | 80 => 79 | 164 => 127 | n => n, fun n => n⟩
theorem Tryz.bl166 : Go.Proofs.Lays.n166 Tryz.prog Tryz.bl166_ren := {
  mixed := by kernel_rfl
  f166 := Tryz.func23.trans (congrArg some (by kernel_rfl))
  f240 := Tryz.func50.trans (congrArg some (by kernel_rfl))
  f276 := Tryz.func64.trans (congrArg some (by kernel_rfl))
  t0 := Tryz.underlying0
  a0 := Tryz.isAgg0
  z0 := Tryz.sizeOf0
  v0 := Tryz.zeroValue0
  t3 := Tryz.underlying3
  a3 := Tryz.isAgg3
  z3 := Tryz.sizeOf3
  v3 := Tryz.zeroValue3
  t4 := Tryz.underlying4
  a4 := Tryz.isAgg4
  z4 := Tryz.sizeOf4
  v4 := Tryz.zeroValue4
  t9 := Tryz.underlying9
  a9 := Tryz.isAgg9
  z9 := Tryz.sizeOf9
  v9 := Tryz.zeroValue9
  t20 := Tryz.underlying20
  a20 := Tryz.isAgg20
  z20 := Tryz.sizeOf20
  v20 := Tryz.zeroValue20
  t37 := Tryz.underlying70
  a37 := Tryz.isAgg70
  z37 := Tryz.sizeOf70
  v37 := Tryz.zeroValue70
  t70 := Tryz.underlying69
  a70 := Tryz.isAgg69
  z70 := Tryz.sizeOf69
  v70 := Tryz.zeroValue69
  t72 := Tryz.underlying72
  a72 := Tryz.isAgg72
  z72 := Tryz.sizeOf72
  v72 := Tryz.zeroValue72
  t75 := Tryz.underlying74
  a75 := Tryz.isAgg74
  z75 := Tryz.sizeOf74
  v75 := Tryz.zeroValue74
  t164 := Tryz.underlying127
  a164 := Tryz.isAgg127
  z164 := Tryz.sizeOf127
  v164 := Tryz.zeroValue127 }
theorem Tryz.bx166 : Builder.Extra Tryz.prog Tryz.bl166_ren := {
  sizeBuilder := by kernel_rfl
  liesBuilder := by kernel_rfl
  t5 := Tryz.underlying5
  a5 := Tryz.isAgg5
  z5 := Tryz.sizeOf5
  v5 := Tryz.zeroValue5
  infoByte := by kernel_rfl
  cellsByte := by kernel_rfl
  sizeByte := by kernel_rfl
  neB5 := by decide }
def Tryz.bl167_ren : Go.Shelf.Ren := ⟨fun | 167 => 25 | 240 => 50 | 276 => 64 | n => n, fun | 0 => 0 | 3 => 3 | 4 => 4 | 5 => 5 | 9 => 9 | 20 => 20 | 37 => 70 | 70 => 69 | 72 => 72 | 75 => 74 | 80 => 79 | 164 => 127 | n => n, fun n => n⟩
theorem Tryz.bl167 : Go.Proofs.Lays.n167 Tryz.prog Tryz.bl167_ren := {
  mixed := by kernel_rfl
  f167 := Tryz.func25.trans (congrArg some (by kernel_rfl))
  f240 := Tryz.func50.trans (congrArg some (by kernel_rfl))
  f276 := Tryz.func64.trans (congrArg some (by kernel_rfl))
  t0 := Tryz.underlying0
  a0 := Tryz.isAgg0
  z0 := Tryz.sizeOf0
  v0 := Tryz.zeroValue0
  t4 := Tryz.underlying4
  a4 := Tryz.isAgg4
  z4 := Tryz.sizeOf4
  v4 := Tryz.zeroValue4
  t5 := Tryz.underlying5
  a5 := Tryz.isAgg5
  z5 := Tryz.sizeOf5
  v5 := Tryz.zeroValue5
  t9 := Tryz.underlying9
  a9 := Tryz.isAgg9
  z9 := Tryz.sizeOf9
  v9 := Tryz.zeroValue9
  t20 := Tryz.underlying20
  a20 := Tryz.isAgg20
  z20 := Tryz.sizeOf20
  v20 := Tryz.zeroValue20
  t37 := Tryz.underlying70
  a37 := Tryz.isAgg70
  z37 := Tryz.sizeOf70
  v37 := Tryz.zeroValue70
  t70 := Tryz.underlying69
  a70 := Tryz.isAgg69
  z70 := Tryz.sizeOf69
  v70 := Tryz.zeroValue69
  t72 := Tryz.underlying72
  a72 := Tryz.isAgg72
  z72 := Tryz.sizeOf72
  v72 := Tryz.zeroValue72
  t75 := Tryz.underlying74
  a75 := Tryz.isAgg74
  z75 := Tryz.sizeOf74
  v75 := Tryz.zeroValue74
  t164 := Tryz.underlying127
  a164 := Tryz.isAgg127
  z164 := Tryz.sizeOf127
  v164 := Tryz.zeroValue127 }
theorem Tryz.bx167 : Builder.Extra Tryz.prog Tryz.bl167_ren := {
  sizeBuilder := by kernel_rfl
  liesBuilder := by kernel_rfl
  t5 := Tryz.underlying5
  a5 := Tryz.isAgg5
  z5 := Tryz.sizeOf5
  v5 := Tryz.zeroValue5
  infoByte := by kernel_rfl
  cellsByte := by kernel_rfl
  sizeByte := by kernel_rfl
  neB5 := by decide }
/-- WriteString. -/
theorem writeString_any (B b : Nat) (bs : List Value) (s : ByteArray) (w : World) (h : Lib.IsBuilder 72 5 B b bs w) (hlen : bs.length + s.size ≤ 140737488355328) (hBw : B ≤ w.heap.size) :
    Calls Tryz.prog 23 #[.pointer (some ⟨b, 0, none⟩), .string s] w fun e w' => e = .returned (.tuple #[.int .i64 s.size, .nilIface]) ∧ (Lib.BuilderAt 72 5 B b (.pointer (some ⟨b, 0, none⟩)) (bs ++ Lib.strCells s) w' ∧ Below B w w') := Any.Builder_WriteString Tryz.bl166 Tryz.bx166 B b bs s w h hlen hBw
/-- WriteByte. -/
theorem writeByte_any (B b : Nat) (bs : List Value) (c : Int) (w : World) (h : Lib.IsBuilder 72 5 B b bs w) (hlen : bs.length + 1 ≤ 140737488355328) (hBw : B ≤ w.heap.size) :
    Calls Tryz.prog 25 #[.pointer (some ⟨b, 0, none⟩), .int .u8 c] w fun e w' => e = .returned .nilIface ∧ (Lib.BuilderAt 72 5 B b (.pointer (some ⟨b, 0, none⟩)) (bs ++ [.int .u8 c]) w' ∧ Below B w w') := Any.Builder_WriteByte Tryz.bl167 Tryz.bx167 B b bs c w h hlen hBw
end Go.Proofs.YtnpehnfcccdcbaaGreatDoor

namespace Go.Proofs.YtnpehnfcccdcbaaGreatDoor
open Go.RowKit

/-- A builder of the call's own, in block b, that holds the bytes l. -/
def SB (B b : Nat) (l : List UInt8) (w : World) : Prop := Lib.IsBuilder 72 5 B b (Lib.byteCells l) w
theorem owns_below {w w' : World} {B E n len : Nat} {v : Value} {xs : List Value} (h : w.ownsRow B E n v len xs) (hb : Below w.heap.size w w') : w'.ownsRow B E n v len xs := by
  rcases h.2 with ⟨e1, e2⟩ | ⟨gg, cap, cur, e1, e2, e3, e4⟩
  · exact ⟨h.1, Or.inl ⟨e1, e2⟩⟩
  · exact ⟨h.1, Or.inr ⟨gg, cap, cur, e1, e2, (hb.block gg (heap_lt e3)).trans e3, e4⟩⟩
theorem SB.below {B b : Nat} {l : List UInt8} {w w' : World} (h : SB B b l w) (hb : Below w.heap.size w w') : SB B b l w' := by
  rcases h with ⟨h1, v, h2, h3, h4⟩ | ⟨h1, v, h2, h3, h4⟩
  · exact Or.inl ⟨h1, v, (hb.block _ (heap_lt h2)).trans h2, owns_below h3 hb, h4⟩
  · exact Or.inr ⟨h1, v, (hb.block _ (heap_lt h2)).trans h2, owns_below h3 hb, h4⟩
theorem SB.lt {B b : Nat} {l : List UInt8} {w : World} (h : SB B b l w) : b < w.heap.size := by
  rcases h with h | h <;> exact h.lt
theorem SB.new (w : World) : SB w.heap.size w.heap.size [] (w.alloc (.cells #[.pointer none, .slice none 0 0] 72)) := Lib.fresh_isBuilder _ _ _
theorem sb_string (B b : Nat) (l : List UInt8) (t : List UInt8) (w : World) (h : SB B b l w) (hl : l.length + t.length ≤ 1000000) (hB : B ≤ w.heap.size) :
    Calls Tryz.prog 23 #[.pointer (some ⟨b, 0, none⟩), .string (bs t)] w fun e w' => (∃ k : Int, e = .returned (.tuple #[.int .i64 k, .nilIface])) ∧ SB B b (l ++ t) w' ∧ Below B w w' := by
  refine (writeString_any B b _ (bs t) w h (by rw [Lib.byteCells_length, bs_size]; omega) hB).mono ?_
  rintro e w' ⟨rfl, h1, h2⟩
  refine ⟨⟨_, rfl⟩, Or.inr ?_, h2⟩
  rw [Lib.byteCells_append]
  exact h1
theorem sb_byte (B b : Nat) (l : List UInt8) (c : UInt8) (w : World) (h : SB B b l w) (hl : l.length ≤ 1000000) (hB : B ≤ w.heap.size) :
    Calls Tryz.prog 25 #[.pointer (some ⟨b, 0, none⟩), .int .u8 (c.toNat : Int)] w fun e w' => e = .returned .nilIface ∧ SB B b (l ++ [c]) w' ∧ Below B w w' := by
  refine (writeByte_any B b _ (c.toNat : Int) w h (by rw [Lib.byteCells_length]; omega) hB).mono ?_
  rintro e w' ⟨rfl, h1, h2⟩
  refine ⟨rfl, Or.inr ?_, h2⟩
  rw [Lib.byteCells_append]
  exact h1
theorem sb_nl (B b : Nat) (l : List UInt8) (w : World) (h : SB B b l w) (hl : l.length ≤ 1000000) (hB : B ≤ w.heap.size) :
    Calls Tryz.prog 25 #[.pointer (some ⟨b, 0, none⟩), .int .u8 10] w fun e w' => e = .returned .nilIface ∧ SB B b (l ++ [10]) w' ∧ Below B w w' := sb_byte B b l 10 w h hl hB
theorem sb_sp (B b : Nat) (l : List UInt8) (w : World) (h : SB B b l w) (hl : l.length ≤ 1000000) (hB : B ≤ w.heap.size) :
    Calls Tryz.prog 25 #[.pointer (some ⟨b, 0, none⟩), .int .u8 32] w fun e w' => e = .returned .nilIface ∧ SB B b (l ++ [32]) w' ∧ Below B w w' := sb_byte B b l 32 w h hl hB
theorem sb_text (B b : Nat) (l : List UInt8) (w : World) (h : SB B b l w) (hB : B ≤ w.heap.size) :
    Calls Tryz.prog 26 #[.pointer (some ⟨b, 0, none⟩)] w fun e w' => e = .returned (.string (bs l)) ∧ Below B w w' := Tryz.Builder_String_any B b l w h hB

theorem cellsT_snoc (C : Nat) : ∀ (a : List Cell) (i : Nat) (x : Cell), cellsT C i (a ++ [x]) = cellsT C i a ++ cellT x ++ (if (i + a.length + 1) % C = 0 then [10] else [32])
  | [], i, x => by
    show cellT x ++ (if (i + 1) % C = 0 then [10] else [32]) ++ [] = [] ++ cellT x ++ (if (i + 0 + 1) % C = 0 then [10] else [32])
    rw [List.append_nil]; try rfl
  | y :: a, i, x => by
    show cellT y ++ (if (i + 1) % C = 0 then [10] else [32]) ++ cellsT C (i + 1) (a ++ [x]) = _
    rw [cellsT_snoc C a (i + 1) x, List.length_cons, show i + (a.length + 1) + 1 = i + 1 + a.length + 1 by omega]
    show _ = cellT y ++ (if (i + 1) % C = 0 then [10] else [32]) ++ cellsT C (i + 1) a ++ cellT x ++ _
    simp only [List.append_assoc]
theorem schErr_all {m : Int} : ∀ {L : List Cell} {S : List Int} {i : Int}, (schErr m L S i).2 = 0 → ∀ x ∈ L, cellB m x = true
  | [], _, _, _, _, h => absurd h List.not_mem_nil
  | y :: L, S, i, h, x, hx => by
    unfold schErr at h
    by_cases h1 : cellB m y = false
    · rw [if_pos h1] at h; exact absurd h (by simp)
    · rw [if_neg h1] at h
      by_cases h2 : dblB S y = true
      · rw [if_pos h2] at h; exact absurd h (by simp)
      · rw [if_neg h2] at h
        rcases List.mem_cons.1 hx with rfl | hx
        · exact (by simpa using h1)
        · exact schErr_all h x hx
/-- What is known of a right scheme. -/
theorem sc_right {C R : Int} {l : List Cell} (h : (checkSc C R l).2 = 0) : (1 ≤ C ∧ C ≤ 8) ∧ (1 ≤ R ∧ R ≤ 8) ∧ (l.length : Int) = C * R ∧ l.length ≤ 32 ∧ ∀ x ∈ l, cellB (2 * l.length) x = true := by
  unfold checkSc at h
  by_cases h1 : cellsErr C R l.length = 0
  · rw [if_neg (by simp [h1])] at h
    obtain ⟨hs, hn⟩ := cells_ok h1
    obtain ⟨sC, sR, sm⟩ := side_ok hs
    exact ⟨sC, sR, hn, by omega, schErr_all h⟩
  · rw [if_pos h1] at h; exact absurd h h1
theorem sc_small {C R : Int} {l : List Cell} (h : (checkSc C R l).2 = 0) : ∀ x ∈ l, CellSm x := fun x hx => by
  obtain ⟨-, -, -, h4, h5⟩ := sc_right h
  obtain ⟨a, b, c, d⟩ := cellB_in (h5 x hx)
  unfold CellSm; omega
theorem cellT_len {x : Cell} (h : CellSm x) : (cellT x).length ≤ 92 := by
  have := joinN_len 47 (L := [Lib.itoa x.f, Lib.itoa x.ft, Lib.itoa x.b, Lib.itoa x.bt]) fun y hy => by
    have ok : ∀ v : Int, v.natAbs < 10000 → (Lib.itoa v).length ≤ 22 := fun v hv => by have := itoa_len21 (OkI.of (n := v) (by omega)); omega
    obtain ⟨a, b, c, d⟩ := h
    simp only [List.mem_cons, List.not_mem_nil, or_false] at hy
    rcases hy with rfl | rfl | rfl | rfl <;> (apply ok; assumption)
  exact this
theorem headT_len {C R : Int} (h1 : C.natAbs < 10000) (h2 : R.natAbs < 10000) : (headT C R).length ≤ 46 := by
  have := joinN_len 32 (L := [Lib.itoa C, Lib.itoa R]) fun y hy => by
    have ok : ∀ v : Int, v.natAbs < 10000 → (Lib.itoa v).length ≤ 22 := fun v hv => by have := itoa_len21 (OkI.of (n := v) (by omega)); omega
    simp only [List.mem_cons, List.not_mem_nil, or_false] at hy
    rcases hy with rfl | rfl <;> (apply ok; assumption)
  exact this
theorem cellsT_len {C : Nat} : ∀ {l : List Cell} {i : Nat}, (∀ x ∈ l, CellSm x) → (cellsT C i l).length ≤ 93 * l.length
  | [], _, _ => Nat.le_refl _
  | y :: l, i, h => by
    show (cellT y ++ (if (i + 1) % C = 0 then [10] else [32]) ++ cellsT C (i + 1) l).length ≤ _
    have h1 := cellsT_len (C := C) (l := l) (i := i + 1) fun x hx => h x (List.mem_cons_of_mem _ hx)
    have h2 := cellT_len (h y List.mem_cons_self)
    have h3 : (if (i + 1) % C = 0 then ([10] : List UInt8) else [32]).length = 1 := by split <;> rfl
    rw [List.length_append, List.length_append, h3, List.length_cons]; omega
def printRes (C R : Int) (l : List Cell) : List UInt8 × Int := if (checkSc C R l).2 ≠ 0 then ([], (checkSc C R l).2) else (printT C.toNat R.toNat l, 0)
end Go.Proofs.YtnpehnfcccdcbaaGreatDoor
