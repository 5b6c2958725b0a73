/-
  strings.Builder: copyCheck, WriteString, WriteByte laid at this program.
-/
import Derived.Test.YtgoandhlcekmiaaGreatDoorShelf
import Derived.Shelf.Strings.Builder1
import Derived.Shelf.Strings.BuilderK
import Derived.Test.YtgoandhlcekmiaaGreatDoorKT
import Derived.Test.YtgoandhlcekmiaaGreatDoorYB
namespace Go.Proofs.YtgoandhlcekmiaaGreatDoor
open Go.Shelf Go.RowKit

def Tryz.bl166_ren : Go.Shelf.Ren := ⟨fun | 166 => 29 | 240 => 60 | 276 => 80 | n => n, fun | 0 => 0 | 3 => 3 | 4 => 4 | 5 => 5 | 9 => 9 | 20 => 20 | 37 => 83 | 70 => 82 | 72 => 85 | 75 => 87 | 80 => 92 | 164 => 155 | n => n, fun n => n⟩
theorem Tryz.bl166 : Go.Proofs.Lays.n166 Tryz.prog Tryz.bl166_ren := {
  mixed := by kernel_rfl
  f166 := Tryz.func29.trans (congrArg some (by kernel_rfl))
  f240 := Tryz.func60.trans (congrArg some (by kernel_rfl))
  f276 := Tryz.func80.trans (congrArg some (by kernel_rfl))
  t0 := Tryz.underlying0
  a0 := Tryz.isAgg0
  z0 := Tryz.sizeOf0
  v0 := Tryz.zeroValue0
  t3 := Tryz.underlying3
  a3 := Tryz.isAgg3
  z3 := Tryz.sizeOf3
  v3 := Tryz.zeroValue3
  t4 := Tryz.underlying4
  a4 := Tryz.isAgg4
  z4 := Tryz.sizeOf4
  v4 := Tryz.zeroValue4
  t9 := Tryz.underlying9
  a9 := Tryz.isAgg9
  z9 := Tryz.sizeOf9
  v9 := Tryz.zeroValue9
  t20 := Tryz.underlying20
  a20 := Tryz.isAgg20
  z20 := Tryz.sizeOf20
  v20 := Tryz.zeroValue20
  t37 := Tryz.underlying83
  a37 := Tryz.isAgg83
  z37 := Tryz.sizeOf83
  v37 := Tryz.zeroValue83
  t70 := Tryz.underlying82
  a70 := Tryz.isAgg82
  z70 := Tryz.sizeOf82
  v70 := Tryz.zeroValue82
  t72 := Tryz.underlying85
  a72 := Tryz.isAgg85
  z72 := Tryz.sizeOf85
  v72 := Tryz.zeroValue85
  t75 := Tryz.underlying87
  a75 := Tryz.isAgg87
  z75 := Tryz.sizeOf87
  v75 := Tryz.zeroValue87
  t164 := Tryz.underlying155
  a164 := Tryz.isAgg155
  z164 := Tryz.sizeOf155
  v164 := Tryz.zeroValue155 }
theorem Tryz.bx166 : Builder.Extra Tryz.prog Tryz.bl166_ren := {
  sizeBuilder := by kernel_rfl
  liesBuilder := by kernel_rfl
  t5 := Tryz.underlying5
  a5 := Tryz.isAgg5
  z5 := Tryz.sizeOf5
  v5 := Tryz.zeroValue5
  infoByte := by kernel_rfl
  cellsByte := by kernel_rfl
  sizeByte := by kernel_rfl
  neB5 := by decide }
def Tryz.bl167_ren : Go.Shelf.Ren := ⟨fun | 167 => 31 | 240 => 60 | 276 => 80 | n => n, fun | 0 => 0 | 3 => 3 | 4 => 4 | 5 => 5 | 9 => 9 | 20 => 20 | 37 => 83 | 70 => 82 | 72 => 85 | 75 => 87 | 80 => 92 | 164 => 155 | n => n, fun n => n⟩
theorem Tryz.bl167 : Go.Proofs.Lays.n167 Tryz.prog Tryz.bl167_ren := {
  mixed := by kernel_rfl
  f167 := Tryz.func31.trans (congrArg some (by kernel_rfl))
  f240 := Tryz.func60.trans (congrArg some (by kernel_rfl))
  f276 := Tryz.func80.trans (congrArg some (by kernel_rfl))
  t0 := Tryz.underlying0
  a0 := Tryz.isAgg0
  z0 := Tryz.sizeOf0
  v0 := Tryz.zeroValue0
  t4 := Tryz.underlying4
  a4 := Tryz.isAgg4
  z4 := Tryz.sizeOf4
  v4 := Tryz.zeroValue4
  t5 := Tryz.underlying5
  a5 := Tryz.isAgg5
  z5 := Tryz.sizeOf5
  v5 := Tryz.zeroValue5
  t9 := Tryz.underlying9
  a9 := Tryz.isAgg9
  z9 := Tryz.sizeOf9
  v9 := Tryz.zeroValue9
  t20 := Tryz.underlying20
  a20 := Tryz.isAgg20
  z20 := Tryz.sizeOf20
  v20 := Tryz.zeroValue20
  t37 := Tryz.underlying83
  a37 := Tryz.isAgg83
  z37 := Tryz.sizeOf83
  v37 := Tryz.zeroValue83
  t70 := Tryz.underlying82
  a70 := Tryz.isAgg82
  z70 := Tryz.sizeOf82
  v70 := Tryz.zeroValue82
  t72 := Tryz.underlying85
  a72 := Tryz.isAgg85
  z72 := Tryz.sizeOf85
  v72 := Tryz.zeroValue85
  t75 := Tryz.underlying87
  a75 := Tryz.isAgg87
  z75 := Tryz.sizeOf87
  v75 := Tryz.zeroValue87
  t164 := Tryz.underlying155
  a164 := Tryz.isAgg155
  z164 := Tryz.sizeOf155
  v164 := Tryz.zeroValue155 }
theorem Tryz.bx167 : Builder.Extra Tryz.prog Tryz.bl167_ren := {
  sizeBuilder := by kernel_rfl
  liesBuilder := by kernel_rfl
  t5 := Tryz.underlying5
  a5 := Tryz.isAgg5
  z5 := Tryz.sizeOf5
  v5 := Tryz.zeroValue5
  infoByte := by kernel_rfl
  cellsByte := by kernel_rfl
  sizeByte := by kernel_rfl
  neB5 := by decide }
/-- WriteString. -/
theorem writeString_any (B b : Nat) (bs : List Value) (s : ByteArray) (w : World) (h : Lib.IsBuilder 85 5 B b bs w) (hlen : bs.length + s.size ≤ 140737488355328) (hBw : B ≤ w.heap.size) :
    Calls Tryz.prog 29 #[.pointer (some ⟨b, 0, none⟩), .string s] w fun e w' => e = .returned (.tuple #[.int .i64 s.size, .nilIface]) ∧ (Lib.BuilderAt 85 5 B b (.pointer (some ⟨b, 0, none⟩)) (bs ++ Lib.strCells s) w' ∧ Below B w w') := Any.Builder_WriteString Tryz.bl166 Tryz.bx166 B b bs s w h hlen hBw
/-- WriteByte. -/
theorem writeByte_any (B b : Nat) (bs : List Value) (c : Int) (w : World) (h : Lib.IsBuilder 85 5 B b bs w) (hlen : bs.length + 1 ≤ 140737488355328) (hBw : B ≤ w.heap.size) :
    Calls Tryz.prog 31 #[.pointer (some ⟨b, 0, none⟩), .int .u8 c] w fun e w' => e = .returned .nilIface ∧ (Lib.BuilderAt 85 5 B b (.pointer (some ⟨b, 0, none⟩)) (bs ++ [.int .u8 c]) w' ∧ Below B w w') := Any.Builder_WriteByte Tryz.bl167 Tryz.bx167 B b bs c w h hlen hBw
end Go.Proofs.YtgoandhlcekmiaaGreatDoor

namespace Go.Proofs.YtgoandhlcekmiaaGreatDoor
open Go.RowKit

/-- A builder of the call's own, in block b, that holds the bytes l. -/
def SB (B b : Nat) (l : List UInt8) (w : World) : Prop := Lib.IsBuilder 85 5 B b (Lib.byteCells l) w
theorem owns_below {w w' : World} {B E n len : Nat} {v : Value} {xs : List Value} (h : w.ownsRow B E n v len xs) (hb : Below w.heap.size w w') : w'.ownsRow B E n v len xs := by
  rcases h.2 with ⟨e1, e2⟩ | ⟨gg, cap, cur, e1, e2, e3, e4⟩
  · exact ⟨h.1, Or.inl ⟨e1, e2⟩⟩
  · exact ⟨h.1, Or.inr ⟨gg, cap, cur, e1, e2, (hb.block gg (heap_lt e3)).trans e3, e4⟩⟩
theorem SB.below {B b : Nat} {l : List UInt8} {w w' : World} (h : SB B b l w) (hb : Below w.heap.size w w') : SB B b l w' := by
  rcases h with ⟨h1, v, h2, h3, h4⟩ | ⟨h1, v, h2, h3, h4⟩
  · exact Or.inl ⟨h1, v, (hb.block _ (heap_lt h2)).trans h2, owns_below h3 hb, h4⟩
  · exact Or.inr ⟨h1, v, (hb.block _ (heap_lt h2)).trans h2, owns_below h3 hb, h4⟩
theorem SB.lt {B b : Nat} {l : List UInt8} {w : World} (h : SB B b l w) : b < w.heap.size := by
  rcases h with h | h <;> exact h.lt
theorem SB.new (w : World) : SB w.heap.size w.heap.size [] (w.alloc (.cells #[.pointer none, .slice none 0 0] 85)) := Lib.fresh_isBuilder _ _ _
theorem sb_string (B b : Nat) (l : List UInt8) (t : List UInt8) (w : World) (h : SB B b l w) (hl : l.length + t.length ≤ 1000000) (hB : B ≤ w.heap.size) :
    Calls Tryz.prog 29 #[.pointer (some ⟨b, 0, none⟩), .string (bs t)] w fun e w' => (∃ k : Int, e = .returned (.tuple #[.int .i64 k, .nilIface])) ∧ SB B b (l ++ t) w' ∧ Below B w w' := by
  refine (writeString_any B b _ (bs t) w h (by rw [Lib.byteCells_length, bs_size]; omega) hB).mono ?_
  rintro e w' ⟨rfl, h1, h2⟩
  refine ⟨⟨_, rfl⟩, Or.inr ?_, h2⟩
  rw [Lib.byteCells_append]
  exact h1
theorem sb_byte (B b : Nat) (l : List UInt8) (c : UInt8) (w : World) (h : SB B b l w) (hl : l.length ≤ 1000000) (hB : B ≤ w.heap.size) :
    Calls Tryz.prog 31 #[.pointer (some ⟨b, 0, none⟩), .int .u8 (c.toNat : Int)] w fun e w' => e = .returned .nilIface ∧ SB B b (l ++ [c]) w' ∧ Below B w w' := by
  refine (writeByte_any B b _ (c.toNat : Int) w h (by rw [Lib.byteCells_length]; omega) hB).mono ?_
  rintro e w' ⟨rfl, h1, h2⟩
  refine ⟨rfl, Or.inr ?_, h2⟩
  rw [Lib.byteCells_append]
  exact h1
theorem sb_nl (B b : Nat) (l : List UInt8) (w : World) (h : SB B b l w) (hl : l.length ≤ 1000000) (hB : B ≤ w.heap.size) :
    Calls Tryz.prog 31 #[.pointer (some ⟨b, 0, none⟩), .int .u8 10] w fun e w' => e = .returned .nilIface ∧ SB B b (l ++ [10]) w' ∧ Below B w w' := sb_byte B b l 10 w h hl hB
theorem sb_sp (B b : Nat) (l : List UInt8) (w : World) (h : SB B b l w) (hl : l.length ≤ 1000000) (hB : B ≤ w.heap.size) :
    Calls Tryz.prog 31 #[.pointer (some ⟨b, 0, none⟩), .int .u8 32] w fun e w' => e = .returned .nilIface ∧ SB B b (l ++ [32]) w' ∧ Below B w w' := sb_byte B b l 32 w h hl hB
theorem sb_text (B b : Nat) (l : List UInt8) (w : World) (h : SB B b l w) (hB : B ≤ w.heap.size) :
    Calls Tryz.prog 32 #[.pointer (some ⟨b, 0, none⟩)] w fun e w' => e = .returned (.string (bs l)) ∧ Below B w w' := Tryz.Builder_String_any B b l w h hB

theorem cellsT_snoc (C : Nat) : ∀ (a : List Cell) (i : Nat) (x : Cell), cellsT C i (a ++ [x]) = cellsT C i a ++ cellT x ++ (if (i + a.length + 1) % C = 0 then [10] else [32])
  | [], i, x => by
    show cellT x ++ (if (i + 1) % C = 0 then [10] else [32]) ++ [] = [] ++ cellT x ++ (if (i + 0 + 1) % C = 0 then [10] else [32])
    rw [List.append_nil]; try rfl
  | y :: a, i, x => by
    show cellT y ++ (if (i + 1) % C = 0 then [10] else [32]) ++ cellsT C (i + 1) (a ++ [x]) = _
    rw [cellsT_snoc C a (i + 1) x, List.length_cons, show i + (a.length + 1) + 1 = i + 1 + a.length + 1 by omega]
    show _ = cellT y ++ (if (i + 1) % C = 0 then [10] else [32]) ++ cellsT C (i + 1) a ++ cellT x ++ _
    simp only [List.append_assoc]
theorem schErr_all {m : Int} : ∀ {L : List Cell} {S : List Int} {i : Int}, (schErr m L S i).2 = 0 → ∀ x ∈ L, cellB m x = true
  | [], _, _, _, _, h => absurd h List.not_mem_nil
  | y :: L, S, i, h, x, hx => by
    unfold schErr at h
    by_cases h1 : cellB m y = false
    · rw [if_pos h1] at h; exact absurd h (by simp)
    · rw [if_neg h1] at h
      by_cases h2 : dblB S y = true
      · rw [if_pos h2] at h; exact absurd h (by simp)
      · rw [if_neg h2] at h
        rcases List.mem_cons.1 hx with rfl | hx
        · exact (by simpa using h1)
        · exact schErr_all h x hx
/-- What is known of a right scheme. -/
theorem sc_right {C R : Int} {l : List Cell} (h : (checkSc C R l).2 = 0) : (1 ≤ C ∧ C ≤ 8) ∧ (1 ≤ R ∧ R ≤ 8) ∧ (l.length : Int) = C * R ∧ l.length ≤ 32 ∧ ∀ x ∈ l, cellB (2 * l.length) x = true := by
  unfold checkSc at h
  by_cases h1 : cellsErr C R l.length = 0
  · rw [if_neg (by simp [h1])] at h
    obtain ⟨hs, hn⟩ := cells_ok h1
    obtain ⟨sC, sR, sm⟩ := side_ok hs
    exact ⟨sC, sR, hn, by omega, schErr_all h⟩
  · rw [if_pos h1] at h; exact absurd h h1
theorem sc_small {C R : Int} {l : List Cell} (h : (checkSc C R l).2 = 0) : ∀ x ∈ l, CellSm x := fun x hx => by
  obtain ⟨-, -, -, h4, h5⟩ := sc_right h
  obtain ⟨a, b, c, d⟩ := cellB_in (h5 x hx)
  unfold CellSm; omega
theorem cellT_len {x : Cell} (h : CellSm x) : (cellT x).length ≤ 92 := by
  have := joinN_len 47 (L := [Lib.itoa x.f, Lib.itoa x.ft, Lib.itoa x.b, Lib.itoa x.bt]) fun y hy => by
    have ok : ∀ v : Int, v.natAbs < 10000 → (Lib.itoa v).length ≤ 22 := fun v hv => by have := itoa_len21 (OkI.of (n := v) (by omega)); omega
    obtain ⟨a, b, c, d⟩ := h
    simp only [List.mem_cons, List.not_mem_nil, or_false] at hy
    rcases hy with rfl | rfl | rfl | rfl <;> (apply ok; assumption)
  exact this
theorem headT_len {C R : Int} (h1 : C.natAbs < 10000) (h2 : R.natAbs < 10000) : (headT C R).length ≤ 46 := by
  have := joinN_len 32 (L := [Lib.itoa C, Lib.itoa R]) fun y hy => by
    have ok : ∀ v : Int, v.natAbs < 10000 → (Lib.itoa v).length ≤ 22 := fun v hv => by have := itoa_len21 (OkI.of (n := v) (by omega)); omega
    simp only [List.mem_cons, List.not_mem_nil, or_false] at hy
    rcases hy with rfl | rfl <;> (apply ok; assumption)
  exact this
theorem cellsT_len {C : Nat} : ∀ {l : List Cell} {i : Nat}, (∀ x ∈ l, CellSm x) → (cellsT C i l).length ≤ 93 * l.length
  | [], _, _ => Nat.le_refl _
  | y :: l, i, h => by
    show (cellT y ++ (if (i + 1) % C = 0 then [10] else [32]) ++ cellsT C (i + 1) l).length ≤ _
    have h1 := cellsT_len (C := C) (l := l) (i := i + 1) fun x hx => h x (List.mem_cons_of_mem _ hx)
    have h2 := cellT_len (h y List.mem_cons_self)
    have h3 : (if (i + 1) % C = 0 then ([10] : List UInt8) else [32]).length = 1 := by split <;> rfl
    rw [List.length_append, List.length_append, h3, List.length_cons]; omega
def printRes (C R : Int) (l : List Cell) : List UInt8 × Int := if (checkSc C R l).2 ≠ 0 then ([], (checkSc C R l).2) else (printT C.toNat R.toNat l, 0)
end Go.Proofs.YtgoandhlcekmiaaGreatDoor

namespace Go.Proofs.YtgoandhlcekmiaaGreatDoor
open Go.RowKit

/-- The text so far. -/
def prTo (C R : Nat) (l : List Cell) (k : Nat) : List UInt8 := headT C R ++ [10] ++ cellsT C 0 (l.take k)
theorem prTo_zero (C R : Nat) (l : List Cell) : prTo C R l 0 = headT C R ++ [10] := by
  unfold prTo; rw [List.take_zero]; exact List.append_nil _
theorem prTo_end (C R : Nat) (l : List Cell) : prTo C R l l.length = printT C R l := by unfold prTo printT; rw [List.take_length]
theorem prTo_nl {C R : Nat} {l : List Cell} {k : Nat} (hk : k < l.length) (h : (k + 1) % C = 0) : prTo C R l (k + 1) = prTo C R l k ++ cellT l[k] ++ [10] := by
  unfold prTo
  rw [List.take_succ_eq_append_getElem hk, cellsT_snoc, List.length_take, Nat.min_eq_left (by omega), Nat.zero_add, if_pos h]
  simp only [List.append_assoc]
theorem prTo_sp {C R : Nat} {l : List Cell} {k : Nat} (hk : k < l.length) (h : ¬ (k + 1) % C = 0) : prTo C R l (k + 1) = prTo C R l k ++ cellT l[k] ++ [32] := by
  unfold prTo
  rw [List.take_succ_eq_append_getElem hk, cellsT_snoc, List.length_take, Nat.min_eq_left (by omega), Nat.zero_add, if_neg h]
  simp only [List.append_assoc]
theorem prTo_len {C R : Nat} {l : List Cell} (h1 : C < 10000) (h2 : R < 10000) (h : ∀ x ∈ l, CellSm x) (k : Nat) : (prTo C R l k).length ≤ 47 + 93 * l.length := by
  unfold prTo
  have h3 := headT_len (C := (C : Int)) (R := (R : Int)) (by omega) (by omega)
  have h4 := cellsT_len (C := C) (l := l.take k) (i := 0) fun x hx => h x (List.mem_of_mem_take hx)
  rw [List.length_take] at h4
  simp only [List.length_append, List.length_cons, List.length_nil]; omega
set_option maxRecDepth 100000 in
set_option maxHeartbeats 1600000 in
theorem print_any (C R : Int) (a : Option Addr) (l : List Cell) (c : Nat) (w : World) (hP : WF w) (hL : RowsAt 4 Cell.l w a l) (hl : l.length ≤ 1000000) :
    Calls Tryz.prog 7 #[.agg #[.int .i64 C, .int .i64 R, .slice a l.length c]] w fun e w' => e = .returned (.tuple #[.string (bs (printRes C R l).1), .int .i64 (printRes C R l).2]) ∧ Below w.heap.size w w' := by
  have bx := BoxAt.new w #[.int .i64 C, .int .i64 R, .slice a l.length c] 29
  have hB1 := (Below.refl w.heap.size w).alloc (Nat.le_refl _) (.cells #[.int .i64 C, .int .i64 R, .slice a l.length c] 29)
  have hL1 := hL.alloc (.cells #[.int .i64 C, .int .i64 R, .slice a l.length c] 29)
  obtain ⟨m, hm⟩ : ∃ m, m = l.length := ⟨_, rfl⟩
  have HCS := Lib.hid (checkScheme_any C R a l c _ hL1 hl)
  obtain ⟨p, hp⟩ : ∃ p, p = printRes C R l := ⟨_, rfl⟩
  rw [← hp]
  by_cases h0 : (checkSc C R l).2 = 0
  · obtain ⟨⟨hC1, hC8⟩, ⟨hR1, hR8⟩, hn, h32, -⟩ := sc_right h0
    have hsm := sc_small h0
    have HF := Lib.hid (show p = (printT C.toNat R.toNat l, 0) by rw [hp]; unfold printRes; rw [if_neg (by simp [h0])])
    rw [h0] at HCS
    obtain ⟨Cn, hCn⟩ : ∃ Cn : Nat, C = Cn := ⟨C.toNat, by omega⟩
    obtain ⟨Rn, hRn⟩ : ∃ Rn : Nat, R = Rn := ⟨R.toNat, by omega⟩
    subst hCn hRn
    rw [Int.toNat_natCast, Int.toNat_natCast] at HF
    obtain ⟨k1, hk1⟩ : ∃ k1, k1 = (checkSc Cn Rn l).1 := ⟨_, rfl⟩
    rw [← hk1] at HCS
    rw [← hm] at HCS bx hB1 hL1
    rw [← hm] at h32
    have HSM := Lib.hid hsm
    have HM := Lib.hid hm
    clear hp h0 hk1 hsm hn hl hm
    rw [← HM.out]
    go_enter Tryz.func7, Tryz.ntmps7
    go_wp2_with fail
    refine HCS.out.mono ?_
    rintro e w2 ⟨rfl, hb2⟩
    have bx2 := bx.below hb2
    have hB2 := hB1.trans (hb2.mono hB1.size)
    have c0 := bx2.cell 0
    have c1 := bx2.cell 1
    have c2 := bx2.cell 2
    have hlt2 := bx2.lt
    simp at c0 c1 c2
    obtain ⟨b, hb⟩ : ∃ b, w2.heap.size = b := ⟨_, rfl⟩
    obtain ⟨w3, hw3⟩ : ∃ w3, w3 = w2.alloc (.cells #[.pointer none, .slice none 0 0] 85) := ⟨_, rfl⟩
    have sb3 : SB b b [] w3 := by rw [hw3, ← hb]; exact SB.new w2
    have z3 : w3.heap.size = b + 1 := by rw [hw3]; simp; omega
    have bx3 : BoxAt w3 w.heap.size #[.int .i64 (Cn : Int), .int .i64 (Rn : Int), .slice a m c] 29 := by rw [hw3]; exact bx2.alloc _
    have hB3 : Below w.heap.size w w3 := by rw [hw3]; exact hB2.alloc hB2.size _
    have HW3 := Lib.hid hw3
    have HB := Lib.hid hb
    clear hw3 bx bx2 hB1 hB2
    have hgb : w.heap.size < b := by omega
    clear hb
    go_wp2_with fail
    rw [← HW3.out, HB.out]
    obtain ⟨H, hH⟩ : ∃ H, H = headT (Cn : Int) (Rn : Int) := ⟨_, rfl⟩
    have hHl : H.length ≤ 46 := by rw [hH]; exact headT_len (by omega) (by omega)
    have HH := Lib.hid hH
    have hadd : ∀ W, (Op.stringOp .add (bs H) (⟨#[10]⟩ : ByteArray)).run Tryz.prog W = .ok (.string (bs (H ++ [10]))) W := fun W => bs_add H [10] (by simp; omega) W
    have hM := rows_lit int_l w3 3 [(Cn : Int), (Rn : Int)] _ rfl
    rw [z3] at hM
    have hB4 := hB3.alloc hB3.size (.cells #[.int .i64 (Cn : Int), .int .i64 (Rn : Int)] 3)
    refine (joined_any 32 (some ⟨b + 1, 0, none⟩) [(Cn : Int), (Rn : Int)] 2 2 _ rfl hM (by decide) (fun v hv => by
      simp only [List.mem_cons, List.not_mem_nil, or_false] at hv
      rcases hv with rfl | rfl <;> exact OkI.of (by omega)) (hP.below hB4)).mono ?_
    rintro e w4 ⟨rfl, hb4⟩
    have e4 : Lib.join ([(Cn : Int), (Rn : Int)].map Lib.itoa) [32] = H := HH.out.symm
    rw [e4]
    have sb4 := (sb3.below ((Below.refl _ _).alloc (Nat.le_refl _) (.cells #[.int .i64 (Cn : Int), .int .i64 (Rn : Int)] 3))).below hb4
    have bx4 := (bx3.alloc (.cells #[.int .i64 (Cn : Int), .int .i64 (Rn : Int)] 3)).below hb4
    have hB5 := hB4.trans (hb4.mono hB4.size)
    have hlb := sb4.lt
    clear hH hM hB4 hb4 e4 sb3 bx3 hB3 z3
    go_wp2_with fail
    refine (sb_string b b [] (H ++ [10]) w4 sb4 (by simp; omega) (by omega)).mono ?_
    rintro e w5 ⟨⟨kk, rfl⟩, sb5, hb5⟩
    rw [List.nil_append] at sb5
    have bx5 : BoxAt w5 w.heap.size #[.int .i64 (Cn : Int), .int .i64 (Rn : Int), .slice a m c] 29 := (hb5.block _ hgb).trans bx4
    have hB6 := hB5.trans (hb5.mono (by omega))
    have d0 := bx5.cell 0
    have d2 := bx5.cell 2
    simp at d0 d2
    have hz : prTo Cn Rn l 0 = H ++ [10] := by rw [prTo_zero, HH.out]
    rw [← hz] at sb5
    clear hz sb4 bx4 hB5 hlb hadd c0 c1 c2 hlt2
    go_wp2_with fail
    go_loopw [28] (fun i wr => ∃ k : Nat, k ≤ m ∧ i = .int .i64 k ∧ SB b b (prTo Cn Rn l k) wr ∧ BoxAt wr w.heap.size #[.int .i64 (Cn : Int), .int .i64 (Rn : Int), .slice a m c] 29 ∧ Below w.heap.size w wr ∧ b ≤ wr.heap.size) (fun i _ => m - (intOf i).toNat)
    case atStart => exact ⟨0, Nat.zero_le _, rfl, sb5, bx5, hB6, by have := sb5.lt; omega⟩
    case round =>
      obtain ⟨k, hk, rfl, sb, bx, hB, hbr⟩ := hrel
      clear sb5 bx5 hB6 d0 d2
      by_cases hlt : k < m
      · have hkl : k < l.length := by have := HM.out; omega
        have hkI : (k : Int) < (m : Int) := by omega
        obtain ⟨ad, rfl, had, s0, s1, s2, s3⟩ := (hL.below hB).cell hkl
        obtain ⟨x, ex⟩ : ∃ x, x = l[k] := ⟨_, rfl⟩
        rw [← ex] at s0 s1 s2 s3
        have hxs := HSM.out l[k] (List.getElem_mem hkl)
        rw [← ex] at hxs
        have HXL := Lib.hid (cellT_len hxs)
        have HLN := Lib.hid (show (prTo Cn Rn l k).length ≤ 100000 by have := prTo_len (C := Cn) (R := Rn) (by omega) (by omega) HSM.out k; have := HM.out; omega)
        have EX := Lib.hid ex
        clear ex
        obtain ⟨f, ft, bk, bt⟩ := x
        simp only at s0 s1 s2 s3
        obtain ⟨t, ht⟩ : ∃ t, t = cellT ⟨f, ft, bk, bt⟩ := ⟨_, rfl⟩
        have HT := Lib.hid ht
        have hM : RowsAt 1 intL ((wr.alloc (.cells #[.int .i64 f, .int .i64 ft, .int .i64 bk, .int .i64 bt] 57)).alloc (.cells #[.int .i64 f, .int .i64 ft, .int .i64 bk, .int .i64 bt] 3)) (some ⟨wr.heap.size + 1, 0, none⟩) [f, ft, bk, bt] := by
          have h := rows_lit int_l (wr.alloc (.cells #[.int .i64 f, .int .i64 ft, .int .i64 bk, .int .i64 bt] 57)) 3 [f, ft, bk, bt] _ rfl
          rw [World.size_alloc] at h; exact h
        have hbA : Below wr.heap.size wr ((wr.alloc (.cells #[.int .i64 f, .int .i64 ft, .int .i64 bk, .int .i64 bt] 57)).alloc (.cells #[.int .i64 f, .int .i64 ft, .int .i64 bk, .int .i64 bt] 3)) := ((Below.refl _ _).alloc (Nat.le_refl _) _).alloc (by simp) _
        have HJ := Lib.hid (joined_any 47 (some ⟨wr.heap.size + 1, 0, none⟩) [f, ft, bk, bt] 4 4 _ rfl hM (by decide) (fun v hv => by
          obtain ⟨q1, q2, q3, q4⟩ := hxs
          simp only at q1 q2 q3 q4
          simp only [List.mem_cons, List.not_mem_nil, or_false] at hv
          rcases hv with rfl | rfl | rfl | rfl <;> exact OkI.of (by omega)) (hP.below (hB.trans (hbA.mono hB.size))))
        have e4 : Lib.join ([f, ft, bk, bt].map Lib.itoa) [47] = t := ht.symm
        rw [e4] at HJ
        clear ht hM e4 hxs
        go_wp2_with fail
        refine HJ.out.mono ?_
        rintro e w8 ⟨rfl, hb8⟩
        have sb8 := (sb.below hbA).below hb8
        have bx8 := (bx.below hbA).below hb8
        have hB8 := (hB.trans (hbA.mono hB.size)).trans (hb8.mono (by have := (hB.trans (hbA.mono hB.size)).size; exact this))
        have hbr8 : b ≤ w8.heap.size := by have := sb8.lt; omega
        clear hbA hb8 HJ bx hB s0 s1 s2 s3 had
        go_wp2_with fail
        refine (sb_string b b _ t w8 sb8 (by have h1 := HLN.out; have h2 := HXL.out; rw [← HT.out] at h2; omega) hbr8).mono ?_
        rintro e w9 ⟨⟨kk, rfl⟩, sb9, hb9⟩
        have bx9 : BoxAt w9 w.heap.size #[.int .i64 (Cn : Int), .int .i64 (Rn : Int), .slice (some ad) m c] 29 := (hb9.block _ hgb).trans bx8
        have hB9 := hB8.trans (hb9.mono (by omega))
        have d0 := bx9.cell 0
        simp at d0
        have hb9s := sb9.lt
        rw [HT.out] at sb9
        clear sb8 bx8 hB8 hb9 sb
        by_cases hr : (k + 1) % Cn = 0
        · have hbI : (((k : Int) + 1) % (Cn : Int) == 0) = true := by
            have e : ((k : Int) + 1) % (Cn : Int) = (((k + 1) % Cn : Nat) : Int) := by push_cast; rfl
            rw [e, hr]; try rfl
          have HP := Lib.hid (prTo_nl (C := Cn) (R := Rn) hkl hr)
          rw [← EX.out] at HP
          clear hr
          go_wp2_with fail
          refine (sb_nl b b _ w9 sb9 (by rw [List.length_append]; have := HLN.out; have := HXL.out; omega) (by omega)).mono ?_
          rintro e w10 ⟨rfl, sb10, hb10⟩
          rw [← HP.out] at sb10
          go_wp2_with fail
          go_roundw
          case rel => exact ⟨k + 1, by omega, by go_num, sb10, (hb10.block _ hgb).trans bx9, hB9.trans (hb10.mono (by omega)), by have := sb10.lt; omega⟩
          case measure => simp [intOf]; omega
        · have hbI : (((k : Int) + 1) % (Cn : Int) == 0) = false := by
            have e : ((k : Int) + 1) % (Cn : Int) = (((k + 1) % Cn : Nat) : Int) := by push_cast; rfl
            rw [e, beq_eq_false_iff_ne]
            generalize (k + 1) % Cn = q at hr ⊢
            omega
          have HP := Lib.hid (prTo_sp (C := Cn) (R := Rn) hkl hr)
          rw [← EX.out] at HP
          clear hr
          go_wp2_with fail
          refine (sb_sp b b _ w9 sb9 (by rw [List.length_append]; have := HLN.out; have := HXL.out; omega) (by omega)).mono ?_
          rintro e w10 ⟨rfl, sb10, hb10⟩
          rw [← HP.out] at sb10
          go_wp2_with fail
          go_roundw
          case rel => exact ⟨k + 1, by omega, by go_num, sb10, (hb10.block _ hgb).trans bx9, hB9.trans (hb10.mono (by omega)), by have := sb10.lt; omega⟩
          case measure => simp [intOf]; omega
      · have hkm : k = m := by omega
        have HE := Lib.hid (show prTo Cn Rn l k = printT Cn Rn l by rw [hkm, HM.out, prTo_end])
        have hkI : ¬ (k : Int) < (m : Int) := by omega
        rw [HE.out] at sb
        clear hkm
        go_wp2_with fail
        refine (sb_text b b _ wr sb hbr).mono ?_
        rintro e w9 ⟨rfl, hb9⟩
        go_wp2_with fail
        go_ret2
        exact ⟨by rw [HF.out]; try rfl, hB.trans (hb9.mono (by omega))⟩
  · have HF := Lib.hid (show p = ([], (checkSc C R l).2) by rw [hp]; unfold printRes; rw [if_pos h0])
    have hb : ((checkSc C R l).2 != 0) = true := by simpa using h0
    clear hp h0
    go_enter Tryz.func7, Tryz.ntmps7
    go_wp2_with fail
    refine HCS.out.mono ?_
    rintro e w2 ⟨rfl, hb2⟩
    have hB2 := hB1.trans (hb2.mono hB1.size)
    go_wp2_with fail
    go_ret2
    exact ⟨by rw [HF.out]; try rfl, hB2⟩
end Go.Proofs.YtgoandhlcekmiaaGreatDoor
