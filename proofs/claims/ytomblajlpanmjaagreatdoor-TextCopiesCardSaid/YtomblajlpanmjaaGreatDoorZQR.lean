/-
  base.Cut; law02.same.
-/
import Derived.Test.YtomblajlpanmjaaGreatDoorZXA
import Derived.Test.YtomblajlpanmjaaGreatDoorVO
import Derived.Deep.CutRange
import Derived.Test.YtomblajlpanmjaaGreatDoorQOP
import Derived.Test.YtomblajlpanmjaaGreatDoorShelf
import Derived.Shelf.Strings.Builder1
import Derived.Shelf.Strings.BuilderK
import Derived.Lib.OthersKept
namespace Go.Proofs.YtomblajlpanmjaaGreatDoor
open Go.RowKit Go.Maps

def bs (l : List UInt8) : ByteArray := ⟨l.toArray⟩
end Go.Proofs.YtomblajlpanmjaaGreatDoor

namespace Go.Proofs.YtomblajlpanmjaaGreatDoor
open Go.RowKit Go.Maps Go.Shelf

/-- The texts of a list in memory, each. -/
def LnsAt (W : World) (g : Nat) (L : List ByteArray) : Prop := g < W.heap.size ∧ ∀ k (h : k < L.length), W.cell? ⟨g, k, none⟩ = some (.string L[k])
theorem LnsAt.below {W W' : World} {g : Nat} {L : List ByteArray} (h : LnsAt W g L) (hb : Below W.heap.size W W') : LnsAt W' g L :=
  ⟨Nat.lt_of_lt_of_le h.1 hb.size, fun k hk => (hb.cell (p := ⟨g, k, none⟩) h.1).trans (h.2 k hk)⟩
theorem LnsAt.alloc {W : World} {g : Nat} {L : List ByteArray} (h : LnsAt W g L) (o : Obj) : LnsAt (W.alloc o) g L := h.below ((Below.refl _ _).alloc (Nat.le_refl _) o)
theorem bs_dataQ (l : List UInt8) : (bs l).data.toList = l := rfl
theorem bs_sizeQ (l : List UInt8) : (bs l).size = l.length := by unfold bs; simp [ByteArray.size]
theorem CPPost.none {w W : World} {p : List CP × (Int × Int) × Int} {x y z : Int} (h : p = ([], (x, y), z)) (hb : Below w.heap.size w W) : CPPost w p (.returned (.tuple #[.slice none 0 0, .agg #[.int .i64 x, .int .i64 y], .int .i64 z])) W := by
  subst h; exact ⟨_, rfl, pown_nil _ _ _, hb⟩
theorem LnsAt.moved {W W' : World} {g : Nat} {L : List ByteArray} (h : LnsAt W g L) (h1 : W'.heap[g]? = W.heap[g]?) : LnsAt W' g L := by
  have h2 : W.heap[g]? = some (W.heap[g]'h.1) := Array.getElem?_eq_getElem h.1
  refine ⟨(Array.getElem?_eq_some_iff.1 (h1.trans h2)).1, fun k hk => ?_⟩
  rw [← h.2 k hk]
  unfold World.cell?
  rw [show W'.heap[(⟨g, k, none⟩ : Addr).block]? = W.heap[(⟨g, k, none⟩ : Addr).block]? from h1]
theorem LnsAt.put {W : World} {g : Nat} {L : List ByteArray} (h : LnsAt W g L) {p : Addr} (hp : g ≠ p.block) (x : Value) : LnsAt (W.setCell p x) g L := h.moved (Below.heap_setCell _ _ _ _ hp)
end Go.Proofs.YtomblajlpanmjaaGreatDoor

namespace Go.Proofs.YtomblajlpanmjaaGreatDoor
open Go.Shelf Go.RowKit

def Tryz.bl166_ren : Go.Shelf.Ren := ⟨fun | 166 => 55 | 240 => 100 | 276 => 140 | n => n, fun | 0 => 0 | 3 => 3 | 4 => 4 | 5 => 5 | 9 => 9 | 20 => 20 | 37 => 113 | 70 => 112 | 72 => 115 | 75 => 117 | 80 => 122 | 164 => 229 | n => n, fun n => n⟩
theorem Tryz.bl166 : Go.Proofs.Lays.n166 Tryz.prog Tryz.bl166_ren := {
  mixed := by kernel_rfl
  f166 := Tryz.func55.trans (congrArg some (by kernel_rfl))
  f240 := Tryz.func100.trans (congrArg some (by kernel_rfl))
  f276 := Tryz.func140.trans (congrArg some (by kernel_rfl))
  t0 := Tryz.underlying0
  a0 := Tryz.isAgg0
  z0 := Tryz.sizeOf0
  v0 := Tryz.zeroValue0
  t3 := Tryz.underlying3
  a3 := Tryz.isAgg3
  z3 := Tryz.sizeOf3
  v3 := Tryz.zeroValue3
  t4 := Tryz.underlying4
  a4 := Tryz.isAgg4
  z4 := Tryz.sizeOf4
  v4 := Tryz.zeroValue4
  t9 := Tryz.underlying9
  a9 := Tryz.isAgg9
  z9 := Tryz.sizeOf9
  v9 := Tryz.zeroValue9
  t20 := Tryz.underlying20
  a20 := Tryz.isAgg20
  z20 := Tryz.sizeOf20
  v20 := Tryz.zeroValue20
  t37 := Tryz.underlying113
  a37 := Tryz.isAgg113
  z37 := Tryz.sizeOf113
  v37 := Tryz.zeroValue113
  t70 := Tryz.underlying112
  a70 := Tryz.isAgg112
  z70 := Tryz.sizeOf112
  v70 := Tryz.zeroValue112
  t72 := Tryz.underlying115
  a72 := Tryz.isAgg115
  z72 := Tryz.sizeOf115
  v72 := Tryz.zeroValue115
  t75 := Tryz.underlying117
  a75 := Tryz.isAgg117
  z75 := Tryz.sizeOf117
  v75 := Tryz.zeroValue117
  t164 := Tryz.underlying229
  a164 := Tryz.isAgg229
  z164 := Tryz.sizeOf229
  v164 := Tryz.zeroValue229 }
theorem Tryz.bx166 : Builder.Extra Tryz.prog Tryz.bl166_ren := {
  sizeBuilder := by kernel_rfl
  liesBuilder := by kernel_rfl
  t5 := Tryz.underlying5
  a5 := Tryz.isAgg5
  z5 := Tryz.sizeOf5
  v5 := Tryz.zeroValue5
  infoByte := by kernel_rfl
  cellsByte := by kernel_rfl
  sizeByte := by kernel_rfl
  neB5 := by decide }
def Tryz.bl167_ren : Go.Shelf.Ren := ⟨fun | 167 => 67 | 240 => 100 | 276 => 140 | n => n, fun | 0 => 0 | 3 => 3 | 4 => 4 | 5 => 5 | 9 => 9 | 20 => 20 | 37 => 113 | 70 => 112 | 72 => 115 | 75 => 117 | 80 => 122 | 164 => 229 | n => n, fun n => n⟩
theorem Tryz.bl167 : Go.Proofs.Lays.n167 Tryz.prog Tryz.bl167_ren := {
  mixed := by kernel_rfl
  f167 := Tryz.func67.trans (congrArg some (by kernel_rfl))
  f240 := Tryz.func100.trans (congrArg some (by kernel_rfl))
  f276 := Tryz.func140.trans (congrArg some (by kernel_rfl))
  t0 := Tryz.underlying0
  a0 := Tryz.isAgg0
  z0 := Tryz.sizeOf0
  v0 := Tryz.zeroValue0
  t4 := Tryz.underlying4
  a4 := Tryz.isAgg4
  z4 := Tryz.sizeOf4
  v4 := Tryz.zeroValue4
  t5 := Tryz.underlying5
  a5 := Tryz.isAgg5
  z5 := Tryz.sizeOf5
  v5 := Tryz.zeroValue5
  t9 := Tryz.underlying9
  a9 := Tryz.isAgg9
  z9 := Tryz.sizeOf9
  v9 := Tryz.zeroValue9
  t20 := Tryz.underlying20
  a20 := Tryz.isAgg20
  z20 := Tryz.sizeOf20
  v20 := Tryz.zeroValue20
  t37 := Tryz.underlying113
  a37 := Tryz.isAgg113
  z37 := Tryz.sizeOf113
  v37 := Tryz.zeroValue113
  t70 := Tryz.underlying112
  a70 := Tryz.isAgg112
  z70 := Tryz.sizeOf112
  v70 := Tryz.zeroValue112
  t72 := Tryz.underlying115
  a72 := Tryz.isAgg115
  z72 := Tryz.sizeOf115
  v72 := Tryz.zeroValue115
  t75 := Tryz.underlying117
  a75 := Tryz.isAgg117
  z75 := Tryz.sizeOf117
  v75 := Tryz.zeroValue117
  t164 := Tryz.underlying229
  a164 := Tryz.isAgg229
  z164 := Tryz.sizeOf229
  v164 := Tryz.zeroValue229 }
theorem Tryz.bx167 : Builder.Extra Tryz.prog Tryz.bl167_ren := {
  sizeBuilder := by kernel_rfl
  liesBuilder := by kernel_rfl
  t5 := Tryz.underlying5
  a5 := Tryz.isAgg5
  z5 := Tryz.sizeOf5
  v5 := Tryz.zeroValue5
  infoByte := by kernel_rfl
  cellsByte := by kernel_rfl
  sizeByte := by kernel_rfl
  neB5 := by decide }
end Go.Proofs.YtomblajlpanmjaaGreatDoor

namespace Go.Proofs.YtomblajlpanmjaaGreatDoor
open Go.RowKit

/-- A builder of the call's own, in block b, that holds the bytes l. -/
def SB (B b : Nat) (l : List UInt8) (w : World) : Prop := Lib.IsBuilderF 115 5 B b (Lib.byteCells l) w
theorem owns_belowF {w w' : World} {B E n len : Nat} {v : Value} {xs : List Value} (h : w.ownsRowF B E n v len xs) (hb : Below w.heap.size w w') : w'.ownsRowF B E n v len xs := by
  rcases h.2 with ⟨e1, e2⟩ | ⟨gg, cap, cur, fz, e1, e2, e3, e4⟩
  · exact ⟨h.1, Or.inl ⟨e1, e2⟩⟩
  · exact ⟨h.1, Or.inr ⟨gg, cap, cur, fz, e1, e2, (hb.block gg (hp_lt e3)).trans e3, e4⟩⟩
theorem SB.below {B b : Nat} {l : List UInt8} {w w' : World} (h : SB B b l w) (hb : Below w.heap.size w w') : SB B b l w' := by
  rcases h with ⟨h1, v, h2, h3, h4⟩ | ⟨h1, v, h2, h3, h4⟩
  · exact Or.inl ⟨h1, v, (hb.block _ (hp_lt h2)).trans h2, owns_belowF h3 hb, h4⟩
  · exact Or.inr ⟨h1, v, (hb.block _ (hp_lt h2)).trans h2, owns_belowF h3 hb, h4⟩
theorem SB.lt {B b : Nat} {l : List UInt8} {w : World} (h : SB B b l w) : b < w.heap.size := by
  rcases h with h | h <;> exact h.lt
theorem SB.new (w : World) : SB w.heap.size w.heap.size [] (w.alloc (.cells #[.pointer none, .slice none 0 0] 115)) := Lib.IsBuilderF.of (Lib.fresh_isBuilder _ _ _)
theorem sb_string (B b : Nat) (l : List UInt8) (t : List UInt8) (w : World) (h : SB B b l w) (hl : l.length + t.length ≤ 1000000) (hB : B ≤ w.heap.size) :
    Calls Tryz.prog 55 #[.pointer (some ⟨b, 0, none⟩), .string (bs t)] w fun e w' => (∃ k : Int, e = .returned (.tuple #[.int .i64 k, .nilIface])) ∧ SB B b (l ++ t) w' ∧ Below B w w' ∧ Lib.OthersKept 5 (some b) w w' := by
  refine (Any.Builder_WriteString_k Tryz.bl166 Tryz.bx166 B b _ (bs t) w h (by rw [Lib.byteCells_length, bs_sizeQ]; omega) hB).mono ?_
  rintro e w' ⟨rfl, h1, h2, h3⟩
  refine ⟨⟨_, rfl⟩, Or.inr ?_, h2, h3⟩
  rw [Lib.byteCells_append]
  exact h1
theorem sb_nl (B b : Nat) (l : List UInt8) (w : World) (h : SB B b l w) (hl : l.length ≤ 1000000) (hB : B ≤ w.heap.size) :
    Calls Tryz.prog 67 #[.pointer (some ⟨b, 0, none⟩), .int .u8 10] w fun e w' => e = .returned .nilIface ∧ SB B b (l ++ [10]) w' ∧ Below B w w' ∧ Lib.OthersKept 5 (some b) w w' := by
  refine (Any.Builder_WriteByte_k Tryz.bl167 Tryz.bx167 B b _ 10 w h (by rw [Lib.byteCells_length]; omega) hB).mono ?_
  rintro e w' ⟨rfl, h1, h2, h3⟩
  refine ⟨rfl, Or.inr ?_, h2, h3⟩
  rw [Lib.byteCells_append]
  exact h1
theorem sb_text (B b : Nat) (l : List UInt8) (w : World) (h : SB B b l w) (hB : B ≤ w.heap.size) :
    Calls Tryz.prog 58 #[.pointer (some ⟨b, 0, none⟩)] w fun e w' => e = .returned (.string (bs l)) ∧ Below B w w' := (Tryz.Builder_String_any_f B b l w h hB).mono fun _ _ ⟨h1, _, h3⟩ => ⟨h1, h3⟩
theorem BoxAt.others {w w' : World} {b k : Nat} {cs : Array Value} {T e : TypeId} (h : BoxAt w k cs T) (ho : Lib.OthersKept e (some b) w w') (hk : k ≠ b) (hT : T ≠ e) : BoxAt w' k cs T :=
  ho k _ h (fun e2 => hk (by injection e2)) (fun c fz e2 => by injection e2 with _ e2; exact hT e2)
end Go.Proofs.YtomblajlpanmjaaGreatDoor
