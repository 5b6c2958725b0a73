/-
  Numbers as texts; the words of the kinds; a builder while memory grows.
-/
import Derived.Test.YtjkcomafgkabeaaDoorN3
import Derived.WalkSmall
import Derived.Lib.ItoaLen
import Derived.Lib.AppendIntMem
namespace Go.Proofs.YtjkcomafgkabeaaDoor
open Go.RowKit Go.Maps

structure PowOk (w : World) : Prop where
  lt : 3 < w.heap.size
  tab : Lib.TabIs Tryd.prog w "internal/strconv.uint64pow10" .u64 Lib.pow10Tab
theorem gPow : Tryd.prog.globalNamed "internal/strconv.uint64pow10" = some 3 := by kernel_rfl
theorem PowOk.below {w w' : World} (h : PowOk w) (hb : Below w.heap.size w w') : PowOk w' :=
  ⟨Nat.lt_of_lt_of_le h.lt hb.size, var?_below hb gPow h.lt h.tab⟩
theorem PowOk.alloc {w : World} (h : PowOk w) (o : Obj) : PowOk (w.alloc o) := h.below ((Below.refl _ _).alloc (Nat.le_refl _) o)

def itoaS (n : Int) : ByteArray := ⟨(Lib.itoa n).toArray⟩
theorem itoa_any (n : Int) (h : 0 ≤ n ∧ n ≤ 1000000000000000000) (w : World) (hP : PowOk w) :
    Calls Tryd.prog 89 #[.int .i64 n] w fun e w' => e = .returned (.string (itoaS n)) ∧ Below w.heap.size w w' := by
  refine (Tryd.strconv_Itoa n (by omega) (by omega) w hP.tab).mono ?_
  rintro e w' ⟨rfl, k, os, rfl⟩
  exact ⟨rfl, Lib.below_grow _ w (Nat.le_refl _) k os⟩

theorem itoaS_size {n : Int} (h : 0 ≤ n ∧ n ≤ 1000000000000000000) : (itoaS n).size ≤ 21 := by
  have := Lib.itoa_length_le n (by omega) (by omega)
  show (Lib.itoa n).toArray.size ≤ 21
  simpa using this

/-- Two short texts, one behind the other. -/
theorem add_ex (a b : ByteArray) (h : a.size + b.size ≤ 1000000) : ∃ t : ByteArray, (∀ W, (Op.stringOp .add a b).run Tryd.prog W = .ok (.string t) W) ∧ t.size = a.size + b.size ∧ t.data.toList = a.data.toList ++ b.data.toList := by
  refine ⟨a ++ b, fun W => ?_, by simp [ByteArray.size_append], by simp [ByteArray.data_append]⟩
  have : ¬ ((9223372036854775807 : Int) < (a.size : Int) + (b.size : Int)) := by omega
  simp [Op.stringOp, this]

structure WordsOk (w : World) : Prop where
  lt : 0 < w.heap.size
  c1 : w.cell? ⟨0, 1, none⟩ = some (.string ⟨#[108, 101, 116, 116, 101, 114]⟩)
  c2 : w.cell? ⟨0, 2, none⟩ = some (.string ⟨#[108, 105, 103, 97, 116, 117, 114, 101]⟩)
  c3 : w.cell? ⟨0, 3, none⟩ = some (.string ⟨#[115, 112, 97, 99, 101]⟩)
theorem WordsOk.below {w w' : World} (h : WordsOk w) (hb : Below w.heap.size w w') : WordsOk w' :=
  ⟨Nat.lt_of_lt_of_le h.lt hb.size, (hb.cell (p := ⟨_, _, none⟩) h.lt).trans h.c1, (hb.cell (p := ⟨_, _, none⟩) h.lt).trans h.c2, (hb.cell (p := ⟨_, _, none⟩) h.lt).trans h.c3⟩
theorem Bld.below {B b : Nat} {l : List UInt8} {w w' : World} (h : Bld B b l w) (hb : Below w.heap.size w w') : Bld B b l w' := by
  have hlt := h.lt
  rcases h with ⟨h1, v, h2, h3, h4⟩ | ⟨h1, v, h2, h3, h4⟩
  · exact .inl ⟨h1, v, (hb.block b hlt).trans h2, own_below h3 hb, h4⟩
  · exact .inr ⟨h1, v, (hb.block b hlt).trans h2, own_below h3 hb, h4⟩
end Go.Proofs.YtjkcomafgkabeaaDoor
