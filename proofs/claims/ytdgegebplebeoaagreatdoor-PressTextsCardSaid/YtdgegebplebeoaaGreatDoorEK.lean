/-
  Package press: comparisons of pairs.
-/
import Derived.Test.YtdgegebplebeoaaGreatDoorEA
import Derived.Laws.StructEq
namespace Go.Proofs.YtdgegebplebeoaaGreatDoor
open Go.RowKit

theorem sizeInt (W : World) : (sizeOf 3).run Tryz.prog W = .ok 1 W := by
  obtain ⟨i0, hi0, hz0, hz1, hz2⟩ := info_parts info_intN
  simp [sizeOf, typeInfo, hi0, hz1]
theorem run_eq_pair (d : Nat) (a b c e : Int) (w : World) : (Op.equalIn (d + 2) 42 (.agg #[.int .i64 a, .int .i64 b]) (.agg #[.int .i64 c, .int .i64 e])).run Tryz.prog w = .ok (a == c && b == e) w := by
  have hu := fun W : World => run_underlying (w := W) Tryz.underlying42
  have hi := fun (x y : Int) (W : World) => run_equalIn_int (P := Tryz.prog) W d 3 .i64 .i64 x y Tryz.underlying3
  rw [Op.equalIn]
  simp only [Sem.run_bind, hu, Result.andThen_ok, sizeInt]
  simp [Std.Legacy.Range.forIn_eq_forIn_range', List.range', go_sem, hi]
  by_cases h1 : a = c
  · by_cases h2 : b = e
    · simp [h1, h2]
    · simp [h1, h2]
  · simp [h1]
theorem neq_pair (a b c e : Int) (w : World) : (binOp .neq 42 (.agg #[.int .i64 a, .int .i64 b]) (.agg #[.int .i64 c, .int .i64 e])).run Tryz.prog w = .ok (.bool (!(a == c && b == e))) w := by
  rw [run_neq_struct, run_eq_pair]; rfl
theorem eql_pair (a b c e : Int) (w : World) : (binOp .eql 42 (.agg #[.int .i64 a, .int .i64 b]) (.agg #[.int .i64 c, .int .i64 e])).run Tryz.prog w = .ok (.bool (a == c && b == e)) w := by
  rw [run_eql_struct, run_eq_pair]; rfl
end Go.Proofs.YtdgegebplebeoaaGreatDoor
