/-
  Package press: comparisons of pairs.
-/
import Derived.Test.YtpplcbpnojggcaaEA
import Derived.Laws.StructEq
namespace Go.Proofs.Ytpplcbpnojggcaa
open Go.RowKit

theorem sizeInt (W : World) : (sizeOf 3).run Try.prog W = .ok 1 W := by
  obtain ⟨i0, hi0, hz0, hz1, hz2⟩ := info_parts info_intN
  simp [sizeOf, typeInfo, hi0, hz1]
theorem run_eq_pair (d : Nat) (a b c e : Int) (w : World) : (Op.equalIn (d + 2) 43 (.agg #[.int .i64 a, .int .i64 b]) (.agg #[.int .i64 c, .int .i64 e])).run Try.prog w = .ok (a == c && b == e) w := by
  have hu := fun W : World => run_underlying (w := W) Try.underlying43
  have hi := fun (x y : Int) (W : World) => run_equalIn_int (P := Try.prog) W d 3 .i64 .i64 x y Try.underlying3
  rw [Op.equalIn]
  simp only [Sem.run_bind, hu, Result.andThen_ok, sizeInt]
  simp [Std.Legacy.Range.forIn_eq_forIn_range', List.range', go_sem, hi]
  by_cases h1 : a = c
  · by_cases h2 : b = e
    · simp [h1, h2]
    · simp [h1, h2]
  · simp [h1]
theorem neq_pair (a b c e : Int) (w : World) : (binOp .neq 43 (.agg #[.int .i64 a, .int .i64 b]) (.agg #[.int .i64 c, .int .i64 e])).run Try.prog w = .ok (.bool (!(a == c && b == e))) w := by
  rw [run_neq_struct, run_eq_pair]; rfl
theorem eql_pair (a b c e : Int) (w : World) : (binOp .eql 43 (.agg #[.int .i64 a, .int .i64 b]) (.agg #[.int .i64 c, .int .i64 e])).run Try.prog w = .ok (.bool (a == c && b == e)) w := by
  rw [run_eql_struct, run_eq_pair]; rfl
end Go.Proofs.Ytpplcbpnojggcaa
