/-
  PressPins: the walk of the law.
-/
import Derived.Test.YtpplcbpnojggcaaGM
import Derived.Test.YtpplcbpnojggcaaGK
import Derived.Test.YtpplcbpnojggcaaGL
import Derived.Test.YtpplcbpnojggcaaGE
import Derived.Deep.RegionHeld
namespace Go.Proofs.Ytpplcbpnojggcaa
open Go.RowKit Go.Maps Go.Shelf

theorem run_eq_rg (d : Nat) (a b : Int) (w : World) : (Op.equalIn (d + 2) 62 (.agg #[.int .i64 a, .int .i64 b]) (.agg #[.int .i64 a, .int .i64 b])).run Try.prog w = .ok true w := by
  have hi := fun (x y : Int) (W : World) => run_equalIn_int (P := Try.prog) W d 3 .i64 .i64 x y Try.underlying3
  have h := run_equalIn_agg (P := Try.prog) w (d + 1) 62 #[.int .i64 a, .int .i64 b] #[.int .i64 a, .int .i64 b] (by kernel_rfl) (by kernel_rfl)
  rw [h]
  have hu := Try.underlying62
  have hr := fun W : World => run_underlying (w := W) Try.underlying3
  simp only [Program.fieldsOf, hu]
  simp [Op.eqFields, part, isAgg, hr, hi, go_sem]
theorem run_eq_rg3 (d : Nat) (a b c e f g : Int) (w : World) : (Op.equalIn (d + 3) 63 (.agg #[.int .i64 a, .int .i64 b, .int .i64 c, .int .i64 e, .int .i64 f, .int .i64 g]) (.agg #[.int .i64 a, .int .i64 b, .int .i64 c, .int .i64 e, .int .i64 f, .int .i64 g])).run Try.prog w = .ok true w := by
  have hu := fun W : World => run_underlying (w := W) Try.underlying63
  have hr := fun W : World => run_underlying (w := W) Try.underlying62
  have hq := fun (x y : Int) (W : World) => run_eq_rg d x y W
  rw [Op.equalIn]
  simp only [Sem.run_bind, hu, Result.andThen_ok, sizeRange]
  simp [Std.Legacy.Range.forIn_eq_forIn_range', List.range', part, isAgg, hr, go_sem, hq]
theorem neq_rg3 (a b c e f g : Int) (w : World) : (binOp .neq 63 (.agg #[.int .i64 a, .int .i64 b, .int .i64 c, .int .i64 e, .int .i64 f, .int .i64 g]) (.agg #[.int .i64 a, .int .i64 b, .int .i64 c, .int .i64 e, .int .i64 f, .int .i64 g])).run Try.prog w = .ok (.bool false) w := by
  rw [run_neq_struct, run_eq_rg3]; rfl
theorem eql_rg3 (a b c e f g : Int) (w : World) : (binOp .eql 63 (.agg #[.int .i64 a, .int .i64 b, .int .i64 c, .int .i64 e, .int .i64 f, .int .i64 g]) (.agg #[.int .i64 a, .int .i64 b, .int .i64 c, .int .i64 e, .int .i64 f, .int .i64 g])).run Try.prog w = .ok (.bool true) w := by
  rw [run_eql_struct, run_eq_rg3]; rfl
theorem appLm {α : Type} {n by_ : Nat} {ST E : TypeId} {z : Value} {g : α → List Int} (T : ElT n by_ ST E z) (hg : ∀ x, (g x).length = n) {ops : Array Oper} {rest : List Oper} {o : Oper} {a : Act} {Q : Exit → Act → World → Prop} (w : World) (hgd : o.guard = none) (s xo : Operand)
    (ho : o.op = .call { callee := .builtin .append, args := #[s, xo], argTypes := #[ST, ST] }) (B : Nat) (v : Value) (L : List α) (hs : a.eval s = v) (hown : OwnR n E g w B v L)
    (b : Option Addr) (M : List α) (m c : Nat) (hm : m = M.length) (hx : a.eval xo = .slice b m c) (hM : RowsAt n g w b M) (hbc : b = none → c = 0) (hl : L.length ≤ 1000000) (hl2 : M.length ≤ 1000000) (hB : B ≤ w.heap.size)
    (h : ∀ v' w', OwnR n E g w' B v' (L ++ M) → w.grownBy w' v.ownBlock → Below B w w' → (v'.ownBlock = v.ownBlock ∨ v'.ownBlock = some w.heap.size) → wpList Try.prog ops Q rest (a.put o.dst v') w') :
    wpList Try.prog ops Q (o :: rest) a w := by
  subst hm; exact wpList_appL T hg w hgd s xo ho B v L hs hown b M c hx hM hbc hl hl2 hB h
end Go.Proofs.Ytpplcbpnojggcaa
