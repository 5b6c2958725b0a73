/-
  Package impose: the reference's sheet printed twice.
-/
import Derived.Test.YtjkjfmahcjcniaaY6
import Derived.Test.YtjkjfmahcjcniaaY3
namespace Go.Proofs.Ytjkjfmahcjcniaa
open Go.RowKit

/-- What the reference has laid as far as y rows and x more. -/
def twRow (C R : Nat) (L : List Page) (b : Bool) (y x : Nat) : List Cell := (List.range (y * C + x)).map (twCell C R L b)
theorem twRow_len (C R : Nat) (L : List Page) (b : Bool) (y x : Nat) : (twRow C R L b y x).length = y * C + x := by simp [twRow]
theorem twRow_row (C R : Nat) (L : List Page) (b : Bool) (y : Nat) : twRow C R L b y C = twRow C R L b (y + 1) 0 := by unfold twRow; rw [Nat.succ_mul, Nat.add_zero]
theorem twRow_succ (C R : Nat) (L : List Page) (b : Bool) (y x : Nat) : twRow C R L b y x ++ [twCell C R L b (y * C + x)] = twRow C R L b y (x + 1) := by
  unfold twRow; rw [← Nat.add_assoc, List.range_succ, List.map_append]; rfl
theorem twRow_end {C R : Nat} {L : List Page} {b : Bool} (h : L.length = C * R) : twRow C R L b R 0 = twTo C R L b L.length := by
  unfold twRow twTo; rw [Nat.sub_self, List.replicate_zero, List.append_nil, h, Nat.mul_comm]; rfl
theorem opp_at {C R y x : Nat} (hx : x < C) : oppN C R (y * C + x) false = y * C + (C - 1 - x) ∧ oppN C R (y * C + x) true = (R - 1 - y) * C + x := by
  have e1 : (y * C + x) / C = y := by rw [Nat.mul_comm, Nat.mul_add_div (by omega), Nat.div_eq_of_lt hx, Nat.add_zero]
  have e2 : (y * C + x) % C = x := by rw [Nat.mul_comm, Nat.mul_add_mod, Nat.mod_eq_of_lt hx]
  unfold oppN
  rw [e1, e2]; exact ⟨by rw [if_neg (by simp)], by rw [if_pos rfl]⟩
structure REnv (w : World) (C R : Nat) (a : Option Addr) (L : List Page) (c : Nat) (v : Value) (M : List Cell) (wr : World) : Prop where
  bs : BoxAt wr w.heap.size #[.int .i64 C, .int .i64 R, .slice a L.length c] 56
  br : BoxAt wr (w.heap.size + 1) #[.int .i64 0, .int .i64 0, .slice none 0 0] 43
  bv : BoxAt wr (w.heap.size + 1 + 1 + 1) #[.int .i64 C, .int .i64 R, v] 43
  own : OwnR 4 91 Cell.l wr (w.heap.size + 1 + 1 + 1 + 1) v M
  low : Below w.heap.size w wr
end Go.Proofs.Ytjkjfmahcjcniaa
