/-
  Package impose: the reference's view of a sheet's back.
-/
import Derived.Test.YtgoandhlcekmiaaGreatDoorKH
namespace Go.Proofs.YtgoandhlcekmiaaGreatDoor
open Go.RowKit

def backCell (x : Cell) : Page := ⟨x.b, x.bt⟩
/-- The pages of the back, as far as y rows and j more. -/
def backTo (C : Nat) (L : List Cell) (y j : Nat) : List Page := (List.range (y * C + j)).map fun i => backCell (L.getD (i / C * C + (C - 1 - i % C)) default)
theorem backTo_len (C : Nat) (L : List Cell) (y j : Nat) : (backTo C L y j).length = y * C + j := by simp [backTo]
theorem backTo_row (C : Nat) (L : List Cell) (y : Nat) : backTo C L y C = backTo C L (y + 1) 0 := by unfold backTo; rw [Nat.succ_mul, Nat.add_zero]
theorem backTo_succ {C : Nat} {L : List Cell} {y j i : Nat} (hj : j < C) (hi : y * C + (C - 1 - j) = i) (hil : i < L.length) : backTo C L y j ++ [backCell L[i]] = backTo C L y (j + 1) := by
  unfold backTo
  rw [← Nat.add_assoc, List.range_succ, List.map_append]
  congr 1
  have e1 : (y * C + j) / C = y := by rw [Nat.mul_comm, Nat.mul_add_div (by omega), Nat.div_eq_of_lt hj, Nat.add_zero]
  have e2 : (y * C + j) % C = j := by rw [Nat.mul_comm, Nat.mul_add_mod, Nat.mod_eq_of_lt hj]
  show _ = [backCell (L.getD ((y * C + j) / C * C + (C - 1 - (y * C + j) % C)) default)]
  rw [e1, e2, hi, getD_in default hil]
structure BEnv (w : World) (C R : Nat) (a : Option Addr) (L : List Cell) (c : Nat) (v : Value) (M : List Page) (wr : World) : Prop where
  bs : BoxAt wr w.heap.size #[.int .i64 C, .int .i64 R, .slice a L.length c] 29
  br : BoxAt wr (w.heap.size + 1) #[.int .i64 0, .int .i64 0, .slice none 0 0] 45
  bv : BoxAt wr (w.heap.size + 1 + 1) #[.int .i64 C, .int .i64 R, v] 45
  own : OwnR 2 79 Page.l wr (w.heap.size + 1 + 1 + 1) v M
  low : Below w.heap.size w wr
def BackPost (C R : Int) (M : List Page) (w : World) (e : Ending) (w' : World) : Prop :=
  ∃ (a : Option Addr) (n c : Nat), e = .returned (.agg #[.int .i64 C, .int .i64 R, .slice a n c]) ∧ n = M.length ∧ RowsAt 2 Page.l w' a M ∧ (a = none → c = 0) ∧ Below w.heap.size w w'
end Go.Proofs.YtgoandhlcekmiaaGreatDoor

namespace Go.Proofs.YtgoandhlcekmiaaGreatDoor
open Go.RowKit

def frontCell (x : Cell) : Page := ⟨x.f, x.ft⟩
def frontTo (L : List Cell) (k : Nat) : List Page := (L.take k).map frontCell
theorem frontTo_len {L : List Cell} {k : Nat} (hk : k ≤ L.length) : (frontTo L k).length = k := by simp [frontTo]; omega
theorem frontTo_succ {L : List Cell} {k : Nat} (hk : k < L.length) : frontTo L k ++ [frontCell L[k]] = frontTo L (k + 1) := by
  unfold frontTo; rw [List.take_succ_eq_append_getElem hk, List.map_append]; try rfl
structure FEnv6 (w : World) (C R : Int) (a : Option Addr) (L : List Cell) (c : Nat) (v : Value) (M : List Page) (wr : World) : Prop where
  bs : BoxAt wr w.heap.size #[.int .i64 C, .int .i64 R, .slice a L.length c] 29
  br : BoxAt wr (w.heap.size + 1) #[.int .i64 0, .int .i64 0, .slice none 0 0] 45
  bv : BoxAt wr (w.heap.size + 1 + 1) #[.int .i64 C, .int .i64 R, v] 45
  own : OwnR 2 79 Page.l wr (w.heap.size + 1 + 1 + 1) v M
  low : Below w.heap.size w wr
end Go.Proofs.YtgoandhlcekmiaaGreatDoor

namespace Go.Proofs.YtgoandhlcekmiaaGreatDoor
open Go.RowKit

theorem twTo_at {C R : Nat} {L : List Page} {b : Bool} {j : Nat} (hj : j < L.length) : (twTo C R L b L.length).getD j default = twCell C R L b j := by
  unfold twTo
  rw [Nat.sub_self, List.replicate_zero, List.append_nil, List.getD_eq_getElem?_getD, List.getElem?_map, List.getElem?_range hj]; try rfl
theorem tw_back {C R : Nat} {L : List Page} (hC : 1 ≤ C) (hlen : L.length = C * R) (hb : ∀ x ∈ L, Bit x.t) : backTo C (twTo C R L false L.length) R 0 = L := by
  apply List.ext_getElem
  · rw [backTo_len, hlen, Nat.mul_comm]; try rfl
  · intro i h1 h2
    obtain ⟨q, hq⟩ : ∃ q, i / C = q := ⟨_, rfl⟩
    obtain ⟨r, hr⟩ : ∃ r, i % C = r := ⟨_, rfl⟩
    have hrC : r < C := by rw [← hr]; exact Nat.mod_lt _ hC
    have hqR : q < R := by rw [← hq]; exact Nat.div_lt_of_lt_mul (by rw [← hlen]; exact h2)
    have hi : q * C + r = i := by rw [← hq, ← hr, Nat.mul_comm]; exact Nat.div_add_mod i C
    have hj : q * C + (C - 1 - r) < L.length := by rw [hlen]; exact mul_lt hqR (by omega)
    have e1 : (q * C + (C - 1 - r)) / C = q := by rw [Nat.mul_comm, Nat.mul_add_div (by omega), Nat.div_eq_of_lt (by omega), Nat.add_zero]
    have e2 : (q * C + (C - 1 - r)) % C = C - 1 - r := by rw [Nat.mul_comm, Nat.mul_add_mod, Nat.mod_eq_of_lt (by omega)]
    have e3 : oppN C R (q * C + (C - 1 - r)) false = i := by
      unfold oppN
      rw [if_neg (by simp), e1, e2, show C - 1 - (C - 1 - r) = r by omega, hi]
    have e4 : (backTo C (twTo C R L false L.length) R 0)[i] = backCell ((twTo C R L false L.length).getD (i / C * C + (C - 1 - i % C)) default) := by
      unfold backTo; simp
    rw [e4, hq, hr, twTo_at hj]
    unfold twCell backCell
    rw [e3, getD_in default h2]
    have hx : xr L[i].t (roundB false) = L[i].t := by
      rcases hb L[i] (List.getElem_mem h2) with h | h <;> rw [h] <;> rfl
    show Page.mk L[i].p (xr L[i].t (roundB false)) = L[i]
    rw [hx]
end Go.Proofs.YtgoandhlcekmiaaGreatDoor

namespace Go.Proofs.YtgoandhlcekmiaaGreatDoor
open Go.RowKit

/-- What the reference has laid as far as y rows and x more. -/
def twRow (C R : Nat) (L : List Page) (b : Bool) (y x : Nat) : List Cell := (List.range (y * C + x)).map (twCell C R L b)
theorem twRow_len (C R : Nat) (L : List Page) (b : Bool) (y x : Nat) : (twRow C R L b y x).length = y * C + x := by simp [twRow]
theorem twRow_row (C R : Nat) (L : List Page) (b : Bool) (y : Nat) : twRow C R L b y C = twRow C R L b (y + 1) 0 := by unfold twRow; rw [Nat.succ_mul, Nat.add_zero]
theorem twRow_succ (C R : Nat) (L : List Page) (b : Bool) (y x : Nat) : twRow C R L b y x ++ [twCell C R L b (y * C + x)] = twRow C R L b y (x + 1) := by
  unfold twRow; rw [← Nat.add_assoc, List.range_succ, List.map_append]; try rfl
theorem twRow_end {C R : Nat} {L : List Page} {b : Bool} (h : L.length = C * R) : twRow C R L b R 0 = twTo C R L b L.length := by
  unfold twRow twTo; rw [Nat.sub_self, List.replicate_zero, List.append_nil, h, Nat.mul_comm]; try rfl
theorem opp_at {C R y x : Nat} (hx : x < C) : oppN C R (y * C + x) false = y * C + (C - 1 - x) ∧ oppN C R (y * C + x) true = (R - 1 - y) * C + x := by
  have e1 : (y * C + x) / C = y := by rw [Nat.mul_comm, Nat.mul_add_div (by omega), Nat.div_eq_of_lt hx, Nat.add_zero]
  have e2 : (y * C + x) % C = x := by rw [Nat.mul_comm, Nat.mul_add_mod, Nat.mod_eq_of_lt hx]
  unfold oppN
  rw [e1, e2]; exact ⟨by rw [if_neg (by simp)], by rw [if_pos rfl]⟩
structure REnv (w : World) (C R : Nat) (a : Option Addr) (L : List Page) (c : Nat) (v : Value) (M : List Cell) (wr : World) : Prop where
  bs : BoxAt wr w.heap.size #[.int .i64 C, .int .i64 R, .slice a L.length c] 45
  br : BoxAt wr (w.heap.size + 1) #[.int .i64 0, .int .i64 0, .slice none 0 0] 29
  bv : BoxAt wr (w.heap.size + 1 + 1 + 1) #[.int .i64 C, .int .i64 R, v] 29
  own : OwnR 4 57 Cell.l wr (w.heap.size + 1 + 1 + 1 + 1) v M
  low : Below w.heap.size w wr
end Go.Proofs.YtgoandhlcekmiaaGreatDoor
