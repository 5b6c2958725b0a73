/-
  Package impose: the back of a sheet printed twice side by side is the forme itself.
-/
import Derived.Test.YtjkjfmahcjcniaaY5
import Derived.Test.YtjkjfmahcjcniaaY2
namespace Go.Proofs.Ytjkjfmahcjcniaa
open Go.RowKit

theorem twTo_at {C R : Nat} {L : List Page} {b : Bool} {j : Nat} (hj : j < L.length) : (twTo C R L b L.length).getD j default = twCell C R L b j := by
  unfold twTo
  rw [Nat.sub_self, List.replicate_zero, List.append_nil, List.getD_eq_getElem?_getD, List.getElem?_map, List.getElem?_range hj]; rfl
theorem tw_back {C R : Nat} {L : List Page} (hC : 1 ≤ C) (hlen : L.length = C * R) (hb : ∀ x ∈ L, Bit x.t) : backTo C (twTo C R L false L.length) R 0 = L := by
  apply List.ext_getElem
  · rw [backTo_len, hlen, Nat.mul_comm]; rfl
  · intro i h1 h2
    obtain ⟨q, hq⟩ : ∃ q, i / C = q := ⟨_, rfl⟩
    obtain ⟨r, hr⟩ : ∃ r, i % C = r := ⟨_, rfl⟩
    have hrC : r < C := by rw [← hr]; exact Nat.mod_lt _ hC
    have hqR : q < R := by rw [← hq]; exact Nat.div_lt_of_lt_mul (by rw [← hlen]; exact h2)
    have hi : q * C + r = i := by rw [← hq, ← hr, Nat.mul_comm]; exact Nat.div_add_mod i C
    have hj : q * C + (C - 1 - r) < L.length := by rw [hlen]; exact mul_lt hqR (by omega)
    have e1 : (q * C + (C - 1 - r)) / C = q := by rw [Nat.mul_comm, Nat.mul_add_div (by omega), Nat.div_eq_of_lt (by omega), Nat.add_zero]
    have e2 : (q * C + (C - 1 - r)) % C = C - 1 - r := by rw [Nat.mul_comm, Nat.mul_add_mod, Nat.mod_eq_of_lt (by omega)]
    have e3 : oppN C R (q * C + (C - 1 - r)) false = i := by
      unfold oppN
      rw [if_neg (by simp), e1, e2, show C - 1 - (C - 1 - r) = r by omega, hi]
    have e4 : (backTo C (twTo C R L false L.length) R 0)[i] = backCell ((twTo C R L false L.length).getD (i / C * C + (C - 1 - i % C)) default) := by
      unfold backTo; simp
    rw [e4, hq, hr, twTo_at hj]
    unfold twCell backCell
    rw [e3, getD_in default h2]
    have hx : xr L[i].t (roundB false) = L[i].t := by
      rcases hb L[i] (List.getElem_mem h2) with h | h <;> rw [h] <;> rfl
    show Page.mk L[i].p (xr L[i].t (roundB false)) = L[i]
    rw [hx]
end Go.Proofs.Ytjkjfmahcjcniaa
