/-
  Package press: base.Ints; the colours and the jobs of the examples.
-/
import Derived.Test.YtdgegebplebeoaaGreatDoorE8
import Derived.Test.YtdgegebplebeoaaGreatDoorEI
namespace Go.Proofs.YtdgegebplebeoaaGreatDoor
open Go.RowKit Go.Maps Go.Shelf

theorem list_eq {α : Type} {L M : List α} (hl : L.length = M.length) (h : ∀ j, j < L.length → L[j]? = M[j]?) : L = M := by
  apply List.ext_getElem? 
  intro j
  by_cases hj : j < L.length
  · exact h j hj
  · rw [List.getElem?_eq_none (by omega), List.getElem?_eq_none (by omega)]
theorem list_ne {α : Type} {L M : List α} {k : Nat} (h1 : k < L.length) (h2 : k < M.length) (h : L[k] ≠ M[k]) : L ≠ M := fun e => h (by subst e; rfl)
set_option maxRecDepth 100000 in
set_option maxHeartbeats 2000000 in
theorem ints_any (a1 : Option Addr) (L1 : List Int) (c1 : Nat) (a2 : Option Addr) (L2 : List Int) (c2 : Nat) (w : World) (h1 : RowsAt 1 intL w a1 L1) (h2 : RowsAt 1 intL w a2 L2) (_ : L1.length ≤ maxLen) (l2 : L2.length ≤ maxLen) :
    Calls Tryz.prog 20 #[.slice a1 L1.length c1, .slice a2 L2.length c2] w fun e w' => e = .returned (.bool (decide (L1 = L2))) ∧ Drew w w' := by
  unfold maxLen at l2
  by_cases hn : L1.length = L2.length
  · have hne : ((L1.length : Int) != (L2.length : Int)) = false := by simp [hn]
    have hle : L1.length ≤ L2.length := by omega
    have HN := Lib.hid hn; clear hn
    go_enter Tryz.func20, Tryz.ntmps20
    go_wp2
    go_loopw [5] (fun i wr => ∃ k : Nat, k ≤ L1.length ∧ i = .int .i64 k ∧ Hid (∀ j, j < k → L1[j]? = L2[j]?) ∧ Drew w wr) (fun i _ => L1.length - (intOf i).toNat)
    case atStart => exact ⟨0, Nat.zero_le _, rfl, Lib.hid (fun j hj => absurd hj (Nat.not_lt_zero _)), Drew.refl _⟩
    case round =>
      obtain ⟨k, hk, rfl, HR, hD⟩ := hrel
      by_cases hlt : k < L1.length
      · have hlt2 : k < L2.length := by omega
        obtain ⟨p1, rfl, hp1, x0⟩ := (hD.rows h1).int hlt
        obtain ⟨p2, rfl, hp2, y0⟩ := (hD.rows h2).int hlt2
        have hkl1 : (k : Int) < (L1.length : Int) := by omega
        have hkl2 : (k : Int) < (L2.length : Int) := by omega
        obtain ⟨x, ex⟩ : ∃ x, x = L1[k] := ⟨_, rfl⟩
        obtain ⟨y, ey⟩ : ∃ x, x = L2[k] := ⟨_, rfl⟩
        rw [← ex] at x0
        rw [← ey] at y0
        by_cases hxy : x = y
        · have HS : Hid (∀ j, j < k + 1 → L1[j]? = L2[j]?) := Lib.hid (fun j hj => by
            by_cases e : j = k
            · subst e; rw [List.getElem?_eq_getElem hlt, List.getElem?_eq_getElem hlt2, ← ex, ← ey, hxy]
            · exact HR.out j (by omega))
          subst hxy
          clear ex ey
          go_wp2_with fail
          go_quiet (fail)
          go_wp2
          go_roundw
          case rel => exact ⟨k + 1, by omega, by go_num, HS, hD.drewN _⟩
          case measure => simp [intOf]; omega
        · have HZ : Hid (decide (L1 = L2) = false) := Lib.hid (decide_eq_false (list_ne hlt hlt2 (by rw [← ex, ← ey]; exact hxy)))
          clear ex ey
          have hxb : (x != y) = true := by simpa using hxy
          clear hxy
          go_wp2_with fail
          go_quiet (fail)
          go_wp2
          go_ret
          exact ⟨ret_bool HZ.out.symm, hD.drewN _⟩
      · have HZ : Hid (decide (L1 = L2) = true) := Lib.hid (decide_eq_true (list_eq HN.out (fun j hj => HR.out j (by omega))))
        go_wp2
        go_ret
        exact ⟨ret_bool HZ.out.symm, hD⟩
  · have hne : ((L1.length : Int) != (L2.length : Int)) = true := by simp; omega
    have HZ : Hid (decide (L1 = L2) = false) := Lib.hid (decide_eq_false (fun e => hn (by rw [e])))
    clear hn
    go_enter Tryz.func20, Tryz.ntmps20
    go_wp2
    go_ret
    exact ⟨ret_bool HZ.out.symm, Drew.refl _⟩
/-- The colours of the examples, where the maker lays them. -/
def inksC (b : Nat) : Cols := ⟨some ⟨b, 0, none⟩, [10, 20, 30], 3, some ⟨b + 4, 0, none⟩, [⟨some ⟨b + 1, 0, none⟩, [0, 60, 0], 3⟩, ⟨some ⟨b + 2, 0, none⟩, [-1, 0, -1], 3⟩, ⟨some ⟨b + 3, 0, none⟩, [0, 0, 0], 3⟩], 3⟩
theorem inks_err (b : Nat) : colsErr (inksC b) = 0 := by rfl
theorem ends3' : OrdsEnd 3 6 := ⟨fun j hj => by rcases j with _ | _ | _ | _ | _ | j <;> first | omega | decide, by decide, by decide⟩
theorem inks_best (b : Nat) : lstF (minsE (inksC b)) (ordsL 3 6) = ([0, 2, 1], 90, 0) := by kernel_rfl
def dayL : List Job := [⟨⟨#[97]⟩, 0, 10, 20⟩, ⟨⟨#[98]⟩, 4, 3, 8⟩]
theorem day_err : jobsErr dayL = 0 := by decide +kernel
theorem day_late : latI dayL (schedI dayL) = -1 := by decide +kernel
end Go.Proofs.YtdgegebplebeoaaGreatDoor
