/-
  Is a piece barred at some place within bytes?
-/
import Derived.Test.YtomblajlpanmjaaGreatDoorVB
namespace Go.Proofs.YtomblajlpanmjaaGreatDoor
open Go.RowKit Go.Maps

def barredB (i : Int) (n : Nat) (x : Int) : Bool := decide (i < x ∧ x < i + n)
theorem barred1_any (i : Int) (t : ByteArray) (x : Int) (b4 b5 : Nat) (w : World) (h4 : w.cell? ⟨b4, 0, none⟩ = some (.int .i64 i)) (h5 : w.cell? ⟨b5, 0, none⟩ = some (.string t)) (hi : 0 ≤ i ∧ i ≤ 1000) (ht : t.size ≤ 1000) :
    Calls Tryz.prog 192 #[.int .i64 x, .pointer (some ⟨b4, 0, none⟩), .pointer (some ⟨b5, 0, none⟩)] w fun e w' => e = .returned (.bool (barredB i t.size x)) ∧ w' = w := by
  obtain ⟨i1, i2⟩ := hi
  by_cases h1 : i < x
  · by_cases h2 : x < i + t.size
    · have HE := Lib.hid (show barredB i t.size x = true from decide_eq_true ⟨h1, h2⟩)
      go_enter Tryz.func192, Tryz.ntmps192
      go_wp2
      all_goals first | (exfalso; omega) | skip
      all_goals go_ret
      all_goals exact ⟨ret_bool HE.out.symm, rfl⟩
    · have HE := Lib.hid (show barredB i t.size x = false from decide_eq_false (fun h => h2 h.2))
      go_enter Tryz.func192, Tryz.ntmps192
      go_wp2
      all_goals first | (exfalso; omega) | skip
      all_goals go_ret
      all_goals exact ⟨ret_bool HE.out.symm, rfl⟩
  · have HE := Lib.hid (show barredB i t.size x = false from decide_eq_false (fun h => h1 h.1))
    go_enter Tryz.func192, Tryz.ntmps192
    go_wp2
    all_goals first | (exfalso; omega) | skip
    all_goals go_ret
    all_goals exact ⟨ret_bool HE.out.symm, rfl⟩
def barAt (i : Int) (n : Nat) (l : List Int) (k : Nat) : Bool := barredB i n (l.getD k 0)
theorem any_barAt (i : Int) (n : Nat) (l : List Int) : l.any (barredB i n) = (firstAt (barAt i n l) (l.length - 0) 0).isSome := by
  cases h : firstAt (barAt i n l) (l.length - 0) 0 with
  | none =>
    rw [List.any_eq_false.2]; rfl
    intro x hx
    obtain ⟨k, hk, rfl⟩ := List.getElem_of_mem hx
    have := firstAt_none h k (Nat.zero_le _) (by omega)
    unfold barAt at this
    rw [List.getD_eq_getElem?_getD, List.getElem?_eq_getElem hk] at this
    simpa using this
  | some k =>
    obtain ⟨h1, _, h3, _⟩ := firstAt_some h
    rw [List.any_eq_true.2]; rfl
    have hk : k < l.length := by omega
    refine ⟨l[k], List.getElem_mem hk, ?_⟩
    unfold barAt at h1
    rwa [List.getD_eq_getElem?_getD, List.getElem?_eq_getElem hk] at h1
set_option maxRecDepth 100000 in
set_option maxHeartbeats 400000 in
theorem indexFunc_any (i : Int) (t : ByteArray) (b4 b5 : Nat) (a : Option Addr) (l : List Int) (c : Nat) (w : World) (h4 : w.cell? ⟨b4, 0, none⟩ = some (.int .i64 i)) (h5 : w.cell? ⟨b5, 0, none⟩ = some (.string t)) (hi : 0 ≤ i ∧ i ≤ 1000) (ht : t.size ≤ 1000) (hX : IntsAt w a l) (hl : l.length ≤ 1000) :
    Calls Tryz.prog 213 #[.slice a l.length c, .func (.func 192) #[] #[.pointer (some ⟨b4, 0, none⟩), .pointer (some ⟨b5, 0, none⟩)]] w fun e w' => e = .returned (.int .i64 (idxI (firstAt (barAt i t.size l) (l.length - 0) 0))) ∧ w' = w := by
  go_enter Tryz.func213, Tryz.ntmps213
  go_wp2
  go_loop [8] (fun v8 => ∃ k : Nat, k ≤ l.length ∧ v8 = .int .i64 k ∧ Hid (firstAt (barAt i t.size l) (l.length - 0) 0 = firstAt (barAt i t.size l) (l.length - k) k)) (fun v8 => l.length - (intOf v8).toNat)
  case atStart => exact ⟨0, Nat.zero_le _, rfl, Lib.hid rfl⟩
  case round =>
    obtain ⟨k, hk, rfl, HR⟩ := hrel
    by_cases hlt : k < l.length
    · obtain ⟨p1, rfl, hp1, hc1⟩ := hX.at_ hlt
      have hkl : (k : Int) < (l.length : Int) := by omega
      cases hq : barAt i t.size l k
      · have HS := Lib.hid (firstAt_go hlt hq)
        have HQ := Lib.hid (show barredB i t.size (l.getD k 0) = false from hq)
        clear hq
        generalize l.getD k 0 = x at hc1 HQ
        go_wp2_with (go_at_call 192; refine (barred1_any i t _ b4 b5 _ h4 h5 hi ht).mono ?_; rintro e w' ⟨rfl, rfl⟩; rw [HQ.out])
        go_round
        case rel => exact ⟨k + 1, by omega, by go_num, Lib.hid (HR.out.trans HS.out)⟩
        case measure => simp [intOf]; omega
      · have HS := Lib.hid (firstAt_stop hlt hq)
        have HQ := Lib.hid (show barredB i t.size (l.getD k 0) = true from hq)
        clear hq
        generalize l.getD k 0 = x at hc1 HQ
        go_wp2_with (go_at_call 192; refine (barred1_any i t _ b4 b5 _ h4 h5 hi ht).mono ?_; rintro e w' ⟨rfl, rfl⟩; rw [HQ.out])
        go_ret
        exact ⟨ret_int (by rw [HR.out, HS.out]; rfl), rfl⟩
    · have HS := Lib.hid (firstAt_end (q := barAt i t.size l) hlt)
      go_wp2
      go_ret
      exact ⟨ret_int (by have h9 := HR.out.trans HS.out; rw [Nat.sub_zero] at h9; rw [h9]; rfl), rfl⟩
set_option maxRecDepth 100000 in
set_option maxHeartbeats 400000 in
theorem containsFunc_any (i : Int) (t : ByteArray) (b4 b5 : Nat) (a : Option Addr) (l : List Int) (c : Nat) (w : World) (h4 : w.cell? ⟨b4, 0, none⟩ = some (.int .i64 i)) (h5 : w.cell? ⟨b5, 0, none⟩ = some (.string t)) (hi : 0 ≤ i ∧ i ≤ 1000) (ht : t.size ≤ 1000) (hX : IntsAt w a l) (hl : l.length ≤ 1000) :
    Calls Tryz.prog 191 #[.slice a l.length c, .func (.func 192) #[] #[.pointer (some ⟨b4, 0, none⟩), .pointer (some ⟨b5, 0, none⟩)]] w fun e w' => e = .returned (.bool (l.any (barredB i t.size))) ∧ w' = w := by
  have HI := Lib.hid (indexFunc_any i t b4 b5 a l c w h4 h5 hi ht hX hl)
  have HA := Lib.hid (any_barAt i t.size l)
  cases hf : firstAt (barAt i t.size l) (l.length - 0) 0 with
  | none =>
    have HF := Lib.hid hf; clear hf
    go_enter Tryz.func191, Tryz.ntmps191
    go_wp2_with (go_at_call 213; refine HI.out.mono ?_; rintro e w' ⟨rfl, rfl⟩; rw [HF.out]; show _)
    go_ret
    exact ⟨ret_bool (by rw [HA.out, HF.out]; rfl), rfl⟩
  | some k =>
    have HF := Lib.hid hf; clear hf
    have hk0 : (0 : Int) ≤ (k : Int) := by omega
    go_enter Tryz.func191, Tryz.ntmps191
    go_wp2_with (go_at_call 213; refine HI.out.mono ?_; rintro e w' ⟨rfl, rfl⟩; rw [HF.out]; show _)
    go_ret
    exact ⟨ret_bool (by rw [HA.out, HF.out]; rfl), rfl⟩
set_option maxRecDepth 100000 in
set_option maxHeartbeats 400000 in
theorem isBarred_any (p : PC) (i : Nat) (t : ByteArray) (w : World) (hp : p.at_ w) (hi : i ≤ 1000) (ht : t.size ≤ 1000) :
    Calls Tryz.prog 163 #[.agg p.cells, .int .i64 i, .string t] w fun e w' => e = .returned (.bool (p.bl.any (barredB i t.size))) ∧ Below w.heap.size w w' := by
  have hI := hp.ints
  have hl := hp.pl.1
  have hB := (((Below.refl w.heap.size w).alloc (Nat.le_refl _) (.cells p.cells 175)).alloc (by simp) (.cells #[.int .i64 i] 3)).alloc (by simp; omega) (.cells #[.string t] 9)
  have hI3 := hI.below hB
  have h4 : (((w.alloc (.cells p.cells 175)).alloc (.cells #[.int .i64 i] 3)).alloc (.cells #[.string t] 9)).cell? ⟨w.heap.size + 1, 0, none⟩ = some (.int .i64 i) := by
    rw [World.cell?_alloc_old _ _ _ (by simp)]
    have h := heap_alloc_new (w.alloc (.cells p.cells 175)) (.cells #[.int .i64 i] 3)
    rw [show (w.alloc (.cells p.cells 175)).heap.size = w.heap.size + 1 by simp] at h
    rw [cell_of_row _ _ 0 _ _ (0, 0) h]; rfl
  have h5 : (((w.alloc (.cells p.cells 175)).alloc (.cells #[.int .i64 i] 3)).alloc (.cells #[.string t] 9)).cell? ⟨w.heap.size + 2, 0, none⟩ = some (.string t) := by
    have h := heap_alloc_new ((w.alloc (.cells p.cells 175)).alloc (.cells #[.int .i64 i] 3)) (.cells #[.string t] 9)
    rw [show ((w.alloc (.cells p.cells 175)).alloc (.cells #[.int .i64 i] 3)).heap.size = w.heap.size + 2 by simp] at h
    rw [cell_of_row _ _ 0 _ _ (0, 0) h]; rfl
  have HC := Lib.hid (containsFunc_any i t (w.heap.size + 1) (w.heap.size + 2) p.ba p.bl p.bc _ h4 h5 ⟨by omega, by omega⟩ ht hI3 (by omega))
  unfold PC.cells at *
  clear hI hp hI3 h4 h5
  go_enter Tryz.func163, Tryz.ntmps163
  go_wp2_with fail
  refine HC.out.mono ?_
  rintro e w' ⟨rfl, rfl⟩
  go_wp2
  go_ret
  exact ⟨rfl, hB⟩
end Go.Proofs.YtomblajlpanmjaaGreatDoor
