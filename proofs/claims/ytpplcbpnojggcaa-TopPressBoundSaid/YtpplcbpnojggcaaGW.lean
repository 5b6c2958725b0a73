/-
  Package press: the reference's names, lists of texts, a copy of a run, quotients rounded up.
-/
import Derived.Test.YtpplcbpnojggcaaEI
namespace Go.Proofs.Ytpplcbpnojggcaa
open Go.RowKit Go.Maps

def nmFrom (s : ByteArray) (k : Nat) : Bool := (decide (k ≠ 0) || letB ((s.data.toList.headD 0).toNat : Int)) && nmsB (s.data.toList.drop k)
theorem nmFrom_start (s : ByteArray) (h1 : 1 ≤ s.size) (h2 : s.size ≤ 12) : isNameB s = nmFrom s 0 := by
  unfold isNameB nmFrom
  rw [decide_eq_true h1, decide_eq_true h2]; simp
theorem nmFrom_let (s : ByteArray) (k : Nat) (h : k < s.size) (hl : letB (s[k].toNat : Int) = true) : nmFrom s k = nmFrom s (k + 1) := by
  unfold nmFrom
  rw [nms_cons s k h, nm_of_let hl]
  by_cases hk : k = 0
  · subst hk; rw [head_at s h, hl]; simp
  · simp [hk]
theorem nmFrom_first (s : ByteArray) (k : Nat) (h : k < s.size) (hk : k = 0) (hl : letB (s[k].toNat : Int) = false) : nmFrom s k = false := by
  subst hk; unfold nmFrom; rw [head_at s h, hl]; simp
theorem nmFrom_other (s : ByteArray) (k : Nat) (h : k < s.size) (hk : k ≠ 0) (hl : nmB (s[k].toNat : Int) = true) : nmFrom s k = nmFrom s (k + 1) := by
  unfold nmFrom; rw [nms_cons s k h, hl]; simp [hk]
theorem nmFrom_no (s : ByteArray) (k : Nat) (h : k < s.size) (hl : nmB (s[k].toNat : Int) = false) : nmFrom s k = false := by
  unfold nmFrom; rw [nms_cons s k h, hl]; simp
theorem nmFrom_end (s : ByteArray) (k : Nat) (h : ¬ k < s.size) (hk : k ≠ 0) : nmFrom s k = true := by
  unfold nmFrom; rw [nms_end s k h]; simp [hk]

set_option maxHeartbeats 1000000 in
theorem refIsName_any (s : ByteArray) (w : World) (hs : s.size ≤ maxLen) :
    Calls Try.prog 87 #[.string s] w fun e w' => e = .returned (.bool (isNameB s)) ∧ w = w' := by
  unfold maxLen at hs
  by_cases h1 : s.size < 1
  · have hn := isName_short s (.inl h1)
    have HN := Lib.hid hn; clear hn
    go_enter Try.func87, Try.ntmps87
    go_wp2
    go_ret
    exact ⟨ret_bool HN.out.symm, rfl⟩
  by_cases h2 : 12 < s.size
  · have hn := isName_short s (.inr h2)
    have HN := Lib.hid hn; clear hn
    go_enter Try.func87, Try.ntmps87
    go_wp2
    go_ret
    exact ⟨ret_bool HN.out.symm, rfl⟩
  have HN := Lib.hid (nmFrom_start s (by omega) (by omega))
  have h0 : 0 < s.size := by omega
  go_enter Try.func87, Try.ntmps87
  go_wp2
  go_loop [3] (fun i => ∃ k : Nat, k ≤ s.size ∧ i = .int .i64 k ∧ Hid (nmFrom s 0 = nmFrom s k)) (fun i => s.size - (intOf i).toNat)
  case atStart => exact ⟨0, Nat.zero_le _, rfl, Lib.hid rfl⟩
  case round =>
    obtain ⟨k, hk, rfl, HR⟩ := hrel
    by_cases hlt : k < s.size
    · by_cases l1 : (97 ≤ (s[k].toNat : Int) ∧ (s[k].toNat : Int) ≤ 122) ∨ (65 ≤ (s[k].toNat : Int) ∧ (s[k].toNat : Int) ≤ 90)
      · have HC := Lib.hid (nmFrom_let s k hlt (by unfold letB; exact decide_eq_true l1))
        go_wp2
        all_goals first | (exfalso; omega) | (exfalso; (simp at *) <;> omega) | skip
        all_goals go_round
        all_goals first | exact ⟨k + 1, by omega, by go_num, Lib.hid (HR.out.trans HC.out)⟩ | (simp [intOf]; omega)
      have l1' : letB (s[k].toNat : Int) = false := by unfold letB; exact decide_eq_false l1
      by_cases hk0 : k = 0
      · have HC := Lib.hid (nmFrom_first s k hlt hk0 l1')
        have hz : ((k : Int) == 0) = true := by simpa using hk0
        clear hk0
        go_wp2
        all_goals first | (exfalso; omega) | (exfalso; (simp at *) <;> omega) | skip
        all_goals go_ret
        all_goals exact ⟨ret_bool (by rw [HN.out, HR.out, HC.out]), rfl⟩
      have hz : ((k : Int) == 0) = false := by simpa using hk0
      by_cases l3 : (s[k].toNat : Int) = 45
      · have HC := Lib.hid (nmFrom_other s k hlt hk0 (nm_of_dash l3))
        have e1 : ((s[k].toNat : Int) != 45) = false := by simpa using l3
        clear l1'
        go_wp2
        all_goals first | (exfalso; omega) | (exfalso; (simp at *) <;> omega) | skip
        all_goals go_round
        all_goals first | exact ⟨k + 1, by omega, by go_num, Lib.hid (HR.out.trans HC.out)⟩ | (simp [intOf]; omega)
      have e1 : ((s[k].toNat : Int) != 45) = true := by simpa using l3
      by_cases l2 : 48 ≤ (s[k].toNat : Int) ∧ (s[k].toNat : Int) ≤ 57
      · have HC := Lib.hid (nmFrom_other s k hlt hk0 (nm_of_dig (by unfold digB; exact decide_eq_true l2)))
        obtain ⟨l2a, l2b⟩ := l2
        clear l1'
        go_wp2
        all_goals first | (exfalso; omega) | (exfalso; (simp at *) <;> omega) | skip
        all_goals go_round
        all_goals first | exact ⟨k + 1, by omega, by go_num, Lib.hid (HR.out.trans HC.out)⟩ | (simp [intOf]; omega)
      · have HC := Lib.hid (nmFrom_no s k hlt (nm_of_none l1' (by unfold digB; exact decide_eq_false l2) l3))
        clear l1'
        go_wp2
        all_goals first | (exfalso; omega) | (exfalso; (simp at *) <;> omega) | skip
        all_goals go_ret
        all_goals exact ⟨ret_bool (by rw [HN.out, HR.out, HC.out]), rfl⟩
    · have HC := Lib.hid (nmFrom_end s k hlt (by omega))
      go_wp2
      go_ret
      exact ⟨ret_bool (by rw [HN.out, HR.out, HC.out]), rfl⟩

theorem toList_injB {a b : ByteArray} (h : a.toList = b.toList) : a = b := by
  rw [ByteArray.toList_eq, ByteArray.toList_eq] at h
  cases a; cases b; congr; exact Array.toList_inj.1 h
theorem eq_tx (x s : ByteArray) : (x.toList == s.toList) = decide (x = s) := by
  rw [Bool.eq_iff_iff]; simp only [beq_iff_eq, decide_eq_true_eq]
  exact ⟨toList_injB, fun h => by rw [h]⟩
set_option maxRecDepth 100000 in
set_option maxHeartbeats 1000000 in
theorem hasText_any (a : Option Addr) (L : List ByteArray) (n c : Nat) (s : ByteArray) (w : World) (hn : n = L.length) (hX : RowsG 1 tx w a L) (hl : n ≤ 1000000) :
    Calls Try.prog 79 #[.slice a n c, .string s] w fun e w' => e = .returned (.bool (L.any fun x => decide (x = s))) ∧ w = w' := by
  have HN := Lib.hid hn
  clear hn
  go_enter Try.func79, Try.ntmps79
  go_wp2
  go_loop [5] (fun i => ∃ k : Nat, k ≤ n ∧ i = .int .i64 k ∧ Hid ((L.any fun x => decide (x = s)) = ((L.drop k).any fun x => decide (x = s)))) (fun i => n - (intOf i).toNat)
  case atStart => exact ⟨0, Nat.zero_le _, rfl, Lib.hid (by rw [List.drop_zero])⟩
  case round =>
    obtain ⟨k, hk, rfl, HR⟩ := hrel
    by_cases hlt : k < n
    · have hlt2 : k < L.length := by have := HN.out; omega
      have hkl : (k : Int) < (n : Int) := by omega
      obtain ⟨ad, rfl, had, hc⟩ := hX.txt hlt2
      have HS := Lib.hid (any_step (p := fun x => decide (x = s)) hlt2)
      have hq := eq_tx L[k] s
      obtain ⟨x, ex⟩ : ∃ x, x = L[k] := ⟨_, rfl⟩
      rw [← ex] at hc hq HS
      clear ex
      by_cases e : x = s
      · have hq' : (x.toList == s.toList) = true := by rw [hq]; exact decide_eq_true e
        have HE := Lib.hid e
        clear hq e
        go_wp2
        go_ret
        exact ⟨ret_bool (by rw [HR.out, HS.out]; simp [HE.out]), rfl⟩
      · have hq' : (x.toList == s.toList) = false := by rw [hq]; exact decide_eq_false e
        have HE := Lib.hid e
        clear hq e
        go_wp2
        go_round
        case rel => exact ⟨k + 1, by omega, by go_num, Lib.hid (by rw [HR.out, HS.out]; simp [HE.out])⟩
        case measure => simp [intOf]; omega
    · have HE := Lib.hid (any_stop (p := fun x => decide (x = s)) (L := L) (k := k) (by have := HN.out; omega))
      obtain rfl : k = n := by omega
      go_wp2
      go_ret
      exact ⟨ret_bool (by rw [HR.out, HE.out]), rfl⟩
def CopyTPost (L : List ByteArray) (n : Nat) (w : World) (e : Ending) (w' : World) : Prop := ∃ a c, e = .returned (.slice a n c) ∧ RowsG 1 tx w' a L ∧ (∀ ad, a = some ad → w.heap.size ≤ ad.block) ∧ (a = none → c = 0) ∧ Below w.heap.size w w'
set_option maxHeartbeats 1000000 in
theorem copyTexts_any (a : Option Addr) (L : List ByteArray) (n c : Nat) (w : World) (hn : n = L.length) (hX : RowsG 1 tx w a L) (hl : L.length ≤ 1000000) (hd : a = none → c = 0) :
    Calls Try.prog 84 #[.slice a n c] w (CopyTPost L n w) := by
  have hown : OwnG 1 9 tx (w.alloc (.cells #[] 9)) w.heap.size (.slice (some ⟨w.heap.size, 0, none⟩) 0 0) [] :=
    World.ownsRow_made (e := 9) (size := 1) (base := w.heap.size) w #[] 0 (Nat.le_refl _) (Nat.zero_le _) rfl
  have hB := (Below.refl w.heap.size w).alloc (Nat.le_refl _) (.cells #[] 9)
  have HX := Lib.hid (hX.alloc (.cells #[] 9))
  have HN := Lib.hid hn; have HL := Lib.hid hl
  clear hX hn hl
  go_enter Try.func84, Try.ntmps84
  go_wp2_with (at_builtin; refine wpList_appG tTx tx_l tx_one _ rfl _ _ rfl w.heap.size _ [] rfl hown a L n c HN.out rfl HX.out hd (by simp) HL.out (by simp) ?_; intro v2 w2 hO2 hg2 hb2 ho2; obtain ⟨a2, c2, e2, hr2, hn2, hl2⟩ := hO2.rows tx_l; rw [List.nil_append] at e2 hr2; rw [← HN.out] at e2; subst e2)
  go_ret
  exact ⟨a2, c2, rfl, hr2, hl2, hn2, hB.trans hb2⟩
theorem RowsG.set {α : Type} {n : Nat} {g : α → List Value} {w : World} {a : Option Addr} {L : List α} (h : RowsG n g w a L) {p : Addr} (hp : ∀ ad, a = some ad → ad.block ≠ p.block) (u : Value) : RowsG n g (w.setCell p u) a L := fun k hk => by
  obtain ⟨ad, e, hlt, hs⟩ := h k hk
  refine ⟨ad, e, by rw [World.size_setCell]; exact hlt, fun j hj => ?_⟩
  rw [World.cell?_setCell_other _ _ _ _ (fun e2 => hp ad e (by have := congrArg Addr.block e2; rw [fld_block, add_block] at this; exact this.symm))]
  exact hs j hj
def CopyRPost (x : Run) (n : Nat) (w : World) (e : Ending) (w' : World) : Prop := ∃ a c, e = .returned (.agg #[.string x.job, .int .i64 x.day, .int .i64 x.wanted, .int .i64 x.given, .slice a n c, .int .i64 x.ready, .int .i64 x.hour]) ∧ RowsG 1 tx w' a x.cols ∧ (a = none → c = 0) ∧ Below w.heap.size w w'
theorem info_run : (Try.prog.info? 24).map (·.size) = some 7 := by kernel_rfl
end Go.Proofs.Ytpplcbpnojggcaa
