/-
  What a sort prints: the test of its kind's lengths (read off the program's own table), of its bytes, of what is known.
-/
import Derived.Test.YtjkcomafgkabeaaDoorA3
namespace Go.Proofs.YtjkcomafgkabeaaDoor
open Go.RowKit Go.Maps

/-- The table of the kinds' lengths lies in its variable. -/
def TabOk (w : World) : Prop :=
  1 < w.heap.size ∧ w.cell? ⟨1, 2, none⟩ = some (.int .i64 1) ∧ w.cell? ⟨1, 3, none⟩ = some (.int .i64 1) ∧
    w.cell? ⟨1, 4, none⟩ = some (.int .i64 2) ∧ w.cell? ⟨1, 5, none⟩ = some (.int .i64 4) ∧
    w.cell? ⟨1, 6, none⟩ = some (.int .i64 0) ∧ w.cell? ⟨1, 7, none⟩ = some (.int .i64 0)
theorem TabOk.below {w w' : World} {B : Nat} (h : TabOk w) (hb : Below B w w') (hB : 1 < B) : TabOk w' := by
  obtain ⟨h0, h1, h2, h3, h4, h5, h6⟩ := h
  refine ⟨Nat.lt_of_lt_of_le h0 hb.size, ?_, ?_, ?_, ?_, ?_, ?_⟩
  all_goals first | exact (hb.cell (p := ⟨_, _, none⟩) hB).trans h1 | exact (hb.cell (p := ⟨_, _, none⟩) hB).trans h2 | exact (hb.cell (p := ⟨_, _, none⟩) hB).trans h3 | exact (hb.cell (p := ⟨_, _, none⟩) hB).trans h4 | exact (hb.cell (p := ⟨_, _, none⟩) hB).trans h5 | exact (hb.cell (p := ⟨_, _, none⟩) hB).trans h6

theorem bads_cons (s : ByteArray) (k : Nat) (h : k < s.size) : badsB (s.data.toList.drop k) = (badB (s[k].toNat : Int) || badsB (s.data.toList.drop (k + 1))) := by
  rw [drop_cons s k h]; rfl
theorem bads_end (s : ByteArray) (k : Nat) (h : ¬ k < s.size) : badsB (s.data.toList.drop k) = false := by
  rw [List.drop_of_length_le (by simpa using h)]; rfl
theorem textErr_len {l : List TS} {k : Int} {s : ByteArray} (h : inB s.size (leastOf k) (mostOf k) = false) : textErr l k s = 3 := by unfold textErr; rw [if_pos h]
theorem textErr_rest {l : List TS} {k : Int} {s : ByteArray} (h : inB s.size (leastOf k) (mostOf k) = true) : textErr l k s = if badsB s.data.toList = true then 3 else if k ≠ 3 ∧ l.any (sameText s) = true then 13 else 0 := by
  unfold textErr; rw [if_neg (by simp [h])]
theorem any_empty {l : List TS} {s : ByteArray} (h : ∀ x ∈ l, x.kind ≠ 3 → 0 < x.text.size) (hs : s.size = 0) : l.any (sameText s) = false := by
  rw [Bool.eq_false_iff]
  intro ha
  obtain ⟨x, hx, e⟩ := List.any_eq_true.1 ha
  unfold sameText at e
  rw [Bool.and_eq_true, beq_iff_eq, ByteArray.toList_eq, ByteArray.toList_eq] at e
  have h1 := h x hx (by simpa using e.1)
  have h2 : x.text = s := WideShapes.bytes_inj e.2
  rw [h2] at h1; omega

theorem inB_eq {n lo hi : Int} (h1 : lo ≤ n) (h2 : n ≤ hi) : inB n lo hi = true := decide_eq_true ⟨h1, h2⟩
theorem inB_no {n lo hi : Int} (h : n < lo ∨ hi < n) : inB n lo hi = false := decide_eq_false (by omega)
theorem bad_yes {c : Int} (h : c < 33 ∨ 126 < c) : badB c = true := decide_eq_true h
theorem bad_no {c : Int} (h : ¬ (c < 33 ∨ 126 < c)) : badB c = false := decide_eq_false h

set_option maxRecDepth 100000 in
set_option maxHeartbeats 2000000 in
theorem errorOfText_any (b1 b2 : Nat) (l : List TS) (kind : Int) (s : ByteArray) (w : World) (hs : s.size ≤ maxLen) (hk : 1 ≤ kind ∧ kind ≤ 3) (hK : KnownAt w b1 b2 l) (hT : TabOk w) :
    Calls Tryd.prog 110 #[.agg #[.map (some b1), .map (some b2)], .int .i64 kind, .string s] w fun e w' => e = .returned (.int .i64 (textErr l kind s)) ∧ Below w.heap.size w w' := by
  obtain ⟨hne, D1, D2, ho1, ho2, hi1, hz1, hi2, hx0⟩ := hK
  have hkey := WideMaps.keyOf_string_mk (P := Tryd.prog) Tryd.underlying9 hs
  have hh := hi2.has s
  have hem := fun h => any_empty (s := s) hx0 h
  unfold maxLen at hs
  obtain ⟨hg, t1, t2, t3, t4, t5, t6⟩ := hT
  clear hz1 hi1 hi2 hx0
  have h3 : kind = 1 ∨ kind = 2 ∨ kind = 3 := by omega
  clear hk
  obtain ⟨lo, hi, hlo, hhi⟩ : ∃ lo hi, lo = leastOf kind ∧ hi = mostOf kind := ⟨_, _, rfl, rfl⟩
  by_cases hlen : (s.size : Int) < lo ∨ hi < (s.size : Int)
  · have HE := Lib.hid (textErr_len (l := l) (k := kind) (s := s) (inB_no (by omega)))
    have HH := Lib.hid hh; clear hh
    have HM := Lib.hid hem; clear hem
    rcases h3 with rfl | rfl | rfl
    all_goals
      simp only [leastOf, mostOf] at hlo hhi
      simp at hlo hhi
      subst hlo hhi
      go_enter Tryd.func110, Tryd.ntmps110
      go_wp2
      all_goals first | (exfalso; omega) | skip
      all_goals go_ret
      all_goals exact ⟨ret_int HE.out.symm, (Below.refl _ _).alloc (Nat.le_refl _) _⟩
  have HE := Lib.hid (textErr_rest (l := l) (k := kind) (s := s) (inB_eq (by omega) (by omega)))
  have hl1 : lo ≤ (s.size : Int) := by omega
  have hl2 : (s.size : Int) ≤ hi := by omega
  clear hlen
  cases ha : l.any (sameText s)
  · rw [ha] at hh
    have HA := Lib.hid ha; clear ha hem
    rcases h3 with rfl | rfl | rfl
    all_goals
      simp only [leastOf, mostOf] at hlo hhi
      simp at hlo hhi
      subst hlo hhi
      go_enter Tryd.func110, Tryd.ntmps110
      go_wp2
      go_loop [28] (fun i => ∃ k : Nat, k ≤ s.size ∧ i = .int .i64 k ∧ Hid (badsB s.data.toList = badsB (s.data.toList.drop k))) (fun i => s.size - (intOf i).toNat)
      case atStart => exact ⟨0, Nat.zero_le _, rfl, Lib.hid (by rw [List.drop_zero])⟩
      case round =>
        obtain ⟨k, hk, rfl, HR⟩ := hrel
        by_cases hlt : k < s.size
        · have hc := bads_cons s k hlt
          by_cases hb : (s[k].toNat : Int) < 33 ∨ 126 < (s[k].toNat : Int)
          · rw [bad_yes hb, Bool.true_or] at hc
            have HC := Lib.hid hc; clear hc
            go_wp2
            all_goals first | (exfalso; omega) | (exfalso; (simp at *) <;> omega) | skip
            all_goals go_ret
            all_goals exact ⟨ret_int (by rw [HE.out, HR.out, HC.out]; rfl), (Below.refl _ _).alloc (Nat.le_refl _) _⟩
          · rw [bad_no hb, Bool.false_or] at hc
            have HC := Lib.hid hc; clear hc
            have h33 : 33 ≤ (s[k].toNat : Int) := by omega
            have h126 : (s[k].toNat : Int) ≤ 126 := by omega
            clear hb
            go_wp2
            all_goals go_round
            all_goals first | exact ⟨k + 1, by omega, by go_num, Lib.hid (HR.out.trans HC.out)⟩ | (simp [intOf]; omega)
        · have HC := Lib.hid (bads_end s k hlt)
          go_wp2_with (at_lookup; refine wpList_lookup_own_ok_int _ rfl _ _ 95 rfl 9 3 .i64 lawS Tryd.underlying95 Tryd.underlying3 (zeroInt _) b2 _ _ rfl (ho2.alloc _) _ _ rfl hkey ?_; intro c hat hwc)
          go_ret
          exact ⟨ret_int (by rw [HE.out, HR.out, HC.out, HA.out]; rfl), (Below.refl _ _).alloc (Nat.le_refl _) _⟩
  · rw [ha] at hh
    have hnz : ¬ s.size = 0 := fun h => by rw [hem h] at ha; cases ha
    have HA := Lib.hid ha; clear ha hem
    rcases h3 with rfl | rfl | rfl
    case inr.inr =>
      simp only [leastOf, mostOf] at hlo hhi
      simp at hlo hhi
      exfalso; omega
    all_goals
      simp only [leastOf, mostOf] at hlo hhi
      simp at hlo hhi
      subst hlo hhi
      go_enter Tryd.func110, Tryd.ntmps110
      go_wp2
      go_loop [28] (fun i => ∃ k : Nat, k ≤ s.size ∧ i = .int .i64 k ∧ Hid (badsB s.data.toList = badsB (s.data.toList.drop k))) (fun i => s.size - (intOf i).toNat)
      case atStart => exact ⟨0, Nat.zero_le _, rfl, Lib.hid (by rw [List.drop_zero])⟩
      case round =>
        obtain ⟨k, hk, rfl, HR⟩ := hrel
        by_cases hlt : k < s.size
        · have hc := bads_cons s k hlt
          by_cases hb : (s[k].toNat : Int) < 33 ∨ 126 < (s[k].toNat : Int)
          · rw [bad_yes hb, Bool.true_or] at hc
            have HC := Lib.hid hc; clear hc
            go_wp2
            all_goals first | (exfalso; omega) | (exfalso; (simp at *) <;> omega) | skip
            all_goals go_ret
            all_goals exact ⟨ret_int (by rw [HE.out, HR.out, HC.out]; rfl), (Below.refl _ _).alloc (Nat.le_refl _) _⟩
          · rw [bad_no hb, Bool.false_or] at hc
            have HC := Lib.hid hc; clear hc
            have h33 : 33 ≤ (s[k].toNat : Int) := by omega
            have h126 : (s[k].toNat : Int) ≤ 126 := by omega
            clear hb
            go_wp2
            all_goals go_round
            all_goals first | exact ⟨k + 1, by omega, by go_num, Lib.hid (HR.out.trans HC.out)⟩ | (simp [intOf]; omega)
        · have HC := Lib.hid (bads_end s k hlt)
          go_wp2_with (at_lookup; refine wpList_lookup_own_ok_int _ rfl _ _ 95 rfl 9 3 .i64 lawS Tryd.underlying95 Tryd.underlying3 (zeroInt _) b2 _ _ rfl (ho2.alloc _) _ _ rfl hkey ?_; intro c hat hwc)
          go_ret
          exact ⟨ret_int (by rw [HE.out, HR.out, HC.out, HA.out]; rfl), (Below.refl _ _).alloc (Nat.le_refl _) _⟩
end Go.Proofs.YtjkcomafgkabeaaDoor
