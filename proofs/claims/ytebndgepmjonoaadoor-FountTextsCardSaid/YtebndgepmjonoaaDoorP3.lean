/-
  The words of a line.
-/
import Derived.Test.YtebndgepmjonoaaDoorP2
import Derived.Deep.AppendLies
namespace Go.Proofs.YtebndgepmjonoaaDoor
open Go.RowKit Go.Maps

def joinB : List (List UInt8) → List UInt8
  | [] => []
  | [a] => a
  | a :: b :: r => a ++ 32 :: joinB (b :: r)
/-- What stands behind the first word. -/
def restB : List (List UInt8) → List UInt8
  | [] => []
  | a :: r => 32 :: joinB (a :: r)
theorem join_cons (a : List UInt8) (r : List (List UInt8)) : joinB (a :: r) = a ++ restB r := by
  cases r with
  | nil => simp [joinB, restB]
  | cons b r => rfl
def OkW (a : List UInt8) : Prop := a ≠ [] ∧ ∀ c ∈ a, blB (c.toNat : Int) = false
theorem byte_at {s : ByteArray} {i : Nat} {x : UInt8} {Y : List UInt8} (h : s.data.toList.drop i = x :: Y) : ∃ hi : i < s.size, s[i] = x ∧ s.data.toList.drop (i + 1) = Y := by
  have hi : i < s.size := by
    rcases Nat.lt_or_ge i s.size with h1 | h1
    · exact h1
    · rw [List.drop_of_length_le (by rw [len_data]; exact h1)] at h; cases h
  rw [drop_cons s i hi] at h
  injection h with h1 h2
  exact ⟨hi, h1, h2⟩
theorem byte_in {s : ByteArray} {i j : Nat} {A Y : List UInt8} (h : s.data.toList.drop i = A ++ Y) (hj : j < A.length) : ∃ hi : i + j < s.size, s[i + j] = A[j] := by
  have h2 : s.data.toList.drop (i + j) = A[j] :: (A.drop (j + 1) ++ Y) := by
    rw [← List.drop_drop, h, List.drop_append_of_le_length (by omega), List.drop_eq_getElem_cons hj]; rfl
  obtain ⟨hi, e, _⟩ := byte_at h2
  exact ⟨hi, e⟩
theorem byte_q {s : ByteArray} {p q : Nat} {A Y : List UInt8} (h : s.data.toList.drop p = A ++ Y) (h1 : p ≤ q) (h2 : q < p + A.length) : ∃ (hi : q < s.size) (x : UInt8), x ∈ A ∧ s[q] = x := by
  obtain ⟨j, rfl⟩ : ∃ j, q = p + j := ⟨q - p, by omega⟩
  obtain ⟨hi, e⟩ := byte_in (j := j) h (by omega)
  exact ⟨hi, _, List.getElem_mem _, e⟩
theorem drop_past {s : ByteArray} {i : Nat} {A Y : List UInt8} (h : s.data.toList.drop i = A ++ Y) : s.data.toList.drop (i + A.length) = Y := by
  rw [← List.drop_drop, h]; simp
def wCells (x : ByteArray × Int) : List Value := [.string x.1, .int .i64 x.2]
def wVals (T : List (ByteArray × Int)) : List Value := T.flatMap wCells
theorem wVals_snoc (T : List (ByteArray × Int)) (x : ByteArray × Int) : wVals (T ++ [x]) = wVals T ++ [.string x.1, .int .i64 x.2] := by unfold wVals; rw [List.flatMap_append]; rfl
theorem infoW : (Tryd.prog.info? 101).map (fun i => (i.zero, i.size, i.bytes)) = some (some (.agg #[.string ⟨#[]⟩, .int .i64 0]), 2, 24) := by kernel_rfl
def WordsPost (w : World) (ws : List (List UInt8)) (e : Ending) (w' : World) : Prop :=
  Below w.heap.size w w' ∧ ∃ (v : Value) (T : List (ByteArray × Int)), e = .returned v ∧ T.map (·.1.data.toList) = ws ∧ w'.ownsRow w.heap.size 101 2 v ws.length (wVals T)

set_option maxRecDepth 100000 in
set_option maxHeartbeats 4000000 in
theorem wordsOf_any (s : ByteArray) (ws : List (List UInt8)) (w : World) (hs : s.data.toList = joinB ws) (hw : ∀ a ∈ ws, OkW a) (h6 : s.size ≤ 100000) (hn : ws.length ≤ 1000) :
    Calls Tryd.prog 50 #[.string s] w (WordsPost w ws) := by
  obtain ⟨i0, hi0, hz0, hz1, hz2⟩ := info_parts infoW
  have HW := Lib.hid hw
  have HS := Lib.hid hs
  clear hw hs
  go_enter Tryd.func50, Tryd.ntmps50
  go_wp2_with fail
  go_loopw [3, 4] (fun v i wr => ∃ (p k : Nat) (T : List (ByteArray × Int)), i = .int .i64 p ∧ p ≤ s.size ∧ k ≤ ws.length ∧ Hid (T.map (·.1.data.toList) = ws.take k) ∧ Hid (s.data.toList.drop p = joinB (ws.drop k) ∨ (k < ws.length ∧ s.data.toList.drop p = 32 :: joinB (ws.drop k))) ∧ wr.ownsRow w.heap.size 101 2 v k (wVals T) ∧ Below w.heap.size w wr) (fun _ i _ => s.size - (intOf i).toNat)
  case atStart => exact ⟨0, 0, [], rfl, Nat.zero_le _, Nat.zero_le _, Lib.hid rfl, Lib.hid (.inl (by rw [List.drop_zero, List.drop_zero, HS.out])), World.ownsRow_nil _ _ _ _, Below.refl _ _⟩
  case round =>
    obtain ⟨p, k, T, rfl, hp, hk, HT, HR, hown, hB⟩ := hrel
    by_cases hlt : k < ws.length
    · have hdk : ws.drop k = ws[k] :: ws.drop (k + 1) := List.drop_eq_getElem_cons hlt
      have hokw := HW.out ws[k] (List.getElem_mem hlt)
      have HTK := Lib.hid (show ws.take (k + 1) = ws.take k ++ [ws[k]] from List.take_succ_eq_append_getElem hlt)
      rcases HR.out with hr | ⟨_, hr⟩
      · rw [hdk, join_cons] at hr
        generalize ws[k] = W at hr hokw HTK
        have hre : ws.drop (k + 1) = [] ∨ (k + 1 < ws.length ∧ restB (ws.drop (k + 1)) = 32 :: joinB (ws.drop (k + 1))) := by
          by_cases h : k + 1 < ws.length
          · right
            refine ⟨h, ?_⟩
            rw [List.drop_eq_getElem_cons h]; rfl
          · left; exact List.drop_of_length_le (by omega)
        have hWp : 0 < W.length := List.length_pos_iff.2 hokw.1
        obtain ⟨hps, x0, hx0, e0⟩ := byte_q (q := p) hr (Nat.le_refl _) (by omega)
        have hb0 : blB (s[p].toNat : Int) = false := by rw [e0]; exact hokw.2 _ hx0
        have hps' : (p : Int) < (s.size : Int) := by omega
        have HR2 := Lib.hid hr
        have HOK := Lib.hid hokw
        have hsz : p + W.length ≤ s.size := by
          have := congrArg List.length hr
          rw [List.length_drop, len_data, List.length_append] at this
          omega
        clear hr e0 hx0 hokw hdk HR
        go_wp2_with (go_at_call 65; refine (isBlank_any _ _).mono ?_; rintro e w' ⟨rfl, rfl⟩)
        go_loop [5] (fun v => ∃ q : Nat, p ≤ q ∧ q ≤ p + W.length ∧ v = .int .i64 q) (fun v => s.size - (intOf v).toNat)
        case atStart => exact ⟨p, Nat.le_refl _, by omega, rfl⟩
        case round =>
          obtain ⟨q, hq1, hq2, rfl⟩ := hrel
          by_cases hjl : q < p + W.length
          · obtain ⟨hpj, x, hx, ej⟩ := byte_q HR2.out hq1 hjl
            have hbj : blB (s[q].toNat : Int) = false := by rw [ej]; exact HOK.out.2 _ hx
            have hpj' : (q : Int) < (s.size : Int) := by omega
            clear ej hx
            go_wp2_with (go_at_call 65; refine (isBlank_any _ _).mono ?_; rintro e w' ⟨rfl, rfl⟩)
            go_round
            case rel => exact ⟨q + 1, by omega, by omega, by go_num⟩
            case measure => simp [intOf]; omega
          · have eq : q = p + W.length := by omega
            have hpast := drop_past HR2.out
            rw [← eq] at hpast
            have hx := Lib.hid (show (s.extract p q).data.toList = W by rw [Lib.extract_data, HR2.out, eq]; simp)
            have hqp : (p : Int) ≤ (q : Int) := by omega
            have hqs : (q : Int) ≤ (s.size : Int) := by omega
            have hpq : p < q := by omega
            have hqsz : q ≤ s.size := by omega
            clear eq hjl hq1 hq2 hsz
            have owna := hown.alloc (.cells #[.string (s.extract p q), .int .i64 ((p : Int) + 1)] 101)
            have HNW := Lib.hid (World.news_of_block (cs := #[.string (s.extract p q), .int .i64 ((p : Int) + 1)]) (t := 101) (fr := (0, 0)) (heap_alloc_new wr _))
            have HO1 : Hid (∀ u ∈ [Value.string (s.extract p q), .int .i64 ((p : Int) + 1)], u.oneCell' = true) := Lib.hid (by intro u hu; simp only [List.mem_cons, List.not_mem_nil, or_false] at hu; rcases hu with rfl | rfl <;> rfl)
            have H63 : Hid (k + 1 ≤ maxLen) := Lib.hid (by unfold maxLen; omega)
            have HBY : Hid ((k + 1) * 24 ≤ 140737488355328) := Lib.hid (by omega)
            have hbw := hB.size
            have hbase : w.heap.size ≤ (wr.alloc (.cells #[.string (s.extract p q), .int .i64 ((p : Int) + 1)] 101)).heap.size := by simp; omega
            rcases hre with hre | ⟨hk1, hre⟩
            · rw [hre] at hpast
              have hqe : ¬ (q : Int) < (s.size : Int) := by
                have := congrArg List.length hpast
                rw [List.length_drop, len_data] at this
                simp [restB] at this
                omega
              have HNX := Lib.hid (show s.data.toList.drop q = joinB (ws.drop (k + 1)) ∨ (k + 1 < ws.length ∧ s.data.toList.drop q = 32 :: joinB (ws.drop (k + 1))) from .inl (by rw [hpast, hre]; rfl))
              clear hre hpast
              go_wp2_with (at_builtin; refine wpList_append_own _ rfl _ _ 98 rfl w.heap.size 101 i0 (.agg #[.string ⟨#[]⟩, .int .i64 0]) 2 24 Tryd.underlying98 hi0 hz0 hz1 hz2 rfl (by decide) _ k (wVals T) rfl owna ⟨wr.heap.size, 0, none⟩ 1 1 [.string (s.extract p q), .int .i64 ((p : Int) + 1)] rfl rfl (by simpa using HNW.out) HO1.out H63.out HBY.out hbase ?_; intro v' w10 hown10 hgrow10 hnil10)
              have hB10 : Below w.heap.size w w10 := (hB.alloc hbw _).grown hgrow10 hbase (fun q hq => (owna.lt q hq).1)
              have hT10 := Lib.hid (show (T ++ [(s.extract p q, (p : Int) + 1)]).map (·.1.data.toList) = ws.take (k + 1) by rw [List.map_append, HT.out, HTK.out]; exact congrArg (fun z => ws.take k ++ [z]) hx.out)
              have hw10 := wVals_snoc T (s.extract p q, (p : Int) + 1)
              go_roundw
              case rel => exact ⟨q, k + 1, T ++ [(s.extract p q, (p : Int) + 1)], rfl, by omega, by omega, hT10, HNX, by rw [hw10]; exact hown10, hB10⟩
              case measure => simp [intOf]; omega
            · rw [hre] at hpast
              obtain ⟨hqs2, e1, _⟩ := byte_at hpast
              have hb1 : blB (s[q].toNat : Int) = true := by rw [e1]; rfl
              have hqs3 : (q : Int) < (s.size : Int) := by omega
              have HNX := Lib.hid (show s.data.toList.drop q = joinB (ws.drop (k + 1)) ∨ (k + 1 < ws.length ∧ s.data.toList.drop q = 32 :: joinB (ws.drop (k + 1))) from .inr ⟨hk1, hpast⟩)
              clear hre hpast e1
              go_wp2_with (first | (go_at_call 65; refine (isBlank_any _ _).mono ?_; rintro e w' ⟨rfl, rfl⟩) | (at_builtin; refine wpList_append_own _ rfl _ _ 98 rfl w.heap.size 101 i0 (.agg #[.string ⟨#[]⟩, .int .i64 0]) 2 24 Tryd.underlying98 hi0 hz0 hz1 hz2 rfl (by decide) _ k (wVals T) rfl owna ⟨wr.heap.size, 0, none⟩ 1 1 [.string (s.extract p q), .int .i64 ((p : Int) + 1)] rfl rfl (by simpa using HNW.out) HO1.out H63.out HBY.out hbase ?_; intro v' w10 hown10 hgrow10 hnil10))
              have hB10 : Below w.heap.size w w10 := (hB.alloc hbw _).grown hgrow10 hbase (fun q hq => (owna.lt q hq).1)
              have hT10 := Lib.hid (show (T ++ [(s.extract p q, (p : Int) + 1)]).map (·.1.data.toList) = ws.take (k + 1) by rw [List.map_append, HT.out, HTK.out]; exact congrArg (fun z => ws.take k ++ [z]) hx.out)
              have hw10 := wVals_snoc T (s.extract p q, (p : Int) + 1)
              go_roundw
              case rel => exact ⟨q, k + 1, T ++ [(s.extract p q, (p : Int) + 1)], rfl, by omega, by omega, hT10, HNX, by rw [hw10]; exact hown10, hB10⟩
              case measure => simp [intOf]; omega
      · obtain ⟨hps, e0, hnx⟩ := byte_at hr
        have hb0 : blB (s[p].toNat : Int) = true := by rw [e0]; rfl
        have hps' : (p : Int) < (s.size : Int) := by omega
        have HNX := Lib.hid (show s.data.toList.drop (p + 1) = joinB (ws.drop k) ∨ (k < ws.length ∧ s.data.toList.drop (p + 1) = 32 :: joinB (ws.drop k)) from .inl hnx)
        clear hr e0 hdk HR hnx
        go_wp2_with (go_at_call 65; refine (isBlank_any _ _).mono ?_; rintro e w' ⟨rfl, rfl⟩)
        go_roundw
        case rel => exact ⟨p + 1, k, T, by go_num, by omega, hk, HT, HNX, hown, hB⟩
        case measure => simp [intOf]; omega
    · have hk2 : k = ws.length := by omega
      subst hk2
      have hpe : p = s.size := by
        rcases HR.out with hr | ⟨h, _⟩
        · rw [List.drop_of_length_le (Nat.le_refl _)] at hr
          have := congrArg List.length hr
          rw [List.length_drop, len_data] at this
          simp [joinB] at this
          omega
        · omega
      have HT2 := Lib.hid (show T.map (·.1.data.toList) = ws by rw [HT.out, List.take_length])
      clear HR
      subst hpe
      go_wp2
      go_ret
      exact ⟨hB, _, T, rfl, HT2.out, hown⟩
end Go.Proofs.YtebndgepmjonoaaDoor
