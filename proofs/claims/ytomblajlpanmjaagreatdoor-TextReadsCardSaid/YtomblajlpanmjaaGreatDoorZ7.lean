/-
  base.Cut; law02.same.
-/
import Derived.Test.YtomblajlpanmjaaGreatDoorZXA
import Derived.Test.YtomblajlpanmjaaGreatDoorVO
import Derived.Deep.CutRange
namespace Go.Proofs.YtomblajlpanmjaaGreatDoor
open Go.RowKit Go.Maps

def bs (l : List UInt8) : ByteArray := ⟨l.toArray⟩
def preTo (p : List UInt8) (P : List (List UInt8)) : List (List UInt8) := (p ++ P.headD []) :: P.tail
theorem preTo_nil {m : UInt8} (l : List UInt8) : preTo [] (splitOn m l) = splitOn m l := (splitOn_form m l).symm
theorem ext_bytes (s : ByteArray) {f k : Nat} : (s.extract f k).data.toList = (s.data.toList.take k).drop f := by
  rw [ByteArray.data_extract, Array.toList_extract, List.extract_eq_take_drop, List.drop_take]
theorem ext_push (s : ByteArray) {f k : Nat} (hf : f ≤ k) (h : k < s.size) : (s.extract f (k + 1)).data.toList = (s.extract f k).data.toList ++ [s[k]] := by
  have hl : k < s.data.toList.length := by rw [Array.length_toList]; exact h
  rw [ext_bytes, ext_bytes, List.take_succ_eq_append_getElem hl, List.drop_append_of_le_length (by rw [List.length_take]; omega)]
  rfl
def CutPost (w : World) (m : UInt8) (s : ByteArray) (e : Ending) (w' : World) : Prop :=
  Below w.heap.size w w' ∧ ∃ v, e = .returned v ∧ TRow w' w.heap.size v ((splitOn m s.data.toList).map bs)

set_option maxRecDepth 100000 in
set_option maxHeartbeats 2000000 in
theorem cut_any (s : ByteArray) (m : UInt8) (w : World) (hs : s.size ≤ 1000) :
    Calls Tryz.prog 64 #[.string s, .int .u8 m.toNat] w (CutPost w m s) := by
  obtain ⟨i0, hi0, hz0, hz1, hz2⟩ := info_parts info_str
  go_enter Tryz.func64, Tryz.ntmps64
  go_wp2_with fail
  go_loopw [5, 6, 7] (fun v5 v6 i wr => ∃ (k f : Nat) (D : List (List UInt8)), k ≤ s.size ∧ f ≤ k ∧ i = .int .i64 k ∧ v6 = .int .i64 f ∧ TRow wr w.heap.size v5 (D.map bs) ∧ D.length ≤ k ∧ Hid (splitOn m s.data.toList = D ++ preTo (s.extract f k).data.toList (splitOn m (s.data.toList.drop k))) ∧ Below w.heap.size w wr) (fun _ _ i _ => s.size - (intOf i).toNat)
  case atStart => exact ⟨0, 0, [], Nat.zero_le _, Nat.le_refl _, rfl, rfl, World.ownsRow_nil _ _ _ _, Nat.le_refl _, Lib.hid (by rw [ext_bytes]; exact (preTo_nil _).symm), Below.refl _ _⟩
  case round =>
    obtain ⟨k, f, D, hk, hf, rfl, rfl, hT, hDl, HR, hB⟩ := hrel
    obtain ⟨A, c, rfl, -, hAc, hAn⟩ := hT.shape
    have hbw := hB.size
    have hfk : (f : Int) ≤ (k : Int) := by omega
    have hkI : (k : Int) ≤ (s.size : Int) := by omega
    have hfI : (f : Int) ≤ (s.size : Int) := by omega
    obtain ⟨n, hn⟩ : ∃ n, n = (D.map bs).length := ⟨_, rfl⟩
    have hnD : n = D.length := by rw [hn, List.length_map]
    have hO : wr.ownsRow w.heap.size 9 1 (.slice A n c) n (txs (D.map bs)) := by rw [hn]; exact hT
    have hnk : n ≤ k := by omega
    rw [← hn]
    have HN := Lib.hid hn
    clear hT hn hnD
    by_cases hlt : k < s.size
    · have hkl : (k : Int) < (s.size : Int) := by omega
      have HD := Lib.hid (drop_cons s k hlt)
      by_cases hm : s[k] = m
      · have hb : ((s[k].toNat : Int) == (m.toNat : Int)) = true := by rw [hm]; simp
        have HR2 := Lib.hid (show splitOn m s.data.toList = (D ++ [(s.extract f k).data.toList]) ++ preTo (s.extract (k + 1) (k + 1)).data.toList (splitOn m (s.data.toList.drop (k + 1))) by
          have e0 : (s.extract (k + 1) (k + 1)).data.toList = [] := by rw [ext_bytes]; exact List.drop_of_length_le (by rw [List.length_take]; omega)
          rw [HR.out, HD.out, hm, splitOn_cons_eq, e0, preTo_nil]
          simp [preTo])
        clear hm
        go_wp2_with (at_builtin; refine wpList_append_own _ rfl _ _ 22 rfl w.heap.size 9 i0 _ 1 16 Tryz.underlying22 hi0 hz0 hz1 hz2 rfl (by decide) _ n _ rfl (hO.alloc _) ⟨wr.heap.size, 0, none⟩ 1 1 [.string (s.extract f k)] rfl rfl (World.news_of_block (cs := #[.string (s.extract f k)]) (t := 9) (fr := (0, 0)) (heap_alloc_new wr _)) (by simp [Value.oneCell']) (by unfold maxLen; omega) (by omega) (by simp; omega) ?_; intro v5 w5 hown5 hgrow hnil; obtain ⟨g5, c5, rfl⟩ := own_pos hown5)
        have hB5 := (hB.alloc hbw (.cells #[.string (s.extract f k)] 9)).grown hgrow (by simp; omega) (fun q hq => (hO.lt q hq).1)
        have hT5 : TRow w5 w.heap.size (.slice (some ⟨g5, 0, none⟩) (n + 1) c5) ((D ++ [(s.extract f k).data.toList]).map bs) := by
          have e : (D ++ [(s.extract f k).data.toList]).map bs = D.map bs ++ [s.extract f k] := by rw [List.map_append]; rfl
          unfold TRow
          rw [e, List.length_append, ← HN.out, ← txs_snoc]
          exact hown5
        go_roundw
        case rel => exact ⟨k + 1, k + 1, D ++ [(s.extract f k).data.toList], by omega, Nat.le_refl _, by go_num, by go_num, hT5, by rw [List.length_append]; simp; omega, HR2, hB5⟩
        case measure => simp [intOf]; omega
      · have hb : ((s[k].toNat : Int) == (m.toNat : Int)) = false := by
          rw [beq_eq_false_iff_ne]
          intro e
          exact hm (UInt8.toNat_inj.1 (by omega))
        have HR2 := Lib.hid (show splitOn m s.data.toList = D ++ preTo (s.extract f (k + 1)).data.toList (splitOn m (s.data.toList.drop (k + 1))) by
          rw [HR.out, HD.out, splitOn_cons_ne hm, ext_push s hf hlt]
          simp [preTo])
        have hT5 : TRow wr w.heap.size (.slice A n c) (D.map bs) := by unfold TRow; rw [← HN.out]; exact hO
        clear hm
        go_wp2
        go_roundw
        case rel => exact ⟨k + 1, f, D, by omega, by omega, by go_num, rfl, hT5, by omega, HR2, hB⟩
        case measure => simp [intOf]; omega
    · obtain rfl : k = s.size := by omega
      have HE := Lib.hid (show splitOn m s.data.toList = D ++ [(s.extract f s.size).data.toList] by
        rw [HR.out, List.drop_of_length_le (by rw [Array.length_toList]; exact Nat.le_refl _)]
        simp [splitOn, preTo])
      go_wp2_with (at_builtin; refine wpList_append_own _ rfl _ _ 22 rfl w.heap.size 9 i0 _ 1 16 Tryz.underlying22 hi0 hz0 hz1 hz2 rfl (by decide) _ n _ rfl (hO.alloc _) ⟨wr.heap.size, 0, none⟩ 1 1 [.string (s.extract f s.size)] rfl rfl (World.news_of_block (cs := #[.string (s.extract f s.size)]) (t := 9) (fr := (0, 0)) (heap_alloc_new wr _)) (by simp [Value.oneCell']) (by unfold maxLen; omega) (by omega) (by simp; omega) ?_; intro v5 w5 hown5 hgrow hnil; obtain ⟨g5, c5, rfl⟩ := own_pos hown5)
      have hB5 := (hB.alloc hbw (.cells #[.string (s.extract f s.size)] 9)).grown hgrow (by simp; omega) (fun q hq => (hO.lt q hq).1)
      have hT5 : TRow w5 w.heap.size (.slice (some ⟨g5, 0, none⟩) (n + 1) c5) ((splitOn m s.data.toList).map bs) := by
        have e : (D ++ [(s.extract f s.size).data.toList]).map bs = D.map bs ++ [s.extract f s.size] := by rw [List.map_append]; rfl
        rw [HE.out]
        unfold TRow
        rw [e, List.length_append, ← HN.out, ← txs_snoc]
        exact hown5
      go_ret
      exact ⟨hB5, _, rfl, hT5⟩

end Go.Proofs.YtomblajlpanmjaaGreatDoor
