/-
  Walk of TextHyphens.
-/
import Derived.Test.YtpoadjnhmdbdeaaGreatDoorLZ
import Derived.Test.YtpoadjnhmdbdeaaGreatDoorJ1
namespace Go.Proofs.YtpoadjnhmdbdeaaGreatDoor
open Go.RowKit Go.Maps Go.Shelf

theorem bytes_eq3 {a b : ByteArray} (h : a.data.toList = b.data.toList) : a = b := by
  cases a; cases b; congr; exact Array.toList_inj.1 h
def without (m : UInt8) (l : List UInt8) : List UInt8 := l.filter fun c => decide (c ≠ m)
theorem split_flat (m : UInt8) : ∀ l : List UInt8, (splitOn m l).flatten = without m l
  | [] => rfl
  | c :: l => by
    have ih := split_flat m l
    by_cases h : c = m
    · subst h
      rw [splitOn_cons_eq]
      unfold without at ih ⊢
      rw [List.flatten_cons, List.nil_append, ih, List.filter_cons_of_neg (by simp)]
    · rw [splitOn_cons_ne h]
      rw [splitOn_form] at ih
      unfold without at ih ⊢
      rw [List.filter_cons_of_pos (by simpa using h), ← ih]
      rfl
theorem without_none {m : UInt8} {l : List UInt8} (h : (splitOn m l).length ≤ 1) : ∀ c ∈ l, c ≠ m := by
  have h1 := splitOn_len m l
  have h2 : 0 < (splitOn m l).length := List.length_pos_iff.2 (splitOn_ne m l)
  rw [split_flat] at h1
  intro c hc e
  have h3 : (without m l).length < l.length := by
    unfold without
    exact List.length_filter_lt_length_iff_exists.2 ⟨c, hc, by simp [e]⟩
  omega
theorem without_all {m : UInt8} {l : List UInt8} (h : ∀ c ∈ l, c ≠ m) : without m l = l := by
  unfold without
  exact List.filter_eq_self.2 fun c hc => decide_eq_true (h c hc)
theorem without_app (m : UInt8) (a b : List UInt8) : without m (a ++ b) = without m a ++ without m b := List.filter_append ..
theorem hyOut_without {s : ByteArray} {P : List Int} (ha : Asc s.size P) (hn : ∀ c ∈ s.data.toList, c ≠ 45) : ∀ k, k ≤ P.length → without 45 (hyOut s P k) = s.data.toList.take (fromAt P k).toNat ∧ (hyOut s P k).length = (fromAt P k).toNat + k
  | 0, _ => ⟨rfl, rfl⟩
  | k + 1, h => by
    obtain ⟨h1, h2⟩ := hyOut_without ha hn k (by omega)
    have hb := fromAt_ok ha k (by omega)
    have hp := ha k (by omega)
    have he : (s.extract (fromAt P k).toNat (P.getD k 0).toNat).data.toList = (s.data.toList.drop (fromAt P k).toNat).take ((P.getD k 0).toNat - (fromAt P k).toNat) := ext_list s _ _
    obtain ⟨a, ea⟩ : ∃ a, a = (fromAt P k).toNat := ⟨_, rfl⟩
    obtain ⟨d, ed⟩ : ∃ d, (P.getD k 0).toNat = a + d := ⟨(P.getD k 0).toNat - a, by omega⟩
    have hs : s.data.toList.length = s.size := by rw [Array.length_toList]; rfl
    have hw : without 45 ((s.data.toList.drop a).take d) = (s.data.toList.drop a).take d := without_all fun c hc => hn c (List.mem_of_mem_drop (List.mem_of_mem_take hc))
    rw [← ea] at h1 h2 he
    rw [ed, Nat.add_sub_cancel_left] at he
    show without 45 (hyOut s P k ++ ((s.extract (fromAt P k).toNat (P.getD k 0).toNat).data.toList ++ [45])) = s.data.toList.take (P.getD k 0).toNat ∧ (hyOut s P k ++ ((s.extract (fromAt P k).toNat (P.getD k 0).toNat).data.toList ++ [45])).length = (P.getD k 0).toNat + (k + 1)
    rw [← ea, ed, he, without_app, without_app, h1, hw, List.take_add, List.length_append, List.length_append, h2, List.length_take, List.length_drop, hs]
    refine ⟨by simp [without], ?_⟩
    simp only [List.length_singleton]
    omega
theorem hyText_parts {s : ByteArray} {P : List Int} (ha : Asc s.size P) (hn : ∀ c ∈ s.data.toList, c ≠ 45) : (splitOn 45 (hyText s P).data.toList).flatten = s.data.toList ∧ (splitOn 45 (hyText s P).data.toList).length = P.length + 1 := by
  obtain ⟨h1, h2⟩ := hyOut_without ha hn P.length (Nat.le_refl _)
  have hb := fromAt_ok ha P.length (Nat.le_refl _)
  have hs : s.data.toList.length = s.size := by rw [Array.length_toList]; rfl
  have he : (s.extract (fromAt P P.length).toNat s.size).data.toList = s.data.toList.drop (fromAt P P.length).toNat := by
    rw [ext_list, List.take_of_length_le (by rw [List.length_drop, hs]; exact Nat.le_refl _)]
  have hT : (hyText s P).data.toList = hyOut s P P.length ++ s.data.toList.drop (fromAt P P.length).toNat := by
    unfold hyText
    rw [he]
  have hf : without 45 (hyText s P).data.toList = s.data.toList := by
    rw [hT, without_app, h1, without_all (fun c hc => hn c (List.mem_of_mem_drop hc)), List.take_append_drop]
  have hl := splitOn_len 45 (hyText s P).data.toList
  have hTl : (hyText s P).data.toList.length = (fromAt P P.length).toNat + P.length + (s.size - (fromAt P P.length).toNat) := by rw [hT, List.length_append, h2, List.length_drop, hs]
  rw [split_flat, hf, hTl, hs] at hl
  exact ⟨by rw [split_flat, hf], by omega⟩
theorem str_len {n : Nat} {P : List Int} (h : Str n P) : P.length ≤ n := by
  have hk : ∀ k, k < P.length → (k : Int) + 1 ≤ P.getD k 0 := by
    intro k
    induction k with
    | zero => intro hk; have := str_bd h hk; omega
    | succ k ih => intro hk; have := ih (by omega); have := str_lt h (show k < k + 1 by omega) hk; omega
  rcases Nat.eq_zero_or_pos P.length with h0 | h0
  · omega
  · have h1 := hk (P.length - 1) (by omega)
    have h2 := str_bd h (show P.length - 1 < P.length by omega)
    omega
theorem HyKnow.c {w : World} {r : RU} {wr : World} (h : HyKnow w r wr) : wr.cell? ⟨w.heap.size, 0, none⟩ = some (.slice r.ps.a r.ps.l.length r.ps.c) ∧ wr.cell? ⟨w.heap.size, 1, none⟩ = some (.slice r.es.a r.es.l.length r.es.c) ∧ wr.cell? ⟨w.heap.size, 2, none⟩ = some (.slice r.bs.a r.bs.l.length r.bs.c) ∧ wr.cell? ⟨w.heap.size, 3, none⟩ = some (.int .i64 r.left) ∧ wr.cell? ⟨w.heap.size, 4, none⟩ = some (.int .i64 r.right) :=
  ⟨cell_of_row wr _ 0 _ _ (0, 0) h.box, cell_of_row wr _ 1 _ _ (0, 0) h.box, cell_of_row wr _ 2 _ _ (0, 0) h.box, cell_of_row wr _ 3 _ _ (0, 0) h.box, cell_of_row wr _ 4 _ _ (0, 0) h.box⟩
set_option maxRecDepth 100000 in
set_option maxHeartbeats 4000000 in
theorem hyphens_walk (r : RU) (s : ByteArray) (w : World) (hR : r.at_ w) (hT : TabOk w) (hc : capR r) (hs : s.size ≤ maxLen) :
    Calls Tryz.prog 11 #[.agg r.cells, .string s] w fun e w' => e = .returned (.bool true) ∧ Below w.heap.size w w' := by
  have hK0 : HyKnow w r (w.alloc (.cells #[.slice r.ps.a r.ps.l.length r.ps.c, .slice r.es.a r.es.l.length r.es.c, .slice r.bs.a r.bs.l.length r.bs.c, .int .i64 r.left, .int .i64 r.right] 24)) := ⟨heap_new _ _, (Below.refl _ _).alloc (Nat.le_refl _) _⟩
  unfold RU.cells
  go_enter Tryz.func11, Tryz.ntmps11
  go_wp2_with fail
  refine (awake_any _ (hT.below hK0.low hT.1)).mono ?_
  rintro e w2 ⟨rfl, hb2⟩
  have hK2 := hK0.below hb2
  clear hK0 hb2
  obtain ⟨c0, c1, c2, c3, c4⟩ := hK2.c
  go_wp2_with fail
  refine (Short_any r _ (hR.below hK2.low)).mono ?_
  rintro e w3 ⟨rfl, hb3⟩
  have hK3 := hK2.below hb3
  clear hK2 hb3 c0 c1 c2 c3 c4
  obtain ⟨c0, c1, c2, c3, c4⟩ := hK3.c
  cases hsh : shortR r
  · have hlow := hK3.low
    go_wp2
    go_ret
    exact ⟨rfl, hlow⟩
  by_cases h40 : 40 < s.size
  · have hlow := hK3.low
    have g1 : decide ((40 : Int) < (s.size : Int)) = true := decide_eq_true (by omega)
    have i1 : (40 : Int) < (s.size : Int) := by omega
    go_wp2
    go_ret
    exact ⟨rfl, hlow⟩
  have g1 : decide ((40 : Int) < (s.size : Int)) = false := decide_eq_false (by omega)
  have i1 : ¬ (40 : Int) < (s.size : Int) := by omega
  obtain ⟨hSm, hl1, hl2, hl3⟩ := small_short hsh
  have hz : SizesOk r.ps.l ∧ SizesOk r.es.l ∧ SizesOk r.bs.l := ⟨hR.1.2.2, hR.2.1.2.2, hR.2.2.2.2⟩
  have hl : r.ps.l.length ≤ 1000 ∧ r.es.l.length ≤ 1000 ∧ r.bs.l.length ≤ 1000 := ⟨by omega, by omega, by omega⟩
  have HCP := Lib.hid (fun W (h : r.at_ W) => copyRules_any r W h hc hl.1 hl.2.1 hl.2.2)
  have HR := Lib.hid (fun W (h : HyKnow w r W) => hR.below h.low)
  clear hR hT hc hsh
  unfold RU.cells at HCP
  go_wp2_with fail
  refine (HCP.out _ (HR.out _ hK3)).mono ?_
  rintro e w4 ⟨r1, rfl, hS1, hO1, hb4⟩
  have hA1 := own_at (w := w4) hS1 hO1 hz hl
  have hK4 := hK3.below hb4
  clear hK3 hb4 hO1 c0 c1 c2 c3 c4 g1 i1
  have HH1 := Lib.hid (hyphens_fn r1 s w4 hA1 hs)
  have HS1 := Lib.hid hS1
  clear hA1 hS1
  unfold RU.cells at HH1
  go_wp2_with fail
  refine HH1.out.mono ?_
  rintro e w5 ⟨hb5, hp5⟩
  rw [ruleErr_same HS1.out, ruleHyph_same HS1.out] at hp5
  have hK5 := hK4.below hb5
  clear hK4 hb5 HH1 HS1
  obtain ⟨c0, c1, c2, c3, c4⟩ := hK5.c
  by_cases he : ruleErr r s = 0
  · rw [if_pos he] at hp5
    obtain ⟨v5, rfl, hI5⟩ := hp5
    obtain ⟨A1, k1, rfl, hI5, -, -⟩ := hI5.shape
    go_wp2_with fail
    refine (HCP.out _ (HR.out _ hK5)).mono ?_
    rintro e w6 ⟨r2, rfl, hS2, hO2, hb6⟩
    have hA2 := own_at (w := w6) hS2 hO2 hz hl
    have hK6 := hK5.below hb6
    have hI6 := hI5.below hb6
    clear hK5 hb6 hO2 c0 c1 c2 c3 c4 hI5
    have HH2 := Lib.hid (hyphened_ok r2 s w6 hA2 hs)
    have HS2 := Lib.hid hS2
    clear hA2 hS2
    unfold RU.cells at HH2
    go_wp2_with fail
    refine HH2.out.mono ?_
    rintro e w7 ⟨hb7, hp7⟩
    rw [ruleErr_same HS2.out, ruleHyph_same HS2.out, if_pos he] at hp7
    subst hp7
    have hK7 := hK6.below hb7
    have hI7 := hI6.below hb7
    clear hK6 hI6 hb7 HH2 HS2
    obtain ⟨c0, c1, c2, c3, c4⟩ := hK7.c
    go_wp2_with fail
    refine (rulesErr_any r s _ (HR.out _ hK7) hSm hs).mono ?_
    rintro e w8 ⟨rfl, hb8⟩
    have hK8 := hK7.below hb8
    have hI8 := hI7.below hb8
    clear hK7 hI7 hb8 c0 c1 c2 c3 c4
    rw [he]
    obtain ⟨c0, c1, c2, c3, c4⟩ := hK8.c
    obtain ⟨ho1, ho2⟩ := rules_ok he
    have hs30 := (word_size ho2).2
    have HRH := Lib.hid (fun W (h : r.at_ W) => refHyphens_any r s W h hSm ho1 hs30)
    have HRD := Lib.hid (fun W (h : r.at_ W) => refHyphened_any r s W h hSm ho1 hs30)
    have hstr := ruleHyph_str (s := s) ho1
    have HAS := Lib.hid (hyph_bounds he).2.2
    have hPl := str_len hstr
    have HPA := Lib.hid (fun hn => hyText_parts (s := s) (P := ruleHyph r s) HAS.out hn)
    obtain ⟨P, hP⟩ : ∃ P, P = ruleHyph r s := ⟨_, rfl⟩
    obtain ⟨T, hTT⟩ : ∃ T, T = hyText s P := ⟨_, rfl⟩
    rw [← hP] at HRH HRD hPl HPA hI8 ⊢
    rw [← hTT] at HRD HPA ⊢
    have hTs : T.size ≤ 60 := by
      have hr := hyText_ref hstr
      rw [← hP, ← hTT] at hr
      rw [hr]
      show (hyR s P s.size).toArray.size ≤ 60
      rw [List.size_toArray]
      have := hyR_len s P s.size
      omega
    unfold RU.cells at HRH HRD
    clear hP hTT hstr ho1 ho2 HAS he
    go_wp2_with fail
    refine (HRH.out _ (HR.out _ hK8)).mono ?_
    rintro e w9 ⟨⟨A9, k9, rfl, hJ9⟩, hb9⟩
    have hK9 := hK8.below hb9
    have hI9 := hI8.below hb9
    clear hK8 hI8 hb9 c0 c1 c2 c3 c4 HRH
    have HI := ints_any A1 P k1 A9 P k9 w9 hI9 hJ9 (by unfold maxLen; omega) (by unfold maxLen; omega)
    rw [decide_eq_true rfl] at HI
    clear hI9 hJ9
    go_wp2_with fail
    refine HI.mono ?_
    rintro e w10 ⟨rfl, hD10⟩
    have hb10 : Below w9.heap.size w9 w10 := hD10.below (Below.refl _ _)
    have hK10 := hK9.below hb10
    clear hK9 hb10 hD10 HI
    obtain ⟨c0, c1, c2, c3, c4⟩ := hK10.c
    go_wp2_with fail
    refine (HRD.out _ (HR.out _ hK10)).mono ?_
    rintro e w11 ⟨rfl, hb11⟩
    have hK11 := hK10.below hb11
    clear hK10 hb11 c0 c1 c2 c3 c4 HRD
    have hTT : (T.toList != T.toList) = false := by simp
    have HCU := Lib.hid (cut_any s 45 w11 (by omega))
    go_wp2_with fail
    refine HCU.out.mono ?_
    rintro e w12 ⟨hb12, v12, rfl, hT12⟩
    obtain ⟨A12, k12, rfl, -, -, -⟩ := hT12.shape
    have hK12 := hK11.below hb12
    have hln : ((splitOn 45 s.data.toList).map bs).length = (splitOn 45 s.data.toList).length := List.length_map ..
    clear hK11 hb12 hT12 HCU
    by_cases h1 : 1 < (splitOn 45 s.data.toList).length
    · have hlow := hK12.low
      have g1 : decide ((1 : Int) < (((splitOn 45 s.data.toList).map bs).length : Int)) = true := decide_eq_true (by omega)
      have i1 : (1 : Int) < (((splitOn 45 s.data.toList).map bs).length : Int) := by omega
      clear hln
      go_wp2
      go_ret
      exact ⟨rfl, hlow⟩
    · have g1 : decide ((1 : Int) < (((splitOn 45 s.data.toList).map bs).length : Int)) = false := decide_eq_false (by omega)
      have i1 : ¬ (1 : Int) < (((splitOn 45 s.data.toList).map bs).length : Int) := by omega
      obtain ⟨hf, hn⟩ := HPA.out (without_none (by omega))
      have HCU := Lib.hid (cut_any T 45 w12 (by omega))
      have HF := Lib.hid hf
      obtain ⟨n12, hn12⟩ : ∃ n, n = ((splitOn 45 s.data.toList).map bs).length := ⟨_, rfl⟩
      rw [← hn12] at g1 i1 ⊢
      obtain ⟨Q, hQ⟩ : ∃ Q, Q = splitOn 45 T.data.toList := ⟨_, rfl⟩
      have HSZ := Lib.hid (fun k (hk : k ≤ Q.length) => show (catN (Q.map bs) k).size ≤ T.size by rw [hQ] at hk ⊢; exact catN_size 45 T hk)
      unfold CutPost at HCU
      rw [← hQ] at HCU HF hn
      have HFC := Lib.hid (show catN (Q.map bs) Q.length = s by
        apply bytes_eq3
        rw [catN_bs Q _ (Nat.le_refl _), List.take_length]
        exact HF.out)
      have HQ2 := Lib.hid hn
      have hq50 : Q.length ≤ 31 := by omega
      have hln2 : (Q.map bs).length = Q.length := List.length_map ..
      clear hf hn hln hn12 hQ h1 HPA HF
      go_wp2_with fail
      refine HCU.out.mono ?_
      rintro e w13 ⟨hb13, v13, rfl, hT13⟩
      obtain ⟨A13, k13, rfl, hX13, -, -⟩ := hT13.shape
      have hK13 := hK12.below hb13
      rw [hln2]
      have HL2 := Lib.hid hln2
      clear hK12 hb13 hT13 HCU g1 i1 hln2
      go_wp2_with fail
      go_loop [10, 12] (fun v10 v12 => ∃ k : Nat, k ≤ Q.length ∧ v12 = .int .i64 k ∧ v10 = .string (catN (Q.map bs) k)) (fun _ v12 => Q.length - (intOf v12).toNat)
      case atStart => exact ⟨0, Nat.zero_le _, rfl, rfl⟩
      case round =>
        obtain ⟨k, hk, rfl, rfl⟩ := hrel
        have hcz := HSZ.out k hk
        have hk50 : (k : Int) < 50 := by omega
        have hkd : decide ((k : Int) < 50) = true := decide_eq_true hk50
        by_cases hkl : k < Q.length
        · have hkl' : (k : Int) < (Q.length : Int) := by omega
          obtain ⟨ad, rfl, hal, hy⟩ := hX13.at_ (show k < (Q.map bs).length by rw [HL2.out]; exact hkl)
          have hst : catN (Q.map bs) (k + 1) = catN (Q.map bs) k ++ (Q.map bs).getD k noTx := rfl
          have hsz1 := HSZ.out (k + 1) hkl
          rw [hst, ByteArray.size_append] at hsz1
          obtain ⟨y, hy2⟩ : ∃ y, y = (Q.map bs).getD k noTx := ⟨_, rfl⟩
          obtain ⟨C, hC⟩ : ∃ C, C = catN (Q.map bs) k := ⟨_, rfl⟩
          rw [← hy2, ← hC] at hst
          rw [← hy2] at hy
          rw [← hy2, ← hC] at hsz1
          rw [← hC] at hcz ⊢
          have HST := Lib.hid hst
          clear hy2 hC hst
          go_wp2_with fail
          go_round
          case rel => exact ⟨k + 1, by omega, by go_num, by rw [HST.out]⟩
          case measure => simp [intOf]; omega
        · obtain rfl : k = Q.length := by omega
          have hkl' : ¬ (Q.length : Int) < (Q.length : Int) := by omega
          rw [HFC.out]
          have hss : (s.toList == s.toList) = true := by simp
          have hqp : ((Q.length : Int) == (P.length : Int) + 1) = true := by rw [beq_iff_eq, HQ2.out]; omega
          have hlow := hK13.low
          clear hcz
          go_wp2
          go_ret
          exact ⟨rfl, hlow⟩
  · rw [if_neg he] at hp5
    subst hp5
    go_wp2_with fail
    refine (HCP.out _ (HR.out _ hK5)).mono ?_
    rintro e w6 ⟨r2, rfl, hS2, hO2, hb6⟩
    have hA2 := own_at (w := w6) hS2 hO2 hz hl
    have hK6 := hK5.below hb6
    clear hK5 hb6 hO2 c0 c1 c2 c3 c4
    have HH2 := Lib.hid (hyphened_ok r2 s w6 hA2 hs)
    have HS2 := Lib.hid hS2
    clear hA2 hS2
    unfold RU.cells at HH2
    go_wp2_with fail
    refine HH2.out.mono ?_
    rintro e w7 ⟨hb7, hp7⟩
    rw [ruleErr_same HS2.out, if_neg he] at hp7
    subst hp7
    have hK7 := hK6.below hb7
    clear hK6 hb7 HH2 HS2
    obtain ⟨c0, c1, c2, c3, c4⟩ := hK7.c
    go_wp2_with fail
    refine (rulesErr_any r s _ (HR.out _ hK7) hSm hs).mono ?_
    rintro e w8 ⟨rfl, hb8⟩
    have hlow := (hK7.below hb8).low
    obtain ⟨E, hE⟩ : ∃ E, E = ruleErr r s := ⟨_, rfl⟩
    rw [← hE] at he ⊢
    have hE0 : (E != 0) = true := by simpa using he
    have hE1 : (E == 0) = false := by simpa using he
    clear hK7 hb8 c0 c1 c2 c3 c4 hE
    go_wp2
    go_ret
    exact ⟨rfl, hlow⟩
end Go.Proofs.YtpoadjnhmdbdeaaGreatDoor
