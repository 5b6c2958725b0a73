/-
  Package tympanref06: Letters, foldOf.
-/
import Derived.Test.YtccfcdhnplodgaaGreatDoorCZ
import Derived.BigQuiet
namespace Go.Proofs.YtccfcdhnplodgaaGreatDoor
open Go.RowKit

theorem letters_any (w : World) : Calls Tryz.prog 25 #[] w fun e w' => e = .returned (.string ⟨#[76, 82, 85, 68, 79, 84]⟩) ∧ w' = w := by
  go_enter Tryz.func25, Tryz.ntmps25
  go_wp2
  go_ret
  exact ⟨rfl, rfl⟩
theorem kind_back (c : UInt8) : (kindM c = 5 → c = 79) ∧ (kindM c = 6 → c = 84) ∧ ∀ k, k < 5 → 0 < k → (kindM c = (k : Nat) ↔ c = letM (k : Nat)) := by
  have h : ∀ n, n < 256 → (kindM (UInt8.ofNat n) = 5 → UInt8.ofNat n = 79) ∧ (kindM (UInt8.ofNat n) = 6 → UInt8.ofNat n = 84) ∧ ∀ k, k < 5 → 0 < k → (kindM (UInt8.ofNat n) = (k : Nat) ↔ UInt8.ofNat n = letM (k : Nat)) := by decide +kernel
  have := h c.toNat (UInt8.toNat_lt c)
  rwa [UInt8.ofNat_toNat] at this
theorem numI_nil : numI [] 2 = none := by decide +kernel
theorem read_none {t : List UInt8} (h1 : t ≠ [79]) (h2 : t ≠ [84]) (h3 : ∀ j : Nat, 1 ≤ j → j < 5 → ¬ (1 < t.length ∧ kindM (t.headD 0) = j)) : readM t = none := by
  cases t with
  | nil => rfl
  | cons c r =>
    by_cases h : kindM c = 5 ∨ kindM c = 6
    · rw [readM_turn h]
      rcases h with h | h
      · have := (kind_back c).1 h
        subst this
        exact if_neg fun e => h1 (by rw [e])
      · have := (kind_back c).2.1 h
        subst this
        exact if_neg fun e => h2 (by rw [e])
    · rw [readM_num h]
      have hb := (letters_at c).2
      cases hn : numI r 2 with
      | none => rfl
      | some v =>
        show (if 0 < kindM c ∧ 0 ≤ v then _ else none) = _
        by_cases hk : 0 < kindM c ∧ 0 ≤ v
        · exfalso
          have hr : r ≠ [] := fun e => by rw [e, numI_nil] at hn; cases hn
          refine h3 (kindM c).toNat (by omega) (by omega) ⟨?_, ?_⟩
          · have := List.length_pos_iff.2 hr
            rw [List.length_cons]; omega
          · show kindM c = _
            omega
        · exact if_neg hk
def pickM (k : Int) (o : Option Int) : Option Fold := match o with
  | some v => if 0 < k ∧ 0 ≤ v then some ⟨k, v⟩ else none
  | none => none
theorem readM_pick {c : UInt8} {r : List UInt8} (h : ¬ (kindM c = 5 ∨ kindM c = 6)) : readM (c :: r) = pickM (kindM c) (numI r 2) := readM_num h
theorem head_ext (s : ByteArray) (c : UInt8) (r : List UInt8) (h : s.data.toList = c :: r) : (s.extract 0 1).data.toList = [c] := by
  rw [ByteArray.data_extract, Array.toList_extract, List.extract_eq_take_drop, h]; rfl
theorem head_cmp (s : ByteArray) (c : UInt8) (r : List UInt8) (h : s.data.toList = c :: r) (k : Nat) (h1 : k < 5) (h2 : 0 < k) : ((s.extract 0 1).toList == ((⟨#[76, 82, 85, 68, 79, 84]⟩ : ByteArray).extract (k - 1) k).toList) = decide (kindM c = (k : Nat)) := by
  have e : (⟨#[76, 82, 85, 68, 79, 84]⟩ : ByteArray).extract (k - 1) k = bs [letM (k : Nat)] := let_at k (by omega) h2
  rw [Lib.toList_data, Lib.toList_data, head_ext s c r h, e, bs_data, Bool.eq_iff_iff, beq_iff_eq, decide_eq_true_iff, (kind_back c).2.2 k h1 h2]
  simp
theorem number_two (s : ByteArray) (w : World) (o : Option Int) (ho : numI s.data.toList 2 = o) (hs : s.size ≤ 1000000) :
    Calls Tryz.prog 44 #[.string s, .int .i64 2] w (NumPost w o) := by
  subst ho; exact number_any s 2 w (by decide) hs
set_option maxRecDepth 100000 in
set_option maxHeartbeats 16000000 in
theorem refFoldOf_any (s : ByteArray) (w : World) (hs : s.size ≤ 1000) :
    Calls Tryz.prog 23 #[.string s] w (WordPost w (readM s.data.toList)) := by
  obtain ⟨o, ho⟩ : ∃ o, o = readM s.data.toList := ⟨_, rfl⟩
  rw [← ho]
  by_cases hA : s.data.toList = [79]
  · have hb : (s.toList == [79]) = true := by rw [Lib.toList_data, hA]; decide
    have HO2 := Lib.hid (show o = some ⟨5, 0⟩ by rw [ho, hA]; rfl)
    clear ho hA
    go_enter Tryz.func23, Tryz.ntmps23
    go_wp2_with fail
    refine bodyPost_ret (v := .tuple #[.agg #[.int .i64 5, .int .i64 0], .bool true]) (by simp [results, Tryz.results23, go_sem]) rfl ⟨5, 0, by rw [HO2.out]; rfl, (fun f hf => by have h := HO2.out; rw [h] at hf; cases hf; rfl), ?_⟩
    (repeat (first | exact Below.refl _ _ | refine Below.alloc ?_ (by simp <;> omega) _ | refine Below.setCell ?_ (by simp <;> omega) _ | refine below_drewN ?_ _ | refine Below.drew ?_))
  have hbA : (s.toList == [79]) = false := by rw [Lib.toList_data, beq_eq_false_iff_ne]; exact hA
  by_cases hB : s.data.toList = [84]
  · have hb : (s.toList == [84]) = true := by rw [Lib.toList_data, hB]; decide
    have HO2 := Lib.hid (show o = some ⟨6, 0⟩ by rw [ho, hB]; rfl)
    clear ho hA hB
    go_enter Tryz.func23, Tryz.ntmps23
    go_wp2_with fail
    refine bodyPost_ret (v := .tuple #[.agg #[.int .i64 6, .int .i64 0], .bool true]) (by simp [results, Tryz.results23, go_sem]) rfl ⟨6, 0, by rw [HO2.out]; rfl, (fun f hf => by have h := HO2.out; rw [h] at hf; cases hf; rfl), ?_⟩
    (repeat (first | exact Below.refl _ _ | refine Below.alloc ?_ (by simp <;> omega) _ | refine Below.setCell ?_ (by simp <;> omega) _ | refine below_drewN ?_ _ | refine Below.drew ?_))
  have hbB : (s.toList == [84]) = false := by rw [Lib.toList_data, beq_eq_false_iff_ne]; exact hB
  have HO := Lib.hid ho
  have HA := Lib.hid hA; have HB := Lib.hid hB
  have hsl : s.data.toList.length = s.size := Array.length_toList
  have HSL := Lib.hid hsl
  have bx0 := BoxAt.new w #[.int .i64 0, .int .i64 0] 58
  have hb0 := (Below.refl w.heap.size w).alloc (Nat.le_refl _) (.cells #[.int .i64 0, .int .i64 0] 58)
  clear ho hA hB hsl
  go_enter Tryz.func23, Tryz.ntmps23
  go_wp2_with fail
  go_loopw [4] (fun i wr => ∃ k : Nat, (1 ≤ k ∧ k ≤ 5) ∧ i = .int .i64 k ∧ BoxAt wr w.heap.size #[.int .i64 0, .int .i64 0] 58 ∧ Below w.heap.size w wr ∧ Hid (∀ j : Nat, 1 ≤ j → j < k → ¬ (1 < s.data.toList.length ∧ kindM (s.data.toList.headD 0) = j))) (fun i _ => 5 - (intOf i).toNat)
  case atStart => exact ⟨1, ⟨by decide, by decide⟩, rfl, bx0, hb0, Lib.hid (fun j h1 h2 => by omega)⟩
  case round =>
    obtain ⟨k, ⟨k1, k5⟩, rfl, bx, hBw, HN⟩ := hrel
    clear bx0 hb0
    have c0 := bx.cell 0; have c1 := bx.cell 1
    simp at c0 c1
    have hfr := bx.free
    have hltw := bx.lt
    have hk : k = 1 ∨ k = 2 ∨ k = 3 ∨ k = 4 ∨ k = 5 := by omega
    clear k1 k5
    rcases hk with rfl | rfl | rfl | rfl | rfl
    · by_cases h1 : 1 < s.size
      · have h1I : (1 : Int) < (s.size : Int) := by omega
        have h1L : (1 : Int) ≤ (s.size : Int) := by omega
        obtain ⟨c, r, hcr⟩ : ∃ c r, s.data.toList = c :: r := by
          cases h : s.data.toList with
          | nil => have := HSL.out; rw [h, List.length_nil] at this; omega
          | cons c r => exact ⟨c, r, rfl⟩
        have hcmp := head_cmp s c r hcr 1 (by decide) (by decide)
        simp only [Nat.reduceSub] at hcmp
        have HCR := Lib.hid hcr
        clear hcr
        by_cases hkc : kindM c = ((1 : Nat) : Int)
        · rw [decide_eq_true hkc] at hcmp
          have HKC := Lib.hid hkc
          have hsp := first_split s (by omega)
          have hre : r = (s.extract 1 s.size).data.toList := by
            have := HCR.out; rw [hsp] at this; injection this with _ h; exact h.symm
          obtain ⟨oi, hoi⟩ : ∃ oi, numI (s.extract 1 s.size).data.toList 2 = oi := ⟨_, rfl⟩
          have HOI := Lib.hid hoi
          have HOM := Lib.hid (show o = pickM 1 oi by
            rw [HO.out, HCR.out, readM_pick (by rw [hkc]; decide), hkc, hre, hoi]; rfl)
          have HES : Hid ((s.extract 1 s.size).size ≤ 1000000) := Lib.hid (by rw [ByteArray.size_extract]; omega)
          clear hsp hre hoi hkc
          go_wp2_with fail
          go_quiet ((go_at_call 25; exact Calls.quiet_of_same (letters_any _)))
          go_wp2_with fail
          refine (number_two _ _ oi HOI.out HES.out).mono ?_
          rintro e w' ⟨rfl, rfl⟩
          cases oi with
          | none =>
            have HO2 := Lib.hid (show o = none from HOM.out)
            have bz := ((bx.drewN nq).set 0 (.int .i64 1)).set 1 (.int .i64 0)
            have d0 := bz.cell 0; have d1 := bz.cell 1
            simp at d0 d1
            have D0 := Lib.hid d0; have D1 := Lib.hid d1
            clear d0 d1 bz
            go_wp2_with fail
            refine bodyPost_ret (v := .tuple #[.agg #[.int .i64 1, .int .i64 0], .bool false]) (by simp [results, Tryz.results23, go_sem, D0.out, D1.out]) rfl ⟨1, 0, by rw [HO2.out]; rfl, (fun f hf => by have h := HO2.out; rw [h] at hf; cases hf), ?_⟩
            (repeat (first | exact hBw | refine Below.alloc ?_ (by simp <;> omega) _ | refine Below.setCell ?_ (by simp <;> omega) _ | refine below_drewN ?_ _ | refine Below.drew ?_))
          | some v =>
            by_cases hv : 0 ≤ v
            · have HO2 := Lib.hid (show o = some ⟨1, v⟩ by rw [HOM.out]; exact if_pos ⟨by decide, hv⟩)
              have bz := ((bx.drewN nq).set 0 (.int .i64 1)).set 1 (.int .i64 v)
              have d0 := bz.cell 0; have d1 := bz.cell 1
              simp at d0 d1
              have D0 := Lib.hid d0; have D1 := Lib.hid d1
              clear d0 d1 bz
              go_wp2_with fail
              refine bodyPost_ret (v := .tuple #[.agg #[.int .i64 1, .int .i64 v], .bool true]) (by simp [results, Tryz.results23, go_sem, D0.out, D1.out]) rfl ⟨1, v, by rw [HO2.out]; rfl, (fun f hf => by have h := HO2.out; rw [h] at hf; exact (Option.some.inj hf).symm), ?_⟩
              (repeat (first | exact hBw | refine Below.alloc ?_ (by simp <;> omega) _ | refine Below.setCell ?_ (by simp <;> omega) _ | refine below_drewN ?_ _ | refine Below.drew ?_))
            · have HO2 := Lib.hid (show o = none by rw [HOM.out]; exact if_neg (fun h => hv h.2))
              have hv0 : v < 0 := by omega
              have bz := ((bx.drewN nq).set 0 (.int .i64 1)).set 1 (.int .i64 v)
              have d0 := bz.cell 0; have d1 := bz.cell 1
              simp at d0 d1
              have D0 := Lib.hid d0; have D1 := Lib.hid d1
              clear d0 d1 bz
              go_wp2_with fail
              refine bodyPost_ret (v := .tuple #[.agg #[.int .i64 1, .int .i64 v], .bool false]) (by simp [results, Tryz.results23, go_sem, D0.out, D1.out, hv0]) rfl ⟨1, v, by rw [HO2.out]; rfl, (fun f hf => by have h := HO2.out; rw [h] at hf; cases hf), ?_⟩
              (repeat (first | exact hBw | refine Below.alloc ?_ (by simp <;> omega) _ | refine Below.setCell ?_ (by simp <;> omega) _ | refine below_drewN ?_ _ | refine Below.drew ?_))
        · rw [decide_eq_false hkc] at hcmp
          have HN2 := Lib.hid (show ∀ j : Nat, 1 ≤ j → j < 1 + 1 → ¬ (1 < s.data.toList.length ∧ kindM (s.data.toList.headD 0) = j) from fun j j1 j2 h => by
            by_cases hj : j = 1
            · subst hj
              have h2 := h.2
              rw [HCR.out] at h2
              exact hkc h2
            · exact HN.out j j1 (by omega) h)
          clear hkc
          go_wp2_with fail
          go_quiet ((go_at_call 25; exact Calls.quiet_of_same (letters_any _)))
          go_wp2_with fail
          go_roundw
          case rel => exact ⟨1 + 1, by omega, by go_num, (by first | exact bx.drew | exact bx.drewN _), (by first | exact hBw.drew | exact below_drewN hBw _), HN2⟩
          case measure => simp [intOf]
      · have h1I : decide ((1 : Int) < (s.size : Int)) = false := decide_eq_false (by omega)
        have HN2 := Lib.hid (show ∀ j : Nat, 1 ≤ j → j < 1 + 1 → ¬ (1 < s.data.toList.length ∧ kindM (s.data.toList.headD 0) = j) from fun j j1 j2 h => by have h2 := h.1; rw [HSL.out] at h2; exact h1 h2)
        go_wp2_with fail
        go_quiet (fail)
        go_wp2_with fail
        go_roundw
        case rel => exact ⟨1 + 1, by omega, by go_num, (by first | exact bx.drew | exact bx.drewN _), (by first | exact hBw.drew | exact below_drewN hBw _), HN2⟩
        case measure => simp [intOf]
    · by_cases h1 : 1 < s.size
      · have h1I : (1 : Int) < (s.size : Int) := by omega
        have h1L : (1 : Int) ≤ (s.size : Int) := by omega
        obtain ⟨c, r, hcr⟩ : ∃ c r, s.data.toList = c :: r := by
          cases h : s.data.toList with
          | nil => have := HSL.out; rw [h, List.length_nil] at this; omega
          | cons c r => exact ⟨c, r, rfl⟩
        have hcmp := head_cmp s c r hcr 2 (by decide) (by decide)
        simp only [Nat.reduceSub] at hcmp
        have HCR := Lib.hid hcr
        clear hcr
        by_cases hkc : kindM c = ((2 : Nat) : Int)
        · rw [decide_eq_true hkc] at hcmp
          have HKC := Lib.hid hkc
          have hsp := first_split s (by omega)
          have hre : r = (s.extract 1 s.size).data.toList := by
            have := HCR.out; rw [hsp] at this; injection this with _ h; exact h.symm
          obtain ⟨oi, hoi⟩ : ∃ oi, numI (s.extract 1 s.size).data.toList 2 = oi := ⟨_, rfl⟩
          have HOI := Lib.hid hoi
          have HOM := Lib.hid (show o = pickM 2 oi by
            rw [HO.out, HCR.out, readM_pick (by rw [hkc]; decide), hkc, hre, hoi]; rfl)
          have HES : Hid ((s.extract 1 s.size).size ≤ 1000000) := Lib.hid (by rw [ByteArray.size_extract]; omega)
          clear hsp hre hoi hkc
          go_wp2_with fail
          go_quiet ((go_at_call 25; exact Calls.quiet_of_same (letters_any _)))
          go_wp2_with fail
          refine (number_two _ _ oi HOI.out HES.out).mono ?_
          rintro e w' ⟨rfl, rfl⟩
          cases oi with
          | none =>
            have HO2 := Lib.hid (show o = none from HOM.out)
            have bz := ((bx.drewN nq).set 0 (.int .i64 2)).set 1 (.int .i64 0)
            have d0 := bz.cell 0; have d1 := bz.cell 1
            simp at d0 d1
            have D0 := Lib.hid d0; have D1 := Lib.hid d1
            clear d0 d1 bz
            go_wp2_with fail
            refine bodyPost_ret (v := .tuple #[.agg #[.int .i64 2, .int .i64 0], .bool false]) (by simp [results, Tryz.results23, go_sem, D0.out, D1.out]) rfl ⟨2, 0, by rw [HO2.out]; rfl, (fun f hf => by have h := HO2.out; rw [h] at hf; cases hf), ?_⟩
            (repeat (first | exact hBw | refine Below.alloc ?_ (by simp <;> omega) _ | refine Below.setCell ?_ (by simp <;> omega) _ | refine below_drewN ?_ _ | refine Below.drew ?_))
          | some v =>
            by_cases hv : 0 ≤ v
            · have HO2 := Lib.hid (show o = some ⟨2, v⟩ by rw [HOM.out]; exact if_pos ⟨by decide, hv⟩)
              have bz := ((bx.drewN nq).set 0 (.int .i64 2)).set 1 (.int .i64 v)
              have d0 := bz.cell 0; have d1 := bz.cell 1
              simp at d0 d1
              have D0 := Lib.hid d0; have D1 := Lib.hid d1
              clear d0 d1 bz
              go_wp2_with fail
              refine bodyPost_ret (v := .tuple #[.agg #[.int .i64 2, .int .i64 v], .bool true]) (by simp [results, Tryz.results23, go_sem, D0.out, D1.out]) rfl ⟨2, v, by rw [HO2.out]; rfl, (fun f hf => by have h := HO2.out; rw [h] at hf; exact (Option.some.inj hf).symm), ?_⟩
              (repeat (first | exact hBw | refine Below.alloc ?_ (by simp <;> omega) _ | refine Below.setCell ?_ (by simp <;> omega) _ | refine below_drewN ?_ _ | refine Below.drew ?_))
            · have HO2 := Lib.hid (show o = none by rw [HOM.out]; exact if_neg (fun h => hv h.2))
              have hv0 : v < 0 := by omega
              have bz := ((bx.drewN nq).set 0 (.int .i64 2)).set 1 (.int .i64 v)
              have d0 := bz.cell 0; have d1 := bz.cell 1
              simp at d0 d1
              have D0 := Lib.hid d0; have D1 := Lib.hid d1
              clear d0 d1 bz
              go_wp2_with fail
              refine bodyPost_ret (v := .tuple #[.agg #[.int .i64 2, .int .i64 v], .bool false]) (by simp [results, Tryz.results23, go_sem, D0.out, D1.out, hv0]) rfl ⟨2, v, by rw [HO2.out]; rfl, (fun f hf => by have h := HO2.out; rw [h] at hf; cases hf), ?_⟩
              (repeat (first | exact hBw | refine Below.alloc ?_ (by simp <;> omega) _ | refine Below.setCell ?_ (by simp <;> omega) _ | refine below_drewN ?_ _ | refine Below.drew ?_))
        · rw [decide_eq_false hkc] at hcmp
          have HN2 := Lib.hid (show ∀ j : Nat, 1 ≤ j → j < 2 + 1 → ¬ (1 < s.data.toList.length ∧ kindM (s.data.toList.headD 0) = j) from fun j j1 j2 h => by
            by_cases hj : j = 2
            · subst hj
              have h2 := h.2
              rw [HCR.out] at h2
              exact hkc h2
            · exact HN.out j j1 (by omega) h)
          clear hkc
          go_wp2_with fail
          go_quiet ((go_at_call 25; exact Calls.quiet_of_same (letters_any _)))
          go_wp2_with fail
          go_roundw
          case rel => exact ⟨2 + 1, by omega, by go_num, (by first | exact bx.drew | exact bx.drewN _), (by first | exact hBw.drew | exact below_drewN hBw _), HN2⟩
          case measure => simp [intOf]
      · have h1I : decide ((1 : Int) < (s.size : Int)) = false := decide_eq_false (by omega)
        have HN2 := Lib.hid (show ∀ j : Nat, 1 ≤ j → j < 2 + 1 → ¬ (1 < s.data.toList.length ∧ kindM (s.data.toList.headD 0) = j) from fun j j1 j2 h => by have h2 := h.1; rw [HSL.out] at h2; exact h1 h2)
        go_wp2_with fail
        go_quiet (fail)
        go_wp2_with fail
        go_roundw
        case rel => exact ⟨2 + 1, by omega, by go_num, (by first | exact bx.drew | exact bx.drewN _), (by first | exact hBw.drew | exact below_drewN hBw _), HN2⟩
        case measure => simp [intOf]
    · by_cases h1 : 1 < s.size
      · have h1I : (1 : Int) < (s.size : Int) := by omega
        have h1L : (1 : Int) ≤ (s.size : Int) := by omega
        obtain ⟨c, r, hcr⟩ : ∃ c r, s.data.toList = c :: r := by
          cases h : s.data.toList with
          | nil => have := HSL.out; rw [h, List.length_nil] at this; omega
          | cons c r => exact ⟨c, r, rfl⟩
        have hcmp := head_cmp s c r hcr 3 (by decide) (by decide)
        simp only [Nat.reduceSub] at hcmp
        have HCR := Lib.hid hcr
        clear hcr
        by_cases hkc : kindM c = ((3 : Nat) : Int)
        · rw [decide_eq_true hkc] at hcmp
          have HKC := Lib.hid hkc
          have hsp := first_split s (by omega)
          have hre : r = (s.extract 1 s.size).data.toList := by
            have := HCR.out; rw [hsp] at this; injection this with _ h; exact h.symm
          obtain ⟨oi, hoi⟩ : ∃ oi, numI (s.extract 1 s.size).data.toList 2 = oi := ⟨_, rfl⟩
          have HOI := Lib.hid hoi
          have HOM := Lib.hid (show o = pickM 3 oi by
            rw [HO.out, HCR.out, readM_pick (by rw [hkc]; decide), hkc, hre, hoi]; rfl)
          have HES : Hid ((s.extract 1 s.size).size ≤ 1000000) := Lib.hid (by rw [ByteArray.size_extract]; omega)
          clear hsp hre hoi hkc
          go_wp2_with fail
          go_quiet ((go_at_call 25; exact Calls.quiet_of_same (letters_any _)))
          go_wp2_with fail
          refine (number_two _ _ oi HOI.out HES.out).mono ?_
          rintro e w' ⟨rfl, rfl⟩
          cases oi with
          | none =>
            have HO2 := Lib.hid (show o = none from HOM.out)
            have bz := ((bx.drewN nq).set 0 (.int .i64 3)).set 1 (.int .i64 0)
            have d0 := bz.cell 0; have d1 := bz.cell 1
            simp at d0 d1
            have D0 := Lib.hid d0; have D1 := Lib.hid d1
            clear d0 d1 bz
            go_wp2_with fail
            refine bodyPost_ret (v := .tuple #[.agg #[.int .i64 3, .int .i64 0], .bool false]) (by simp [results, Tryz.results23, go_sem, D0.out, D1.out]) rfl ⟨3, 0, by rw [HO2.out]; rfl, (fun f hf => by have h := HO2.out; rw [h] at hf; cases hf), ?_⟩
            (repeat (first | exact hBw | refine Below.alloc ?_ (by simp <;> omega) _ | refine Below.setCell ?_ (by simp <;> omega) _ | refine below_drewN ?_ _ | refine Below.drew ?_))
          | some v =>
            by_cases hv : 0 ≤ v
            · have HO2 := Lib.hid (show o = some ⟨3, v⟩ by rw [HOM.out]; exact if_pos ⟨by decide, hv⟩)
              have bz := ((bx.drewN nq).set 0 (.int .i64 3)).set 1 (.int .i64 v)
              have d0 := bz.cell 0; have d1 := bz.cell 1
              simp at d0 d1
              have D0 := Lib.hid d0; have D1 := Lib.hid d1
              clear d0 d1 bz
              go_wp2_with fail
              refine bodyPost_ret (v := .tuple #[.agg #[.int .i64 3, .int .i64 v], .bool true]) (by simp [results, Tryz.results23, go_sem, D0.out, D1.out]) rfl ⟨3, v, by rw [HO2.out]; rfl, (fun f hf => by have h := HO2.out; rw [h] at hf; exact (Option.some.inj hf).symm), ?_⟩
              (repeat (first | exact hBw | refine Below.alloc ?_ (by simp <;> omega) _ | refine Below.setCell ?_ (by simp <;> omega) _ | refine below_drewN ?_ _ | refine Below.drew ?_))
            · have HO2 := Lib.hid (show o = none by rw [HOM.out]; exact if_neg (fun h => hv h.2))
              have hv0 : v < 0 := by omega
              have bz := ((bx.drewN nq).set 0 (.int .i64 3)).set 1 (.int .i64 v)
              have d0 := bz.cell 0; have d1 := bz.cell 1
              simp at d0 d1
              have D0 := Lib.hid d0; have D1 := Lib.hid d1
              clear d0 d1 bz
              go_wp2_with fail
              refine bodyPost_ret (v := .tuple #[.agg #[.int .i64 3, .int .i64 v], .bool false]) (by simp [results, Tryz.results23, go_sem, D0.out, D1.out, hv0]) rfl ⟨3, v, by rw [HO2.out]; rfl, (fun f hf => by have h := HO2.out; rw [h] at hf; cases hf), ?_⟩
              (repeat (first | exact hBw | refine Below.alloc ?_ (by simp <;> omega) _ | refine Below.setCell ?_ (by simp <;> omega) _ | refine below_drewN ?_ _ | refine Below.drew ?_))
        · rw [decide_eq_false hkc] at hcmp
          have HN2 := Lib.hid (show ∀ j : Nat, 1 ≤ j → j < 3 + 1 → ¬ (1 < s.data.toList.length ∧ kindM (s.data.toList.headD 0) = j) from fun j j1 j2 h => by
            by_cases hj : j = 3
            · subst hj
              have h2 := h.2
              rw [HCR.out] at h2
              exact hkc h2
            · exact HN.out j j1 (by omega) h)
          clear hkc
          go_wp2_with fail
          go_quiet ((go_at_call 25; exact Calls.quiet_of_same (letters_any _)))
          go_wp2_with fail
          go_roundw
          case rel => exact ⟨3 + 1, by omega, by go_num, (by first | exact bx.drew | exact bx.drewN _), (by first | exact hBw.drew | exact below_drewN hBw _), HN2⟩
          case measure => simp [intOf]
      · have h1I : decide ((1 : Int) < (s.size : Int)) = false := decide_eq_false (by omega)
        have HN2 := Lib.hid (show ∀ j : Nat, 1 ≤ j → j < 3 + 1 → ¬ (1 < s.data.toList.length ∧ kindM (s.data.toList.headD 0) = j) from fun j j1 j2 h => by have h2 := h.1; rw [HSL.out] at h2; exact h1 h2)
        go_wp2_with fail
        go_quiet (fail)
        go_wp2_with fail
        go_roundw
        case rel => exact ⟨3 + 1, by omega, by go_num, (by first | exact bx.drew | exact bx.drewN _), (by first | exact hBw.drew | exact below_drewN hBw _), HN2⟩
        case measure => simp [intOf]
    · by_cases h1 : 1 < s.size
      · have h1I : (1 : Int) < (s.size : Int) := by omega
        have h1L : (1 : Int) ≤ (s.size : Int) := by omega
        obtain ⟨c, r, hcr⟩ : ∃ c r, s.data.toList = c :: r := by
          cases h : s.data.toList with
          | nil => have := HSL.out; rw [h, List.length_nil] at this; omega
          | cons c r => exact ⟨c, r, rfl⟩
        have hcmp := head_cmp s c r hcr 4 (by decide) (by decide)
        simp only [Nat.reduceSub] at hcmp
        have HCR := Lib.hid hcr
        clear hcr
        by_cases hkc : kindM c = ((4 : Nat) : Int)
        · rw [decide_eq_true hkc] at hcmp
          have HKC := Lib.hid hkc
          have hsp := first_split s (by omega)
          have hre : r = (s.extract 1 s.size).data.toList := by
            have := HCR.out; rw [hsp] at this; injection this with _ h; exact h.symm
          obtain ⟨oi, hoi⟩ : ∃ oi, numI (s.extract 1 s.size).data.toList 2 = oi := ⟨_, rfl⟩
          have HOI := Lib.hid hoi
          have HOM := Lib.hid (show o = pickM 4 oi by
            rw [HO.out, HCR.out, readM_pick (by rw [hkc]; decide), hkc, hre, hoi]; rfl)
          have HES : Hid ((s.extract 1 s.size).size ≤ 1000000) := Lib.hid (by rw [ByteArray.size_extract]; omega)
          clear hsp hre hoi hkc
          go_wp2_with fail
          go_quiet ((go_at_call 25; exact Calls.quiet_of_same (letters_any _)))
          go_wp2_with fail
          refine (number_two _ _ oi HOI.out HES.out).mono ?_
          rintro e w' ⟨rfl, rfl⟩
          cases oi with
          | none =>
            have HO2 := Lib.hid (show o = none from HOM.out)
            have bz := ((bx.drewN nq).set 0 (.int .i64 4)).set 1 (.int .i64 0)
            have d0 := bz.cell 0; have d1 := bz.cell 1
            simp at d0 d1
            have D0 := Lib.hid d0; have D1 := Lib.hid d1
            clear d0 d1 bz
            go_wp2_with fail
            refine bodyPost_ret (v := .tuple #[.agg #[.int .i64 4, .int .i64 0], .bool false]) (by simp [results, Tryz.results23, go_sem, D0.out, D1.out]) rfl ⟨4, 0, by rw [HO2.out]; rfl, (fun f hf => by have h := HO2.out; rw [h] at hf; cases hf), ?_⟩
            (repeat (first | exact hBw | refine Below.alloc ?_ (by simp <;> omega) _ | refine Below.setCell ?_ (by simp <;> omega) _ | refine below_drewN ?_ _ | refine Below.drew ?_))
          | some v =>
            by_cases hv : 0 ≤ v
            · have HO2 := Lib.hid (show o = some ⟨4, v⟩ by rw [HOM.out]; exact if_pos ⟨by decide, hv⟩)
              have bz := ((bx.drewN nq).set 0 (.int .i64 4)).set 1 (.int .i64 v)
              have d0 := bz.cell 0; have d1 := bz.cell 1
              simp at d0 d1
              have D0 := Lib.hid d0; have D1 := Lib.hid d1
              clear d0 d1 bz
              go_wp2_with fail
              refine bodyPost_ret (v := .tuple #[.agg #[.int .i64 4, .int .i64 v], .bool true]) (by simp [results, Tryz.results23, go_sem, D0.out, D1.out]) rfl ⟨4, v, by rw [HO2.out]; rfl, (fun f hf => by have h := HO2.out; rw [h] at hf; exact (Option.some.inj hf).symm), ?_⟩
              (repeat (first | exact hBw | refine Below.alloc ?_ (by simp <;> omega) _ | refine Below.setCell ?_ (by simp <;> omega) _ | refine below_drewN ?_ _ | refine Below.drew ?_))
            · have HO2 := Lib.hid (show o = none by rw [HOM.out]; exact if_neg (fun h => hv h.2))
              have hv0 : v < 0 := by omega
              have bz := ((bx.drewN nq).set 0 (.int .i64 4)).set 1 (.int .i64 v)
              have d0 := bz.cell 0; have d1 := bz.cell 1
              simp at d0 d1
              have D0 := Lib.hid d0; have D1 := Lib.hid d1
              clear d0 d1 bz
              go_wp2_with fail
              refine bodyPost_ret (v := .tuple #[.agg #[.int .i64 4, .int .i64 v], .bool false]) (by simp [results, Tryz.results23, go_sem, D0.out, D1.out, hv0]) rfl ⟨4, v, by rw [HO2.out]; rfl, (fun f hf => by have h := HO2.out; rw [h] at hf; cases hf), ?_⟩
              (repeat (first | exact hBw | refine Below.alloc ?_ (by simp <;> omega) _ | refine Below.setCell ?_ (by simp <;> omega) _ | refine below_drewN ?_ _ | refine Below.drew ?_))
        · rw [decide_eq_false hkc] at hcmp
          have HN2 := Lib.hid (show ∀ j : Nat, 1 ≤ j → j < 4 + 1 → ¬ (1 < s.data.toList.length ∧ kindM (s.data.toList.headD 0) = j) from fun j j1 j2 h => by
            by_cases hj : j = 4
            · subst hj
              have h2 := h.2
              rw [HCR.out] at h2
              exact hkc h2
            · exact HN.out j j1 (by omega) h)
          clear hkc
          go_wp2_with fail
          go_quiet ((go_at_call 25; exact Calls.quiet_of_same (letters_any _)))
          go_wp2_with fail
          go_roundw
          case rel => exact ⟨4 + 1, by omega, by go_num, (by first | exact bx.drew | exact bx.drewN _), (by first | exact hBw.drew | exact below_drewN hBw _), HN2⟩
          case measure => simp [intOf]
      · have h1I : decide ((1 : Int) < (s.size : Int)) = false := decide_eq_false (by omega)
        have HN2 := Lib.hid (show ∀ j : Nat, 1 ≤ j → j < 4 + 1 → ¬ (1 < s.data.toList.length ∧ kindM (s.data.toList.headD 0) = j) from fun j j1 j2 h => by have h2 := h.1; rw [HSL.out] at h2; exact h1 h2)
        go_wp2_with fail
        go_quiet (fail)
        go_wp2_with fail
        go_roundw
        case rel => exact ⟨4 + 1, by omega, by go_num, (by first | exact bx.drew | exact bx.drewN _), (by first | exact hBw.drew | exact below_drewN hBw _), HN2⟩
        case measure => simp [intOf]
    · have HO2 := Lib.hid (show o = none by rw [HO.out]; exact read_none HA.out HB.out HN.out)
      have bz := (bx.set 0 (.int .i64 0)).set 1 (.int .i64 0)
      have d0 := bz.cell 0; have d1 := bz.cell 1
      simp at d0 d1
      have D0 := Lib.hid d0; have D1 := Lib.hid d1
      clear d0 d1 bz
      go_wp2_with fail
      refine bodyPost_ret (v := .tuple #[.agg #[.int .i64 0, .int .i64 0], .bool false]) (by simp [results, Tryz.results23, go_sem, D0.out, D1.out]) rfl ⟨0, 0, by rw [HO2.out]; rfl, (fun f hf => by have h := HO2.out; rw [h] at hf; cases hf), ?_⟩
      (repeat (first | exact hBw | refine Below.alloc ?_ (by simp <;> omega) _ | refine Below.setCell ?_ (by simp <;> omega) _ | refine below_drewN ?_ _ | refine Below.drew ?_))
end Go.Proofs.YtccfcdhnplodgaaGreatDoor
