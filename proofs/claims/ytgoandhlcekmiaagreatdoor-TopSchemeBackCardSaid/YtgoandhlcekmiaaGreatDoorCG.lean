/-
  Package impose: wordOf, foldOf.
-/
import Derived.Test.YtgoandhlcekmiaaGreatDoorKS
namespace Go.Proofs.YtgoandhlcekmiaaGreatDoor
open Go.RowKit

theorem word_turn {f : Fold} (h : f.k = 5 ∨ f.k = 6) : wordM f = [letM f.k] := by unfold wordM; rw [if_pos h]
theorem word_num {f : Fold} (h : ¬ (f.k = 5 ∨ f.k = 6)) : wordM f = letM f.k :: Lib.itoa f.c := by unfold wordM; rw [if_neg h]
def letters : ByteArray := ⟨#[76, 82, 85, 68, 79, 84]⟩
theorem let_at : ∀ n, n < 7 → 0 < n → letters.extract (n - 1) n = bs [letM (n : Nat)] := by decide
theorem let_add {n : Nat} (h1 : n < 7) (h2 : 0 < n) (l : List UInt8) (h : l.length ≤ 21) (W : World) : (Op.stringOp .add ((⟨#[76, 82, 85, 68, 79, 84]⟩ : ByteArray).extract (n - 1) n) (bs l)).run Tryz.prog W = .ok (.string (bs (letM (n : Nat) :: l))) W := by
  have e : (⟨#[76, 82, 85, 68, 79, 84]⟩ : ByteArray).extract (n - 1) n = bs [letM (n : Nat)] := let_at n h1 h2
  rw [e, bs_add _ _ (by simp; omega)]; rfl
theorem let_none {k : Int} (h : ¬ (1 ≤ k ∧ k ≤ 6)) : letM k = 63 := by
  unfold letM
  rw [if_neg (by omega), if_neg (by omega), if_neg (by omega), if_neg (by omega), if_neg (by omega), if_neg (by omega)]
set_option maxRecDepth 100000 in
set_option maxHeartbeats 4000000 in
theorem wordOf_any (f : Fold) (w : World) (hc : OkI f.c) (hP : WF w) :
    Calls Tryz.prog 37 #[.agg #[.int .i64 f.k, .int .i64 f.c]] w (StrPost w (wordM f)) := by
  obtain ⟨k, c⟩ := f
  show Calls Tryz.prog 37 #[.agg #[.int .i64 k, .int .i64 c]] w (StrPost w (wordM ⟨k, c⟩))
  have hc : OkI c := hc
  have hB := (Below.refl w.heap.size w).alloc (Nat.le_refl _) (.cells #[.int .i64 k, .int .i64 c] 59)
  have hP1 := hP.alloc (.cells #[.int .i64 k, .int .i64 c] 59)
  by_cases hk : 1 ≤ k ∧ k ≤ 6
  · have hI := inB_yes hk
    by_cases ht : k = 5 ∨ k = 6
    · have HW := Lib.hid (word_turn (f := ⟨k, c⟩) ht)
      rcases ht with rfl | rfl
      all_goals
        go_enter Tryz.func37, Tryz.ntmps37
        go_wp2_with (first
          | (go_at_call 70; refine (isFrom_any _ _ _ _).mono ?_; rintro e w' ⟨rfl, rfl⟩; rw [hI])
          | (go_at_call 68; refine (turnsAll_any _ _).mono ?_; rintro e w' ⟨rfl, rfl⟩; simp only [show allB 5 = true from rfl, show allB 6 = true from rfl]))
        go_ret
        exact ⟨by rw [HW.out]; rfl, hB⟩
    · have HW := Lib.hid (word_num (f := ⟨k, c⟩) ht)
      have hk4 : k = 1 ∨ k = 2 ∨ k = 3 ∨ k = 4 := by omega
      rcases hk4 with rfl | rfl | rfl | rfl
      · have ha := let_add (n := 1) (by decide) (by decide) (Lib.itoa c) (itoa_len21 hc)
        simp only [Nat.reduceSub] at ha
        go_enter Tryz.func37, Tryz.ntmps37
        go_wp2_with (first
          | (go_at_call 70; refine (isFrom_any _ _ _ _).mono ?_; rintro e w' ⟨rfl, rfl⟩; rw [hI])
          | (go_at_call 68; refine (turnsAll_any _ _).mono ?_; rintro e w' ⟨rfl, rfl⟩; rw [show allB 1 = false from rfl])
          | (go_at_call 61; refine (itoaB_any c hc _ hP1).mono ?_; rintro e w' ⟨rfl, hb⟩))
        go_ret
        exact ⟨by rw [HW.out]; rfl, hB.trans (hb.mono (B' := w.heap.size) hB.size)⟩
      · have ha := let_add (n := 2) (by decide) (by decide) (Lib.itoa c) (itoa_len21 hc)
        simp only [Nat.reduceSub] at ha
        go_enter Tryz.func37, Tryz.ntmps37
        go_wp2_with (first
          | (go_at_call 70; refine (isFrom_any _ _ _ _).mono ?_; rintro e w' ⟨rfl, rfl⟩; rw [hI])
          | (go_at_call 68; refine (turnsAll_any _ _).mono ?_; rintro e w' ⟨rfl, rfl⟩; rw [show allB 2 = false from rfl])
          | (go_at_call 61; refine (itoaB_any c hc _ hP1).mono ?_; rintro e w' ⟨rfl, hb⟩))
        go_ret
        exact ⟨by rw [HW.out]; rfl, hB.trans (hb.mono (B' := w.heap.size) hB.size)⟩
      · have ha := let_add (n := 3) (by decide) (by decide) (Lib.itoa c) (itoa_len21 hc)
        simp only [Nat.reduceSub] at ha
        go_enter Tryz.func37, Tryz.ntmps37
        go_wp2_with (first
          | (go_at_call 70; refine (isFrom_any _ _ _ _).mono ?_; rintro e w' ⟨rfl, rfl⟩; rw [hI])
          | (go_at_call 68; refine (turnsAll_any _ _).mono ?_; rintro e w' ⟨rfl, rfl⟩; rw [show allB 3 = false from rfl])
          | (go_at_call 61; refine (itoaB_any c hc _ hP1).mono ?_; rintro e w' ⟨rfl, hb⟩))
        go_ret
        exact ⟨by rw [HW.out]; rfl, hB.trans (hb.mono (B' := w.heap.size) hB.size)⟩
      · have ha := let_add (n := 4) (by decide) (by decide) (Lib.itoa c) (itoa_len21 hc)
        simp only [Nat.reduceSub] at ha
        go_enter Tryz.func37, Tryz.ntmps37
        go_wp2_with (first
          | (go_at_call 70; refine (isFrom_any _ _ _ _).mono ?_; rintro e w' ⟨rfl, rfl⟩; rw [hI])
          | (go_at_call 68; refine (turnsAll_any _ _).mono ?_; rintro e w' ⟨rfl, rfl⟩; rw [show allB 4 = false from rfl])
          | (go_at_call 61; refine (itoaB_any c hc _ hP1).mono ?_; rintro e w' ⟨rfl, hb⟩))
        go_ret
        exact ⟨by rw [HW.out]; rfl, hB.trans (hb.mono (B' := w.heap.size) hB.size)⟩
  · have hI := inB_no hk
    have ht : ¬ (k = 5 ∨ k = 6) := by omega
    have HW := Lib.hid (word_num (f := ⟨k, c⟩) ht)
    have HL := Lib.hid (let_none hk)
    have HA : Hid (allB k = false) := Lib.hid (decide_eq_false ht)
    have ha : ∀ W, (Op.stringOp .add (⟨#[63]⟩ : ByteArray) (bs (Lib.itoa c))).run Tryz.prog W = .ok (.string (bs (63 :: Lib.itoa c))) W := fun W => bs_add [63] (Lib.itoa c) (by have := itoa_len21 hc; simp; omega) W
    clear hk ht
    go_enter Tryz.func37, Tryz.ntmps37
    go_wp2_with (first
      | (go_at_call 70; refine (isFrom_any _ _ _ _).mono ?_; rintro e w' ⟨rfl, rfl⟩; rw [hI])
      | (go_at_call 68; refine (turnsAll_any _ _).mono ?_; rintro e w' ⟨rfl, rfl⟩; rw [HA.out])
      | (go_at_call 61; refine (itoaB_any c hc _ hP1).mono ?_; rintro e w' ⟨rfl, hb⟩))
    go_ret
    exact ⟨by rw [HW.out]; show _ = Ending.returned (Value.string (bs (letM k :: _))); rw [HL.out]; rfl, hB.trans (hb.mono (B' := w.heap.size) hB.size)⟩

/-- What a word is read as: the fold, and whether it is one. -/
def WordPost (w : World) (o : Option Fold) (e : Ending) (w' : World) : Prop := ∃ k c : Int, e = .returned (.tuple #[.agg #[.int .i64 k, .int .i64 c], .bool o.isSome]) ∧ (∀ f, o = some f → f = ⟨k, c⟩) ∧ Below w.heap.size w w'
theorem letters_at (b : UInt8) : (Lib.indexByte [76, 82, 85, 68, 79, 84] b + 1 = kindM b) ∧ 0 ≤ kindM b ∧ kindM b ≤ 6 := by
  have h : ∀ n, n < 256 → (Lib.indexByte [76, 82, 85, 68, 79, 84] (UInt8.ofNat n) + 1 = kindM (UInt8.ofNat n)) ∧ 0 ≤ kindM (UInt8.ofNat n) ∧ kindM (UInt8.ofNat n) ≤ 6 := by decide +kernel
  have := h b.toNat (UInt8.toNat_lt b)
  rwa [UInt8.ofNat_toNat] at this
theorem first_split (s : ByteArray) (h : 0 < s.size) : s.data.toList = s[0] :: (s.extract 1 s.size).data.toList := by
  have hl : s.data.toList.length = s.size := Array.length_toList
  have h1 : 0 < s.data.toList.length := by rw [hl]; exact h
  rw [ByteArray.data_extract, Array.toList_extract, List.extract_eq_take_drop]
  have e : s.size - 1 = (s.data.toList.drop 1).length := by rw [List.length_drop, hl]
  rw [e, List.take_length]
  have := List.drop_eq_getElem_cons h1
  rw [List.drop_zero] at this
  exact this
theorem readM_turn {c : UInt8} {r : List UInt8} (h : kindM c = 5 ∨ kindM c = 6) : readM (c :: r) = if r = [] then some ⟨kindM c, 0⟩ else none := by
  show (if _ then _ else _) = _
  rw [if_pos h]
theorem readM_num {c : UInt8} {r : List UInt8} (h : ¬ (kindM c = 5 ∨ kindM c = 6)) : readM (c :: r) = match numI r 2 with
    | some v => if 0 < kindM c ∧ 0 ≤ v then some ⟨kindM c, v⟩ else none
    | none => none := by
  show (if _ then _ else _) = _
  rw [if_neg h]; rfl
theorem index_any (b : UInt8) (i : Int) (h : i + 1 = kindM b) (w : World) :
    Calls Tryz.prog 63 #[.string ⟨#[76, 82, 85, 68, 79, 84]⟩, .int .u8 b.toNat] w fun e w' => e = .returned (.int .i64 i) ∧ w' = w := by
  refine (Tryz.strings_IndexByte _ _ w).mono ?_
  rintro e w' ⟨rfl, rfl⟩
  refine ⟨ret_int ?_, rfl⟩
  have h1 := (letters_at b).1
  have h2 : ((b.toNat : Int).toNat.toUInt8) = b := by rw [Int.toNat_natCast]; exact UInt8.ofNat_toNat
  rw [h2]
  show Lib.indexByte [76, 82, 85, 68, 79, 84] b = i
  omega
theorem numberOf_two (s : ByteArray) (w : World) (o : Option Int) (ho : numI s.data.toList 2 = o) (hs : s.size ≤ 1000000) (hP : WF w) :
    Calls Tryz.prog 69 #[.string s, .int .i64 2] w (NumPostW w o) := by
  subst ho; exact numberOf_any s 2 w (by decide) hs hP
set_option maxRecDepth 100000 in
set_option maxHeartbeats 8000000 in
theorem foldOf_any (s : ByteArray) (w : World) (hs : s.size ≤ 1000) (hP : WF w) :
    Calls Tryz.prog 36 #[.string s] w (WordPost w (readM s.data.toList)) := by
  by_cases h0 : s.size = 0
  · obtain rfl : s = ⟨#[]⟩ := by
      have : s.data.toList = [] := List.length_eq_zero_iff.1 (by rw [Array.length_toList]; exact h0)
      rw [← data_bs s, this]; rfl
    clear h0
    go_enter Tryz.func36, Tryz.ntmps36
    go_wp2
    refine bodyPost_ret (v := .tuple #[.agg #[.int .i64 0, .int .i64 0], .bool false]) (by simp [results, Tryz.results36, go_sem]) rfl ⟨0, 0, rfl, (fun f hf => by cases hf), ?_⟩
    (repeat (first | exact Below.refl _ _ | refine Below.alloc ?_ (by simp <;> omega) _ | refine Below.setCell ?_ (by simp <;> omega) _ | refine below_drewN ?_ _ | refine Below.drew ?_))
  have h1 : 0 < s.size := by omega
  have hsp := first_split s h1
  obtain ⟨b, hb⟩ : ∃ b, b = s[0] := ⟨_, rfl⟩
  obtain ⟨r, hr⟩ : ∃ r, r = (s.extract 1 s.size).data.toList := ⟨_, rfl⟩
  have hrl : r.length = s.size - 1 := by
    have := congrArg List.length hsp
    rw [Array.length_toList, List.length_cons, ← hr] at this
    have e : s.data.size = s.size := rfl
    omega
  rw [← hb, ← hr] at hsp
  have hbI : ((s[0].toNat : Nat) : Int) = b.toNat := by rw [hb]
  have h1I : (1 : Int) ≤ (s.size : Int) := by omega
  have h0I : (0 : Int) < (s.size : Int) := by omega
  obtain ⟨o, ho⟩ : ∃ o, o = readM s.data.toList := ⟨_, rfl⟩
  rw [← ho]
  rw [hsp] at ho
  obtain ⟨q, hq⟩ : ∃ q, q = kindM b := ⟨_, rfl⟩
  have hqb := (letters_at b).2
  have hse : s ≠ ⟨#[]⟩ := fun e => by rw [e] at h1; exact absurd h1 (by decide)
  have hse2 : (s.toList == ([] : List UInt8)) = false := by
    rw [beq_eq_false_iff_ne, Lib.toList_data]
    intro e
    have h2 := congrArg List.length e
    rw [Array.length_toList] at h2
    have h3 : s.data.size = s.size := rfl
    rw [List.length_nil] at h2; omega
  have HR := Lib.hid hr; have HQ := Lib.hid hq
  have H1 := Lib.hid h1
  by_cases ht : kindM b = 5 ∨ kindM b = 6
  · rw [readM_turn ht, ← hq] at ho
    rw [← hq] at ht
    have HO := Lib.hid ho
    by_cases hr0 : r = []
    · have hz : ((s.size : Int) == 1) = true := by rw [hr0] at hrl; simp at hrl; simp; omega
      have HO2 := Lib.hid (show o = some ⟨q, 0⟩ by rw [HO.out, if_pos hr0])
      clear ho hr0 hr hrl hqb hsp h0 hq
      rcases ht with rfl | rfl
      · have hix := Lib.hid (fun W => index_any b 4 (by rw [← HQ.out]; rfl) W)
        go_enter Tryz.func36, Tryz.ntmps36
        go_wp2_with (first
          | (go_at_call 63; refine (hix.out _).mono ?_; rintro e w' ⟨rfl, rfl⟩)
          | (go_at_call 68; refine (turnsAll_any _ _).mono ?_; rintro e w' ⟨rfl, rfl⟩; rw [show allB 5 = true from rfl]))
        refine bodyPost_ret (v := .tuple #[.agg #[.int .i64 5, .int .i64 0], .bool true]) (by simp [results, Tryz.results36, go_sem]) rfl ⟨5, 0, by rw [HO2.out]; rfl, (fun f hf => by have h := HO2.out; rw [h] at hf; cases hf; rfl), ?_⟩
        (repeat (first | exact Below.refl _ _ | refine Below.alloc ?_ (by simp <;> omega) _ | refine Below.setCell ?_ (by simp <;> omega) _ | refine below_drewN ?_ _ | refine Below.drew ?_))
      · have hix := Lib.hid (fun W => index_any b 5 (by rw [← HQ.out]; rfl) W)
        go_enter Tryz.func36, Tryz.ntmps36
        go_wp2_with (first
          | (go_at_call 63; refine (hix.out _).mono ?_; rintro e w' ⟨rfl, rfl⟩)
          | (go_at_call 68; refine (turnsAll_any _ _).mono ?_; rintro e w' ⟨rfl, rfl⟩; rw [show allB 6 = true from rfl]))
        refine bodyPost_ret (v := .tuple #[.agg #[.int .i64 6, .int .i64 0], .bool true]) (by simp [results, Tryz.results36, go_sem]) rfl ⟨6, 0, by rw [HO2.out]; rfl, (fun f hf => by have h := HO2.out; rw [h] at hf; cases hf; rfl), ?_⟩
        (repeat (first | exact Below.refl _ _ | refine Below.alloc ?_ (by simp <;> omega) _ | refine Below.setCell ?_ (by simp <;> omega) _ | refine below_drewN ?_ _ | refine Below.drew ?_))
    · have hz : ((s.size : Int) == 1) = false := by
        have h9 := List.length_pos_iff.2 hr0
        rw [beq_eq_false_iff_ne]; omega
      have HO2 := Lib.hid (show o = none by rw [HO.out, if_neg hr0])
      clear ho hr0 hr hrl hqb hsp h0 hq
      rcases ht with rfl | rfl
      · have hix := Lib.hid (fun W => index_any b 4 (by rw [← HQ.out]; rfl) W)
        go_enter Tryz.func36, Tryz.ntmps36
        go_wp2_with (first
          | (go_at_call 63; refine (hix.out _).mono ?_; rintro e w' ⟨rfl, rfl⟩)
          | (go_at_call 68; refine (turnsAll_any _ _).mono ?_; rintro e w' ⟨rfl, rfl⟩; rw [show allB 5 = true from rfl]))
        refine bodyPost_ret (v := .tuple #[.agg #[.int .i64 5, .int .i64 0], .bool false]) (by simp [results, Tryz.results36, go_sem]) rfl ⟨5, 0, by rw [HO2.out]; rfl, (fun f hf => by have h := HO2.out; rw [h] at hf; cases hf), ?_⟩
        (repeat (first | exact Below.refl _ _ | refine Below.alloc ?_ (by simp <;> omega) _ | refine Below.setCell ?_ (by simp <;> omega) _ | refine below_drewN ?_ _ | refine Below.drew ?_))
      · have hix := Lib.hid (fun W => index_any b 5 (by rw [← HQ.out]; rfl) W)
        go_enter Tryz.func36, Tryz.ntmps36
        go_wp2_with (first
          | (go_at_call 63; refine (hix.out _).mono ?_; rintro e w' ⟨rfl, rfl⟩)
          | (go_at_call 68; refine (turnsAll_any _ _).mono ?_; rintro e w' ⟨rfl, rfl⟩; rw [show allB 6 = true from rfl]))
        refine bodyPost_ret (v := .tuple #[.agg #[.int .i64 6, .int .i64 0], .bool false]) (by simp [results, Tryz.results36, go_sem]) rfl ⟨6, 0, by rw [HO2.out]; rfl, (fun f hf => by have h := HO2.out; rw [h] at hf; cases hf), ?_⟩
        (repeat (first | exact Below.refl _ _ | refine Below.alloc ?_ (by simp <;> omega) _ | refine Below.setCell ?_ (by simp <;> omega) _ | refine below_drewN ?_ _ | refine Below.drew ?_))
  · rw [readM_num ht, ← hq] at ho
    rw [← hq] at ht hqb
    obtain ⟨oi, hoi⟩ : ∃ oi, numI r 2 = oi := ⟨_, rfl⟩
    rw [hoi] at ho
    have HO := Lib.hid ho
    have HOI := Lib.hid (show numI (s.extract 1 s.size).data.toList 2 = oi by rw [← HR.out]; exact hoi)
    have hes : (s.extract 1 s.size).size ≤ 1000000 := by rw [ByteArray.size_extract]; omega
    have HES := Lib.hid hes
    have hwf := (hP.alloc (.cells #[.int .i64 0, .int .i64 0] 59))
    have hq5 : q = 0 ∨ q = 1 ∨ q = 2 ∨ q = 3 ∨ q = 4 := by omega
    clear hr hrl hqb hsp h0 hq ht hes hoi ho
    rcases hq5 with rfl | rfl | rfl | rfl | rfl
    · have hix := Lib.hid (fun W => index_any b (-1) (by rw [← HQ.out]; rfl) W)
      have hwf2 := hwf.alloc (.cells #[.int .i64 0, .int .i64 0] 59)
      have bx0 := (BoxAt.new w #[.int .i64 0, .int .i64 0] 59).alloc (.cells #[.int .i64 0, .int .i64 0] 59)
      have bx1 := BoxAt.new (w.alloc (.cells #[.int .i64 0, .int .i64 0] 59)) #[.int .i64 0, .int .i64 0] 59
      go_enter Tryz.func36, Tryz.ntmps36
      rw [show (w.alloc (.cells #[.int .i64 0, .int .i64 0] 59)).heap.size = w.heap.size + 1 by simp] at bx1
      go_wp2_with (first
        | (go_at_call 63; refine (hix.out _).mono ?_; rintro e w' ⟨rfl, rfl⟩)
        | (go_at_call 68; refine (turnsAll_any _ _).mono ?_; rintro e w' ⟨rfl, rfl⟩; rw [show allB 0 = false from rfl])
        | fail)
      refine (numberOf_two _ _ oi HOI.out HES.out hwf2).mono ?_
      rintro e w1 ⟨x, rfl, hx, hb⟩
      have hB1 : Below w.heap.size w w1 := (((Below.refl w.heap.size w).alloc (Nat.le_refl _) (.cells #[.int .i64 0, .int .i64 0] 59)).alloc (by simp) (.cells #[.int .i64 0, .int .i64 0] 59)).trans (hb.mono (B' := w.heap.size) (by simp; omega))
      have by0 := bx0.below hb
      have by1 := bx1.below hb
      clear bx0 bx1 hwf2
      have c00 := by0.cell 0; have c01 := by0.cell 1; have c10 := by1.cell 0; have c11 := by1.cell 1
      simp at c00 c01 c10 c11
      have f0 := by0.free; have f1 := by1.free
      have hlt0 := by0.lt; have hlt1 := by1.lt
      have bz := ((by0.set_other (p := ⟨w.heap.size + 1, 1, none⟩) (by simp) (.int .i64 x)).set 0 (.int .i64 0)).set 1 (.int .i64 x)
      have d0 := bz.cell 0; have d1 := bz.cell 1
      simp at d0 d1
      have D0 := Lib.hid d0; have D1 := Lib.hid d1
      clear d0 d1 bz
      cases oi with
      | none =>
        have HO2 := Lib.hid (show o = none from HO.out)
        go_wp2_with fail
        refine bodyPost_ret (v := .tuple #[.agg #[.int .i64 0, .int .i64 x], .bool false]) (by simp [results, Tryz.results36, go_sem, D0.out, D1.out]) rfl ⟨0, x, by rw [HO2.out]; rfl, (fun f hf => by have h := HO2.out; rw [h] at hf; cases hf), ?_⟩
        (repeat (first | exact hB1 | refine Below.alloc ?_ (by simp <;> omega) _ | refine Below.setCell ?_ (by simp <;> omega) _ | refine below_drewN ?_ _ | refine Below.drew ?_))
      | some v =>
        obtain rfl : x = v := hx v rfl
        have HO2 := Lib.hid (show o = none by rw [HO.out]; exact if_neg (by omega))
        go_wp2_with fail
        refine bodyPost_ret (v := .tuple #[.agg #[.int .i64 0, .int .i64 x], .bool false]) (by simp [results, Tryz.results36, go_sem, D0.out, D1.out]) rfl ⟨0, x, by rw [HO2.out]; rfl, (fun f hf => by have h := HO2.out; rw [h] at hf; cases hf), ?_⟩
        (repeat (first | exact hB1 | refine Below.alloc ?_ (by simp <;> omega) _ | refine Below.setCell ?_ (by simp <;> omega) _ | refine below_drewN ?_ _ | refine Below.drew ?_))
    · have hix := Lib.hid (fun W => index_any b (0) (by rw [← HQ.out]; rfl) W)
      have hwf2 := hwf.alloc (.cells #[.int .i64 1, .int .i64 0] 59)
      have bx0 := (BoxAt.new w #[.int .i64 0, .int .i64 0] 59).alloc (.cells #[.int .i64 1, .int .i64 0] 59)
      have bx1 := BoxAt.new (w.alloc (.cells #[.int .i64 0, .int .i64 0] 59)) #[.int .i64 1, .int .i64 0] 59
      go_enter Tryz.func36, Tryz.ntmps36
      rw [show (w.alloc (.cells #[.int .i64 0, .int .i64 0] 59)).heap.size = w.heap.size + 1 by simp] at bx1
      go_wp2_with (first
        | (go_at_call 63; refine (hix.out _).mono ?_; rintro e w' ⟨rfl, rfl⟩)
        | (go_at_call 68; refine (turnsAll_any _ _).mono ?_; rintro e w' ⟨rfl, rfl⟩; rw [show allB 1 = false from rfl])
        | fail)
      refine (numberOf_two _ _ oi HOI.out HES.out hwf2).mono ?_
      rintro e w1 ⟨x, rfl, hx, hb⟩
      have hB1 : Below w.heap.size w w1 := (((Below.refl w.heap.size w).alloc (Nat.le_refl _) (.cells #[.int .i64 0, .int .i64 0] 59)).alloc (by simp) (.cells #[.int .i64 1, .int .i64 0] 59)).trans (hb.mono (B' := w.heap.size) (by simp; omega))
      have by0 := bx0.below hb
      have by1 := bx1.below hb
      clear bx0 bx1 hwf2
      have c00 := by0.cell 0; have c01 := by0.cell 1; have c10 := by1.cell 0; have c11 := by1.cell 1
      simp at c00 c01 c10 c11
      have f0 := by0.free; have f1 := by1.free
      have hlt0 := by0.lt; have hlt1 := by1.lt
      have bz := ((by0.set_other (p := ⟨w.heap.size + 1, 1, none⟩) (by simp) (.int .i64 x)).set 0 (.int .i64 1)).set 1 (.int .i64 x)
      have d0 := bz.cell 0; have d1 := bz.cell 1
      simp at d0 d1
      have D0 := Lib.hid d0; have D1 := Lib.hid d1
      clear d0 d1 bz
      cases oi with
      | none =>
        have HO2 := Lib.hid (show o = none from HO.out)
        go_wp2_with fail
        refine bodyPost_ret (v := .tuple #[.agg #[.int .i64 1, .int .i64 x], .bool false]) (by simp [results, Tryz.results36, go_sem, D0.out, D1.out]) rfl ⟨1, x, by rw [HO2.out]; rfl, (fun f hf => by have h := HO2.out; rw [h] at hf; cases hf), ?_⟩
        (repeat (first | exact hB1 | refine Below.alloc ?_ (by simp <;> omega) _ | refine Below.setCell ?_ (by simp <;> omega) _ | refine below_drewN ?_ _ | refine Below.drew ?_))
      | some v =>
        obtain rfl : x = v := hx v rfl
        by_cases hv : 0 ≤ x
        · have HO2 := Lib.hid (show o = some ⟨1, x⟩ by rw [HO.out]; exact if_pos ⟨by omega, hv⟩)
          go_wp2_with fail
          refine bodyPost_ret (v := .tuple #[.agg #[.int .i64 1, .int .i64 x], .bool true]) (by simp [results, Tryz.results36, go_sem, D0.out, D1.out]) rfl ⟨1, x, by rw [HO2.out]; rfl, (fun f hf => by have h := HO2.out; rw [h] at hf; exact (Option.some.inj hf).symm), ?_⟩
          (repeat (first | exact hB1 | refine Below.alloc ?_ (by simp <;> omega) _ | refine Below.setCell ?_ (by simp <;> omega) _ | refine below_drewN ?_ _ | refine Below.drew ?_))
        · have HO2 := Lib.hid (show o = none by rw [HO.out]; exact if_neg (fun h => hv h.2))
          have hx0 : x < 0 := by omega
          go_wp2_with fail
          refine bodyPost_ret (v := .tuple #[.agg #[.int .i64 1, .int .i64 x], .bool false]) (by simp [results, Tryz.results36, go_sem, D0.out, D1.out, hx0]) rfl ⟨1, x, by rw [HO2.out]; rfl, (fun f hf => by have h := HO2.out; rw [h] at hf; cases hf), ?_⟩
          (repeat (first | exact hB1 | refine Below.alloc ?_ (by simp <;> omega) _ | refine Below.setCell ?_ (by simp <;> omega) _ | refine below_drewN ?_ _ | refine Below.drew ?_))
    · have hix := Lib.hid (fun W => index_any b (1) (by rw [← HQ.out]; rfl) W)
      have hwf2 := hwf.alloc (.cells #[.int .i64 2, .int .i64 0] 59)
      have bx0 := (BoxAt.new w #[.int .i64 0, .int .i64 0] 59).alloc (.cells #[.int .i64 2, .int .i64 0] 59)
      have bx1 := BoxAt.new (w.alloc (.cells #[.int .i64 0, .int .i64 0] 59)) #[.int .i64 2, .int .i64 0] 59
      go_enter Tryz.func36, Tryz.ntmps36
      rw [show (w.alloc (.cells #[.int .i64 0, .int .i64 0] 59)).heap.size = w.heap.size + 1 by simp] at bx1
      go_wp2_with (first
        | (go_at_call 63; refine (hix.out _).mono ?_; rintro e w' ⟨rfl, rfl⟩)
        | (go_at_call 68; refine (turnsAll_any _ _).mono ?_; rintro e w' ⟨rfl, rfl⟩; rw [show allB 2 = false from rfl])
        | fail)
      refine (numberOf_two _ _ oi HOI.out HES.out hwf2).mono ?_
      rintro e w1 ⟨x, rfl, hx, hb⟩
      have hB1 : Below w.heap.size w w1 := (((Below.refl w.heap.size w).alloc (Nat.le_refl _) (.cells #[.int .i64 0, .int .i64 0] 59)).alloc (by simp) (.cells #[.int .i64 2, .int .i64 0] 59)).trans (hb.mono (B' := w.heap.size) (by simp; omega))
      have by0 := bx0.below hb
      have by1 := bx1.below hb
      clear bx0 bx1 hwf2
      have c00 := by0.cell 0; have c01 := by0.cell 1; have c10 := by1.cell 0; have c11 := by1.cell 1
      simp at c00 c01 c10 c11
      have f0 := by0.free; have f1 := by1.free
      have hlt0 := by0.lt; have hlt1 := by1.lt
      have bz := ((by0.set_other (p := ⟨w.heap.size + 1, 1, none⟩) (by simp) (.int .i64 x)).set 0 (.int .i64 2)).set 1 (.int .i64 x)
      have d0 := bz.cell 0; have d1 := bz.cell 1
      simp at d0 d1
      have D0 := Lib.hid d0; have D1 := Lib.hid d1
      clear d0 d1 bz
      cases oi with
      | none =>
        have HO2 := Lib.hid (show o = none from HO.out)
        go_wp2_with fail
        refine bodyPost_ret (v := .tuple #[.agg #[.int .i64 2, .int .i64 x], .bool false]) (by simp [results, Tryz.results36, go_sem, D0.out, D1.out]) rfl ⟨2, x, by rw [HO2.out]; rfl, (fun f hf => by have h := HO2.out; rw [h] at hf; cases hf), ?_⟩
        (repeat (first | exact hB1 | refine Below.alloc ?_ (by simp <;> omega) _ | refine Below.setCell ?_ (by simp <;> omega) _ | refine below_drewN ?_ _ | refine Below.drew ?_))
      | some v =>
        obtain rfl : x = v := hx v rfl
        by_cases hv : 0 ≤ x
        · have HO2 := Lib.hid (show o = some ⟨2, x⟩ by rw [HO.out]; exact if_pos ⟨by omega, hv⟩)
          go_wp2_with fail
          refine bodyPost_ret (v := .tuple #[.agg #[.int .i64 2, .int .i64 x], .bool true]) (by simp [results, Tryz.results36, go_sem, D0.out, D1.out]) rfl ⟨2, x, by rw [HO2.out]; rfl, (fun f hf => by have h := HO2.out; rw [h] at hf; exact (Option.some.inj hf).symm), ?_⟩
          (repeat (first | exact hB1 | refine Below.alloc ?_ (by simp <;> omega) _ | refine Below.setCell ?_ (by simp <;> omega) _ | refine below_drewN ?_ _ | refine Below.drew ?_))
        · have HO2 := Lib.hid (show o = none by rw [HO.out]; exact if_neg (fun h => hv h.2))
          have hx0 : x < 0 := by omega
          go_wp2_with fail
          refine bodyPost_ret (v := .tuple #[.agg #[.int .i64 2, .int .i64 x], .bool false]) (by simp [results, Tryz.results36, go_sem, D0.out, D1.out, hx0]) rfl ⟨2, x, by rw [HO2.out]; rfl, (fun f hf => by have h := HO2.out; rw [h] at hf; cases hf), ?_⟩
          (repeat (first | exact hB1 | refine Below.alloc ?_ (by simp <;> omega) _ | refine Below.setCell ?_ (by simp <;> omega) _ | refine below_drewN ?_ _ | refine Below.drew ?_))
    · have hix := Lib.hid (fun W => index_any b (2) (by rw [← HQ.out]; rfl) W)
      have hwf2 := hwf.alloc (.cells #[.int .i64 3, .int .i64 0] 59)
      have bx0 := (BoxAt.new w #[.int .i64 0, .int .i64 0] 59).alloc (.cells #[.int .i64 3, .int .i64 0] 59)
      have bx1 := BoxAt.new (w.alloc (.cells #[.int .i64 0, .int .i64 0] 59)) #[.int .i64 3, .int .i64 0] 59
      go_enter Tryz.func36, Tryz.ntmps36
      rw [show (w.alloc (.cells #[.int .i64 0, .int .i64 0] 59)).heap.size = w.heap.size + 1 by simp] at bx1
      go_wp2_with (first
        | (go_at_call 63; refine (hix.out _).mono ?_; rintro e w' ⟨rfl, rfl⟩)
        | (go_at_call 68; refine (turnsAll_any _ _).mono ?_; rintro e w' ⟨rfl, rfl⟩; rw [show allB 3 = false from rfl])
        | fail)
      refine (numberOf_two _ _ oi HOI.out HES.out hwf2).mono ?_
      rintro e w1 ⟨x, rfl, hx, hb⟩
      have hB1 : Below w.heap.size w w1 := (((Below.refl w.heap.size w).alloc (Nat.le_refl _) (.cells #[.int .i64 0, .int .i64 0] 59)).alloc (by simp) (.cells #[.int .i64 3, .int .i64 0] 59)).trans (hb.mono (B' := w.heap.size) (by simp; omega))
      have by0 := bx0.below hb
      have by1 := bx1.below hb
      clear bx0 bx1 hwf2
      have c00 := by0.cell 0; have c01 := by0.cell 1; have c10 := by1.cell 0; have c11 := by1.cell 1
      simp at c00 c01 c10 c11
      have f0 := by0.free; have f1 := by1.free
      have hlt0 := by0.lt; have hlt1 := by1.lt
      have bz := ((by0.set_other (p := ⟨w.heap.size + 1, 1, none⟩) (by simp) (.int .i64 x)).set 0 (.int .i64 3)).set 1 (.int .i64 x)
      have d0 := bz.cell 0; have d1 := bz.cell 1
      simp at d0 d1
      have D0 := Lib.hid d0; have D1 := Lib.hid d1
      clear d0 d1 bz
      cases oi with
      | none =>
        have HO2 := Lib.hid (show o = none from HO.out)
        go_wp2_with fail
        refine bodyPost_ret (v := .tuple #[.agg #[.int .i64 3, .int .i64 x], .bool false]) (by simp [results, Tryz.results36, go_sem, D0.out, D1.out]) rfl ⟨3, x, by rw [HO2.out]; rfl, (fun f hf => by have h := HO2.out; rw [h] at hf; cases hf), ?_⟩
        (repeat (first | exact hB1 | refine Below.alloc ?_ (by simp <;> omega) _ | refine Below.setCell ?_ (by simp <;> omega) _ | refine below_drewN ?_ _ | refine Below.drew ?_))
      | some v =>
        obtain rfl : x = v := hx v rfl
        by_cases hv : 0 ≤ x
        · have HO2 := Lib.hid (show o = some ⟨3, x⟩ by rw [HO.out]; exact if_pos ⟨by omega, hv⟩)
          go_wp2_with fail
          refine bodyPost_ret (v := .tuple #[.agg #[.int .i64 3, .int .i64 x], .bool true]) (by simp [results, Tryz.results36, go_sem, D0.out, D1.out]) rfl ⟨3, x, by rw [HO2.out]; rfl, (fun f hf => by have h := HO2.out; rw [h] at hf; exact (Option.some.inj hf).symm), ?_⟩
          (repeat (first | exact hB1 | refine Below.alloc ?_ (by simp <;> omega) _ | refine Below.setCell ?_ (by simp <;> omega) _ | refine below_drewN ?_ _ | refine Below.drew ?_))
        · have HO2 := Lib.hid (show o = none by rw [HO.out]; exact if_neg (fun h => hv h.2))
          have hx0 : x < 0 := by omega
          go_wp2_with fail
          refine bodyPost_ret (v := .tuple #[.agg #[.int .i64 3, .int .i64 x], .bool false]) (by simp [results, Tryz.results36, go_sem, D0.out, D1.out, hx0]) rfl ⟨3, x, by rw [HO2.out]; rfl, (fun f hf => by have h := HO2.out; rw [h] at hf; cases hf), ?_⟩
          (repeat (first | exact hB1 | refine Below.alloc ?_ (by simp <;> omega) _ | refine Below.setCell ?_ (by simp <;> omega) _ | refine below_drewN ?_ _ | refine Below.drew ?_))
    · have hix := Lib.hid (fun W => index_any b (3) (by rw [← HQ.out]; rfl) W)
      have hwf2 := hwf.alloc (.cells #[.int .i64 4, .int .i64 0] 59)
      have bx0 := (BoxAt.new w #[.int .i64 0, .int .i64 0] 59).alloc (.cells #[.int .i64 4, .int .i64 0] 59)
      have bx1 := BoxAt.new (w.alloc (.cells #[.int .i64 0, .int .i64 0] 59)) #[.int .i64 4, .int .i64 0] 59
      go_enter Tryz.func36, Tryz.ntmps36
      rw [show (w.alloc (.cells #[.int .i64 0, .int .i64 0] 59)).heap.size = w.heap.size + 1 by simp] at bx1
      go_wp2_with (first
        | (go_at_call 63; refine (hix.out _).mono ?_; rintro e w' ⟨rfl, rfl⟩)
        | (go_at_call 68; refine (turnsAll_any _ _).mono ?_; rintro e w' ⟨rfl, rfl⟩; rw [show allB 4 = false from rfl])
        | fail)
      refine (numberOf_two _ _ oi HOI.out HES.out hwf2).mono ?_
      rintro e w1 ⟨x, rfl, hx, hb⟩
      have hB1 : Below w.heap.size w w1 := (((Below.refl w.heap.size w).alloc (Nat.le_refl _) (.cells #[.int .i64 0, .int .i64 0] 59)).alloc (by simp) (.cells #[.int .i64 4, .int .i64 0] 59)).trans (hb.mono (B' := w.heap.size) (by simp; omega))
      have by0 := bx0.below hb
      have by1 := bx1.below hb
      clear bx0 bx1 hwf2
      have c00 := by0.cell 0; have c01 := by0.cell 1; have c10 := by1.cell 0; have c11 := by1.cell 1
      simp at c00 c01 c10 c11
      have f0 := by0.free; have f1 := by1.free
      have hlt0 := by0.lt; have hlt1 := by1.lt
      have bz := ((by0.set_other (p := ⟨w.heap.size + 1, 1, none⟩) (by simp) (.int .i64 x)).set 0 (.int .i64 4)).set 1 (.int .i64 x)
      have d0 := bz.cell 0; have d1 := bz.cell 1
      simp at d0 d1
      have D0 := Lib.hid d0; have D1 := Lib.hid d1
      clear d0 d1 bz
      cases oi with
      | none =>
        have HO2 := Lib.hid (show o = none from HO.out)
        go_wp2_with fail
        refine bodyPost_ret (v := .tuple #[.agg #[.int .i64 4, .int .i64 x], .bool false]) (by simp [results, Tryz.results36, go_sem, D0.out, D1.out]) rfl ⟨4, x, by rw [HO2.out]; rfl, (fun f hf => by have h := HO2.out; rw [h] at hf; cases hf), ?_⟩
        (repeat (first | exact hB1 | refine Below.alloc ?_ (by simp <;> omega) _ | refine Below.setCell ?_ (by simp <;> omega) _ | refine below_drewN ?_ _ | refine Below.drew ?_))
      | some v =>
        obtain rfl : x = v := hx v rfl
        by_cases hv : 0 ≤ x
        · have HO2 := Lib.hid (show o = some ⟨4, x⟩ by rw [HO.out]; exact if_pos ⟨by omega, hv⟩)
          go_wp2_with fail
          refine bodyPost_ret (v := .tuple #[.agg #[.int .i64 4, .int .i64 x], .bool true]) (by simp [results, Tryz.results36, go_sem, D0.out, D1.out]) rfl ⟨4, x, by rw [HO2.out]; rfl, (fun f hf => by have h := HO2.out; rw [h] at hf; exact (Option.some.inj hf).symm), ?_⟩
          (repeat (first | exact hB1 | refine Below.alloc ?_ (by simp <;> omega) _ | refine Below.setCell ?_ (by simp <;> omega) _ | refine below_drewN ?_ _ | refine Below.drew ?_))
        · have HO2 := Lib.hid (show o = none by rw [HO.out]; exact if_neg (fun h => hv h.2))
          have hx0 : x < 0 := by omega
          go_wp2_with fail
          refine bodyPost_ret (v := .tuple #[.agg #[.int .i64 4, .int .i64 x], .bool false]) (by simp [results, Tryz.results36, go_sem, D0.out, D1.out, hx0]) rfl ⟨4, x, by rw [HO2.out]; rfl, (fun f hf => by have h := HO2.out; rw [h] at hf; cases hf), ?_⟩
          (repeat (first | exact hB1 | refine Below.alloc ?_ (by simp <;> omega) _ | refine Below.setCell ?_ (by simp <;> omega) _ | refine below_drewN ?_ _ | refine Below.drew ?_))
end Go.Proofs.YtgoandhlcekmiaaGreatDoor
