/-
  law02's Few and WordErr; the reference's FountErr.
-/
import Derived.Test.YtpoadjnhmdbdeaaGreatDoorND
import Derived.Test.YtpoadjnhmdbdeaaGreatDoorZY
import Derived.Test.YtpoadjnhmdbdeaaGreatDoorYN
namespace Go.Proofs.YtpoadjnhmdbdeaaGreatDoor
open Go.RowKit Go.Maps Go.Shelf

/-- At most 20 sorts, or too many, with short names and texts. -/
def few2X (x : TS) : Bool := decide (30 < x.name.size ∨ 10 < x.text.size)
def few2B (f : FT) : Bool := !(decide (30 < f.name.size ∨ (20 < f.sorts.length ∧ f.sorts.length ≤ 120) ∨ 122 < f.sorts.length)) && !(f.sorts.any few2X)
set_option maxRecDepth 100000 in
set_option maxHeartbeats 1000000 in
theorem few2_any (f : FT) (a : Option Addr) (c : Nat) (w : World) (hO : OkF f) (hF : SortsAt w a f.sorts) :
    Calls Tryz.prog 36 #[.agg #[.string f.name, .int .i64 f.body, .slice a f.sorts.length c]] w fun e w' => e = .returned (.bool (few2B f)) ∧ Below w.heap.size w w' := by
  have hO1 := hO.1
  have hO2 := hO.2.1
  unfold maxLen at hO1 hO2
  have hB0 := (Below.refl w.heap.size w).alloc (Nat.le_refl _) (.cells #[.string f.name, .int .i64 f.body, .slice a f.sorts.length c] 59)
  by_cases h1 : 30 < f.name.size ∨ (20 < f.sorts.length ∧ f.sorts.length ≤ 120) ∨ 122 < f.sorts.length
  · have HE := Lib.hid (show few2B f = false by unfold few2B; rw [decide_eq_true h1]; try rfl)
    go_enter Tryz.func36, Tryz.ntmps36
    go_wp2
    all_goals first | (exfalso; omega) | (exfalso; (simp at *) <;> omega) | skip
    all_goals go_ret
    all_goals exact ⟨ret_bool HE.out.symm, hB0⟩
  · have HE := Lib.hid (show few2B f = !(f.sorts.any few2X) by unfold few2B; rw [decide_eq_false h1]; try rfl)
    have hF1 := hF.alloc (.cells #[.string f.name, .int .i64 f.body, .slice a f.sorts.length c] 59)
    have g1 : f.name.size ≤ 30 := by omega
    have g2 : f.sorts.length ≤ 20 ∨ 120 < f.sorts.length := by omega
    have g3 : f.sorts.length ≤ 122 := by omega
    clear h1
    rcases g2 with g2 | g2
    all_goals
      go_enter Tryz.func36, Tryz.ntmps36
      go_wp2
      go_loop [3] (fun i => ∃ k : Nat, k ≤ f.sorts.length ∧ i = .int .i64 k ∧ Hid (firstAt (fun i => few2X (f.sorts.getD i noTS)) (f.sorts.length - 0) 0 = firstAt (fun i => few2X (f.sorts.getD i noTS)) (f.sorts.length - k) k)) (fun i => f.sorts.length - (intOf i).toNat)
      case atStart => exact ⟨0, Nat.zero_le _, rfl, Lib.hid rfl⟩
      case round =>
        obtain ⟨k, hk, rfl, HR⟩ := hrel
        by_cases hlt : k < f.sorts.length
        · obtain ⟨ad, rfl, had, s0, s1, s2, s3⟩ := hF1.at_ hlt
          have hx := hO.at_ hlt
          obtain ⟨x, ex⟩ : ∃ x, x = f.sorts.getD k noTS := ⟨_, rfl⟩
          rw [← ex] at s0 s1 s2 s3 hx
          have EX := Lib.hid ex; clear ex s2 s3
          obtain ⟨hx1, hx2⟩ := hx
          unfold maxLen at hx1 hx2
          by_cases hq : 30 < x.name.size ∨ 10 < x.text.size
          · have HS := Lib.hid (firstAt_stop (q := fun i => few2X (f.sorts.getD i noTS)) hlt (by show few2X _ = true; rw [← EX.out]; exact decide_eq_true hq))
            go_wp2
            all_goals first | (exfalso; omega) | (exfalso; (simp at *) <;> omega) | skip
            all_goals go_ret
            all_goals exact ⟨ret_bool (by rw [HE.out, any_firstAt (p := few2X) (HR.out.trans HS.out)]; rfl), hB0⟩
          · have HS := Lib.hid (firstAt_go (q := fun i => few2X (f.sorts.getD i noTS)) hlt (by show few2X _ = false; rw [← EX.out]; exact decide_eq_false hq))
            have q1 : x.name.size ≤ 30 := by omega
            have q2 : x.text.size ≤ 10 := by omega
            clear hq
            go_wp2
            go_round
            case rel => exact ⟨k + 1, by omega, by go_num, Lib.hid (HR.out.trans HS.out)⟩
            case measure => simp [intOf]; omega
        · have HS := Lib.hid (firstAt_end (q := fun i => few2X (f.sorts.getD i noTS)) hlt)
          go_wp2
          go_ret
          exact ⟨ret_bool (by rw [HE.out, any_firstAt (p := few2X) (HR.out.trans HS.out)]; rfl), hB0⟩

theorem few2_len {f : FT} (h : few2B f = true) : f.sorts.length ≤ 122 := by
  unfold few2B at h
  rw [Bool.and_eq_true] at h
  have h1 := h.1
  rw [Bool.not_eq_true'] at h1
  have := of_decide_eq_false h1
  omega
/-- A fount as it comes in. -/
structure FIn (w : World) (f : FT) (a : Option Addr) (c : Nat) : Prop where
  at_ : FAt w a f
  cap : f.sorts.length ≤ c
  nil : a = none → c = 0
theorem FIn.below {w w' : World} {f : FT} {a : Option Addr} {c : Nat} (h : FIn w f a c) (hb : Below w.heap.size w w') : FIn w' f a c := ⟨h.at_.below hb, h.cap, h.nil⟩
theorem refFountErr_any (f : FT) (a : Option Addr) (c : Nat) (w : World) (hF : FIn w f a c) :
    Calls Tryz.prog 40 #[.agg #[.string f.name, .int .i64 f.body, .slice a f.sorts.length c]] w fun e w' => e = .returned (.int .i64 (checkF f).2) ∧ Below w.heap.size w w' := by
  have hb0 := (Below.refl w.heap.size w).alloc (Nat.le_refl _) (.cells #[.string f.name, .int .i64 f.body, .slice a f.sorts.length c] 59)
  have HC := Lib.hid (refCheckFount_any f a c _ hF.cap hF.at_.ok (hF.at_.at_.below hb0))
  go_enter Tryz.func40, Tryz.ntmps40
  go_wp2_with fail
  refine HC.out.mono ?_
  rintro e w2 ⟨rfl, hb2⟩
  have hlow := hb0.trans (hb2.mono hb0.size)
  clear HC hb2 hb0
  go_wp2
  go_ret
  exact ⟨rfl, hlow⟩
set_option maxRecDepth 100000 in
set_option maxHeartbeats 1000000 in
theorem wordErrF_any (f : FT) (a : Option Addr) (c : Nat) (r : RU) (s : ByteArray) (w : World) (hF : FIn w f a c) (hR : r.at_ w) (hS : RSmall r) (hs : s.size ≤ maxLen) :
    Calls Tryz.prog 43 #[.agg #[.string f.name, .int .i64 f.body, .slice a f.sorts.length c], .agg r.cells, .string s] w fun e w' => e = .returned (.int .i64 (setErrW f r s)) ∧ Below w.heap.size w w' := by
  have hb0 := ((Below.refl w.heap.size w).alloc (Nat.le_refl _) (.cells #[.string f.name, .int .i64 f.body, .slice a f.sorts.length c] 59)).alloc (by simp) (.cells #[.slice r.ps.a r.ps.l.length r.ps.c, .slice r.es.a r.es.l.length r.es.c, .slice r.bs.a r.bs.l.length r.bs.c, .int .i64 r.left, .int .i64 r.right] 24)
  have n1 := heap_new (w.alloc (.cells #[.string f.name, .int .i64 f.body, .slice a f.sorts.length c] 59)) (.cells #[.slice r.ps.a r.ps.l.length r.ps.c, .slice r.es.a r.es.l.length r.es.c, .slice r.bs.a r.bs.l.length r.bs.c, .int .i64 r.left, .int .i64 r.right] 24)
  rw [World.size_alloc] at n1
  have HFE := Lib.hid (refFountErr_any f a c _ (hF.below hb0))
  have HRE := Lib.hid (fun W (hb : Below w.heap.size w W) => refErr_any r W (hR.below hb) hS.1 hS.2.1 hS.2.2)
  have HIW := Lib.hid (fun W => refIsWord_any s W hs)
  have HE := Lib.hid (show setErrW f r s = if (checkF f).2 ≠ 0 then (checkF f).2 else if (checkR r).2 ≠ 0 then (checkR r).2 else wordErr s by
    unfold setErrW setErr
    by_cases h1 : (checkF f).2 = 0
    · by_cases h2 : (checkR r).2 = 0 <;> simp [h1, h2]
    · simp [h1])
  unfold RU.cells at *
  obtain ⟨E, hE⟩ : ∃ E, E = setErrW f r s := ⟨_, rfl⟩
  rw [← hE] at HE ⊢
  clear hE
  by_cases h1 : (checkF f).2 = 0
  · have hb : ((checkF f).2 != 0) = false := by rw [h1]; try rfl
    by_cases h2 : (checkR r).2 = 0
    · have hbr : ((checkR r).2 != 0) = false := by rw [h2]; try rfl
      have HV := Lib.hid (show E = wordErr s by rw [HE.out, if_neg (fun h => h h1), if_neg (fun h => h h2)])
      clear h1 h2 HE
      go_enter Tryz.func43, Tryz.ntmps43
      go_wp2_with fail
      refine HFE.out.mono ?_
      rintro e w2 ⟨rfl, hb2⟩
      have hlow := hb0.trans (hb2.mono hb0.size)
      have hbx := (hb2.block _ (heap_lt n1)).trans n1
      have d0 := cell_of_row w2 _ 0 _ _ (0, 0) hbx
      have d1 := cell_of_row w2 _ 1 _ _ (0, 0) hbx
      have d2 := cell_of_row w2 _ 2 _ _ (0, 0) hbx
      have d3 := cell_of_row w2 _ 3 _ _ (0, 0) hbx
      have d4 := cell_of_row w2 _ 4 _ _ (0, 0) hbx
      clear hbx hb2 n1 hb0 HFE
      go_wp2_with fail
      refine (HRE.out _ hlow).mono ?_
      rintro e w3 ⟨rfl, hb3⟩
      have hlow3 := hlow.trans (hb3.mono hlow.size)
      clear d0 d1 d2 d3 d4 hb3 HRE hlow
      go_wp2_with fail
      refine (HIW.out _).mono ?_
      rintro e w4 ⟨rfl, rfl⟩
      cases hw : isWordB s
      · have HV2 := Lib.hid (show E = 3 by rw [HV.out]; unfold wordErr; rw [hw]; try rfl)
        clear hw
        go_wp2
        go_ret
        exact ⟨by rw [HV2.out]; try rfl, hlow3⟩
      · have HV2 := Lib.hid (show E = 0 by rw [HV.out]; unfold wordErr; rw [hw]; try rfl)
        clear hw
        go_wp2
        go_ret
        exact ⟨by rw [HV2.out]; try rfl, hlow3⟩
    · have hbr : ((checkR r).2 != 0) = true := by simpa using h2
      have HV := Lib.hid (show E = (checkR r).2 by rw [HE.out, if_neg (fun h => h h1), if_pos h2])
      clear h1 h2 HE
      go_enter Tryz.func43, Tryz.ntmps43
      go_wp2_with fail
      refine HFE.out.mono ?_
      rintro e w2 ⟨rfl, hb2⟩
      have hlow := hb0.trans (hb2.mono hb0.size)
      have hbx := (hb2.block _ (heap_lt n1)).trans n1
      have d0 := cell_of_row w2 _ 0 _ _ (0, 0) hbx
      have d1 := cell_of_row w2 _ 1 _ _ (0, 0) hbx
      have d2 := cell_of_row w2 _ 2 _ _ (0, 0) hbx
      have d3 := cell_of_row w2 _ 3 _ _ (0, 0) hbx
      have d4 := cell_of_row w2 _ 4 _ _ (0, 0) hbx
      clear hbx hb2 n1 hb0 HFE
      go_wp2_with fail
      refine (HRE.out _ hlow).mono ?_
      rintro e w3 ⟨rfl, hb3⟩
      have hlow3 := hlow.trans (hb3.mono hlow.size)
      clear d0 d1 d2 d3 d4 hb3 HRE hlow
      go_wp2
      go_ret
      exact ⟨by rw [HV.out]; try rfl, hlow3⟩
  · have hb : ((checkF f).2 != 0) = true := by simpa using h1
    have HV := Lib.hid (show E = (checkF f).2 by rw [HE.out, if_pos h1])
    clear h1 HE n1
    go_enter Tryz.func43, Tryz.ntmps43
    go_wp2_with fail
    refine HFE.out.mono ?_
    rintro e w2 ⟨rfl, hb2⟩
    have hlow := hb0.trans (hb2.mono hb0.size)
    clear hb2 hb0 HFE
    go_wp2
    go_ret
    exact ⟨by rw [HV.out]; try rfl, hlow⟩
end Go.Proofs.YtpoadjnhmdbdeaaGreatDoor
/-
  FirstMissing: the program's and the reference's.
-/
namespace Go.Proofs.YtpoadjnhmdbdeaaGreatDoor
open Go.RowKit Go.Maps Go.Shelf

def numR (o : Option Nat) : Int × Int := match o with | some i => ((i : Int), 0) | none => (0, 6)
def findR (f : FT) (p : TS → Bool) : Int × Int := if (checkF f).2 ≠ 0 then (0, (checkF f).2) else numR (f.sorts.findIdx? p)

set_option maxRecDepth 100000 in
set_option maxHeartbeats 1000000 in
theorem numberIn_any (b n : Nat) (D : DataW Unit) (l : List TS) (p : ByteArray → TS → Bool) (s : ByteArray) (w : World) (hs : s.size ≤ maxLen) (hown : w.ownsMap Tryz.prog 9 (plainElem Tryz.prog 3) b n D) (hi : IdxOk D l p) :
    Calls Tryz.prog 132 #[.map (some b), .string s] w fun e w' => e = .returned (.tuple #[.int .i64 (numR (l.findIdx? (p s))).1, .int .i64 (numR (l.findIdx? (p s))).2]) ∧ w' = w := by
  have hkey := WideMaps.keyOf_string_mk (P := Tryz.prog) Tryz.underlying9 hs
  cases ho : l.findIdx? (p s) with
  | none =>
    have hh := (hi.2 s).1 ho
    clear hi
    go_enter Tryz.func132, Tryz.ntmps132
    go_wp2_with (at_lookup; refine wpList_lookup_own_ok_int _ rfl _ _ 206 rfl 9 3 .i64 lawS Tryz.underlying206 Tryz.underlying3 (zeroInt _) b _ _ rfl hown _ _ rfl hkey ?_; intro c hat hwc; rw [hh])
    go_ret2
    exact ⟨rfl, rfl⟩
  | some i =>
    obtain ⟨hh, ha⟩ := (hi.2 s).2 i ho
    clear hi
    go_enter Tryz.func132, Tryz.ntmps132
    go_wp2_with (at_lookup; refine wpList_lookup_own_ok_int _ rfl _ _ 206 rfl 9 3 .i64 lawS Tryz.underlying206 Tryz.underlying3 (zeroInt _) b _ _ rfl hown _ _ rfl hkey ?_; intro c hat hwc; rw [hh]; obtain rfl : (i : Int) = c := by have := (ha _).symm.trans hat; injection this with this; injection this)
    go_ret2
    exact ⟨rfl, rfl⟩

set_option maxRecDepth 100000 in
set_option maxHeartbeats 1000000 in
theorem Printing_any (f : FT) (a : Option Addr) (c : Nat) (s : ByteArray) (w : World) (hs : s.size ≤ maxLen) (hF : FAt w a f) :
    Calls Tryz.prog 75 #[.agg #[.string f.name, .int .i64 f.body, .slice a f.sorts.length c], .string s] w fun e w' => e = .returned (.tuple #[.int .i64 (findR f (sameText s)).1, .int .i64 (findR f (sameText s)).2]) ∧ Below w.heap.size w w' := by
  by_cases h0 : (checkF f).2 = 0
  · have HE := Lib.hid (show findR f (sameText s) = numR (f.sorts.findIdx? (sameText s)) by unfold findR; rw [if_neg (by simp [h0])])
    go_enter Tryz.func75, Tryz.ntmps75
    go_wp2_with fail
    refine (learn_any f a c _ hF.ok (by exact hF.at_.alloc _) (by exact hF.tab.alloc _)).mono ?_
    rintro e w1 ⟨b1, b2, rfl, hK, hb⟩
    have hK := hK h0
    rw [h0]
    have hB := ((Below.refl w.heap.size w).alloc (Nat.le_refl _) (.cells #[.string f.name, .int .i64 f.body, .slice a f.sorts.length c] 59)).trans (hb.mono (B' := w.heap.size) (by simp))
    have hz := hB.size
    clear hb h0
    obtain ⟨hne, D1, D2, ho1, ho2, hi1, hz1, hi2, hx0⟩ := hK
    clear hz1 hi1 hx0 ho1
    have hnum := fun o => numberIn_any b2 _ D2 f.sorts sameText s (w1.alloc o) hs (ho2.alloc _) hi2
    have HN := Lib.hid hnum
    clear hnum hi2 ho2
    go_wp2_with fail
    refine (HN.out _).mono ?_
    rintro e w2 ⟨rfl, rfl⟩
    go_wp2
    go_ret2
    exact ⟨by rw [HE.out]; try rfl, hB.alloc hz _⟩
  · have HE := Lib.hid (show findR f (sameText s) = (0, (checkF f).2) by unfold findR; rw [if_pos h0])
    have heb : ((checkF f).2 != 0) = true := by simpa using h0
    clear h0
    go_enter Tryz.func75, Tryz.ntmps75
    go_wp2_with fail
    refine (learn_any f a c _ hF.ok (by exact hF.at_.alloc _) (by exact hF.tab.alloc _)).mono ?_
    rintro e w1 ⟨b1, b2, rfl, _, hb⟩
    have hB := ((Below.refl w.heap.size w).alloc (Nat.le_refl _) (.cells #[.string f.name, .int .i64 f.body, .slice a f.sorts.length c] 59)).trans (hb.mono (B' := w.heap.size) (by simp))
    have hz := hB.size
    clear hb
    go_wp2
    go_ret2
    exact ⟨by rw [HE.out]; try rfl, hB.alloc hz _⟩


/-- No sort prints byte i of a word alone. -/
def missB (f : FT) (s : ByteArray) (i : Nat) : Bool := !(f.sorts.any (sameText (s.extract i (i + 1))))
def missAt (f : FT) (s : ByteArray) : Option Nat := firstAt (missB f s) (s.size - 0) 0
def fmErr (f : FT) (s : ByteArray) : Int := if (checkF f).2 ≠ 0 then (checkF f).2 else wordErr s
def fmR (f : FT) (s : ByteArray) : Int × Int := if fmErr f s ≠ 0 then (0, fmErr f s) else match missAt f s with
  | some i => ((i : Int), 0)
  | none => (0, 12)
theorem findIdx_none {l : List TS} {p : TS → Bool} : (l.findIdx? p = none) ↔ l.any p = false := by
  rw [List.findIdx?_eq_none_iff, List.any_eq_false]
  simp
theorem find_miss {f : FT} {s : ByteArray} {i : Nat} (hf : (checkF f).2 = 0) (h : missB f s i = true) : findR f (sameText (s.extract i (i + 1))) = (0, 6) := by
  unfold findR
  rw [if_neg (fun h => h hf)]
  unfold missB at h
  rw [Bool.not_eq_true'] at h
  rw [findIdx_none.2 h]
  rfl
theorem find_hit {f : FT} {s : ByteArray} {i : Nat} (hf : (checkF f).2 = 0) (h : missB f s i = false) : ∃ n : Int, findR f (sameText (s.extract i (i + 1))) = (n, 0) := by
  unfold findR
  rw [if_neg (fun h => h hf)]
  unfold missB at h
  cases hx : f.sorts.findIdx? (sameText (s.extract i (i + 1))) with
  | none => rw [findIdx_none.1 hx] at h; cases h
  | some q => exact ⟨q, rfl⟩
set_option maxRecDepth 100000 in
set_option maxHeartbeats 2000000 in
theorem firstMissing_any (f : FT) (a : Option Addr) (c : Nat) (s : ByteArray) (w : World) (hF : FIn w f a c) (hs : s.size ≤ 1000) :
    Calls Tryz.prog 37 #[.agg #[.string f.name, .int .i64 f.body, .slice a f.sorts.length c], .string s] w fun e w' => e = .returned (.tuple #[.int .i64 (fmR f s).1, .int .i64 (fmR f s).2]) ∧ Below w.heap.size w w' := by
  have hb0 := (Below.refl w.heap.size w).alloc (Nat.le_refl _) (.cells #[.string f.name, .int .i64 f.body, .slice a f.sorts.length c] 59)
  have hK0 : SetKnow w f a c (w.alloc (.cells #[.string f.name, .int .i64 f.body, .slice a f.sorts.length c] 59)) := ⟨heap_new _ _, hb0⟩
  have HF := Lib.hid hF
  have HC := Lib.hid (fun W (h : Below w.heap.size w W) => checkFount_any f a c W (hF.below h).at_.ok (hF.below h).at_.at_ (hF.below h).at_.tab)
  have HW := Lib.hid (fun W => errorOfWord_any s W (by unfold maxLen; omega))
  obtain ⟨R, hR⟩ : ∃ R, R = fmR f s := ⟨_, rfl⟩
  have HR := Lib.hid (show R = if fmErr f s ≠ 0 then (0, fmErr f s) else match missAt f s with | some i => ((i : Int), 0) | none => (0, 12) from hR)
  rw [← hR]
  clear hR hF
  by_cases h1 : (checkF f).2 = 0
  · have hb : ((checkF f).2 != 0) = false := by rw [h1]; try rfl
    have HF1 := Lib.hid h1
    by_cases h2 : wordErr s = 0
    · have hbr : (wordErr s != 0) = false := by rw [h2]; try rfl
      have HM := Lib.hid (show R = match firstAt (missB f s) (s.size - 0) 0 with | some i => ((i : Int), 0) | none => (0, 12) by
        rw [HR.out, if_neg (by unfold fmErr; rw [if_neg (fun h => h h1)]; exact fun h => h h2)]
        rfl)
      clear h1 h2 HR
      go_enter Tryz.func37, Tryz.ntmps37
      go_wp2_with fail
      refine (HC.out _ hb0).mono ?_
      rintro e w2 ⟨rfl, hb2⟩
      have hK2 := hK0.below hb2
      clear hK0 hb0 hb2 HC
      go_wp2_with fail
      refine (HW.out _).mono ?_
      rintro e w3 ⟨rfl, rfl⟩
      go_wp2_with fail
      go_loopw [27] (fun v27 wr => ∃ k : Nat, k ≤ s.size ∧ v27 = .int .i64 k ∧ Hid (firstAt (missB f s) (s.size - 0) 0 = firstAt (missB f s) (s.size - k) k) ∧ SetKnow w f a c wr) (fun v27 _ => s.size - (intOf v27).toNat)
      case atStart => exact ⟨0, Nat.zero_le _, rfl, Lib.hid rfl, hK2⟩
      case round =>
        obtain ⟨k, hk, rfl, HS, hK⟩ := hrel
        clear hK2
        by_cases hlt : k < s.size
        · have hkl : (k : Int) < (s.size : Int) := by omega
          have hk1 : (k : Int) + 1 ≤ (s.size : Int) := by omega
          have hk0 : (0 : Int) ≤ (k : Int) := by omega
          have hsum : IntKind.i64.wrap ((k : Int) + 1) = (k : Int) + 1 := IntWalk.i64_in _ (by omega)
          have hsumN : ((k : Int) + 1).toNat = k + 1 := by omega
          have hka : (0 : Int) ≤ (k : Int) + 1 := by omega
          have hkb : (k : Int) ≤ (k : Int) + 1 := by omega
          have hkc : (k : Int) ≤ (s.size : Int) := by omega
          obtain ⟨c0, c1, c2⟩ := hK.c
          have hlt0 := heap_lt hK.box
          have HPR := Lib.hid (fun W (hb : Below wr.heap.size wr W) => Printing_any f a c (s.extract k (k + 1)) W (by rw [ByteArray.size_extract]; unfold maxLen; omega) (((HF.out.below hK.low).below hb).at_))
          cases hm : missB f s k
          · have HT := Lib.hid (firstAt_go hlt hm)
            obtain ⟨n, hn⟩ := find_hit HF1.out hm
            rw [hn] at HPR
            clear hm hn
            go_wp2_with fail
            go_region_held3 (fun w' => w'.cell? ⟨w.heap.size, 0, none⟩ = some (.string f.name) ∧ w'.cell? ⟨w.heap.size, 1, none⟩ = some (.int .i64 f.body) ∧ w'.cell? ⟨w.heap.size, 2, none⟩ = some (.slice a f.sorts.length c)) (go_keep)
              (first | (go_at_call 75; refine (HPR.out _ (by first | exact Below.refl _ _ | exact (Below.refl _ _).drew)).mono ?_; rintro e w4 ⟨rfl, hb4d⟩; have hb4 : Below wr.heap.size wr w4 := (Below.refl _ _).drew.trans hb4d; have k0 := (hb4.cell (p := ⟨w.heap.size, 0, none⟩) hlt0).trans c0; have k1 := (hb4.cell (p := ⟨w.heap.size, 1, none⟩) hlt0).trans c1; have k2 := (hb4.cell (p := ⟨w.heap.size, 2, none⟩) hlt0).trans c2))
            go_wp2
            go_roundw
            case rel => exact ⟨k + 1, by omega, by go_num, Lib.hid (HS.out.trans HT.out), hK.below hb4⟩
            case measure => simp [intOf]; omega
          · have HT := Lib.hid (firstAt_stop hlt hm)
            have hn := find_miss HF1.out hm
            rw [hn] at HPR
            have HV := Lib.hid (show R = ((k : Int), 0) by rw [HM.out, HS.out, HT.out])
            clear hm hn
            go_wp2_with fail
            go_region_held3 (fun w' => w'.cell? ⟨w.heap.size, 0, none⟩ = some (.string f.name) ∧ w'.cell? ⟨w.heap.size, 1, none⟩ = some (.int .i64 f.body) ∧ w'.cell? ⟨w.heap.size, 2, none⟩ = some (.slice a f.sorts.length c)) (go_keep)
              (first | (go_at_call 75; refine (HPR.out _ (by first | exact Below.refl _ _ | exact (Below.refl _ _).drew)).mono ?_; rintro e w4 ⟨rfl, hb4d⟩; have hb4 : Below wr.heap.size wr w4 := (Below.refl _ _).drew.trans hb4d; have k0 := (hb4.cell (p := ⟨w.heap.size, 0, none⟩) hlt0).trans c0; have k1 := (hb4.cell (p := ⟨w.heap.size, 1, none⟩) hlt0).trans c1; have k2 := (hb4.cell (p := ⟨w.heap.size, 2, none⟩) hlt0).trans c2))
            go_wp2
            go_ret2
            exact ⟨by rw [HV.out]; try rfl, (hK.below hb4).low⟩
        · have HT := Lib.hid (firstAt_end (q := missB f s) hlt)
          have HV := Lib.hid (show R = (0, 12) by rw [HM.out, HS.out, HT.out])
          have hkl : ¬ (k : Int) < (s.size : Int) := by omega
          have hlow := hK.low
          clear hK
          go_wp2
          go_ret2
          exact ⟨by rw [HV.out]; try rfl, hlow⟩
    · have hbr : (wordErr s != 0) = true := by simpa using h2
      have HV := Lib.hid (show R = (0, wordErr s) by
        have e : fmErr f s = wordErr s := by unfold fmErr; rw [if_neg (fun h => h h1)]
        rw [HR.out, e, if_pos h2])
      clear h1 h2 HR
      go_enter Tryz.func37, Tryz.ntmps37
      go_wp2_with fail
      refine (HC.out _ hb0).mono ?_
      rintro e w2 ⟨rfl, hb2⟩
      have hK2 := hK0.below hb2
      clear hK0 hb0 hb2 HC
      go_wp2_with fail
      refine (HW.out _).mono ?_
      rintro e w3 ⟨rfl, rfl⟩
      have hlow := hK2.low
      clear hK2
      go_wp2
      go_ret2
      exact ⟨by rw [HV.out]; try rfl, hlow⟩
  · have hb : ((checkF f).2 != 0) = true := by simpa using h1
    have HV := Lib.hid (show R = (0, (checkF f).2) by
      have e : fmErr f s = (checkF f).2 := by unfold fmErr; rw [if_pos h1]
      rw [HR.out, e, if_pos h1])
    clear h1 HR
    go_enter Tryz.func37, Tryz.ntmps37
    go_wp2_with fail
    refine (HC.out _ hb0).mono ?_
    rintro e w2 ⟨rfl, hb2⟩
    have hlow := (hK0.below hb2).low
    clear hK0 hb0 hb2 HC
    go_wp2
    go_ret2
    exact ⟨by rw [HV.out]; try rfl, hlow⟩
end Go.Proofs.YtpoadjnhmdbdeaaGreatDoor

/-
  FirstMissing: the reference's walk.
-/
namespace Go.Proofs.YtpoadjnhmdbdeaaGreatDoor
open Go.RowKit Go.Maps Go.Shelf

/-- A letter that prints byte i of a word. -/
def letterX (t : ByteArray) (x : TS) : Bool := (x.kind == 1) && (x.text.toList == t.toList)
theorem kind_one {f : FT} (h : (checkF f).2 = 0) {k : Nat} (hk : k < f.sorts.length) (_h3 : (f.sorts.getD k noTS).kind ≠ 3) (h1 : (f.sorts.getD k noTS).text.size = 1) : (f.sorts.getD k noTS).kind = 1 := by
  obtain ⟨_, _, ha⟩ := checkF_right h
  obtain ⟨_, _, hk3, _, h5⟩ := sortErr_zero (ha k hk)
  unfold textErr at h5
  split at h5
  · cases h5
  rename_i h6
  have h6 : inB (f.sorts.getD k noTS).text.size (leastOf (f.sorts.getD k noTS).kind) (mostOf (f.sorts.getD k noTS).kind) = true := by simpa using h6
  have h7 := (of_decide_eq_true (show decide _ = true from h6))
  have h8 := of_decide_eq_true (show decide _ = true from hk3)
  unfold leastOf mostOf at h7
  split at h7
  · assumption
  · split at h7
    · omega
    · omega
theorem letter_same {f : FT} {t : ByteArray} (h : (checkF f).2 = 0) (ht : t.size = 1) : f.sorts.any (letterX t) = f.sorts.any (sameText t) := by
  rw [Bool.eq_iff_iff, List.any_eq_true, List.any_eq_true]
  constructor
  · rintro ⟨x, hx, hq⟩
    refine ⟨x, hx, ?_⟩
    unfold letterX at hq
    unfold sameText
    rw [Bool.and_eq_true] at hq ⊢
    refine ⟨?_, hq.2⟩
    have := hq.1
    rw [beq_iff_eq] at this
    rw [this]; try rfl
  · rintro ⟨x, hx, hq⟩
    refine ⟨x, hx, ?_⟩
    obtain ⟨k, hk, rfl⟩ := List.getElem_of_mem hx
    have e : f.sorts.getD k noTS = f.sorts[k] := getD_eq hk
    unfold sameText at hq
    rw [Bool.and_eq_true] at hq
    unfold letterX
    rw [Bool.and_eq_true]
    refine ⟨?_, hq.2⟩
    have h2 := toList_inj (by simpa using hq.2 : f.sorts[k].text.toList = t.toList)
    have h3 : f.sorts[k].kind ≠ 3 := by simpa using hq.1
    have := kind_one h hk (by rw [e]; exact h3) (by rw [e, h2]; exact ht)
    rw [e] at this
    rw [this]; try rfl
theorem any_take_succ {l : List TS} {q : TS → Bool} {k : Nat} (h : k < l.length) : (l.take (k + 1)).any q = ((l.take k).any q || q (l.getD k noTS)) := by
  rw [List.take_succ_eq_append_getElem h, List.any_append, getD_eq h]
  simp
set_option maxRecDepth 100000 in
set_option maxHeartbeats 2000000 in
theorem refFirstMissing_any (f : FT) (a : Option Addr) (c : Nat) (s : ByteArray) (w : World) (hF : FIn w f a c) (hf : (checkF f).2 = 0) (hs : s.size ≤ 1000) :
    Calls Tryz.prog 42 #[.agg #[.string f.name, .int .i64 f.body, .slice a f.sorts.length c], .string s] w fun e w' => e = .returned (.int .i64 (match missAt f s with | some i => (i : Int) | none => -1)) ∧ Below w.heap.size w w' := by
  have hb0 := (Below.refl w.heap.size w).alloc (Nat.le_refl _) (.cells #[.string f.name, .int .i64 f.body, .slice a f.sorts.length c] 59)
  have hK0 : SetKnow w f a c (w.alloc (.cells #[.string f.name, .int .i64 f.body, .slice a f.sorts.length c] 59)) := ⟨heap_new _ _, hb0⟩
  have hFS := hF.at_.at_
  have HFS := Lib.hid hFS
  have hns : f.sorts.length ≤ 120 := frame_ok hf
  have HTB := Lib.hid (fun k (hk : k < f.sorts.length) => text_bd hf hk)
  have HLS := Lib.hid (fun t (ht : t.size = 1) => letter_same (t := t) hf ht)
  obtain ⟨R, hR⟩ : ∃ R : Int, R = (match missAt f s with | some i => (i : Int) | none => -1) := ⟨_, rfl⟩
  have HM := Lib.hid (show R = match firstAt (missB f s) (s.size - 0) 0 with | some i => (i : Int) | none => -1 from hR)
  rw [← hR]
  clear hR hF hf hFS
  go_enter Tryz.func42, Tryz.ntmps42
  go_wp2_with fail
  go_loopw [5] (fun v5 wr => ∃ k : Nat, k ≤ s.size ∧ v5 = .int .i64 k ∧ Hid (firstAt (missB f s) (s.size - 0) 0 = firstAt (missB f s) (s.size - k) k) ∧ SetKnow w f a c wr) (fun v5 _ => s.size - (intOf v5).toNat)
  case atStart => exact ⟨0, Nat.zero_le _, rfl, Lib.hid rfl, hK0⟩
  case round =>
    obtain ⟨k, hk, rfl, HS, hK⟩ := hrel
    clear hK0 hb0
    by_cases hlt : k < s.size
    · have hkl : (k : Int) < (s.size : Int) := by omega
      have hk1 : (k : Int) + 1 ≤ (s.size : Int) := by omega
      have hk0 : (0 : Int) ≤ (k : Int) := by omega
      have hsum : IntKind.i64.wrap ((k : Int) + 1) = (k : Int) + 1 := IntWalk.i64_in _ (by omega)
      have hsumN : ((k : Int) + 1).toNat = k + 1 := by omega
      have hka : (0 : Int) ≤ (k : Int) + 1 := by omega
      have hkb : (k : Int) ≤ (k : Int) + 1 := by omega
      have hkc : (k : Int) ≤ (s.size : Int) := by omega
      have hts : (s.extract k (k + 1)).size = 1 := by rw [ByteArray.size_extract]; omega
      obtain ⟨t, ht⟩ : ∃ t, t = s.extract k (k + 1) := ⟨_, rfl⟩
      have HMB := Lib.hid (show missB f s k = !(f.sorts.any (letterX t)) by unfold missB; rw [ht, HLS.out _ hts])
      have HT := Lib.hid ht
      clear ht hts
      obtain ⟨wo, hwo⟩ : ∃ wo : World, wo = wr := ⟨_, rfl⟩
      rw [← hwo] at hK ⊢
      clear hwo
      go_wp2_with fail
      go_loopw [6, 7] (fun v6 v7 wi => ∃ i : Nat, i ≤ f.sorts.length ∧ v7 = .int .i64 i ∧ v6 = .bool ((f.sorts.take i).any (letterX t)) ∧ SetKnow w f a c wi) (fun _ v7 _ => f.sorts.length - (intOf v7).toNat)
      case atStart => exact ⟨0, Nat.zero_le _, rfl, rfl, hK⟩
      case round =>
        obtain ⟨i, hi, rfl, rfl, hKi⟩ := hrel
        clear hK
        obtain ⟨c0, c1, c2⟩ := hKi.c
        by_cases hil : i < f.sorts.length
        · have hil' : (i : Int) < (f.sorts.length : Int) := by omega
          have hi0 : (0 : Int) ≤ (i : Int) := by omega
          have HST := Lib.hid (any_take_succ (q := letterX t) hil)
          cases hfd : (f.sorts.take i).any (letterX t)
          · rw [hfd] at HST
            obtain ⟨ad, rfl, had, hsi⟩ := (HFS.out.below hKi.low).at_ hil
            have t1 := hsi.2.1
            have t2 := hsi.2.2.1
            have hxb := HTB.out i hil
            have HLX := Lib.hid (show letterX t (f.sorts.getD i noTS) = (((f.sorts.getD i noTS).kind == 1) && ((f.sorts.getD i noTS).text.toList == t.toList)) from rfl)
            generalize (f.sorts.getD i noTS).text = xi at t1 hxb HLX
            generalize (f.sorts.getD i noTS).kind = kd at t2 HLX
            clear hsi hfd
            cases hk1 : (kd == 1)
            · rw [hk1] at HLX
              have HN := Lib.hid (show (f.sorts.take (i + 1)).any (letterX t) = false by rw [HST.out, HLX.out]; try rfl)
              go_wp2_with fail
              go_quiet (fail)
              go_wp2
              go_roundw
              case rel => exact ⟨i + 1, by omega, by go_num, by rw [HN.out], ⟨hKi.box, below_drewN hKi.low nq⟩⟩
              case measure => simp [intOf]; omega
            · rw [hk1] at HLX
              cases hq : (xi.toList == t.toList)
              · rw [hq] at HLX
                have hq2 : (xi.toList == (s.extract k (k + 1)).toList) = false := by rw [← HT.out]; exact hq
                have HN := Lib.hid (show (f.sorts.take (i + 1)).any (letterX t) = false by rw [HST.out, HLX.out]; try rfl)
                clear hq
                go_wp2_with fail
                go_quiet (fail)
                go_wp2
                go_roundw
                case rel => exact ⟨i + 1, by omega, by go_num, by rw [HN.out], ⟨hKi.box, below_drewN hKi.low nq⟩⟩
                case measure => simp [intOf]; omega
              · rw [hq] at HLX
                have hq2 : (xi.toList == (s.extract k (k + 1)).toList) = true := by rw [← HT.out]; exact hq
                have HN := Lib.hid (show (f.sorts.take (i + 1)).any (letterX t) = true by rw [HST.out, HLX.out]; try rfl)
                clear hq
                go_wp2_with fail
                go_quiet (fail)
                go_wp2
                go_roundw
                case rel => exact ⟨i + 1, by omega, by go_num, by rw [HN.out], ⟨hKi.box, below_drewN hKi.low nq⟩⟩
                case measure => simp [intOf]; omega
          · have HN := Lib.hid (show (f.sorts.take (i + 1)).any (letterX t) = true by rw [HST.out, hfd]; try rfl)
            clear hfd
            go_wp2_with fail
            go_quiet (fail)
            go_wp2
            go_roundw
            case rel => exact ⟨i + 1, by omega, by go_num, by rw [HN.out], ⟨hKi.box, below_drewN hKi.low nq⟩⟩
            case measure => simp [intOf]; omega
        · obtain rfl : i = f.sorts.length := by omega
          have hil' : ¬ (f.sorts.length : Int) < (f.sorts.length : Int) := by omega
          rw [List.take_length]
          cases hfd : f.sorts.any (letterX t)
          · have hm : missB f s k = true := by rw [HMB.out, hfd]; try rfl
            have HTN := Lib.hid (firstAt_stop hlt hm)
            have HV := Lib.hid (show R = (k : Int) by rw [HM.out, HS.out, HTN.out])
            have hlow := hKi.low
            clear hm hfd hKi
            go_wp2
            go_ret
            exact ⟨by rw [HV.out]; try rfl, hlow⟩
          · have hm : missB f s k = false := by rw [HMB.out, hfd]; try rfl
            have HTN := Lib.hid (firstAt_go hlt hm)
            clear hm hfd
            go_wp2
            go_roundw
            case rel => exact ⟨k + 1, by omega, by go_num, Lib.hid (HS.out.trans HTN.out), hKi⟩
            case measure => simp [intOf]; omega
    · have HTN := Lib.hid (firstAt_end (q := missB f s) hlt)
      have HV := Lib.hid (show R = -1 by rw [HM.out, HS.out, HTN.out])
      have hkl : ¬ (k : Int) < (s.size : Int) := by omega
      have hlow := hK.low
      clear hK
      go_wp2
      go_ret
      exact ⟨by rw [HV.out]; try rfl, hlow⟩
end Go.Proofs.YtpoadjnhmdbdeaaGreatDoor
