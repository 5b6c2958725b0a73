/-
  law02's Few and WordErr; the reference's FountErr.
-/
import Derived.Test.YtlkkociijfdcgaaGreatDoorPN
import Derived.Test.YtlkkociijfdcgaaGreatDoorPL
import Derived.Test.YtlkkociijfdcgaaGreatDoorYN
import Derived.Test.YtlkkociijfdcgaaGreatDoorW5
namespace Go.Proofs.YtlkkociijfdcgaaGreatDoor
open Go.RowKit Go.Maps Go.Shelf

/-- At most 20 sorts, or too many, with short names and texts. -/
def few2X (x : TS) : Bool := decide (30 < x.name.size ∨ 10 < x.text.size)
def few2B (f : FT) : Bool := !(decide (30 < f.name.size ∨ (20 < f.sorts.length ∧ f.sorts.length ≤ 120) ∨ 122 < f.sorts.length)) && !(f.sorts.any few2X)
set_option maxRecDepth 100000 in
set_option maxHeartbeats 1000000 in
theorem few2_any (f : FT) (a : Option Addr) (c : Nat) (w : World) (hO : OkF f) (hF : SortsAt w a f.sorts) :
    Calls Tryz.prog 36 #[.agg #[.string f.name, .int .i64 f.body, .slice a f.sorts.length c]] w fun e w' => e = .returned (.bool (few2B f)) ∧ Below w.heap.size w w' := by
  have hO1 := hO.1
  have hO2 := hO.2.1
  unfold maxLen at hO1 hO2
  have hB0 := (Below.refl w.heap.size w).alloc (Nat.le_refl _) (.cells #[.string f.name, .int .i64 f.body, .slice a f.sorts.length c] 59)
  by_cases h1 : 30 < f.name.size ∨ (20 < f.sorts.length ∧ f.sorts.length ≤ 120) ∨ 122 < f.sorts.length
  · have HE := Lib.hid (show few2B f = false by unfold few2B; rw [decide_eq_true h1]; try rfl)
    go_enter Tryz.func36, Tryz.ntmps36
    go_wp2
    all_goals first | (exfalso; omega) | (exfalso; (simp at *) <;> omega) | skip
    all_goals go_ret
    all_goals exact ⟨ret_bool HE.out.symm, hB0⟩
  · have HE := Lib.hid (show few2B f = !(f.sorts.any few2X) by unfold few2B; rw [decide_eq_false h1]; try rfl)
    have hF1 := hF.alloc (.cells #[.string f.name, .int .i64 f.body, .slice a f.sorts.length c] 59)
    have g1 : f.name.size ≤ 30 := by omega
    have g2 : f.sorts.length ≤ 20 ∨ 120 < f.sorts.length := by omega
    have g3 : f.sorts.length ≤ 122 := by omega
    clear h1
    rcases g2 with g2 | g2
    all_goals
      go_enter Tryz.func36, Tryz.ntmps36
      go_wp2
      go_loop [3] (fun i => ∃ k : Nat, k ≤ f.sorts.length ∧ i = .int .i64 k ∧ Hid (firstAt (fun i => few2X (f.sorts.getD i noTS)) (f.sorts.length - 0) 0 = firstAt (fun i => few2X (f.sorts.getD i noTS)) (f.sorts.length - k) k)) (fun i => f.sorts.length - (intOf i).toNat)
      case atStart => exact ⟨0, Nat.zero_le _, rfl, Lib.hid rfl⟩
      case round =>
        obtain ⟨k, hk, rfl, HR⟩ := hrel
        by_cases hlt : k < f.sorts.length
        · obtain ⟨ad, rfl, had, s0, s1, s2, s3⟩ := hF1.at_ hlt
          have hx := hO.at_ hlt
          obtain ⟨x, ex⟩ : ∃ x, x = f.sorts.getD k noTS := ⟨_, rfl⟩
          rw [← ex] at s0 s1 s2 s3 hx
          have EX := Lib.hid ex; clear ex s2 s3
          obtain ⟨hx1, hx2⟩ := hx
          unfold maxLen at hx1 hx2
          by_cases hq : 30 < x.name.size ∨ 10 < x.text.size
          · have HS := Lib.hid (firstAt_stop (q := fun i => few2X (f.sorts.getD i noTS)) hlt (by show few2X _ = true; rw [← EX.out]; exact decide_eq_true hq))
            go_wp2
            all_goals first | (exfalso; omega) | (exfalso; (simp at *) <;> omega) | skip
            all_goals go_ret
            all_goals exact ⟨ret_bool (by rw [HE.out, any_firstAt (p := few2X) (HR.out.trans HS.out)]; rfl), hB0⟩
          · have HS := Lib.hid (firstAt_go (q := fun i => few2X (f.sorts.getD i noTS)) hlt (by show few2X _ = false; rw [← EX.out]; exact decide_eq_false hq))
            have q1 : x.name.size ≤ 30 := by omega
            have q2 : x.text.size ≤ 10 := by omega
            clear hq
            go_wp2
            go_round
            case rel => exact ⟨k + 1, by omega, by go_num, Lib.hid (HR.out.trans HS.out)⟩
            case measure => simp [intOf]; omega
        · have HS := Lib.hid (firstAt_end (q := fun i => few2X (f.sorts.getD i noTS)) hlt)
          go_wp2
          go_ret
          exact ⟨ret_bool (by rw [HE.out, any_firstAt (p := few2X) (HR.out.trans HS.out)]; rfl), hB0⟩

theorem few2_len {f : FT} (h : few2B f = true) : f.sorts.length ≤ 122 := by
  unfold few2B at h
  rw [Bool.and_eq_true] at h
  have h1 := h.1
  rw [Bool.not_eq_true'] at h1
  have := of_decide_eq_false h1
  omega
/-- A fount as it comes in. -/
structure FIn (w : World) (f : FT) (a : Option Addr) (c : Nat) : Prop where
  at_ : FAt w a f
  cap : f.sorts.length ≤ c
  nil : a = none → c = 0
theorem FIn.below {w w' : World} {f : FT} {a : Option Addr} {c : Nat} (h : FIn w f a c) (hb : Below w.heap.size w w') : FIn w' f a c := ⟨h.at_.below hb, h.cap, h.nil⟩
theorem refFountErr_any (f : FT) (a : Option Addr) (c : Nat) (w : World) (hF : FIn w f a c) :
    Calls Tryz.prog 40 #[.agg #[.string f.name, .int .i64 f.body, .slice a f.sorts.length c]] w fun e w' => e = .returned (.int .i64 (checkF f).2) ∧ Below w.heap.size w w' := by
  have hb0 := (Below.refl w.heap.size w).alloc (Nat.le_refl _) (.cells #[.string f.name, .int .i64 f.body, .slice a f.sorts.length c] 59)
  have HC := Lib.hid (refCheckFount_any f a c _ hF.cap hF.at_.ok (hF.at_.at_.below hb0))
  go_enter Tryz.func40, Tryz.ntmps40
  go_wp2_with fail
  refine HC.out.mono ?_
  rintro e w2 ⟨rfl, hb2⟩
  have hlow := hb0.trans (hb2.mono hb0.size)
  clear HC hb2 hb0
  go_wp2
  go_ret
  exact ⟨rfl, hlow⟩
set_option maxRecDepth 100000 in
set_option maxHeartbeats 1000000 in
theorem wordErrF_any (f : FT) (a : Option Addr) (c : Nat) (r : RU) (s : ByteArray) (w : World) (hF : FIn w f a c) (hR : r.at_ w) (hS : RSmall r) (hs : s.size ≤ maxLen) :
    Calls Tryz.prog 43 #[.agg #[.string f.name, .int .i64 f.body, .slice a f.sorts.length c], .agg r.cells, .string s] w fun e w' => e = .returned (.int .i64 (setErrW f r s)) ∧ Below w.heap.size w w' := by
  have hb0 := ((Below.refl w.heap.size w).alloc (Nat.le_refl _) (.cells #[.string f.name, .int .i64 f.body, .slice a f.sorts.length c] 59)).alloc (by simp) (.cells #[.slice r.ps.a r.ps.l.length r.ps.c, .slice r.es.a r.es.l.length r.es.c, .slice r.bs.a r.bs.l.length r.bs.c, .int .i64 r.left, .int .i64 r.right] 24)
  have n1 := heap_new (w.alloc (.cells #[.string f.name, .int .i64 f.body, .slice a f.sorts.length c] 59)) (.cells #[.slice r.ps.a r.ps.l.length r.ps.c, .slice r.es.a r.es.l.length r.es.c, .slice r.bs.a r.bs.l.length r.bs.c, .int .i64 r.left, .int .i64 r.right] 24)
  rw [World.size_alloc] at n1
  have HFE := Lib.hid (refFountErr_any f a c _ (hF.below hb0))
  have HRE := Lib.hid (fun W (hb : Below w.heap.size w W) => refErr_any r W (hR.below hb) hS.1 hS.2.1 hS.2.2)
  have HIW := Lib.hid (fun W => refIsWord_any s W hs)
  have HE := Lib.hid (show setErrW f r s = if (checkF f).2 ≠ 0 then (checkF f).2 else if (checkR r).2 ≠ 0 then (checkR r).2 else wordErr s by
    unfold setErrW setErr
    by_cases h1 : (checkF f).2 = 0
    · by_cases h2 : (checkR r).2 = 0 <;> simp [h1, h2]
    · simp [h1])
  unfold RU.cells at *
  obtain ⟨E, hE⟩ : ∃ E, E = setErrW f r s := ⟨_, rfl⟩
  rw [← hE] at HE ⊢
  clear hE
  by_cases h1 : (checkF f).2 = 0
  · have hb : ((checkF f).2 != 0) = false := by rw [h1]; try rfl
    by_cases h2 : (checkR r).2 = 0
    · have hbr : ((checkR r).2 != 0) = false := by rw [h2]; try rfl
      have HV := Lib.hid (show E = wordErr s by rw [HE.out, if_neg (fun h => h h1), if_neg (fun h => h h2)])
      clear h1 h2 HE
      go_enter Tryz.func43, Tryz.ntmps43
      go_wp2_with fail
      refine HFE.out.mono ?_
      rintro e w2 ⟨rfl, hb2⟩
      have hlow := hb0.trans (hb2.mono hb0.size)
      have hbx := (hb2.block _ (heap_lt n1)).trans n1
      have d0 := cell_of_row w2 _ 0 _ _ (0, 0) hbx
      have d1 := cell_of_row w2 _ 1 _ _ (0, 0) hbx
      have d2 := cell_of_row w2 _ 2 _ _ (0, 0) hbx
      have d3 := cell_of_row w2 _ 3 _ _ (0, 0) hbx
      have d4 := cell_of_row w2 _ 4 _ _ (0, 0) hbx
      clear hbx hb2 n1 hb0 HFE
      go_wp2_with fail
      refine (HRE.out _ hlow).mono ?_
      rintro e w3 ⟨rfl, hb3⟩
      have hlow3 := hlow.trans (hb3.mono hlow.size)
      clear d0 d1 d2 d3 d4 hb3 HRE hlow
      go_wp2_with fail
      refine (HIW.out _).mono ?_
      rintro e w4 ⟨rfl, rfl⟩
      cases hw : isWordB s
      · have HV2 := Lib.hid (show E = 3 by rw [HV.out]; unfold wordErr; rw [hw]; try rfl)
        clear hw
        go_wp2
        go_ret
        exact ⟨by rw [HV2.out]; try rfl, hlow3⟩
      · have HV2 := Lib.hid (show E = 0 by rw [HV.out]; unfold wordErr; rw [hw]; try rfl)
        clear hw
        go_wp2
        go_ret
        exact ⟨by rw [HV2.out]; try rfl, hlow3⟩
    · have hbr : ((checkR r).2 != 0) = true := by simpa using h2
      have HV := Lib.hid (show E = (checkR r).2 by rw [HE.out, if_neg (fun h => h h1), if_pos h2])
      clear h1 h2 HE
      go_enter Tryz.func43, Tryz.ntmps43
      go_wp2_with fail
      refine HFE.out.mono ?_
      rintro e w2 ⟨rfl, hb2⟩
      have hlow := hb0.trans (hb2.mono hb0.size)
      have hbx := (hb2.block _ (heap_lt n1)).trans n1
      have d0 := cell_of_row w2 _ 0 _ _ (0, 0) hbx
      have d1 := cell_of_row w2 _ 1 _ _ (0, 0) hbx
      have d2 := cell_of_row w2 _ 2 _ _ (0, 0) hbx
      have d3 := cell_of_row w2 _ 3 _ _ (0, 0) hbx
      have d4 := cell_of_row w2 _ 4 _ _ (0, 0) hbx
      clear hbx hb2 n1 hb0 HFE
      go_wp2_with fail
      refine (HRE.out _ hlow).mono ?_
      rintro e w3 ⟨rfl, hb3⟩
      have hlow3 := hlow.trans (hb3.mono hlow.size)
      clear d0 d1 d2 d3 d4 hb3 HRE hlow
      go_wp2
      go_ret
      exact ⟨by rw [HV.out]; try rfl, hlow3⟩
  · have hb : ((checkF f).2 != 0) = true := by simpa using h1
    have HV := Lib.hid (show E = (checkF f).2 by rw [HE.out, if_pos h1])
    clear h1 HE n1
    go_enter Tryz.func43, Tryz.ntmps43
    go_wp2_with fail
    refine HFE.out.mono ?_
    rintro e w2 ⟨rfl, hb2⟩
    have hlow := hb0.trans (hb2.mono hb0.size)
    clear hb2 hb0 HFE
    go_wp2
    go_ret
    exact ⟨by rw [HV.out]; try rfl, hlow⟩
end Go.Proofs.YtlkkociijfdcgaaGreatDoor
/-
  FirstMissing: the program's and the reference's.
-/
namespace Go.Proofs.YtlkkociijfdcgaaGreatDoor
open Go.RowKit Go.Maps Go.Shelf

def numR (o : Option Nat) : Int × Int := match o with | some i => ((i : Int), 0) | none => (0, 6)
def findR (f : FT) (p : TS → Bool) : Int × Int := if (checkF f).2 ≠ 0 then (0, (checkF f).2) else numR (f.sorts.findIdx? p)

set_option maxRecDepth 100000 in
set_option maxHeartbeats 1000000 in
theorem numberIn_any (b n : Nat) (D : DataW Unit) (l : List TS) (p : ByteArray → TS → Bool) (s : ByteArray) (w : World) (hs : s.size ≤ maxLen) (hown : w.ownsMap Tryz.prog 9 (plainElem Tryz.prog 3) b n D) (hi : IdxOk D l p) :
    Calls Tryz.prog 132 #[.map (some b), .string s] w fun e w' => e = .returned (.tuple #[.int .i64 (numR (l.findIdx? (p s))).1, .int .i64 (numR (l.findIdx? (p s))).2]) ∧ w' = w := by
  have hkey := WideMaps.keyOf_string_mk (P := Tryz.prog) Tryz.underlying9 hs
  cases ho : l.findIdx? (p s) with
  | none =>
    have hh := (hi.2 s).1 ho
    clear hi
    go_enter Tryz.func132, Tryz.ntmps132
    go_wp2_with (at_lookup; refine wpList_lookup_own_ok_int _ rfl _ _ 206 rfl 9 3 .i64 lawS Tryz.underlying206 Tryz.underlying3 (zeroInt _) b _ _ rfl hown _ _ rfl hkey ?_; intro c hat hwc; rw [hh])
    go_ret2
    exact ⟨rfl, rfl⟩
  | some i =>
    obtain ⟨hh, ha⟩ := (hi.2 s).2 i ho
    clear hi
    go_enter Tryz.func132, Tryz.ntmps132
    go_wp2_with (at_lookup; refine wpList_lookup_own_ok_int _ rfl _ _ 206 rfl 9 3 .i64 lawS Tryz.underlying206 Tryz.underlying3 (zeroInt _) b _ _ rfl hown _ _ rfl hkey ?_; intro c hat hwc; rw [hh]; obtain rfl : (i : Int) = c := by have := (ha _).symm.trans hat; injection this with this; injection this)
    go_ret2
    exact ⟨rfl, rfl⟩

set_option maxRecDepth 100000 in
set_option maxHeartbeats 1000000 in
theorem Printing_any (f : FT) (a : Option Addr) (c : Nat) (s : ByteArray) (w : World) (hs : s.size ≤ maxLen) (hF : FAt w a f) :
    Calls Tryz.prog 75 #[.agg #[.string f.name, .int .i64 f.body, .slice a f.sorts.length c], .string s] w fun e w' => e = .returned (.tuple #[.int .i64 (findR f (sameText s)).1, .int .i64 (findR f (sameText s)).2]) ∧ Below w.heap.size w w' := by
  by_cases h0 : (checkF f).2 = 0
  · have HE := Lib.hid (show findR f (sameText s) = numR (f.sorts.findIdx? (sameText s)) by unfold findR; rw [if_neg (by simp [h0])])
    go_enter Tryz.func75, Tryz.ntmps75
    go_wp2_with fail
    refine (learn_any f a c _ hF.ok (by exact hF.at_.alloc _) (by exact hF.tab.alloc _)).mono ?_
    rintro e w1 ⟨b1, b2, rfl, hK, hb⟩
    have hK := hK h0
    rw [h0]
    have hB := ((Below.refl w.heap.size w).alloc (Nat.le_refl _) (.cells #[.string f.name, .int .i64 f.body, .slice a f.sorts.length c] 59)).trans (hb.mono (B' := w.heap.size) (by simp))
    have hz := hB.size
    clear hb h0
    obtain ⟨hne, D1, D2, ho1, ho2, hi1, hz1, hi2, hx0⟩ := hK
    clear hz1 hi1 hx0 ho1
    have hnum := fun o => numberIn_any b2 _ D2 f.sorts sameText s (w1.alloc o) hs (ho2.alloc _) hi2
    have HN := Lib.hid hnum
    clear hnum hi2 ho2
    go_wp2_with fail
    refine (HN.out _).mono ?_
    rintro e w2 ⟨rfl, rfl⟩
    go_wp2
    go_ret2
    exact ⟨by rw [HE.out]; try rfl, hB.alloc hz _⟩
  · have HE := Lib.hid (show findR f (sameText s) = (0, (checkF f).2) by unfold findR; rw [if_pos h0])
    have heb : ((checkF f).2 != 0) = true := by simpa using h0
    clear h0
    go_enter Tryz.func75, Tryz.ntmps75
    go_wp2_with fail
    refine (learn_any f a c _ hF.ok (by exact hF.at_.alloc _) (by exact hF.tab.alloc _)).mono ?_
    rintro e w1 ⟨b1, b2, rfl, _, hb⟩
    have hB := ((Below.refl w.heap.size w).alloc (Nat.le_refl _) (.cells #[.string f.name, .int .i64 f.body, .slice a f.sorts.length c] 59)).trans (hb.mono (B' := w.heap.size) (by simp))
    have hz := hB.size
    clear hb
    go_wp2
    go_ret2
    exact ⟨by rw [HE.out]; try rfl, hB.alloc hz _⟩


end Go.Proofs.YtlkkociijfdcgaaGreatDoor

/-
  FirstMissing: the reference's walk.
-/
namespace Go.Proofs.YtlkkociijfdcgaaGreatDoor
open Go.RowKit Go.Maps Go.Shelf

end Go.Proofs.YtlkkociijfdcgaaGreatDoor

namespace Go.Proofs.YtlkkociijfdcgaaGreatDoor
open Go.RowKit Go.Maps Go.Shelf

/-- Sorts that print a piece from a place on, one behind the other, none over a bar. -/
def PathP (p : PC) : Nat → List Int → Prop
  | pl, [] => pl = p.t.size
  | pl, x :: l => ∃ i : Nat, x = (i : Int) ∧ i < p.f.sorts.length ∧ mayB p pl (p.f.sorts.getD i noTS) = true ∧ PathP p (pl + tsize p i) l
theorem may_one {p : PC} (hT : Texted p.f) {pl i : Nat} (hi : i < p.f.sorts.length) (hm : mayB p pl (p.f.sorts.getD i noTS) = true) : 1 ≤ tsize p i := hT i hi (may_kind hm)
theorem path_len {p : PC} (hT : Texted p.f) : ∀ (l : List Int) (pl : Nat), PathP p pl l → l.length + pl ≤ p.t.size
  | [], pl, h => by have h : pl = p.t.size := h; simp; omega
  | x :: l, pl, ⟨i, _, hi, hm, h⟩ => by
    have h1 := path_len hT l _ h
    have h2 := may_one hT hi hm
    rw [List.length_cons]
    omega
theorem long_path {p : PC} : ∀ (k pl : Nat) (acc l : List Int), longSet p k pl acc = some l → pl ≤ p.t.size → ∃ l2, l = acc ++ l2 ∧ PathP p pl l2
  | 0, _, _, _, h, _ => by cases h
  | k + 1, pl, acc, l, h, hpl => by
    unfold longSet at h
    by_cases h1 : pl < p.t.size
    · rw [if_pos h1] at h
      by_cases h2 : 0 < (longAt p pl).2
      · rw [if_pos h2] at h
        rcases longF_ok p pl (mays p pl p.f.sorts.length) with h3 | ⟨h3, h4, h5⟩
        · change (longAt p pl).2 = 0 at h3; omega
        · change (longAt p pl).1 < _ at h3
          change (longAt p pl).2 = tsize p (longAt p pl).1 at h4
          have hf := may_fits h5 hpl
          change pl + tsize p (longAt p pl).1 ≤ _ at hf
          rw [h4] at h
          obtain ⟨l2, e, hp⟩ := long_path k _ _ _ h hf
          exact ⟨((longAt p pl).1 : Int) :: l2, by rw [e, List.append_assoc]; try rfl, ⟨_, rfl, h3, h5, hp⟩⟩
      · rw [if_neg h2] at h; cases h
    · rw [if_neg h1] at h
      injection h with h
      exact ⟨[], by rw [h, List.append_nil], show pl = p.t.size by omega⟩
theorem longP_some {p : PC} {l : List Int} (h : longP p = some l) : PathP p 0 l := by
  obtain ⟨l2, e, hp⟩ := long_path _ _ _ _ h (Nat.zero_le _)
  rw [List.nil_append] at e
  subst e
  exact hp
/-- The number of a sort that there is not. -/
def outR (f : FT) (x : Int) : Bool := !(decide (0 ≤ x ∧ x < (f.sorts.length : Int)))
def kindAt (f : FT) (x : Int) : Int := (f.sorts.getD x.toNat noTS).kind
theorem path_in {p : PC} : ∀ (l : List Int) (pl : Nat), PathP p pl l → ∀ x ∈ l, outR p.f x = false ∧ kindAt p.f x ≠ 3
  | [], _, _, x, hx => by cases hx
  | y :: l, pl, ⟨i, e, hi, hm, h⟩, x, hx => by
    rcases List.mem_cons.1 hx with rfl | hx
    · subst e
      refine ⟨?_, ?_⟩
      · unfold outR
        rw [decide_eq_true ⟨by omega, by omega⟩]; try rfl
      · unfold kindAt
        rw [Int.toNat_natCast]
        exact may_kind hm
    · exact path_in l _ h x hx
end Go.Proofs.YtlkkociijfdcgaaGreatDoor

namespace Go.Proofs.YtlkkociijfdcgaaGreatDoor
open Go.RowKit Go.Maps Go.Shelf

def hySB (f : FT) (j : Nat) : Bool := (f.sorts.getD j noTS).kind != 3 && ((f.sorts.getD j noTS).text.toList == [45])
/-- The first sort that prints "-", or -1. -/
def hySI (f : FT) : Int := match firstAt (hySB f) (f.sorts.length - 0) 0 with
  | some i => (i : Int)
  | none => -1
set_option maxRecDepth 100000 in
set_option maxHeartbeats 1000000 in
theorem refHyphen_any (f : FT) (a : Option Addr) (c : Nat) (w : World) (hF : SortsAt w a f.sorts) (hl : f.sorts.length ≤ maxLen) :
    Calls Tryz.prog 127 #[.agg #[.string f.name, .int .i64 f.body, .slice a f.sorts.length c]] w fun e w' => e = .returned (.int .i64 (hySI f)) ∧ Below w.heap.size w w' := by
  have hb0 := (Below.refl w.heap.size w).alloc (Nat.le_refl _) (.cells #[.string f.name, .int .i64 f.body, .slice a f.sorts.length c] 59)
  have HF := Lib.hid (hF.below hb0)
  have hB := heap_new w (.cells #[.string f.name, .int .i64 f.body, .slice a f.sorts.length c] 59)
  have cc : (w.alloc (.cells #[.string f.name, .int .i64 f.body, .slice a f.sorts.length c] 59)).cell? ⟨w.heap.size, 2, none⟩ = some (.slice a f.sorts.length c) := cell_of_row _ _ 2 _ _ (0, 0) hB
  have hl2 : f.sorts.length ≤ 9223372036854775807 := by unfold maxLen at hl; omega
  obtain ⟨E, hE⟩ : ∃ E, E = hySI f := ⟨_, rfl⟩
  have HE := Lib.hid hE
  rw [← hE]
  clear hE hF hB hl
  go_enter Tryz.func127, Tryz.ntmps127
  go_wp2_with fail
  go_loop [3] (fun v3 => ∃ k : Nat, k ≤ f.sorts.length ∧ v3 = .int .i64 k ∧ Hid (firstAt (hySB f) (f.sorts.length - 0) 0 = firstAt (hySB f) (f.sorts.length - k) k)) (fun v3 => f.sorts.length - (intOf v3).toNat)
  case atStart => exact ⟨0, Nat.zero_le _, rfl, Lib.hid rfl⟩
  case round =>
    obtain ⟨k, hk, rfl, HS⟩ := hrel
    by_cases hlt : k < f.sorts.length
    · have hkl : (k : Int) < (f.sorts.length : Int) := by omega
      have hk0 : (0 : Int) ≤ (k : Int) := by omega
      obtain ⟨ad, rfl, had, hsx⟩ := HF.out.at_ hlt
      have t1 := hsx.2.1
      have t2 := hsx.2.2.1
      have HQ := Lib.hid (show hySB f k = ((f.sorts.getD k noTS).kind != 3 && ((f.sorts.getD k noTS).text.toList == [45])) from rfl)
      obtain ⟨x, hx⟩ : ∃ x, x = f.sorts.getD k noTS := ⟨_, rfl⟩
      rw [← hx] at t1 t2 HQ
      clear hx hsx
      have HES := Lib.hid (fun (h : firstAt (hySB f) (f.sorts.length - k) k = some k) => show E = (k : Int) by rw [HE.out]; unfold hySI; rw [HS.out, h])
      cases h3 : (x.kind != 3)
      · have h33 : x.kind = 3 := by simpa using h3
        have hnb : hySB f k = false := by rw [HQ.out, h3, Bool.false_and]
        have HTN := Lib.hid (firstAt_go hlt hnb)
        clear hnb
        go_wp2
        go_round
        case rel => exact ⟨k + 1, by omega, by go_num, Lib.hid (HS.out.trans HTN.out)⟩
        case measure => simp [intOf]; omega
      · have h33 : ¬ x.kind = 3 := by simpa using h3
        cases h4 : (x.text.toList == [45])
        · skip
          have hnb : hySB f k = false := by rw [HQ.out, h3, h4, Bool.true_and]
          have HTN := Lib.hid (firstAt_go hlt hnb)
          clear hnb
          go_wp2
          go_round
          case rel => exact ⟨k + 1, by omega, by go_num, Lib.hid (HS.out.trans HTN.out)⟩
          case measure => simp [intOf]; omega
        · have hnb : hySB f k = true := by rw [HQ.out, h3, h4]; try rfl
          have HV := Lib.hid (HES.out (firstAt_stop hlt hnb))
          clear hnb
          go_wp2
          go_ret
          rw [HV.out]
          exact ⟨rfl, hb0⟩
    · obtain rfl : k = f.sorts.length := by omega
      have hkl : ¬ (f.sorts.length : Int) < (f.sorts.length : Int) := by omega
      have HV := Lib.hid (show E = -1 by rw [HE.out]; unfold hySI; rw [HS.out, firstAt_end (q := hySB f) hlt])
      go_wp2
      go_ret
      rw [HV.out]
      exact ⟨rfl, hb0⟩
end Go.Proofs.YtlkkociijfdcgaaGreatDoor

namespace Go.Proofs.YtlkkociijfdcgaaGreatDoor
open Go.RowKit Go.Maps Go.Shelf

theorem rdTo_fold (f : FT) (st : List ByteArray × List UInt8) (l : List Int) : ∀ k, k ≤ l.length → rdTo f st l k = (l.take k).foldl (rdSort f) st
  | 0, _ => rfl
  | k + 1, h => by
    show rdSort f (rdTo f st l k) (l.getD k 0) = _
    rw [rdTo_fold f st l k (by omega), List.take_succ_eq_append_getElem (by omega), List.foldl_append, List.getD_eq_getElem?_getD, List.getElem?_eq_getElem (by omega)]
    rfl
theorem preB_drop {t x : ByteArray} {pl : Nat} (h : preB (t.extract pl t.size) x = true) : x.data.toList = (t.data.toList.drop pl).take x.size := by
  have hz := preB_size h
  rw [preB_long hz, beq_iff_eq] at h
  have h2 := toList_inj h
  have h3 : x.data.toList = ((t.extract pl t.size).extract 0 x.size).data.toList := by rw [h2]
  rw [h3, ext_list, ext_list, List.drop_zero, Nat.sub_zero, List.take_take]
  congr 1
  rw [ByteArray.size_extract] at hz
  omega
theorem rd_path {p : PC} : ∀ (l : List Int) (pl : Nat) (ws : List ByteArray) (acc : List UInt8), PathP p pl l → l.foldl (rdSort p.f) (ws, acc) = (ws, acc ++ p.t.data.toList.drop pl)
  | [], pl, ws, acc, h => by
    have h : pl = p.t.size := h
    have hs : p.t.data.toList.length = p.t.size := by rw [Array.length_toList]; try rfl
    rw [List.foldl_nil, List.drop_eq_nil_of_le (by omega), List.append_nil]
  | x :: l, pl, ws, acc, ⟨i, e, hi, hm, h⟩ => by
    subst e
    have hk := may_kind hm
    unfold mayB at hm
    rw [Bool.and_eq_true, Bool.and_eq_true] at hm
    have hp := preB_drop hm.2.1
    rw [List.foldl_cons]
    have e1 : rdSort p.f (ws, acc) (i : Int) = (ws, acc ++ (p.f.sorts.getD i noTS).text.data.toList) := by
      unfold rdSort
      rw [Int.toNat_natCast, if_neg hk]
    rw [e1, rd_path l _ ws _ h, List.append_assoc]
    congr 2
    rw [hp]
    have hl : (p.f.sorts.getD i noTS).text.data.toList.length = tsize p i := by rw [Array.length_toList]; try rfl
    show (p.t.data.toList.drop pl).take (tsize p i) ++ p.t.data.toList.drop (pl + tsize p i) = _
    rw [← List.drop_drop, List.take_append_drop]
/-- The sort that prints "-". -/
def hyT : ByteArray := ⟨#[45]⟩
theorem hyT_list : hyT.toList = [45] := by decide +kernel
def hyI (f : FT) : Option Nat := f.sorts.findIdx? (sameText hyT)
theorem hySI_eq (f : FT) : hySI f = match hyI f with | some i => (i : Int) | none => -1 := by
  have e : hySB f = fun i => sameText hyT (f.sorts.getD i noTS) := by
    funext i
    unfold hySB sameText
    rw [hyT_list]
  have h : firstAt (hySB f) (f.sorts.length - 0) 0 = f.sorts.findIdx? (sameText hyT) := by rw [e]; exact firstAt_idx (sameText hyT) f.sorts
  unfold hySI hyI
  rw [h]
  try (cases f.sorts.findIdx? (sameText hyT) <;> rfl)
theorem hyI_some {f : FT} {i : Nat} (h : hyI f = some i) : i < f.sorts.length ∧ (f.sorts.getD i noTS).kind ≠ 3 ∧ (f.sorts.getD i noTS).text.toList = [45] := by
  obtain ⟨h1, h2, _⟩ := List.findIdx?_eq_some_iff_getElem.1 h
  have e : f.sorts.getD i noTS = f.sorts[i] := by rw [List.getD_eq_getElem?_getD, List.getElem?_eq_getElem h1]; try rfl
  rw [e]
  unfold sameText at h2
  rw [Bool.and_eq_true] at h2
  refine ⟨h1, by simpa using h2.1, ?_⟩
  have h3 := h2.2
  rw [beq_iff_eq] at h3
  rw [h3]; exact hyT_list
/-- What Parted answers: an error and the sorts of both lines. -/
def aheadP (f : FT) (r : RU) (s : ByteArray) (p : Nat) : PC := wordP f none 0 r s 0 p
def behindP (f : FT) (r : RU) (s : ByteArray) (p : Nat) : PC := wordP f none 0 r s p s.size
def partR (f : FT) (r : RU) (s : ByteArray) (place : Int) : Int × List Int × List Int :=
  if place ∈ ruleHyph r s then match longP (aheadP f r s place.toNat), hyI f, longP (behindP f r s place.toNat) with
    | some l1, some h, some l2 => (0, l1 ++ [(h : Int)], l2)
    | _, _, _ => (6, [], [])
  else (26, [], [])
def partErr2 (f : FT) (r : RU) (s : ByteArray) (place : Int) : Int × List Int × List Int := if setErrW f r s ≠ 0 then (setErrW f r s, [], []) else partR f r s place
theorem hyph_in {r : RU} {s : ByteArray} {place : Int} (hr : (checkR r).2 = 0) (h : place ∈ ruleHyph r s) : ∃ p : Nat, place = (p : Int) ∧ 1 ≤ p ∧ p < s.size := by
  have := (ruleHyph_str (s := s) hr).2 place h
  exact ⟨place.toNat, by omega, by omega, by omega⟩
theorem part_lens {f : FT} {r : RU} {s : ByteArray} {place : Int} (hf : (checkF f).2 = 0) (hr : (checkR r).2 = 0) (hs : s.size ≤ 30) : (partR f r s place).2.1.length ≤ 31 ∧ (partR f r s place).2.2.length ≤ 30 := by
  unfold partR
  by_cases h : place ∈ ruleHyph r s
  · rw [if_pos h]
    obtain ⟨p, rfl, h1, h2⟩ := hyph_in hr h
    rw [Int.toNat_natCast]
    have hT := texted hf
    cases e1 : longP (aheadP f r s p) with
    | none => exact ⟨Nat.zero_le _, Nat.zero_le _⟩
    | some l1 =>
      cases e2 : hyI f with
      | none => exact ⟨Nat.zero_le _, Nat.zero_le _⟩
      | some i =>
        cases e3 : longP (behindP f r s p) with
        | none => exact ⟨Nat.zero_le _, Nat.zero_le _⟩
        | some l2 =>
          have q1 := path_len (p := aheadP f r s p) hT l1 0 (longP_some e1)
          have q2 := path_len (p := behindP f r s p) hT l2 0 (longP_some e3)
          have z1 : (aheadP f r s p).t.size ≤ 30 := by show (s.extract 0 p).size ≤ 30; rw [ByteArray.size_extract]; omega
          have z2 : (behindP f r s p).t.size ≤ 30 := by show (s.extract p s.size).size ≤ 30; rw [ByteArray.size_extract]; omega
          show (l1 ++ [(i : Int)]).length ≤ 31 ∧ l2.length ≤ 30
          rw [List.length_append, List.length_singleton]
          omega
  · rw [if_neg h]; exact ⟨Nat.zero_le _, Nat.zero_le _⟩
theorem path_idx {p : PC} {l : List Int} {pl : Nat} (h : PathP p pl l) : l.any (idxBad p.f.sorts.length) = false := by
  rw [List.any_eq_false]
  intro x hx
  obtain ⟨h1, _⟩ := path_in l pl h x hx
  unfold outR at h1
  unfold idxBad
  simpa using h1
/-- What both lines read. -/
theorem part_reads {f : FT} {r : RU} {s : ByteArray} {place : Int} (hf : (checkF f).2 = 0) (hr : (checkR r).2 = 0) (hs : s.size ≤ 30) (h0 : (partR f r s place).1 = 0) (A0 A1 : Option Addr) (c0 c1 : Nat) :
    readErr f [⟨0, A0, c0, (partR f r s place).2.1⟩, ⟨0, A1, c1, (partR f r s place).2.2⟩] [true, false] = 0 ∧ readW f [⟨0, A0, c0, (partR f r s place).2.1⟩, ⟨0, A1, c1, (partR f r s place).2.2⟩] [true, false] = [s] := by
  have hlen := part_lens (place := place) hf hr hs
  obtain ⟨X, hX⟩ : ∃ X, X = partR f r s place := ⟨_, rfl⟩
  rw [← hX] at h0 hlen ⊢
  unfold partR at hX
  by_cases h : place ∈ ruleHyph r s
  case neg => rw [if_neg h] at hX; rw [hX] at h0; exact absurd h0 (by decide)
  rw [if_pos h] at hX
  obtain ⟨p, rfl, h1, h2⟩ := hyph_in hr h
  rw [Int.toNat_natCast] at hX
  cases e1 : longP (aheadP f r s p) with
  | none => rw [e1] at hX; rw [hX] at h0; exact absurd (show (6 : Int) = 0 from h0) (by decide)
  | some l1 =>
    cases e2 : hyI f with
    | none => rw [e1, e2] at hX; rw [hX] at h0; exact absurd (show (6 : Int) = 0 from h0) (by decide)
    | some i =>
      cases e3 : longP (behindP f r s p) with
      | none => rw [e1, e2, e3] at hX; rw [hX] at h0; exact absurd (show (6 : Int) = 0 from h0) (by decide)
      | some l2 =>
        rw [e1, e2, e3] at hX
        have hX : X = (0, l1 ++ [(i : Int)], l2) := hX
        subst hX
        have p1 := longP_some e1
        have p2 := longP_some e3
        obtain ⟨hi, hk, ht⟩ := hyI_some e2
        dsimp only at hlen ⊢
        have z2 : (behindP f r s p).t.size = s.size - p := by show (s.extract p s.size).size = _; rw [ByteArray.size_extract]; omega
        have hne : 0 < l2.length := by
          rcases Nat.eq_zero_or_pos l2.length with h | h
          · have : l2 = [] := List.length_eq_zero_iff.1 h
            subst this
            have : 0 = (behindP f r s p).t.size := p2
            omega
          · exact h
        have hla : (l1 ++ [(i : Int)]).getD ((l1 ++ [(i : Int)]).length - 1) 0 = (i : Int) := by
          rw [List.length_append, List.length_singleton, Nat.add_sub_cancel, List.getD_eq_getElem?_getD, List.getElem?_append_right (Nat.le_refl _), Nat.sub_self]; try rfl
        have hib : idxBad f.sorts.length (i : Int) = false := by
          unfold idxBad
          simp
          omega
        have hb0 : headErr f [⟨0, A0, c0, l1 ++ [(i : Int)]⟩, ⟨0, A1, c1, l2⟩] true = 0 := by
          unfold headErr
          rw [show ([⟨0, A0, c0, l1 ++ [(i : Int)]⟩, ⟨0, A1, c1, l2⟩] : List LN).getD 0 noLN = ⟨0, A0, c0, l1 ++ [(i : Int)]⟩ from rfl, show ([⟨0, A0, c0, l1 ++ [(i : Int)]⟩, ⟨0, A1, c1, l2⟩] : List LN).getD 1 noLN = ⟨0, A1, c1, l2⟩ from rfl]
          rw [if_neg (by show ¬ 300 < (l1 ++ [(i : Int)]).length; omega)]
          have ha : (l1 ++ [(i : Int)]).any (idxBad f.sorts.length) = false := by
            rw [List.any_append, (show l1.any (idxBad f.sorts.length) = false from path_idx p1), List.any_cons, hib]; try rfl
          rw [if_neg (by show ¬ (l1 ++ [(i : Int)]).any (idxBad f.sorts.length) = true; rw [ha]; decide), if_neg (by decide)]
          have hh : hyB f (l1 ++ [(i : Int)]) = true := by
            unfold hyB
            rw [hla, Int.toNat_natCast, ht]
            simp
          rw [if_neg (by show ¬ hyB f (l1 ++ [(i : Int)]) = false; rw [hh]; decide)]
          obtain ⟨x, l2', rfl⟩ : ∃ x l2', l2 = x :: l2' := by
            cases l2 with
            | nil => exact absurd hne (by decide)
            | cons x l2' => exact ⟨x, l2', rfl⟩
          obtain ⟨j, ej, hj, hm, _⟩ := p2
          have hbg : beginsB f (x :: l2') = true := by
            have hjb : idxBad f.sorts.length (j : Int) = false := by
              unfold idxBad
              have hj : j < f.sorts.length := hj
              simp
              omega
            rw [begins_kind (by simp) (by show idxBad f.sorts.length x = false; rw [ej]; exact hjb)]
            show ((f.sorts.getD x.toNat noTS).kind != 3) = true
            rw [ej, Int.toNat_natCast]
            exact bne_iff_ne.2 (show (f.sorts.getD j noTS).kind ≠ 3 from may_kind hm)
          rw [if_neg (by show ¬ ((2 : Nat) = 1 ∨ beginsB f (x :: l2') = false); rw [hbg]; simp)]
        have hb1 : headErr f [⟨0, A1, c1, l2⟩] false = 0 := by
          unfold headErr
          rw [show ([⟨0, A1, c1, l2⟩] : List LN).getD 0 noLN = ⟨0, A1, c1, l2⟩ from rfl]
          rw [if_neg (by show ¬ 300 < l2.length; omega), if_neg (by show ¬ l2.any (idxBad f.sorts.length) = true; rw [show l2.any (idxBad f.sorts.length) = false from path_idx p2]; decide), if_pos rfl]
        refine ⟨?_, ?_⟩
        · unfold readErr
          rw [if_neg (fun h => h hf), if_neg (by simp), if_neg (by simp)]
          have hn : firstAt (badL f [⟨0, A0, c0, l1 ++ [(i : Int)]⟩, ⟨0, A1, c1, l2⟩] [true, false]) (2 - 0) 0 = none := by
            have b0 : badL f [⟨0, A0, c0, l1 ++ [(i : Int)]⟩, ⟨0, A1, c1, l2⟩] [true, false] 0 = false := by
              show (headErr f [⟨0, A0, c0, l1 ++ [(i : Int)]⟩, ⟨0, A1, c1, l2⟩] true != 0) = false
              rw [hb0]; try rfl
            have b1 : badL f [⟨0, A0, c0, l1 ++ [(i : Int)]⟩, ⟨0, A1, c1, l2⟩] [true, false] 1 = false := by
              show (headErr f [⟨0, A1, c1, l2⟩] false != 0) = false
              rw [hb1]; try rfl
            rw [firstAt_go (by decide) b0, firstAt_go (by decide) b1]
            rfl
          show (match firstAt (badL f [⟨0, A0, c0, l1 ++ [(i : Int)]⟩, ⟨0, A1, c1, l2⟩] [true, false]) (2 - 0) 0 with | none => (0 : Int) | some i => _) = 0
          rw [hn]
        · have r1 : rdLine f ([], []) (l1 ++ [(i : Int)]) true = ([], (s.extract 0 p).data.toList) := by
            show rdTo f ([], []) (l1 ++ [(i : Int)]) ((l1 ++ [(i : Int)]).length - 1) = _
            rw [rdTo_fold _ _ _ _ (by omega), List.length_append, List.length_singleton, Nat.add_sub_cancel, List.take_left]
            exact rd_path (p := aheadP f r s p) l1 0 [] [] p1
          have r2 : rdLine f ([], (s.extract 0 p).data.toList) l2 false = endW ([], (s.extract 0 p).data.toList ++ (s.extract p s.size).data.toList) := by
            show endW (rdTo f ([], (s.extract 0 p).data.toList) l2 l2.length) = _
            rw [rdTo_fold _ _ _ _ (Nat.le_refl _), List.take_length]
            exact congrArg endW (rd_path (p := behindP f r s p) l2 0 [] _ p2)
          have hss : (s.extract 0 p).data.toList ++ (s.extract p s.size).data.toList = s.data.toList := by
            have hsz : s.data.toList.length = s.size := by rw [Array.length_toList]; try rfl
            rw [ext_list, ext_list, List.drop_zero, Nat.sub_zero, List.take_of_length_le (l := s.data.toList.drop p) (by rw [List.length_drop, hsz]; exact Nat.le_refl _), List.take_append_drop]
          show (rdLine f (rdLine f ([], []) (l1 ++ [(i : Int)]) true) l2 false).1 = [s]
          rw [r1, r2, hss]
          unfold endW
          have hs0 : s.data.toList ≠ [] := fun h => by
            have hsz : s.data.toList.length = s.size := by rw [Array.length_toList]; try rfl
            rw [h] at hsz
            have : (0 : Nat) = s.size := hsz
            omega
          rw [if_neg hs0]
          show [(⟨s.data.toList.toArray⟩ : ByteArray)] = [s]
          rw [Array.toArray_toList]
end Go.Proofs.YtlkkociijfdcgaaGreatDoor

namespace Go.Proofs.YtlkkociijfdcgaaGreatDoor
open Go.RowKit Go.Maps Go.Shelf

/-- The boxes of a fount and of rules, as a law's walk goes on. -/
structure FRK (w : World) (f : FT) (a : Option Addr) (c : Nat) (r : RU) (wr : World) : Prop where
  fb : wr.heap[w.heap.size]? = some (.cells #[.string f.name, .int .i64 f.body, .slice a f.sorts.length c] 59 (0, 0))
  rb : wr.heap[w.heap.size + 1]? = some (.cells #[.slice r.ps.a r.ps.l.length r.ps.c, .slice r.es.a r.es.l.length r.es.c, .slice r.bs.a r.bs.l.length r.bs.c, .int .i64 r.left, .int .i64 r.right] 24 (0, 0))
  low : Below w.heap.size w wr
section
variable {w : World} {f : FT} {a : Option Addr} {c : Nat} {r : RU} {wr wr' : World}
theorem FRK.below (h : FRK w f a c r wr) (hb : Below wr.heap.size wr wr') : FRK w f a c r wr' := ⟨(hb.block _ (heap_lt h.fb)).trans h.fb, (hb.block _ (heap_lt h.rb)).trans h.rb, h.low.trans (hb.mono h.low.size)⟩
theorem FRK.fc (h : FRK w f a c r wr) : wr.cell? ⟨w.heap.size, 0, none⟩ = some (.string f.name) ∧ wr.cell? ⟨w.heap.size, 1, none⟩ = some (.int .i64 f.body) ∧ wr.cell? ⟨w.heap.size, 2, none⟩ = some (.slice a f.sorts.length c) :=
  ⟨cell_of_row wr _ 0 _ _ (0, 0) h.fb, cell_of_row wr _ 1 _ _ (0, 0) h.fb, cell_of_row wr _ 2 _ _ (0, 0) h.fb⟩
theorem FRK.rc (h : FRK w f a c r wr) : wr.cell? ⟨w.heap.size + 1, 0, none⟩ = some (.slice r.ps.a r.ps.l.length r.ps.c) ∧ wr.cell? ⟨w.heap.size + 1, 1, none⟩ = some (.slice r.es.a r.es.l.length r.es.c) ∧ wr.cell? ⟨w.heap.size + 1, 2, none⟩ = some (.slice r.bs.a r.bs.l.length r.bs.c) ∧ wr.cell? ⟨w.heap.size + 1, 3, none⟩ = some (.int .i64 r.left) ∧ wr.cell? ⟨w.heap.size + 1, 4, none⟩ = some (.int .i64 r.right) :=
  ⟨cell_of_row wr _ 0 _ _ (0, 0) h.rb, cell_of_row wr _ 1 _ _ (0, 0) h.rb, cell_of_row wr _ 2 _ _ (0, 0) h.rb, cell_of_row wr _ 3 _ _ (0, 0) h.rb, cell_of_row wr _ 4 _ _ (0, 0) h.rb⟩
theorem FRK.lt (h : FRK w f a c r wr) : w.heap.size + 1 < wr.heap.size := heap_lt h.rb
end
theorem frk_start (w : World) (f : FT) (a : Option Addr) (c : Nat) (r : RU) : FRK w f a c r ((w.alloc (.cells #[.string f.name, .int .i64 f.body, .slice a f.sorts.length c] 59)).alloc (.cells #[.slice r.ps.a r.ps.l.length r.ps.c, .slice r.es.a r.es.l.length r.es.c, .slice r.bs.a r.bs.l.length r.bs.c, .int .i64 r.left, .int .i64 r.right] 24)) := by
  refine ⟨heap_keep (heap_new _ _), ?_, ((Below.refl _ _).alloc (Nat.le_refl _) _).alloc (by simp) _⟩
  have h := heap_new (w.alloc (.cells #[.string f.name, .int .i64 f.body, .slice a f.sorts.length c] 59)) (.cells #[.slice r.ps.a r.ps.l.length r.ps.c, .slice r.es.a r.es.l.length r.es.c, .slice r.bs.a r.bs.l.length r.bs.c, .int .i64 r.left, .int .i64 r.right] 24)
  rw [World.size_alloc] at h
  exact h
theorem setErrW_same {f : FT} {r r' : RU} (h : SameR r r') (s : ByteArray) : setErrW f r' s = setErrW f r s := by unfold setErrW setErr; rw [checkR_same h]
theorem barsOf_same {r r' : RU} (h : SameR r r') (s : ByteArray) : barsOf r' s = barsOf r s := by unfold barsOf; rw [h.2.2.1]
end Go.Proofs.YtlkkociijfdcgaaGreatDoor

namespace Go.Proofs.YtlkkociijfdcgaaGreatDoor
open Go.RowKit Go.Maps Go.Shelf

/-- A setter's box in a world. -/
structure StK (w : World) (B : Nat) (f : FT) (a : Option Addr) (c : Nat) (r : RU) (g b1 b2 : Nat) (wr : World) : Prop where
  box : wr.heap[B]? = some (.cells #[.string f.name, .int .i64 f.body, .slice a f.sorts.length c, .slice (some ⟨g, 0, none⟩) r.ps.l.length r.ps.l.length, .map (some b1), .map (some b2), .int .i64 r.left, .int .i64 r.right] 183 (0, 0))
  low : Below w.heap.size w wr
section
variable {w wr wr' : World} {B : Nat} {f : FT} {a : Option Addr} {c : Nat} {r : RU} {g b1 b2 : Nat}
theorem StK.below (h : StK w B f a c r g b1 b2 wr) (hb : Below wr.heap.size wr wr') : StK w B f a c r g b1 b2 wr' := ⟨(hb.block _ (heap_lt h.box)).trans h.box, h.low.trans (hb.mono h.low.size)⟩
end
end Go.Proofs.YtlkkociijfdcgaaGreatDoor
/-
  breaksOf, wordOf: the program's words with their breaks.
-/
namespace Go.Proofs.YtlkkociijfdcgaaGreatDoor
open Go.RowKit Go.Maps Go.Shelf

theorem containsI_any (A : Option Addr) (c : Nat) (l : List Int) (n : Int) (w : World) (base : Nat) (hI : IRow w base (.slice A l.length c) l) (hl : l.length ≤ maxLen) :
    Calls Tryz.prog 125 #[.slice A l.length c, .int .i64 n] w fun e w' => e = .returned (.bool (decide (n ∈ l))) ∧ w = w' := by
  unfold maxLen at hl
  rcases hI.2 with ⟨e1, e2⟩ | ⟨g, cap, cur, e1, _, hh, _⟩
  · have h0 : l = [] := List.length_eq_zero_iff.1 e2
    subst h0
    refine (Tryz.slices_Contains_int_empty A c n w).mono ?_
    rintro e w' ⟨rfl, rfl⟩
    exact ⟨rfl, rfl⟩
  · injection e1 with e1 _ e3
    subst e1
    subst e3
    have hi := hI.ints.2
    refine (Tryz.slices_Contains_int g 0 l.length c l n w (Nat.le_refl _) hl (fun j hj => ?_)).mono ?_
    · obtain ⟨ad, e, _, hc⟩ := hi j hj
      have e2 : (⟨g, 0, none⟩ : Addr) = ad := Option.some.inj e
      subst e2
      rw [Addr.add_mid] at hc
      exact hc
    · rintro e w' ⟨rfl, rfl⟩
      refine ⟨?_, rfl⟩
      rw [List.take_length]
      congr 2
      rw [Bool.eq_iff_iff, List.contains_iff_mem, decide_eq_true_eq]
end Go.Proofs.YtlkkociijfdcgaaGreatDoor

/-
  wordOf: a word with its sorts and breaks.
-/
namespace Go.Proofs.YtlkkociijfdcgaaGreatDoor
open Go.RowKit Go.Maps Go.Shelf

theorem ruleErr_of {r : RU} {s : ByteArray} (h1 : (checkR r).2 = 0) (h2 : wordErr s = 0) : ruleErr r s = 0 := by
  unfold ruleErr
  rw [if_neg (fun h => h h1)]
  exact h2
end Go.Proofs.YtlkkociijfdcgaaGreatDoor

/-
  Words: the program's walk.
-/
namespace Go.Proofs.YtlkkociijfdcgaaGreatDoor
open Go.RowKit Go.Maps Go.Shelf

/-- Two cells that are a word's lists. -/
def WordAt (w : World) (B : Nat) (p : Addr) (x : List Int × List Int) : Prop := ∃ v1 v2, w.cell? p = some v1 ∧ w.cell? ⟨p.block, p.off + 1, none⟩ = some v2 ∧ IRow w B v1 x.1 ∧ IRow w B v2 x.2
/-- A row of n words' cells in block G, the first k of which are those of fn. -/
structure WRow (w : World) (B G n : Nat) (fn : Nat → List Int × List Int) (k : Nat) : Prop where
  row : ∃ cs : Array Value, w.heap[G]? = some (.cells cs 121 (0, 0)) ∧ cs.size = n * 2
  wds : ∀ j, j < k → WordAt w B ⟨G, j * 2, none⟩ (fn j)
section
variable {w w' : World} {B G n k : Nat} {fn : Nat → List Int × List Int}
theorem WRow.lt (h : WRow w B G n fn k) : G < w.heap.size := by
  obtain ⟨cs, h1, _⟩ := h.row
  exact heap_lt h1
theorem WRow.some_ (h : WRow w B G n fn k) {j : Nat} (hj : j < n * 2) : ∃ v, w.cell? ⟨G, j, none⟩ = some v := by
  obtain ⟨cs, h1, h2⟩ := h.row
  exact ⟨cs[j]'(by omega), by rw [cell_of_row w G j cs _ (0, 0) h1]; exact Array.getElem?_eq_getElem (by omega)⟩
theorem WRow.frozen (h : WRow w B G n fn k) (j : Nat) : w.frozen? ⟨G, j, none⟩ = false := by
  obtain ⟨cs, h1, _⟩ := h.row
  simp [World.frozen?, h1]
theorem WRow.below (h : WRow w B G n fn k) (hb : Below w.heap.size w w') : WRow w' B G n fn k := by
  have hlt := h.lt
  obtain ⟨cs, h1, h2⟩ := h.row
  refine ⟨⟨cs, (hb.block G hlt).trans h1, h2⟩, fun j hj => ?_⟩
  obtain ⟨v1, v2, c1, c2, i1, i2⟩ := h.wds j hj
  exact ⟨v1, v2, (hb.cell (p := ⟨_, _, none⟩) hlt).trans c1, (hb.cell (p := ⟨_, _, none⟩) hlt).trans c2, i1.below hb, i2.below hb⟩
theorem irow_put (h : WRow w B G n fn k) {v : Value} {l : List Int} {b : Nat} (hI : IRow w b v l) (j : Nat) (u : Value) : IRow (w.setCell ⟨G, j, none⟩ u) b v l := by
  obtain ⟨cs, h1, _⟩ := h.row
  exact own_put hI h1 (by decide) j u
theorem WRow.set_ (h : WRow w B G n fn k) {j : Nat} (hj : k * 2 ≤ j) (u : Value) : WRow (w.setCell ⟨G, j, none⟩ u) B G n fn k := by
  have h0 := h
  obtain ⟨cs, h1, h2⟩ := h.row
  refine ⟨⟨_, pat_set h1 j u, by simp [h2]⟩, fun i hi => ?_⟩
  obtain ⟨v1, v2, c1, c2, i1, i2⟩ := h.wds i hi
  exact ⟨v1, v2, by rw [cell_else (by omega)]; exact c1, by show (w.setCell ⟨G, j, none⟩ u).cell? ⟨G, i * 2 + 1, none⟩ = _; rw [cell_else (by omega)]; exact c2, irow_put h0 i1 j u, irow_put h0 i2 j u⟩
theorem WRow.same (h : WRow w B G n fn k) {j : Nat} (hj : j < n * 2) (u : Value) : (w.setCell ⟨G, j, none⟩ u).cell? ⟨G, j, none⟩ = some u := by
  obtain ⟨cs, h1, h2⟩ := h.row
  rw [cell_of_row _ G j _ _ (0, 0) (pat_set h1 j u)]
  simp [h2, hj]
theorem WRow.push (h : WRow w B G n fn k) (hk : k < n) {v1 v2 : Value} {l1 l2 : List Int} (hx : fn k = (l1, l2)) (i1 : IRow w B v1 l1) (i2 : IRow w B v2 l2) :
    WRow ((w.setCell ⟨G, k * 2, none⟩ v1).setCell ⟨G, k * 2 + 1, none⟩ v2) B G n fn (k + 1) := by
  have h1 := h.set_ (j := k * 2) (Nat.le_refl _) v1
  have h2 := h1.set_ (j := k * 2 + 1) (by omega) v2
  refine ⟨h2.row, fun i hi => ?_⟩
  by_cases e : i = k
  · subst e
    rw [hx]
    refine ⟨v1, v2, ?_, ?_, irow_put h1 (irow_put h i1 _ _) _ _, irow_put h1 (irow_put h i2 _ _) _ _⟩
    · rw [cell_else (by omega)]; exact h.same (by omega) _
    · exact h1.same (by omega) _
  · exact h2.wds i (by omega)
end
end Go.Proofs.YtlkkociijfdcgaaGreatDoor

/-
  Words: the reference's walk.
-/
namespace Go.Proofs.YtlkkociijfdcgaaGreatDoor
open Go.RowKit Go.Maps Go.Shelf

/-- A list of words that is one's own. -/
def WOwn (w : World) (B : Nat) (v : Value) (n : Nat) (fn : Nat → List Int × List Int) : Prop :=
  ∃ xs, w.ownsRow B 121 2 v n xs ∧ ∀ j, j < n → ∃ v1 v2, xs[j * 2]? = some v1 ∧ xs[j * 2 + 1]? = some v2 ∧ IRow w B v1 (fn j).1 ∧ IRow w B v2 (fn j).2
theorem own_monoG {w : World} {base base' e n size : Nat} {v : Value} {xs : List Value} (h : w.ownsRow base e size v n xs) (hB : base' ≤ base) : w.ownsRow base' e size v n xs := by
  rcases h.2 with ⟨e1, e2⟩ | ⟨g, cap, cur, e1, e2, e3, e4⟩
  · exact ⟨h.1, Or.inl ⟨e1, e2⟩⟩
  · exact ⟨h.1, Or.inr ⟨g, cap, cur, e1, Nat.le_trans hB e2, e3, e4⟩⟩
theorem WOwn.nil (w : World) (B : Nat) (fn : Nat → List Int × List Int) : WOwn w B (.slice none 0 0) 0 fn := ⟨[], World.ownsRow_nil _ _ _ _, fun _ hj => absurd hj (Nat.not_lt_zero _)⟩
theorem WOwn.below {w w' : World} {B n : Nat} {v : Value} {fn : Nat → List Int × List Int} (h : WOwn w B v n fn) (hb : Below w.heap.size w w') : WOwn w' B v n fn := by
  obtain ⟨xs, h1, h2⟩ := h
  refine ⟨xs, own_low2 h1 hb, fun j hj => ?_⟩
  obtain ⟨v1, v2, e1, e2, i1, i2⟩ := h2 j hj
  exact ⟨v1, v2, e1, e2, i1.below hb, i2.below hb⟩
theorem WOwn.mono {w : World} {B B' n : Nat} {v : Value} {fn : Nat → List Int × List Int} (h : WOwn w B v n fn) (hB : B' ≤ B) : WOwn w B' v n fn := by
  obtain ⟨xs, h1, h2⟩ := h
  refine ⟨xs, own_monoG h1 hB, fun j hj => ?_⟩
  obtain ⟨v1, v2, e1, e2, i1, i2⟩ := h2 j hj
  exact ⟨v1, v2, e1, e2, i1.mono hB, i2.mono hB⟩
theorem irow_grown {w w' : World} {base : Nat} {u : Value} {l : List Int} {row : Option Nat} (h : IRow w base u l) (hg : w.grownBy w' row) (hne : ∀ g, u.ownBlock = some g → some g ≠ row) : IRow w' base u l := by
  rcases h.2 with ⟨e1, e2⟩ | ⟨g, cap, cur, e1, e2, e3, e4⟩
  · exact ⟨h.1, Or.inl ⟨e1, e2⟩⟩
  · exact ⟨h.1, Or.inr ⟨g, cap, cur, e1, e2, (hg.block g (heap_lt e3) (hne g (by rw [e1]; try rfl))).trans e3, e4⟩⟩
end Go.Proofs.YtlkkociijfdcgaaGreatDoor

/-
  law02.words: two lists of words that are the same.
-/
namespace Go.Proofs.YtlkkociijfdcgaaGreatDoor
open Go.RowKit Go.Maps Go.Shelf

/-- A list of words as it is read: the words are those of fn. -/
def WView (w : World) (A : Option Addr) (n : Nat) (fn : Nat → List Int × List Int) : Prop :=
  ∀ j, j < n → ∃ g a1 c1 a2 c2, A = some ⟨g, 0, none⟩ ∧ g < w.heap.size ∧ w.cell? ⟨g, j * 2, none⟩ = some (.slice a1 (fn j).1.length c1) ∧ w.cell? ⟨g, j * 2 + 1, none⟩ = some (.slice a2 (fn j).2.length c2) ∧ IntsAt w a1 (fn j).1 ∧ IntsAt w a2 (fn j).2
theorem WView.below {w w' : World} {A : Option Addr} {n : Nat} {fn : Nat → List Int × List Int} (h : WView w A n fn) (hb : Below w.heap.size w w') : WView w' A n fn := fun j hj => by
  obtain ⟨g, a1, c1, a2, c2, e, hg, h1, h2, i1, i2⟩ := h j hj
  exact ⟨g, a1, c1, a2, c2, e, Nat.lt_of_lt_of_le hg hb.size, (hb.cell (p := ⟨g, j * 2, none⟩) hg).trans h1, (hb.cell (p := ⟨g, j * 2 + 1, none⟩) hg).trans h2, i1.below hb, i2.below hb⟩
theorem WView.zero (w : World) (A : Option Addr) (fn : Nat → List Int × List Int) : WView w A 0 fn := fun _ hj => absurd hj (Nat.not_lt_zero _)
end Go.Proofs.YtlkkociijfdcgaaGreatDoor

/-
  The walk of TextWords.
-/
namespace Go.Proofs.YtlkkociijfdcgaaGreatDoor
open Go.RowKit Go.Maps Go.Shelf

end Go.Proofs.YtlkkociijfdcgaaGreatDoor
