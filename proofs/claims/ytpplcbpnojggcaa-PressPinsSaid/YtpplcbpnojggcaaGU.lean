/-
  PressPins: the walk of the law.
-/
import Derived.Test.YtpplcbpnojggcaaGT
import Derived.Deep.CutRange
namespace Go.Proofs.Ytpplcbpnojggcaa
open Go.RowKit Go.Maps Go.Shelf

theorem pins_made2 (w : World) : OwnR 6 70 Pin.l (w.alloc (.cells #[] 70)) w.heap.size (.slice (some ⟨w.heap.size, 0, none⟩) 0 0) [] :=
  World.ownsRow_made (e := 70) (size := 6) (base := w.heap.size) w #[] 0 (Nat.le_refl _) (Nat.zero_le _) rfl
theorem pin_ok_at {L : List Pin} {k : Nat} {x : Pin} (h : ∀ p ∈ L, PinOk p) {hk : k < L.length} (e : x = L[k]) (_ : k < L.length) : PinOk x := by rw [e]; exact h _ (List.getElem_mem hk)
set_option maxRecDepth 100000 in
set_option maxHeartbeats 4000000 in
theorem pins_walk (L : List Pin) (a : Option Addr) (n c : Nat) (p q : Int) (w : World) (hn : n = L.length) (hr : RowsAt 6 Pin.l w a L) (hnil : a = none → c = 0) :
    Calls Try.prog 6 #[.slice a n c, .agg #[.int .i64 p, .int .i64 q]] w (AggPost (.bool true) w) := by
  by_cases hg : 10 < n
  · have hg' : decide ((n : Int) > 10) = true := decide_eq_true (by omega)
    clear hr hn
    go_enter Try.func6, Try.ntmps6
    go_wp2_with (go_at_call 17; refine (awake_any _).mono ?_; rintro e w1 ⟨rfl, hb1⟩)
    go_ret
    exact ⟨rfl, ((Below.refl w.heap.size w).alloc (Nat.le_refl _) _).trans (hb1.mono (by simp))⟩
  have hg' : decide ((n : Int) > 10) = false := decide_eq_false (by omega)
  have hn10 : n ≤ 10 := by omega
  have HLL := Lib.hid (show L.length ≤ 1000000 by omega)
  have HNL := Lib.hid hn
  have HR := Lib.hid hr
  have HOF := Lib.hid (fun (a : Option Addr) (c : Nat) (p q : Int) W (h : RowsAt 6 Pin.l W a L) => offsOf_any L a n c p q W hn h (by omega))
  have HCP := Lib.hid (fun (a : Option Addr) (c : Nat) W (h : RowsAt 6 Pin.l W a L) => checkPins_any L a n c W hn h (by omega))
  have HRC := Lib.hid (fun W (h : RowsAt 6 Pin.l W a L) => refCheckPins_any L a n c W hn h (by omega))
  have HER := Lib.hid (fun p q => show offsErr L p q = if pinsErr L ≠ 0 then pinsErr L else if inB p 0 (L.length - 1) = false ∨ inB q 0 (L.length - 1) = false then 6 else 0 from rfl)
  have HV := Lib.hid (fun p q => show offsV L p q = if offsErr L p q = 0 then offP (L.getD p.toNat noPin) (L.getD q.toNat noPin) else noPin from rfl)
  have HPO := Lib.hid (fun h => pins_ok (L := L) h)
  obtain ⟨e0, he0⟩ : ∃ e0, e0 = pinsErr L := ⟨_, rfl⟩
  rw [← he0] at HRC HER HPO HCP
  rw [← hn] at HER
  clear hg hr he0 hn
  have ho : ∀ (p q x0 x1 x2 x3 x4 x5 E : Int), offsV L p q = ⟨x0, x1, x2, x3, x4, x5⟩ → offsErr L p q = E → Hid (∀ (a : Option Addr) (c : Nat) (W : World), RowsAt 6 Pin.l W a L → Calls Try.prog 38 #[.slice a n c, .agg #[.int .i64 p, .int .i64 q]] W (fun e w' => e = .returned (.tuple #[.agg #[.int .i64 x0, .int .i64 x1, .int .i64 x2, .int .i64 x3, .int .i64 x4, .int .i64 x5], .int .i64 E]) ∧ Below W.heap.size W w')) :=
    fun p q x0 x1 x2 x3 x4 x5 E h1 h2 => Lib.hid (fun a c W h => by have h := HOF.out a c p q W h; rw [h1, h2] at h; exact h)
  have hz0 := fun W => eql_rg3 0 0 0 0 0 0 W
  by_cases h0 : e0 = 0
  · have HPS := Lib.hid (HPO.out h0)
    cases h1 : inB p 0 ((n : Int) - 1)
    · have hE1 : offsErr L p q = 6 := by rw [HER.out, if_neg (by simp [h0]), if_pos (Or.inl h1)]
      have hE2 : offsErr L q p = 6 := by rw [HER.out, if_neg (by simp [h0]), if_pos (Or.inr h1)]
      have HO1 := ho p q 0 0 0 0 0 0 6 (by rw [HV.out, if_neg (by rw [hE1]; decide)]; rfl) hE1
      have HO2 := ho q p 0 0 0 0 0 0 6 (by rw [HV.out, if_neg (by rw [hE2]; decide)]; rfl) hE2
      subst h0
      clear hE1 hE2 ho
      have ST2 : True := trivial
      have ST3 : True := trivial
      have ST4 : True := trivial
      have ST5 : True := trivial
      have ST6 : True := trivial
      go_enter Try.func6, Try.ntmps6
      go_wp2_with (first
        | (go_at_call 17; refine (awake_any _).mono ?_; rintro e w1 ⟨rfl, hb1⟩; have HB1 := Lib.hid (((Below.refl w.heap.size w).alloc (Nat.le_refl _) _).trans (hb1.mono (by simp))); have BP1 := Lib.hid ((BoxAt.new w #[.int .i64 p, .int .i64 q] 43).below hb1); clear hb1)
        | (at_builtin; have ST9 := ST2; clear ST9 ST2; refine appLm tPin pin_l _ rfl _ _ rfl w1.heap.size _ [] rfl (pins_made2 w1) a L n c HNL.out rfl ((HR.out.below HB1.out).alloc _) hnil (by simp) HLL.out (by simp) ?_; intro v2 w2 hO2 hg2 hb2 ho2; obtain ⟨a2, c2, e2, hr2, hc2, -⟩ := hO2.rows pin_l; rw [List.nil_append] at e2 hr2; rw [← HNL.out] at e2; subst e2; have hq2 := ((Below.refl _ w1).alloc (Nat.le_refl _) _).trans hb2; have HB2 := Lib.hid (HB1.out.trans (hq2.mono HB1.out.size)); have BP2 := Lib.hid (BP1.out.below hq2); have HR2 := Lib.hid hr2; have p0 : w2.cell? ⟨w.heap.size, 0, none⟩ = some (.int .i64 p) := BP2.out.cell 0; have p1 : w2.cell? ⟨w.heap.size, 1, none⟩ = some (.int .i64 q) := BP2.out.cell 1; have pl2 := BP2.out.lt; clear hO2 hg2 hb2 ho2 hr2 hc2 hq2)
        | (go_at_call 38; have ST9 := ST3; clear ST9 ST3; refine (HO1.out a2 c2 _ HR2.out).mono ?_; rintro e w3 ⟨rfl, hb3⟩; have HB3 := Lib.hid (HB2.out.trans (hb3.mono HB2.out.size)); have BP3 := Lib.hid (BP2.out.below hb3); have HR3 := Lib.hid (HR2.out.below hb3); have p0 : w3.cell? ⟨w.heap.size, 0, none⟩ = some (.int .i64 p) := BP3.out.cell 0; have p1 : w3.cell? ⟨w.heap.size, 1, none⟩ = some (.int .i64 q) := BP3.out.cell 1; have pl3 := BP3.out.lt; clear hb3)
        | (go_at_call 38; have ST9 := ST4; clear ST9 ST4; refine (HO2.out a2 c2 _ (HR3.out.alloc _)).mono ?_; rintro e w4 ⟨rfl, hb4⟩; have HB4 := Lib.hid ((HB3.out.alloc HB3.out.size _).trans (hb4.mono (by have := HB3.out.size; simp; omega))); have BP4 := Lib.hid ((BP3.out.alloc _).below hb4); have BX4 := Lib.hid ((BoxAt.new w3 #[.int .i64 0, .int .i64 0, .int .i64 0, .int .i64 0, .int .i64 0, .int .i64 0] 63).below hb4); have HR4 := Lib.hid ((HR3.out.alloc _).below hb4); clear hb4)
        | (go_at_call 39; have ST9 := ST5; clear ST9 ST5; refine (HRC.out _ ((HR.out.below HB4.out).alloc _)).mono ?_; rintro e w5 ⟨rfl, hb5⟩; have HB5 := Lib.hid ((HB4.out.alloc HB4.out.size _).trans (hb5.mono (by have := HB4.out.size; simp; omega))); have BP5 := Lib.hid ((BP4.out.alloc _).below hb5); have BX5 := Lib.hid ((BX4.out.alloc _).below hb5); have BY5 := Lib.hid ((BoxAt.new w4 #[.int .i64 0, .int .i64 0, .int .i64 0, .int .i64 0, .int .i64 0, .int .i64 0] 63).below hb5); have HR5 := Lib.hid ((HR4.out.alloc _).below hb5); clear hb5)
        | (go_at_call 40; have ST9 := ST6; clear ST9 ST6; refine (HCP.out a2 c2 _ HR5.out).mono ?_; rintro e w6 ⟨rfl, hb6⟩; have HB6 := Lib.hid (HB5.out.trans (hb6.mono HB5.out.size)); have BP6 := Lib.hid (BP5.out.below hb6); have BX6 := Lib.hid (BX5.out.below hb6); have BY6 := Lib.hid (BY5.out.below hb6); have p0 : w6.cell? ⟨w.heap.size, 0, none⟩ = some (.int .i64 p) := BP6.out.cell 0; have p1 : w6.cell? ⟨w.heap.size, 1, none⟩ = some (.int .i64 q) := BP6.out.cell 1; have pl6 := BP6.out.lt; have xx0 : w6.cell? ⟨w3.heap.size, 0, none⟩ = some (.int .i64 0) := BX6.out.cell 0; have yy0 : w6.cell? ⟨w4.heap.size, 0, none⟩ = some (.int .i64 0) := BY6.out.cell 0; have xx1 : w6.cell? ⟨w3.heap.size, 1, none⟩ = some (.int .i64 0) := BX6.out.cell 1; have yy1 : w6.cell? ⟨w4.heap.size, 1, none⟩ = some (.int .i64 0) := BY6.out.cell 1; have xx2 : w6.cell? ⟨w3.heap.size, 2, none⟩ = some (.int .i64 0) := BX6.out.cell 2; have yy2 : w6.cell? ⟨w4.heap.size, 2, none⟩ = some (.int .i64 0) := BY6.out.cell 2; have xx3 : w6.cell? ⟨w3.heap.size, 3, none⟩ = some (.int .i64 0) := BX6.out.cell 3; have yy3 : w6.cell? ⟨w4.heap.size, 3, none⟩ = some (.int .i64 0) := BY6.out.cell 3; have xx4 : w6.cell? ⟨w3.heap.size, 4, none⟩ = some (.int .i64 0) := BX6.out.cell 4; have yy4 : w6.cell? ⟨w4.heap.size, 4, none⟩ = some (.int .i64 0) := BY6.out.cell 4; have xx5 : w6.cell? ⟨w3.heap.size, 5, none⟩ = some (.int .i64 0) := BX6.out.cell 5; have yy5 : w6.cell? ⟨w4.heap.size, 5, none⟩ = some (.int .i64 0) := BY6.out.cell 5; have xl6 := BX6.out.lt; have yl6 := BY6.out.lt; clear hb6)
        | (go_at_call 30; refine (within_any _ _ _ _).mono ?_; rintro e w7 ⟨rfl, rfl⟩))
      go_ret
      exact ⟨rfl, HB6.out⟩
    cases h2 : inB q 0 ((n : Int) - 1)
    · have hE1 : offsErr L p q = 6 := by rw [HER.out, if_neg (by simp [h0]), if_pos (Or.inr h2)]
      have hE2 : offsErr L q p = 6 := by rw [HER.out, if_neg (by simp [h0]), if_pos (Or.inl h2)]
      have HO1 := ho p q 0 0 0 0 0 0 6 (by rw [HV.out, if_neg (by rw [hE1]; decide)]; rfl) hE1
      have HO2 := ho q p 0 0 0 0 0 0 6 (by rw [HV.out, if_neg (by rw [hE2]; decide)]; rfl) hE2
      subst h0
      clear hE1 hE2 ho
      have ST2 : True := trivial
      have ST3 : True := trivial
      have ST4 : True := trivial
      have ST5 : True := trivial
      have ST6 : True := trivial
      go_enter Try.func6, Try.ntmps6
      go_wp2_with (first
        | (go_at_call 17; refine (awake_any _).mono ?_; rintro e w1 ⟨rfl, hb1⟩; have HB1 := Lib.hid (((Below.refl w.heap.size w).alloc (Nat.le_refl _) _).trans (hb1.mono (by simp))); have BP1 := Lib.hid ((BoxAt.new w #[.int .i64 p, .int .i64 q] 43).below hb1); clear hb1)
        | (at_builtin; have ST9 := ST2; clear ST9 ST2; refine appLm tPin pin_l _ rfl _ _ rfl w1.heap.size _ [] rfl (pins_made2 w1) a L n c HNL.out rfl ((HR.out.below HB1.out).alloc _) hnil (by simp) HLL.out (by simp) ?_; intro v2 w2 hO2 hg2 hb2 ho2; obtain ⟨a2, c2, e2, hr2, hc2, -⟩ := hO2.rows pin_l; rw [List.nil_append] at e2 hr2; rw [← HNL.out] at e2; subst e2; have hq2 := ((Below.refl _ w1).alloc (Nat.le_refl _) _).trans hb2; have HB2 := Lib.hid (HB1.out.trans (hq2.mono HB1.out.size)); have BP2 := Lib.hid (BP1.out.below hq2); have HR2 := Lib.hid hr2; have p0 : w2.cell? ⟨w.heap.size, 0, none⟩ = some (.int .i64 p) := BP2.out.cell 0; have p1 : w2.cell? ⟨w.heap.size, 1, none⟩ = some (.int .i64 q) := BP2.out.cell 1; have pl2 := BP2.out.lt; clear hO2 hg2 hb2 ho2 hr2 hc2 hq2)
        | (go_at_call 38; have ST9 := ST3; clear ST9 ST3; refine (HO1.out a2 c2 _ HR2.out).mono ?_; rintro e w3 ⟨rfl, hb3⟩; have HB3 := Lib.hid (HB2.out.trans (hb3.mono HB2.out.size)); have BP3 := Lib.hid (BP2.out.below hb3); have HR3 := Lib.hid (HR2.out.below hb3); have p0 : w3.cell? ⟨w.heap.size, 0, none⟩ = some (.int .i64 p) := BP3.out.cell 0; have p1 : w3.cell? ⟨w.heap.size, 1, none⟩ = some (.int .i64 q) := BP3.out.cell 1; have pl3 := BP3.out.lt; clear hb3)
        | (go_at_call 38; have ST9 := ST4; clear ST9 ST4; refine (HO2.out a2 c2 _ (HR3.out.alloc _)).mono ?_; rintro e w4 ⟨rfl, hb4⟩; have HB4 := Lib.hid ((HB3.out.alloc HB3.out.size _).trans (hb4.mono (by have := HB3.out.size; simp; omega))); have BP4 := Lib.hid ((BP3.out.alloc _).below hb4); have BX4 := Lib.hid ((BoxAt.new w3 #[.int .i64 0, .int .i64 0, .int .i64 0, .int .i64 0, .int .i64 0, .int .i64 0] 63).below hb4); have HR4 := Lib.hid ((HR3.out.alloc _).below hb4); clear hb4)
        | (go_at_call 39; have ST9 := ST5; clear ST9 ST5; refine (HRC.out _ ((HR.out.below HB4.out).alloc _)).mono ?_; rintro e w5 ⟨rfl, hb5⟩; have HB5 := Lib.hid ((HB4.out.alloc HB4.out.size _).trans (hb5.mono (by have := HB4.out.size; simp; omega))); have BP5 := Lib.hid ((BP4.out.alloc _).below hb5); have BX5 := Lib.hid ((BX4.out.alloc _).below hb5); have BY5 := Lib.hid ((BoxAt.new w4 #[.int .i64 0, .int .i64 0, .int .i64 0, .int .i64 0, .int .i64 0, .int .i64 0] 63).below hb5); have HR5 := Lib.hid ((HR4.out.alloc _).below hb5); clear hb5)
        | (go_at_call 40; have ST9 := ST6; clear ST9 ST6; refine (HCP.out a2 c2 _ HR5.out).mono ?_; rintro e w6 ⟨rfl, hb6⟩; have HB6 := Lib.hid (HB5.out.trans (hb6.mono HB5.out.size)); have BP6 := Lib.hid (BP5.out.below hb6); have BX6 := Lib.hid (BX5.out.below hb6); have BY6 := Lib.hid (BY5.out.below hb6); have p0 : w6.cell? ⟨w.heap.size, 0, none⟩ = some (.int .i64 p) := BP6.out.cell 0; have p1 : w6.cell? ⟨w.heap.size, 1, none⟩ = some (.int .i64 q) := BP6.out.cell 1; have pl6 := BP6.out.lt; have xx0 : w6.cell? ⟨w3.heap.size, 0, none⟩ = some (.int .i64 0) := BX6.out.cell 0; have yy0 : w6.cell? ⟨w4.heap.size, 0, none⟩ = some (.int .i64 0) := BY6.out.cell 0; have xx1 : w6.cell? ⟨w3.heap.size, 1, none⟩ = some (.int .i64 0) := BX6.out.cell 1; have yy1 : w6.cell? ⟨w4.heap.size, 1, none⟩ = some (.int .i64 0) := BY6.out.cell 1; have xx2 : w6.cell? ⟨w3.heap.size, 2, none⟩ = some (.int .i64 0) := BX6.out.cell 2; have yy2 : w6.cell? ⟨w4.heap.size, 2, none⟩ = some (.int .i64 0) := BY6.out.cell 2; have xx3 : w6.cell? ⟨w3.heap.size, 3, none⟩ = some (.int .i64 0) := BX6.out.cell 3; have yy3 : w6.cell? ⟨w4.heap.size, 3, none⟩ = some (.int .i64 0) := BY6.out.cell 3; have xx4 : w6.cell? ⟨w3.heap.size, 4, none⟩ = some (.int .i64 0) := BX6.out.cell 4; have yy4 : w6.cell? ⟨w4.heap.size, 4, none⟩ = some (.int .i64 0) := BY6.out.cell 4; have xx5 : w6.cell? ⟨w3.heap.size, 5, none⟩ = some (.int .i64 0) := BX6.out.cell 5; have yy5 : w6.cell? ⟨w4.heap.size, 5, none⟩ = some (.int .i64 0) := BY6.out.cell 5; have xl6 := BX6.out.lt; have yl6 := BY6.out.lt; clear hb6)
        | (go_at_call 30; refine (within_any _ _ _ _).mono ?_; rintro e w7 ⟨rfl, rfl⟩))
      go_ret
      exact ⟨rfl, HB6.out⟩
    have hE1 : offsErr L p q = 0 := by rw [HER.out, if_neg (by simp [h0]), if_neg (by rw [h1, h2]; simp)]
    have hE2 : offsErr L q p = 0 := by rw [HER.out, if_neg (by simp [h0]), if_neg (by rw [h1, h2]; simp)]
    have g1 := inB_iff.1 h1
    have g2 := inB_iff.1 h2
    obtain ⟨pn, rfl⟩ : ∃ pn : Nat, p = pn := ⟨p.toNat, by omega⟩
    obtain ⟨qn, rfl⟩ : ∃ qn : Nat, q = qn := ⟨q.toNat, by omega⟩
    have hpn : pn < L.length := by have := HNL.out; omega
    have hqn : qn < L.length := by have := HNL.out; omega
    have hV1 : offsV L pn qn = offP L[pn] L[qn] := by rw [HV.out, if_pos hE1, Int.toNat_natCast, Int.toNat_natCast, pin_getD hpn, pin_getD hqn]
    have hV2 : offsV L qn pn = offP L[qn] L[pn] := by rw [HV.out, if_pos hE2, Int.toNat_natCast, Int.toNat_natCast, pin_getD hpn, pin_getD hqn]
    have hok1 := HPS.out.2 _ (List.getElem_mem hpn)
    have hok2 := HPS.out.2 _ (List.getElem_mem hqn)
    have HOR := Lib.hid (fun W => refOffset_any L[pn] L[qn] W hok1 hok2)
    obtain ⟨pa, hpa⟩ : ∃ x, x = L[pn] := ⟨_, rfl⟩
    obtain ⟨pb, hpb⟩ : ∃ x, x = L[qn] := ⟨_, rfl⟩
    rw [← hpa, ← hpb] at hV1 hV2 HOR
    have HPA := Lib.hid hpa; have HPB := Lib.hid hpb
    obtain ⟨a0, a1, a2', a3, a4, a5⟩ := pa
    obtain ⟨b0, b1, b2, b3, b4, b5⟩ := pb
    unfold offP at hV1 hV2
    unfold OffPost offP at HOR
    dsimp only at hV1 hV2 HOR
    have HO1 := ho pn qn _ _ _ _ _ _ 0 hV1 hE1
    have HO2 := ho qn pn _ _ _ _ _ _ 0 hV2 hE2
    subst h0
    have hpn' : (pn : Int) < n := by omega
    have hqn' : (qn : Int) < n := by omega
    have HHP := Lib.hid hpn; have HHQ := Lib.hid hqn
    clear hE1 hE2 ho hV1 hV2 hok1 hok2 hpa hpb g1 g2 HPO HV HER HOF
    have ST2 : True := trivial
    have ST3 : True := trivial
    have ST4 : True := trivial
    have ST5 : True := trivial
    have ST6 : True := trivial
    go_enter Try.func6, Try.ntmps6
    go_wp2_with (first
      | (go_at_call 17; refine (awake_any _).mono ?_; rintro e w1 ⟨rfl, hb1⟩; have HB1 := Lib.hid (((Below.refl w.heap.size w).alloc (Nat.le_refl _) _).trans (hb1.mono (by simp))); have BP1 := Lib.hid ((BoxAt.new w #[.int .i64 pn, .int .i64 qn] 43).below hb1); clear hb1)
      | (at_builtin; have ST9 := ST2; clear ST9 ST2; refine appLm tPin pin_l _ rfl _ _ rfl w1.heap.size _ [] rfl (pins_made2 w1) a L n c HNL.out rfl ((HR.out.below HB1.out).alloc _) hnil (by simp) HLL.out (by simp) ?_; intro v2 w2 hO2 hg2 hb2 ho2; obtain ⟨a2, c2, e2, hr2, hc2, -⟩ := hO2.rows pin_l; rw [List.nil_append] at e2 hr2; rw [← HNL.out] at e2; subst e2; have hq2 := ((Below.refl _ w1).alloc (Nat.le_refl _) _).trans hb2; have HB2 := Lib.hid (HB1.out.trans (hq2.mono HB1.out.size)); have BP2 := Lib.hid (BP1.out.below hq2); have HR2 := Lib.hid hr2; have p0 : w2.cell? ⟨w.heap.size, 0, none⟩ = some (.int .i64 pn) := BP2.out.cell 0; have p1 : w2.cell? ⟨w.heap.size, 1, none⟩ = some (.int .i64 qn) := BP2.out.cell 1; have pl2 := BP2.out.lt; clear hO2 hg2 hb2 ho2 hr2 hc2 hq2)
      | (go_at_call 38; have ST9 := ST3; clear ST9 ST3; refine (HO1.out a2 c2 _ HR2.out).mono ?_; rintro e w3 ⟨rfl, hb3⟩; have HB3 := Lib.hid (HB2.out.trans (hb3.mono HB2.out.size)); have BP3 := Lib.hid (BP2.out.below hb3); have HR3 := Lib.hid (HR2.out.below hb3); have p0 : w3.cell? ⟨w.heap.size, 0, none⟩ = some (.int .i64 pn) := BP3.out.cell 0; have p1 : w3.cell? ⟨w.heap.size, 1, none⟩ = some (.int .i64 qn) := BP3.out.cell 1; have pl3 := BP3.out.lt; clear hb3)
      | (go_at_call 38; have ST9 := ST4; clear ST9 ST4; refine (HO2.out a2 c2 _ (HR3.out.alloc _)).mono ?_; rintro e w4 ⟨rfl, hb4⟩; have HB4 := Lib.hid ((HB3.out.alloc HB3.out.size _).trans (hb4.mono (by have := HB3.out.size; simp; omega))); have BP4 := Lib.hid ((BP3.out.alloc _).below hb4); have BX4 := Lib.hid ((BoxAt.new w3 #[.int .i64 (a0 - b1), .int .i64 (a1 - b0), .int .i64 (a2' - b3), .int .i64 (a3 - b2), .int .i64 (a4 - b5), .int .i64 (a5 - b4)] 63).below hb4); have HR4 := Lib.hid ((HR3.out.alloc _).below hb4); clear hb4)
      | (go_at_call 39; have ST9 := ST5; clear ST9 ST5; refine (HRC.out _ ((HR.out.below HB4.out).alloc _)).mono ?_; rintro e w5 ⟨rfl, hb5⟩; have HB5 := Lib.hid ((HB4.out.alloc HB4.out.size _).trans (hb5.mono (by have := HB4.out.size; simp; omega))); have BP5 := Lib.hid ((BP4.out.alloc _).below hb5); have BX5 := Lib.hid ((BX4.out.alloc _).below hb5); have BY5 := Lib.hid ((BoxAt.new w4 #[.int .i64 (b0 - a1), .int .i64 (b1 - a0), .int .i64 (b2 - a3), .int .i64 (b3 - a2'), .int .i64 (b4 - a5), .int .i64 (b5 - a4)] 63).below hb5); have HR5 := Lib.hid ((HR4.out.alloc _).below hb5); clear hb5)
      | (go_at_call 40; have ST9 := ST6; clear ST9 ST6; refine (HCP.out a2 c2 _ HR5.out).mono ?_; rintro e w6 ⟨rfl, hb6⟩; have HB6 := Lib.hid (HB5.out.trans (hb6.mono HB5.out.size)); have BP6 := Lib.hid (BP5.out.below hb6); have BX6 := Lib.hid (BX5.out.below hb6); have BY6 := Lib.hid (BY5.out.below hb6); have p0 : w6.cell? ⟨w.heap.size, 0, none⟩ = some (.int .i64 pn) := BP6.out.cell 0; have p1 : w6.cell? ⟨w.heap.size, 1, none⟩ = some (.int .i64 qn) := BP6.out.cell 1; have pl6 := BP6.out.lt; have xx0 : w6.cell? ⟨w3.heap.size, 0, none⟩ = some (.int .i64 (a0 - b1)) := BX6.out.cell 0; have yy0 : w6.cell? ⟨w4.heap.size, 0, none⟩ = some (.int .i64 (b0 - a1)) := BY6.out.cell 0; have xx1 : w6.cell? ⟨w3.heap.size, 1, none⟩ = some (.int .i64 (a1 - b0)) := BX6.out.cell 1; have yy1 : w6.cell? ⟨w4.heap.size, 1, none⟩ = some (.int .i64 (b1 - a0)) := BY6.out.cell 1; have xx2 : w6.cell? ⟨w3.heap.size, 2, none⟩ = some (.int .i64 (a2' - b3)) := BX6.out.cell 2; have yy2 : w6.cell? ⟨w4.heap.size, 2, none⟩ = some (.int .i64 (b2 - a3)) := BY6.out.cell 2; have xx3 : w6.cell? ⟨w3.heap.size, 3, none⟩ = some (.int .i64 (a3 - b2)) := BX6.out.cell 3; have yy3 : w6.cell? ⟨w4.heap.size, 3, none⟩ = some (.int .i64 (b3 - a2')) := BY6.out.cell 3; have xx4 : w6.cell? ⟨w3.heap.size, 4, none⟩ = some (.int .i64 (a4 - b5)) := BX6.out.cell 4; have yy4 : w6.cell? ⟨w4.heap.size, 4, none⟩ = some (.int .i64 (b4 - a5)) := BY6.out.cell 4; have xx5 : w6.cell? ⟨w3.heap.size, 5, none⟩ = some (.int .i64 (a5 - b4)) := BX6.out.cell 5; have yy5 : w6.cell? ⟨w4.heap.size, 5, none⟩ = some (.int .i64 (b5 - a4)) := BY6.out.cell 5; have xl6 := BX6.out.lt; have yl6 := BY6.out.lt; clear hb6)
      | (go_at_call 30; refine (within_any _ _ _ _).mono ?_; rintro e w7 ⟨rfl, rfl⟩))
    obtain ⟨ad, ea, hpl, s0, s1, s2, s3, s4, s5⟩ := (HR.out.below HB6.out).pin HHP.out
    obtain ⟨ad2, eb, hql, u0, u1, u2, u3, u4, u5⟩ := (HR.out.below HB6.out).pin HHQ.out
    subst ea
    obtain rfl : ad = ad2 := Option.some.inj eb
    rw [← HPA.out] at s0 s1 s2 s3 s4 s5
    rw [← HPB.out] at u0 u1 u2 u3 u4 u5
    dsimp only at s0 s1 s2 s3 s4 s5 u0 u1 u2 u3 u4 u5
    clear eb
    have hneq := fun W => neq_rg3 (a0 - b1) (a1 - b0) (a2' - b3) (a3 - b2) (a4 - b5) (a5 - b4) W
    go_cut [102] from 82 to 101 (fun v102 wx => v102 = .bool false ∧ Below w6.heap.size w6 wx)
    case first =>
      rename_i J9 K1 hR9 hM9
      refine Code.wp_mono (Q := Exit.then K1 (fun _ _ _ => False)) (fun e a w h => by cases e <;> first | exact h | exact h.elim) ?_
      refine wp_region_held_drew (S := fun Z9 : World => Z9.cell? ⟨w.heap.size, 0, none⟩ = some (.int .i64 pn) ∧ Z9.cell? ⟨w.heap.size, 1, none⟩ = some (.int .i64 qn) ∧ Z9.cell? ⟨w3.heap.size, 0, none⟩ = some (.int .i64 (a0 - b1)) ∧ Z9.cell? ⟨w3.heap.size, 1, none⟩ = some (.int .i64 (a1 - b0)) ∧ Z9.cell? ⟨w3.heap.size, 2, none⟩ = some (.int .i64 (a2' - b3)) ∧ Z9.cell? ⟨w3.heap.size, 3, none⟩ = some (.int .i64 (a3 - b2)) ∧ Z9.cell? ⟨w3.heap.size, 4, none⟩ = some (.int .i64 (a4 - b5)) ∧ Z9.cell? ⟨w3.heap.size, 5, none⟩ = some (.int .i64 (a5 - b4)) ∧ Z9.cell? (ad.add (pn * 6)) = some (.int .i64 a0) ∧ Z9.cell? ⟨(ad.add (pn * 6)).block, (ad.add (pn * 6)).off + 1, none⟩ = some (.int .i64 a1) ∧ Z9.cell? ⟨(ad.add (pn * 6)).block, (ad.add (pn * 6)).off + 2, none⟩ = some (.int .i64 a2') ∧ Z9.cell? ⟨(ad.add (pn * 6)).block, (ad.add (pn * 6)).off + 3, none⟩ = some (.int .i64 a3) ∧ Z9.cell? ⟨(ad.add (pn * 6)).block, (ad.add (pn * 6)).off + 4, none⟩ = some (.int .i64 a4) ∧ Z9.cell? ⟨(ad.add (pn * 6)).block, (ad.add (pn * 6)).off + 5, none⟩ = some (.int .i64 a5) ∧ Z9.cell? (ad.add (qn * 6)) = some (.int .i64 b0) ∧ Z9.cell? ⟨(ad.add (qn * 6)).block, (ad.add (qn * 6)).off + 1, none⟩ = some (.int .i64 b1) ∧ Z9.cell? ⟨(ad.add (qn * 6)).block, (ad.add (qn * 6)).off + 2, none⟩ = some (.int .i64 b2) ∧ Z9.cell? ⟨(ad.add (qn * 6)).block, (ad.add (qn * 6)).off + 3, none⟩ = some (.int .i64 b3) ∧ Z9.cell? ⟨(ad.add (qn * 6)).block, (ad.add (qn * 6)).off + 4, none⟩ = some (.int .i64 b4) ∧ Z9.cell? ⟨(ad.add (qn * 6)).block, (ad.add (qn * 6)).off + 5, none⟩ = some (.int .i64 b5)) (by kernel_rfl) ⟨p0, p1, xx0, xx1, xx2, xx3, xx4, xx5, s0, s1, s2, s3, s4, s5, u0, u1, u2, u3, u4, u5⟩ (fun hSS => ?_)
      refine takeL (i := 0) (v := .int .i64 0) rfl (by kernel_rfl) (by kernel_rfl) (by kernel_rfl) (fun _ _ _ h => h.elim) (Or.inl ⟨by rfl, fun V9 h9 => by dsimp only at h9; go_simp⟩) hSS ?_
      try simp only [Act.put, List.setIfInBounds_toArray, List.set_cons_zero, List.set_cons_succ]
      refine takeL (i := 1) (v := .bool false) rfl (by kernel_rfl) (by kernel_rfl) (by kernel_rfl) (fun _ _ _ h => h.elim) (Or.inl ⟨by rfl, fun V9 h9 => by dsimp only at h9; go_simp⟩) hSS ?_
      try simp only [Act.put, List.setIfInBounds_toArray, List.set_cons_zero, List.set_cons_succ]
      refine takeL (i := 2) (v := .bool false) rfl (by kernel_rfl) (by kernel_rfl) (by kernel_rfl) (fun _ _ _ h => h.elim) (Or.inl ⟨by rfl, fun V9 h9 => by dsimp only at h9; go_simp⟩) hSS ?_
      try simp only [Act.put, List.setIfInBounds_toArray, List.set_cons_zero, List.set_cons_succ]
      refine takeL (i := 3) (v := .int .i64 0) rfl (by kernel_rfl) (by kernel_rfl) (by kernel_rfl) (fun _ _ _ h => h.elim) (Or.inl ⟨by rfl, fun V9 h9 => by dsimp only at h9; go_simp⟩) hSS ?_
      try simp only [Act.put, List.setIfInBounds_toArray, List.set_cons_zero, List.set_cons_succ]
      refine takeL (i := 4) (v := .bool false) rfl (by kernel_rfl) (by kernel_rfl) (by kernel_rfl) (fun _ _ _ h => h.elim) (Or.inl ⟨by rfl, fun V9 h9 => by dsimp only at h9; go_simp⟩) hSS ?_
      try simp only [Act.put, List.setIfInBounds_toArray, List.set_cons_zero, List.set_cons_succ]
      refine takeL (i := 5) (v := .bool false) rfl (by kernel_rfl) (by kernel_rfl) (by kernel_rfl) (fun _ _ _ h => h.elim) (Or.inl ⟨by rfl, fun V9 h9 => by dsimp only at h9; go_simp⟩) hSS ?_
      try simp only [Act.put, List.setIfInBounds_toArray, List.set_cons_zero, List.set_cons_succ]
      refine takeL (i := 6) (v := .bool false) rfl (by kernel_rfl) (by kernel_rfl) (by kernel_rfl) (fun _ _ _ h => h.elim) (Or.inl ⟨by rfl, fun V9 h9 => by dsimp only at h9; go_simp⟩) hSS ?_
      try simp only [Act.put, List.setIfInBounds_toArray, List.set_cons_zero, List.set_cons_succ]
      refine takeL (i := 7) (v := .agg #[.int .i64 (a0 - b1), .int .i64 (a1 - b0), .int .i64 (a2' - b3), .int .i64 (a3 - b2), .int .i64 (a4 - b5), .int .i64 (a5 - b4)]) rfl (by kernel_rfl) (by kernel_rfl) (by kernel_rfl) (fun _ _ _ h => h.elim) (Or.inl ⟨by rfl, fun V9 h9 => by dsimp only at h9; go_simp⟩) hSS ?_
      try simp only [Act.put, List.setIfInBounds_toArray, List.set_cons_zero, List.set_cons_succ]
      refine takeL (i := 8) (v := .slice (some ad) n c) rfl (by kernel_rfl) (by kernel_rfl) (by kernel_rfl) (fun _ _ _ h => h.elim) (Or.inl ⟨by rfl, fun V9 h9 => by dsimp only at h9; go_simp⟩) hSS ?_
      try simp only [Act.put, List.setIfInBounds_toArray, List.set_cons_zero, List.set_cons_succ]
      refine takeL (i := 9) (v := .pointer (some ⟨w.heap.size, 0, none⟩)) rfl (by kernel_rfl) (by kernel_rfl) (by kernel_rfl) (fun _ _ _ h => h.elim) (Or.inl ⟨by rfl, fun V9 h9 => by dsimp only at h9; go_simp⟩) hSS ?_
      try simp only [Act.put, List.setIfInBounds_toArray, List.set_cons_zero, List.set_cons_succ]
      refine takeL (i := 10) (v := .int .i64 pn) rfl (by kernel_rfl) (by kernel_rfl) (by kernel_rfl) (fun _ _ _ h => h.elim) (Or.inl ⟨by rfl, fun V9 h9 => by dsimp only at h9; go_simp⟩) hSS ?_
      try simp only [Act.put, List.setIfInBounds_toArray, List.set_cons_zero, List.set_cons_succ]
      refine takeL (i := 11) (v := .pointer (some (ad.add (pn * 6)))) rfl (by kernel_rfl) (by kernel_rfl) (by kernel_rfl) (fun _ _ _ h => h.elim) (Or.inl ⟨by rfl, fun V9 h9 => by dsimp only at h9; go_simp⟩) hSS ?_
      try simp only [Act.put, List.setIfInBounds_toArray, List.set_cons_zero, List.set_cons_succ]
      refine takeL (i := 12) (v := .agg #[.int .i64 a0, .int .i64 a1, .int .i64 a2', .int .i64 a3, .int .i64 a4, .int .i64 a5]) rfl (by kernel_rfl) (by kernel_rfl) (by kernel_rfl) (fun _ _ _ h => h.elim) (Or.inl ⟨by rfl, fun V9 h9 => by dsimp only at h9; go_simp⟩) hSS ?_
      try simp only [Act.put, List.setIfInBounds_toArray, List.set_cons_zero, List.set_cons_succ]
      refine takeL (i := 13) (v := .slice (some ad) n c) rfl (by kernel_rfl) (by kernel_rfl) (by kernel_rfl) (fun _ _ _ h => h.elim) (Or.inl ⟨by rfl, fun V9 h9 => by dsimp only at h9; go_simp⟩) hSS ?_
      try simp only [Act.put, List.setIfInBounds_toArray, List.set_cons_zero, List.set_cons_succ]
      refine takeL (i := 14) (v := .pointer (some ⟨w.heap.size, 1, none⟩)) rfl (by kernel_rfl) (by kernel_rfl) (by kernel_rfl) (fun _ _ _ h => h.elim) (Or.inl ⟨by rfl, fun V9 h9 => by dsimp only at h9; go_simp⟩) hSS ?_
      try simp only [Act.put, List.setIfInBounds_toArray, List.set_cons_zero, List.set_cons_succ]
      refine takeL (i := 15) (v := .int .i64 qn) rfl (by kernel_rfl) (by kernel_rfl) (by kernel_rfl) (fun _ _ _ h => h.elim) (Or.inl ⟨by rfl, fun V9 h9 => by dsimp only at h9; go_simp⟩) hSS ?_
      try simp only [Act.put, List.setIfInBounds_toArray, List.set_cons_zero, List.set_cons_succ]
      refine takeL (i := 16) (v := .pointer (some (ad.add (qn * 6)))) rfl (by kernel_rfl) (by kernel_rfl) (by kernel_rfl) (fun _ _ _ h => h.elim) (Or.inl ⟨by rfl, fun V9 h9 => by dsimp only at h9; go_simp⟩) hSS ?_
      try simp only [Act.put, List.setIfInBounds_toArray, List.set_cons_zero, List.set_cons_succ]
      refine takeL (i := 17) (v := .agg #[.int .i64 b0, .int .i64 b1, .int .i64 b2, .int .i64 b3, .int .i64 b4, .int .i64 b5]) rfl (by kernel_rfl) (by kernel_rfl) (by kernel_rfl) (fun _ _ _ h => h.elim) (Or.inl ⟨by rfl, fun V9 h9 => by dsimp only at h9; go_simp⟩) hSS ?_
      try simp only [Act.put, List.setIfInBounds_toArray, List.set_cons_zero, List.set_cons_succ]
      refine wpAnyH_ready (rs := [18]) (by kernel_rfl) (by simp) (consL rfl (fun K9 hK9 => ?_) AllReadyH.nil)
      go_simp
      refine (HOR.out _).mono ?_
      rintro e w8 ⟨rfl, hb8⟩
      have hb9 : Below w6.heap.size w6 w8 := (Below.refl _ _).drew.trans hb8
      have hS9 : (fun Z9 : World => Z9.cell? ⟨w.heap.size, 0, none⟩ = some (.int .i64 pn) ∧ Z9.cell? ⟨w.heap.size, 1, none⟩ = some (.int .i64 qn) ∧ Z9.cell? ⟨w3.heap.size, 0, none⟩ = some (.int .i64 (a0 - b1)) ∧ Z9.cell? ⟨w3.heap.size, 1, none⟩ = some (.int .i64 (a1 - b0)) ∧ Z9.cell? ⟨w3.heap.size, 2, none⟩ = some (.int .i64 (a2' - b3)) ∧ Z9.cell? ⟨w3.heap.size, 3, none⟩ = some (.int .i64 (a3 - b2)) ∧ Z9.cell? ⟨w3.heap.size, 4, none⟩ = some (.int .i64 (a4 - b5)) ∧ Z9.cell? ⟨w3.heap.size, 5, none⟩ = some (.int .i64 (a5 - b4)) ∧ Z9.cell? (ad.add (pn * 6)) = some (.int .i64 a0) ∧ Z9.cell? ⟨(ad.add (pn * 6)).block, (ad.add (pn * 6)).off + 1, none⟩ = some (.int .i64 a1) ∧ Z9.cell? ⟨(ad.add (pn * 6)).block, (ad.add (pn * 6)).off + 2, none⟩ = some (.int .i64 a2') ∧ Z9.cell? ⟨(ad.add (pn * 6)).block, (ad.add (pn * 6)).off + 3, none⟩ = some (.int .i64 a3) ∧ Z9.cell? ⟨(ad.add (pn * 6)).block, (ad.add (pn * 6)).off + 4, none⟩ = some (.int .i64 a4) ∧ Z9.cell? ⟨(ad.add (pn * 6)).block, (ad.add (pn * 6)).off + 5, none⟩ = some (.int .i64 a5) ∧ Z9.cell? (ad.add (qn * 6)) = some (.int .i64 b0) ∧ Z9.cell? ⟨(ad.add (qn * 6)).block, (ad.add (qn * 6)).off + 1, none⟩ = some (.int .i64 b1) ∧ Z9.cell? ⟨(ad.add (qn * 6)).block, (ad.add (qn * 6)).off + 2, none⟩ = some (.int .i64 b2) ∧ Z9.cell? ⟨(ad.add (qn * 6)).block, (ad.add (qn * 6)).off + 3, none⟩ = some (.int .i64 b3) ∧ Z9.cell? ⟨(ad.add (qn * 6)).block, (ad.add (qn * 6)).off + 4, none⟩ = some (.int .i64 b4) ∧ Z9.cell? ⟨(ad.add (qn * 6)).block, (ad.add (qn * 6)).off + 5, none⟩ = some (.int .i64 b5)) w8 := ⟨(hb9.cell (p := ⟨w.heap.size, 0, none⟩) pl6).trans p0, (hb9.cell (p := ⟨w.heap.size, 1, none⟩) pl6).trans p1, (hb9.cell (p := ⟨w3.heap.size, 0, none⟩) xl6).trans xx0, (hb9.cell (p := ⟨w3.heap.size, 1, none⟩) xl6).trans xx1, (hb9.cell (p := ⟨w3.heap.size, 2, none⟩) xl6).trans xx2, (hb9.cell (p := ⟨w3.heap.size, 3, none⟩) xl6).trans xx3, (hb9.cell (p := ⟨w3.heap.size, 4, none⟩) xl6).trans xx4, (hb9.cell (p := ⟨w3.heap.size, 5, none⟩) xl6).trans xx5, (hb9.cell (p := (ad.add (pn * 6))) hpl).trans s0, (hb9.cell (p := ⟨(ad.add (pn * 6)).block, (ad.add (pn * 6)).off + 1, none⟩) hpl).trans s1, (hb9.cell (p := ⟨(ad.add (pn * 6)).block, (ad.add (pn * 6)).off + 2, none⟩) hpl).trans s2, (hb9.cell (p := ⟨(ad.add (pn * 6)).block, (ad.add (pn * 6)).off + 3, none⟩) hpl).trans s3, (hb9.cell (p := ⟨(ad.add (pn * 6)).block, (ad.add (pn * 6)).off + 4, none⟩) hpl).trans s4, (hb9.cell (p := ⟨(ad.add (pn * 6)).block, (ad.add (pn * 6)).off + 5, none⟩) hpl).trans s5, (hb9.cell (p := (ad.add (qn * 6))) hql).trans u0, (hb9.cell (p := ⟨(ad.add (qn * 6)).block, (ad.add (qn * 6)).off + 1, none⟩) hql).trans u1, (hb9.cell (p := ⟨(ad.add (qn * 6)).block, (ad.add (qn * 6)).off + 2, none⟩) hql).trans u2, (hb9.cell (p := ⟨(ad.add (qn * 6)).block, (ad.add (qn * 6)).off + 3, none⟩) hql).trans u3, (hb9.cell (p := ⟨(ad.add (qn * 6)).block, (ad.add (qn * 6)).off + 4, none⟩) hql).trans u4, (hb9.cell (p := ⟨(ad.add (qn * 6)).block, (ad.add (qn * 6)).off + 5, none⟩) hql).trans u5⟩
      refine hK9.out _ _ hS9 (fun _ => ?_)
      clear hK9 K9 hSS
      try simp only [Act.put, List.setIfInBounds_toArray, List.set_cons_zero, List.set_cons_succ]
      refine takeL (i := 19) (v := .bool false) rfl (by kernel_rfl) (by kernel_rfl) (by kernel_rfl) (fun _ _ _ h => h.elim) (Or.inl ⟨by rfl, fun V9 h9 => by dsimp only at h9; go_simp⟩) hS9 ?_
      try simp only [Act.put, List.setIfInBounds_toArray, List.set_cons_zero, List.set_cons_succ]
      refine takeL (i := 20) (v := .bool false) rfl (by kernel_rfl) (by kernel_rfl) (by kernel_rfl) (fun _ _ _ h => h.elim) (Or.inl ⟨by rfl, fun V9 h9 => by dsimp only at h9; go_simp⟩) hS9 ?_
      try simp only [Act.put, List.setIfInBounds_toArray, List.set_cons_zero, List.set_cons_succ]
      refine wpAnyH_done (by kernel_rfl) ?_ _
      refine hM9 _ _ ?_
      go_meet
      exact ⟨rfl, hb9⟩
    case rest =>
      obtain ⟨rfl, hbw⟩ := hcut
      have HBC := Lib.hid (HB6.out.trans (hbw.mono HB6.out.size))
      have HXC := Lib.hid (BX6.out.below hbw)
      have HYC := Lib.hid (BY6.out.below hbw)
      have hka := pin_ok_at HPS.out.2 HPA.out HHP.out
      have hkb := pin_ok_at HPS.out.2 HPB.out HHQ.out
      unfold PinOk at hka hkb
      dsimp only at hka hkb
      obtain ⟨⟨ha0, ha1, ha2⟩, ⟨ha3, ha4, ha5⟩, ⟨ha6, ha7, ha8⟩⟩ := hka
      obtain ⟨⟨hb0, hb1, hb2⟩, ⟨hb3, hb4, hb5⟩, ⟨hb6, hb7, hb8⟩⟩ := hkb
      clear hbw p0 p1 pl2 pl3 pl6 hpl hql s0 s1 s2 s3 s4 s5 u0 u1 u2 u3 u4 u5 hneq hz0 xx0 yy0 xx1 yy1 xx2 yy2 xx3 yy3 xx4 yy4 xx5 yy5
      go_wp2
      go_loopw [11] (fun i wr => ∃ t : Nat, (t = 0 ∨ t = 1 ∨ t = 2 ∨ t = 3) ∧ i = .int .i64 t ∧ Below wc.heap.size wc wr) (fun i _ => 3 - (intOf i).toNat)
      case atStart => exact ⟨0, Or.inl rfl, rfl, Below.refl _ _⟩
      case round =>
        obtain ⟨t, ht, rfl, hB⟩ := hrel
        have HB := Lib.hid hB
        have hxc := HXC.out.below hB
        have hyc := HYC.out.below hB
        have hxl := hxc.lt
        have hyl := hyc.lt
        have xx0 : wr.cell? ⟨w3.heap.size, 0, none⟩ = some (.int .i64 (a0 - b1)) := hxc.cell 0
        have yy0 : wr.cell? ⟨w4.heap.size, 0, none⟩ = some (.int .i64 (b0 - a1)) := hyc.cell 0
        have xx1 : wr.cell? ⟨w3.heap.size, 1, none⟩ = some (.int .i64 (a1 - b0)) := hxc.cell 1
        have yy1 : wr.cell? ⟨w4.heap.size, 1, none⟩ = some (.int .i64 (b1 - a0)) := hyc.cell 1
        have xx2 : wr.cell? ⟨w3.heap.size, 2, none⟩ = some (.int .i64 (a2' - b3)) := hxc.cell 2
        have yy2 : wr.cell? ⟨w4.heap.size, 2, none⟩ = some (.int .i64 (b2 - a3)) := hyc.cell 2
        have xx3 : wr.cell? ⟨w3.heap.size, 3, none⟩ = some (.int .i64 (a3 - b2)) := hxc.cell 3
        have yy3 : wr.cell? ⟨w4.heap.size, 3, none⟩ = some (.int .i64 (b3 - a2')) := hyc.cell 3
        have xx4 : wr.cell? ⟨w3.heap.size, 4, none⟩ = some (.int .i64 (a4 - b5)) := hxc.cell 4
        have yy4 : wr.cell? ⟨w4.heap.size, 4, none⟩ = some (.int .i64 (b4 - a5)) := hyc.cell 4
        have xx5 : wr.cell? ⟨w3.heap.size, 5, none⟩ = some (.int .i64 (a5 - b4)) := hxc.cell 5
        have yy5 : wr.cell? ⟨w4.heap.size, 5, none⟩ = some (.int .i64 (b5 - a4)) := hyc.cell 5
        clear hB hxc hyc
        rcases ht with rfl | rfl | rfl | rfl
        · have e1 : ((b0 - a1) != -(a1 - b0)) = false := by simp; omega
          have e2 : ((b1 - a0) != -(a0 - b1)) = false := by simp; omega
          go_wp2
          go_quiet (fail)
          go_wp2
          go_roundw
          case rel => exact ⟨1, Or.inr (Or.inl rfl), by go_num, below_drewN HB.out _⟩
          case measure => simp [intOf] <;> omega
        · have e1 : ((b2 - a3) != -(a3 - b2)) = false := by simp; omega
          have e2 : ((b3 - a2') != -(a2' - b3)) = false := by simp; omega
          go_wp2
          go_quiet (fail)
          go_wp2
          go_roundw
          case rel => exact ⟨2, Or.inr (Or.inr (Or.inl rfl)), by go_num, below_drewN HB.out _⟩
          case measure => simp [intOf] <;> omega
        · have e1 : ((b4 - a5) != -(a5 - b4)) = false := by simp; omega
          have e2 : ((b5 - a4) != -(a4 - b5)) = false := by simp; omega
          go_wp2
          go_quiet (fail)
          go_wp2
          go_roundw
          case rel => exact ⟨3, Or.inr (Or.inr (Or.inr rfl)), by go_num, below_drewN HB.out _⟩
          case measure => simp [intOf] <;> omega
        · clear xx0 yy0 xx1 yy1 xx2 yy2 xx3 yy3 xx4 yy4 xx5 yy5
          go_wp2
          go_ret
          exact ⟨rfl, HBC.out.trans (HB.out.mono HBC.out.size)⟩
  · have hE1 : offsErr L p q = e0 := by rw [HER.out, if_pos h0]
    have hE2 : offsErr L q p = e0 := by rw [HER.out, if_pos h0]
    have HO1 := ho p q 0 0 0 0 0 0 e0 (by rw [HV.out, if_neg (by rw [hE1]; exact h0)]; rfl) hE1
    have HO2 := ho q p 0 0 0 0 0 0 e0 (by rw [HV.out, if_neg (by rw [hE2]; exact h0)]; rfl) hE2
    have h0' : (e0 == 0) = false := by simpa using h0
    have h0n : (e0 != 0) = true := by simpa using h0
    clear hE1 hE2 ho h0
    have ST2 : True := trivial
    have ST3 : True := trivial
    have ST4 : True := trivial
    have ST5 : True := trivial
    have ST6 : True := trivial
    go_enter Try.func6, Try.ntmps6
    go_wp2_with (first
      | (go_at_call 17; refine (awake_any _).mono ?_; rintro e w1 ⟨rfl, hb1⟩; have HB1 := Lib.hid (((Below.refl w.heap.size w).alloc (Nat.le_refl _) _).trans (hb1.mono (by simp))); have BP1 := Lib.hid ((BoxAt.new w #[.int .i64 p, .int .i64 q] 43).below hb1); clear hb1)
      | (at_builtin; have ST9 := ST2; clear ST9 ST2; refine appLm tPin pin_l _ rfl _ _ rfl w1.heap.size _ [] rfl (pins_made2 w1) a L n c HNL.out rfl ((HR.out.below HB1.out).alloc _) hnil (by simp) HLL.out (by simp) ?_; intro v2 w2 hO2 hg2 hb2 ho2; obtain ⟨a2, c2, e2, hr2, hc2, -⟩ := hO2.rows pin_l; rw [List.nil_append] at e2 hr2; rw [← HNL.out] at e2; subst e2; have hq2 := ((Below.refl _ w1).alloc (Nat.le_refl _) _).trans hb2; have HB2 := Lib.hid (HB1.out.trans (hq2.mono HB1.out.size)); have BP2 := Lib.hid (BP1.out.below hq2); have HR2 := Lib.hid hr2; have p0 : w2.cell? ⟨w.heap.size, 0, none⟩ = some (.int .i64 p) := BP2.out.cell 0; have p1 : w2.cell? ⟨w.heap.size, 1, none⟩ = some (.int .i64 q) := BP2.out.cell 1; have pl2 := BP2.out.lt; clear hO2 hg2 hb2 ho2 hr2 hc2 hq2)
      | (go_at_call 38; have ST9 := ST3; clear ST9 ST3; refine (HO1.out a2 c2 _ HR2.out).mono ?_; rintro e w3 ⟨rfl, hb3⟩; have HB3 := Lib.hid (HB2.out.trans (hb3.mono HB2.out.size)); have BP3 := Lib.hid (BP2.out.below hb3); have HR3 := Lib.hid (HR2.out.below hb3); have p0 : w3.cell? ⟨w.heap.size, 0, none⟩ = some (.int .i64 p) := BP3.out.cell 0; have p1 : w3.cell? ⟨w.heap.size, 1, none⟩ = some (.int .i64 q) := BP3.out.cell 1; have pl3 := BP3.out.lt; clear hb3)
      | (go_at_call 38; have ST9 := ST4; clear ST9 ST4; refine (HO2.out a2 c2 _ (HR3.out.alloc _)).mono ?_; rintro e w4 ⟨rfl, hb4⟩; have HB4 := Lib.hid ((HB3.out.alloc HB3.out.size _).trans (hb4.mono (by have := HB3.out.size; simp; omega))); have BP4 := Lib.hid ((BP3.out.alloc _).below hb4); have BX4 := Lib.hid ((BoxAt.new w3 #[.int .i64 0, .int .i64 0, .int .i64 0, .int .i64 0, .int .i64 0, .int .i64 0] 63).below hb4); have HR4 := Lib.hid ((HR3.out.alloc _).below hb4); clear hb4)
      | (go_at_call 39; have ST9 := ST5; clear ST9 ST5; refine (HRC.out _ ((HR.out.below HB4.out).alloc _)).mono ?_; rintro e w5 ⟨rfl, hb5⟩; have HB5 := Lib.hid ((HB4.out.alloc HB4.out.size _).trans (hb5.mono (by have := HB4.out.size; simp; omega))); have BP5 := Lib.hid ((BP4.out.alloc _).below hb5); have BX5 := Lib.hid ((BX4.out.alloc _).below hb5); have BY5 := Lib.hid ((BoxAt.new w4 #[.int .i64 0, .int .i64 0, .int .i64 0, .int .i64 0, .int .i64 0, .int .i64 0] 63).below hb5); have HR5 := Lib.hid ((HR4.out.alloc _).below hb5); clear hb5)
      | (go_at_call 40; have ST9 := ST6; clear ST9 ST6; refine (HCP.out a2 c2 _ HR5.out).mono ?_; rintro e w6 ⟨rfl, hb6⟩; have HB6 := Lib.hid (HB5.out.trans (hb6.mono HB5.out.size)); have BP6 := Lib.hid (BP5.out.below hb6); have BX6 := Lib.hid (BX5.out.below hb6); have BY6 := Lib.hid (BY5.out.below hb6); have p0 : w6.cell? ⟨w.heap.size, 0, none⟩ = some (.int .i64 p) := BP6.out.cell 0; have p1 : w6.cell? ⟨w.heap.size, 1, none⟩ = some (.int .i64 q) := BP6.out.cell 1; have pl6 := BP6.out.lt; have xx0 : w6.cell? ⟨w3.heap.size, 0, none⟩ = some (.int .i64 0) := BX6.out.cell 0; have yy0 : w6.cell? ⟨w4.heap.size, 0, none⟩ = some (.int .i64 0) := BY6.out.cell 0; have xx1 : w6.cell? ⟨w3.heap.size, 1, none⟩ = some (.int .i64 0) := BX6.out.cell 1; have yy1 : w6.cell? ⟨w4.heap.size, 1, none⟩ = some (.int .i64 0) := BY6.out.cell 1; have xx2 : w6.cell? ⟨w3.heap.size, 2, none⟩ = some (.int .i64 0) := BX6.out.cell 2; have yy2 : w6.cell? ⟨w4.heap.size, 2, none⟩ = some (.int .i64 0) := BY6.out.cell 2; have xx3 : w6.cell? ⟨w3.heap.size, 3, none⟩ = some (.int .i64 0) := BX6.out.cell 3; have yy3 : w6.cell? ⟨w4.heap.size, 3, none⟩ = some (.int .i64 0) := BY6.out.cell 3; have xx4 : w6.cell? ⟨w3.heap.size, 4, none⟩ = some (.int .i64 0) := BX6.out.cell 4; have yy4 : w6.cell? ⟨w4.heap.size, 4, none⟩ = some (.int .i64 0) := BY6.out.cell 4; have xx5 : w6.cell? ⟨w3.heap.size, 5, none⟩ = some (.int .i64 0) := BX6.out.cell 5; have yy5 : w6.cell? ⟨w4.heap.size, 5, none⟩ = some (.int .i64 0) := BY6.out.cell 5; have xl6 := BX6.out.lt; have yl6 := BY6.out.lt; clear hb6)
      | (go_at_call 30; refine (within_any _ _ _ _).mono ?_; rintro e w7 ⟨rfl, rfl⟩))
    go_ret
    exact ⟨rfl, HB6.out⟩
end Go.Proofs.Ytpplcbpnojggcaa
