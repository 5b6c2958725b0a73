/-
  PressRegister: the walk of the law.
-/
import Derived.Test.YtpplcbpnojggcaaGP
import Derived.Test.YtpplcbpnojggcaaGE
namespace Go.Proofs.Ytpplcbpnojggcaa
open Go.RowKit Go.Maps Go.Shelf

theorem agr_mono {lo hi m m' : Int} (h : m ≤ m') : agr lo hi m ≤ agr lo hi m' := by
  have h2 := agr_bd lo hi m'
  by_cases p1 : m < lo ∨ hi < -m
  · rw [show agr lo hi m = 0 by unfold agr; rw [if_pos p1]]; omega
  · have p1' : ¬ (m' < lo ∨ hi < -m') := by omega
    by_cases p2 : -m ≤ lo ∧ hi ≤ m
    · rw [show agr lo hi m = 2 by unfold agr; rw [if_neg p1, if_pos p2], show agr lo hi m' = 2 by unfold agr; rw [if_neg p1', if_pos (by omega)]]
      omega
    · rw [show agr lo hi m = 1 by unfold agr; rw [if_neg p1, if_neg p2]]
      unfold agr; rw [if_neg p1']
      split <;> omega
theorem agP_mono {d : Pin} {m m' : Int} (h : m ≤ m') : agP d m ≤ agP d m' := by
  have h1 := agr_mono (lo := d.c0) (hi := d.c1) h; have h2 := agr_mono (lo := d.r0) (hi := d.r1) h; have h3 := agr_mono (lo := d.t0) (hi := d.t1) h
  unfold agP; omega
theorem rowM_mono {a : Pin} {m m' : Int} (h : m ≤ m') : ∀ L, rowM a m L ≤ rowM a m' L
  | [] => Int.le_refl _
  | b :: L => by
    have h1 := rowM_mono (a := a) h L; have h2 := agP_mono (d := offP a b) h
    unfold rowM; omega
theorem totM_mono {m m' : Int} (h : m ≤ m') : ∀ L, totM m L ≤ totM m' L
  | [] => Int.le_refl _
  | a :: L => by
    have h1 := totM_mono h L; have h2 := rowM_mono (a := a) h L
    unfold totM; omega
theorem appLn {α : Type} {n by_ : Nat} {ST E : TypeId} {z : Value} {g : α → List Int} (T : ElT n by_ ST E z) (hg : ∀ x, (g x).length = n) {ops : Array Oper} {rest : List Oper} {o : Oper} {a : Act} {Q : Exit → Act → World → Prop} (w : World) (hgd : o.guard = none) (s xo : Operand)
    (ho : o.op = .call { callee := .builtin .append, args := #[s, xo], argTypes := #[ST, ST] }) (B : Nat) (v : Value) (L : List α) (hs : a.eval s = v) (hown : OwnR n E g w B v L)
    (b : Option Addr) (M : List α) (m c : Nat) (hm : m = M.length) (hx : a.eval xo = .slice b m c) (hM : RowsAt n g w b M) (hbc : b = none → c = 0) (hl : L.length ≤ 1000000) (hl2 : M.length ≤ 1000000) (hB : B ≤ w.heap.size)
    (h : ∀ v' w', OwnR n E g w' B v' (L ++ M) → w.grownBy w' v.ownBlock → Below B w w' → (v'.ownBlock = v.ownBlock ∨ v'.ownBlock = some w.heap.size) → wpList Try.prog ops Q rest (a.put o.dst v') w') :
    wpList Try.prog ops Q (o :: rest) a w := by
  subst hm; exact wpList_appL T hg w hgd s xo ho B v L hs hown b M c hx hM hbc hl hl2 hB h
theorem pins_made (w : World) : OwnR 6 70 Pin.l (w.alloc (.cells #[] 70)) w.heap.size (.slice (some ⟨w.heap.size, 0, none⟩) 0 0) [] :=
  World.ownsRow_made (e := 70) (size := 6) (base := w.heap.size) w #[] 0 (Nat.le_refl _) (Nat.zero_le _) rfl
set_option maxRecDepth 100000 in
set_option maxHeartbeats 4000000 in
theorem register_walk (L : List Pin) (a : Option Addr) (n c : Nat) (most : Int) (w : World) (hn : n = L.length) (hr : RowsAt 6 Pin.l w a L) (hnil : a = none → c = 0) :
    Calls Try.prog 7 #[.slice a n c, .int .i64 most] w (AggPost (.bool true) w) := by
  by_cases hg : 10 < n
  · have hg' : decide ((n : Int) > 10) = true := decide_eq_true (by omega)
    clear hr hn
    go_enter Try.func7, Try.ntmps7
    go_wp2_with (go_at_call 17; refine (awake_any _).mono ?_; rintro e w1 ⟨rfl, hb1⟩)
    go_ret
    exact ⟨rfl, hb1⟩
  have hg' : decide ((n : Int) > 10) = false := decide_eq_false (by omega)
  have hn10 : n ≤ 10 := by omega
  have HLL := Lib.hid (show L.length ≤ 1000000 by omega)
  have HNL := Lib.hid hn
  have HR := Lib.hid hr
  have HIR := Lib.hid (fun (a : Option Addr) (c : Nat) (m : Int) W (hc : L.length ≤ c) (h : RowsAt 6 Pin.l W a L) => inRegister_any L a n c m W hn (by omega) h (by omega))
  have HRC := Lib.hid (fun W (h : RowsAt 6 Pin.l W a L) => refCheckPins_any L a n c W hn h (by omega))
  have HER := Lib.hid (fun m => show regErr L m = if pinsErr L ≠ 0 then pinsErr L else if inB m 0 1000000 = false then 2 else 0 from rfl)
  have HV := Lib.hid (fun m => show regV L m = if regErr L m = 0 then totM m L else 0 from rfl)
  have HPO := Lib.hid (fun h => pins_ok (L := L) h)
  have HMV : Hid (∀ (m m' : Int), m ≤ m' → totM m L ≤ totM m' L) := Lib.hid (fun m m' h => totM_mono h L)
  have HRI := Lib.hid (fun W (h : RowsAt 6 Pin.l W a L) (hok : ∀ p ∈ L, PinOk p) (h0 : 0 ≤ most) (h1 : most ≤ 1000000) (h8 : n ≤ 8) => refInRegister_any L a n c most W hn h h8 hok h0 h1)
  obtain ⟨e0, he0⟩ : ∃ e0, e0 = pinsErr L := ⟨_, rfl⟩
  rw [← he0] at HRC HER HPO
  clear hg hr he0 hn
  have hi1 : ∀ (m : Int) (X E : Int), regV L m = X → regErr L m = E → Hid (∀ (a : Option Addr) (c : Nat) (W : World), L.length ≤ c → RowsAt 6 Pin.l W a L → Calls Try.prog 42 #[.slice a n c, .int .i64 m] W (PairPost2 X E W)) := fun m X E h1 h2 => Lib.hid (fun a c W hc h => by rw [← h1, ← h2]; exact HIR.out a c m W hc h)
  by_cases h0 : e0 = 0
  · cases h1 : inB most 0 1000000
    · have hE : regErr L most = 2 := by rw [HER.out, if_neg (by simp [h0]), if_pos h1]
      have hX : regV L most = 0 := by rw [HV.out, if_neg (by rw [hE]; decide)]
      have HIR1 := hi1 most 0 2 hX hE
      subst h0
      clear hE hX hi1 HRI
      have ST2 : True := trivial
      have ST3 : True := trivial
      have ST6 : True := trivial
      go_enter Try.func7, Try.ntmps7
      go_wp2_with (first
        | (go_at_call 17; refine (awake_any _).mono ?_; rintro e w1 ⟨rfl, hb1⟩; have HB1 := Lib.hid hb1; clear hb1)
        | (at_builtin; have ST9 := ST2; clear ST9 ST2; refine appLn tPin pin_l _ rfl _ _ rfl w1.heap.size _ [] rfl (pins_made w1) a L n c HNL.out rfl ((HR.out.below HB1.out).alloc _) hnil (by simp) HLL.out (by simp) ?_; intro v2 w2 hO2 hg2 hb2 ho2; obtain ⟨a2, c2, e2, hr2, hc2, -⟩ := hO2.rows pin_l; rw [List.nil_append] at e2 hr2 hc2; rw [← HNL.out] at e2; subst e2; have HB2 := Lib.hid (HB1.out.trans ((((Below.refl _ w1).alloc (Nat.le_refl _) _).trans hb2).mono HB1.out.size)); have HR2 := Lib.hid hr2; have HC2 := Lib.hid hc2; clear hO2 hg2 hb2 ho2 hr2 hc2)
        | (go_at_call 42; have ST9 := ST3; clear ST9 ST3; refine (HIR1.out a2 c2 _ HC2.out HR2.out).mono ?_; rintro e w3 ⟨rfl, hb3⟩; have HB3 := Lib.hid (HB2.out.trans (hb3.mono HB2.out.size)); clear hb3)
        | (go_at_call 39; refine (HRC.out _ (HR.out.below HB3.out)).mono ?_; rintro e w4 ⟨rfl, hb4⟩; have HB4 := Lib.hid (HB3.out.trans (hb4.mono HB3.out.size)); clear hb4)
        | (go_at_call 30; refine (within_any _ _ _ _).mono ?_; rintro e w5 ⟨rfl, rfl⟩))
      go_ret
      exact ⟨rfl, HB4.out⟩
    · have hE : regErr L most = 0 := by rw [HER.out, if_neg (by simp [h0]), if_neg (by rw [h1]; decide)]
      have hX : regV L most = totM most L := by rw [HV.out, if_pos hE]
      have HIR1 := hi1 most (totM most L) 0 hX hE
      have hm := inB_iff.1 h1
      obtain ⟨m2, hm2⟩ : ∃ m2, m2 = min (most + 1) 1000000 := ⟨_, rfl⟩
      have hE2 : regErr L m2 = 0 := by rw [HER.out, if_neg (by simp [h0]), if_neg (by rw [inB_yes (by omega)]; decide)]
      have hX2 : regV L m2 = totM m2 L := by rw [HV.out, if_pos hE2]
      have HIR2 := hi1 m2 (totM m2 L) 0 hX2 hE2
      have HPS := Lib.hid (HPO.out h0)
      have HRI : Hid (∀ W, RowsAt 6 Pin.l W a L → Calls Try.prog 43 #[.slice a n c, .int .i64 most] W (CheckPost (totM most L) W)) := Lib.hid (fun W h => HRI.out W h HPS.out.2 (by omega) (by omega) (by have := HPS.out.1; have := HNL.out; omega))
      have hge := HMV.out most m2 (by omega)
      obtain ⟨t1, ht1⟩ : ∃ t, t = totM most L := ⟨_, rfl⟩
      obtain ⟨t2, ht2⟩ : ∃ t, t = totM m2 L := ⟨_, rfl⟩
      rw [← ht1] at HIR1 HRI hge
      rw [← ht2] at HIR2 hge
      have hge' : decide (t2 ≥ t1) = true := decide_eq_true hge
      have hmin2 : min (most + 1) 1000000 = m2 := hm2.symm
      have hmin : (if 1000000 < most + 1 then (1000000 : Int) else most + 1) = m2 := by rw [hm2]; split <;> omega
      have hmo1 : 0 ≤ most := hm.1
      have hmo2 : most ≤ 1000000 := hm.2
      subst h0
      clear hE hX hE2 hX2 hi1 hm2 ht1 ht2 hm hge HMV HPO
      have ST2 : True := trivial
      have ST3 : True := trivial
      have ST6 : True := trivial
      go_enter Try.func7, Try.ntmps7
      go_wp2_with (first
        | (go_at_call 17; refine (awake_any _).mono ?_; rintro e w1 ⟨rfl, hb1⟩; have HB1 := Lib.hid hb1; clear hb1)
        | (at_builtin; have ST9 := ST2; clear ST9 ST2; refine appLn tPin pin_l _ rfl _ _ rfl w1.heap.size _ [] rfl (pins_made w1) a L n c HNL.out rfl ((HR.out.below HB1.out).alloc _) hnil (by simp) HLL.out (by simp) ?_; intro v2 w2 hO2 hg2 hb2 ho2; obtain ⟨a2, c2, e2, hr2, hc2, -⟩ := hO2.rows pin_l; rw [List.nil_append] at e2 hr2 hc2; rw [← HNL.out] at e2; subst e2; have HB2 := Lib.hid (HB1.out.trans ((((Below.refl _ w1).alloc (Nat.le_refl _) _).trans hb2).mono HB1.out.size)); have HR2 := Lib.hid hr2; have HC2 := Lib.hid hc2; clear hO2 hg2 hb2 ho2 hr2 hc2)
        | (go_at_call 42; have ST9 := ST3; clear ST9 ST3; refine (HIR1.out a2 c2 _ HC2.out HR2.out).mono ?_; rintro e w3 ⟨rfl, hb3⟩; have HB3 := Lib.hid (HB2.out.trans (hb3.mono HB2.out.size)); clear hb3)
        | (go_at_call 39; refine (HRC.out _ (HR.out.below HB3.out)).mono ?_; rintro e w4 ⟨rfl, hb4⟩; have HB4 := Lib.hid (HB3.out.trans (hb4.mono HB3.out.size)); clear hb4)
        | (go_at_call 30; refine (within_any _ _ _ _).mono ?_; rintro e w5 ⟨rfl, rfl⟩)
        | (at_builtin; have ST9 := ST6; clear ST9 ST6; refine appLn tPin pin_l _ rfl _ _ rfl w4.heap.size _ [] rfl (pins_made w4) a L n c HNL.out rfl ((HR.out.below HB4.out).alloc _) hnil (by simp) HLL.out (by simp) ?_; intro v6 w6 hO6 hg6 hb6 ho6; obtain ⟨a6, c6, e6, hr6, hc6, -⟩ := hO6.rows pin_l; rw [List.nil_append] at e6 hr6 hc6; rw [← HNL.out] at e6; subst e6; have HB6 := Lib.hid (HB4.out.trans ((((Below.refl _ w4).alloc (Nat.le_refl _) _).trans hb6).mono HB4.out.size)); have HR6 := Lib.hid hr6; have HC6 := Lib.hid hc6; clear hO6 hg6 hb6 ho6 hr6 hc6)
        | (go_at_call 42; refine (HIR2.out a6 c6 _ HC6.out HR6.out).mono ?_; rintro e w7 ⟨rfl, hb7⟩; have HB7 := Lib.hid (HB6.out.trans (hb7.mono HB6.out.size)); clear hb7)
        | (go_at_call 43; refine (HRI.out _ (HR.out.below HB7.out)).mono ?_; rintro e w8 ⟨rfl, hb8⟩; have HB8 := Lib.hid (HB7.out.trans (hb8.mono HB7.out.size)); clear hb8))
      go_ret
      exact ⟨rfl, HB8.out⟩
  · have hE : regErr L most = e0 := by rw [HER.out, if_pos h0]
    have hX : regV L most = 0 := by rw [HV.out, if_neg (by rw [hE]; exact h0)]
    have HIR1 := hi1 most 0 e0 hX hE
    have h0' : (e0 == 0) = false := by simpa using h0
    have h0n : (e0 != 0) = true := by simpa using h0
    clear hE hX hi1 HRI h0
    have ST2 : True := trivial
    have ST3 : True := trivial
    have ST6 : True := trivial
    go_enter Try.func7, Try.ntmps7
    go_wp2_with (first
      | (go_at_call 17; refine (awake_any _).mono ?_; rintro e w1 ⟨rfl, hb1⟩; have HB1 := Lib.hid hb1; clear hb1)
      | (at_builtin; have ST9 := ST2; clear ST9 ST2; refine appLn tPin pin_l _ rfl _ _ rfl w1.heap.size _ [] rfl (pins_made w1) a L n c HNL.out rfl ((HR.out.below HB1.out).alloc _) hnil (by simp) HLL.out (by simp) ?_; intro v2 w2 hO2 hg2 hb2 ho2; obtain ⟨a2, c2, e2, hr2, hc2, -⟩ := hO2.rows pin_l; rw [List.nil_append] at e2 hr2 hc2; rw [← HNL.out] at e2; subst e2; have HB2 := Lib.hid (HB1.out.trans ((((Below.refl _ w1).alloc (Nat.le_refl _) _).trans hb2).mono HB1.out.size)); have HR2 := Lib.hid hr2; have HC2 := Lib.hid hc2; clear hO2 hg2 hb2 ho2 hr2 hc2)
      | (go_at_call 42; have ST9 := ST3; clear ST9 ST3; refine (HIR1.out a2 c2 _ HC2.out HR2.out).mono ?_; rintro e w3 ⟨rfl, hb3⟩; have HB3 := Lib.hid (HB2.out.trans (hb3.mono HB2.out.size)); clear hb3)
      | (go_at_call 39; refine (HRC.out _ (HR.out.below HB3.out)).mono ?_; rintro e w4 ⟨rfl, hb4⟩; have HB4 := Lib.hid (HB3.out.trans (hb4.mono HB3.out.size)); clear hb4)
      | (go_at_call 30; refine (within_any _ _ _ _).mono ?_; rintro e w5 ⟨rfl, rfl⟩))
    go_ret
    exact ⟨rfl, HB4.out⟩
end Go.Proofs.Ytpplcbpnojggcaa
