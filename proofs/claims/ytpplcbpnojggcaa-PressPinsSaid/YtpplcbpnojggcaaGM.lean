/-
  Package press: pins: Offset.
-/
import Derived.Test.YtpplcbpnojggcaaGJ
import Derived.Test.YtpplcbpnojggcaaGN
import Derived.Deep.RegionHeld
namespace Go.Proofs.Ytpplcbpnojggcaa
open Go.RowKit

theorem ix2 (a b : Int) (W : World) :
    (Instr.index 43 (.agg #[.int .i64 a, .int .i64 b]) (.int .i64 0)).run Try.prog W = .ok (.int .i64 a) W ∧
    (Instr.index 43 (.agg #[.int .i64 a, .int .i64 b]) (.int .i64 1)).run Try.prog W = .ok (.int .i64 b) W := by
  have hu := fun W : World => run_underlying (w := W) Try.underlying43
  have hr := fun W : World => run_underlying (w := W) Try.underlying3
  refine ⟨?_, ?_⟩ <;> simp [Instr.index, hu, hr, asIntOf, part, isAgg, go_sem]
def offsErr (L : List Pin) (p q : Int) : Int := if pinsErr L ≠ 0 then pinsErr L else if inB p 0 (L.length - 1) = false ∨ inB q 0 (L.length - 1) = false then 6 else 0
def offsV (L : List Pin) (p q : Int) : Pin := if offsErr L p q = 0 then offP (L.getD p.toNat noPin) (L.getD q.toNat noPin) else noPin
def OffsPost (X : Pin) (E : Int) (w : World) (e : Ending) (w' : World) : Prop := e = .returned (.tuple #[.agg #[.int .i64 X.c0, .int .i64 X.c1, .int .i64 X.r0, .int .i64 X.r1, .int .i64 X.t0, .int .i64 X.t1], .int .i64 E]) ∧ Below w.heap.size w w'
theorem RowsAt.pin {w : World} {a : Option Addr} {L : List Pin} (h : RowsAt 6 Pin.l w a L) {k : Nat} (hk : k < L.length) : ∃ ad, a = some ad ∧ (ad.add (k * 6)).block < w.heap.size ∧
    w.cell? (ad.add (k * 6)) = some (.int .i64 L[k].c0) ∧ w.cell? ⟨(ad.add (k * 6)).block, (ad.add (k * 6)).off + 1, none⟩ = some (.int .i64 L[k].c1) ∧ w.cell? ⟨(ad.add (k * 6)).block, (ad.add (k * 6)).off + 2, none⟩ = some (.int .i64 L[k].r0) ∧
    w.cell? ⟨(ad.add (k * 6)).block, (ad.add (k * 6)).off + 3, none⟩ = some (.int .i64 L[k].r1) ∧ w.cell? ⟨(ad.add (k * 6)).block, (ad.add (k * 6)).off + 4, none⟩ = some (.int .i64 L[k].t0) ∧ w.cell? ⟨(ad.add (k * 6)).block, (ad.add (k * 6)).off + 5, none⟩ = some (.int .i64 L[k].t1) := by
  obtain ⟨ad, e, hlt, hs⟩ := h k hk
  have s0 := hs 0 (by decide)
  have s1 := hs 1 (by decide)
  have s2 := hs 2 (by decide)
  have s3 := hs 3 (by decide)
  have s4 := hs 4 (by decide)
  have s5 := hs 5 (by decide)
  simp only [Pin.l, List.getD_cons_zero, List.getD_cons_succ, fld] at s0 s1 s2 s3 s4 s5
  exact ⟨ad, e, by rw [add_block]; exact hlt, s0, s1, s2, s3, s4, s5⟩
def pairIn (p q : Int) (n k : Nat) : Prop := (0 < k → inB p 0 ((n : Int) - 1) = true) ∧ (1 < k → inB q 0 ((n : Int) - 1) = true)
theorem pin_getD {L : List Pin} {k : Nat} (h : k < L.length) : L.getD k noPin = L[k] := by rw [List.getD_eq_getElem?_getD, List.getElem?_eq_getElem h]; rfl
set_option maxRecDepth 100000 in
set_option maxHeartbeats 4000000 in
theorem offsOf_any (L : List Pin) (a : Option Addr) (n c : Nat) (p q : Int) (w : World) (hn : n = L.length) (hr : RowsAt 6 Pin.l w a L) (hl : n ≤ 1000000) :
    Calls Try.prog 38 #[.slice a n c, .agg #[.int .i64 p, .int .i64 q]] w (OffsPost (offsV L p q) (offsErr L p q) w) := by
  have HCP := Lib.hid (fun W (h : RowsAt 6 Pin.l W a L) => checkPins_any L a n c W hn h hl)
  have HN := Lib.hid hn
  have hb0 := ((Below.refl w.heap.size w).alloc (Nat.le_refl _) (.cells #[.int .i64 p, .int .i64 q] 43)).alloc (by simp) (.cells #[.int .i64 0, .int .i64 0, .int .i64 0, .int .i64 0, .int .i64 0, .int .i64 0] 63)
  have bp := (BoxAt.new w #[.int .i64 p, .int .i64 q] 43).alloc (.cells #[.int .i64 0, .int .i64 0, .int .i64 0, .int .i64 0, .int .i64 0, .int .i64 0] 63)
  have bc := BoxAt.new (w.alloc (.cells #[.int .i64 p, .int .i64 q] 43)) #[.int .i64 0, .int .i64 0, .int .i64 0, .int .i64 0, .int .i64 0, .int .i64 0] 63
  rw [World.size_alloc] at bc
  have hr2 := (hr.alloc (.cells #[.int .i64 p, .int .i64 q] 43)).alloc (.cells #[.int .i64 0, .int .i64 0, .int .i64 0, .int .i64 0, .int .i64 0, .int .i64 0] 63)
  have hx0 := fun W => (ix2 p q W).1
  have hx1 := fun W => (ix2 p q W).2
  have HR := Lib.hid hr
  have HER := Lib.hid (show offsErr L p q = if pinsErr L ≠ 0 then pinsErr L else if inB p 0 (L.length - 1) = false ∨ inB q 0 (L.length - 1) = false then 6 else 0 from rfl)
  have HV := Lib.hid (show offsV L p q = if offsErr L p q = 0 then offP (L.getD p.toNat noPin) (L.getD q.toNat noPin) else noPin from rfl)
  have HPO := Lib.hid (fun h => pins_ok (L := L) h)
  obtain ⟨E, hE⟩ : ∃ E, E = offsErr L p q := ⟨_, rfl⟩
  rw [← hE] at HER HV ⊢
  obtain ⟨X, hX⟩ : ∃ X, X = offsV L p q := ⟨_, rfl⟩
  rw [← hX] at HV ⊢
  obtain ⟨e0, he0⟩ : ∃ e0, e0 = pinsErr L := ⟨_, rfl⟩
  rw [← he0] at HCP HER HPO
  rw [← hn] at HER
  clear hE hX he0 hr hn
  have fin : ∀ (Y : World) (er : Int), BoxAt Y (w.heap.size + 1) #[.int .i64 0, .int .i64 0, .int .i64 0, .int .i64 0, .int .i64 0, .int .i64 0] 63 → Below w.heap.size w Y → E = er → er ≠ 0 → OffsPost X E w (.returned (.tuple #[.agg #[.int .i64 0, .int .i64 0, .int .i64 0, .int .i64 0, .int .i64 0, .int .i64 0], .int .i64 er])) Y := fun Y er hb hB he h0 => by
    refine ⟨?_, hB⟩
    have hx : X = noPin := by rw [HV.out, if_neg (by rw [he]; exact h0)]
    rw [hx, he]; rfl
  have HFIN := Lib.hid fin
  clear fin
  by_cases h0 : e0 = 0
  · have h0' : (e0 != 0) = false := by simpa using h0
    have HE0 := Lib.hid h0
    obtain ⟨⟨hl1, hl2⟩, hok⟩ := HPO.out h0
    rw [← HN.out] at hl1 hl2
    have HOK := Lib.hid hok
    clear h0 hok
    go_enter Try.func38, Try.ntmps38
    go_wp2_with (go_at_call 40; refine (HCP.out _ hr2).mono ?_; rintro e w1 ⟨rfl, hb1⟩; have HB1 := Lib.hid (hb0.trans (hb1.mono hb0.size)); have BP := Lib.hid (bp.below hb1); have BC := Lib.hid (bc.below hb1); have p0 : w1.cell? ⟨w.heap.size, 0, none⟩ = some (.int .i64 p) := BP.out.cell 0; have p1 : w1.cell? ⟨w.heap.size, 1, none⟩ = some (.int .i64 q) := BP.out.cell 1; have pl9 := BP.out.lt; clear hb1 hb0 bp bc hr2)
    go_loopw [16] (fun i wr => ∃ k : Nat, (k = 0 ∨ k = 1 ∨ k = 2) ∧ i = .int .i64 k ∧ Hid (pairIn p q n k) ∧ wr = w1) (fun i _ => 2 - (intOf i).toNat)
    case atStart => exact ⟨0, Or.inl rfl, rfl, Lib.hid ⟨fun h => absurd h (by omega), fun h => absurd h (by omega)⟩, rfl⟩
    case round =>
      obtain ⟨k, hk, rfl, hg, hw⟩ := hrel
      obtain rfl : w1 = wr := hw.symm
      have hcl := BC.out.lt
      have d0 : w1.cell? ⟨w.heap.size + 1, 0, none⟩ = some (.int .i64 0) := BC.out.cell 0
      have f0 : w1.frozen? ⟨w.heap.size + 1, 0, none⟩ = false := BC.out.free 0
      have d1 : w1.cell? ⟨w.heap.size + 1, 1, none⟩ = some (.int .i64 0) := BC.out.cell 1
      have f1 : w1.frozen? ⟨w.heap.size + 1, 1, none⟩ = false := BC.out.free 1
      have d2 : w1.cell? ⟨w.heap.size + 1, 2, none⟩ = some (.int .i64 0) := BC.out.cell 2
      have f2 : w1.frozen? ⟨w.heap.size + 1, 2, none⟩ = false := BC.out.free 2
      have d3 : w1.cell? ⟨w.heap.size + 1, 3, none⟩ = some (.int .i64 0) := BC.out.cell 3
      have f3 : w1.frozen? ⟨w.heap.size + 1, 3, none⟩ = false := BC.out.free 3
      have d4 : w1.cell? ⟨w.heap.size + 1, 4, none⟩ = some (.int .i64 0) := BC.out.cell 4
      have f4 : w1.frozen? ⟨w.heap.size + 1, 4, none⟩ = false := BC.out.free 4
      have d5 : w1.cell? ⟨w.heap.size + 1, 5, none⟩ = some (.int .i64 0) := BC.out.cell 5
      have f5 : w1.frozen? ⟨w.heap.size + 1, 5, none⟩ = false := BC.out.free 5
      rcases hk with rfl | rfl | rfl
      · cases h1 : inB p 0 ((n : Int) - 1)
        · go_wp2_with (go_at_call 85; refine (isFrom_any _ _ _ _).mono ?_; rintro e w4 ⟨rfl, rfl⟩)
          obtain ⟨Y, hY⟩ : ∃ Y, Y = ((((((w1.setCell ⟨w.heap.size + 1, 0, none⟩ (.int .i64 0)).setCell ⟨w.heap.size + 1, 1, none⟩ (.int .i64 0)).setCell ⟨w.heap.size + 1, 2, none⟩ (.int .i64 0)).setCell ⟨w.heap.size + 1, 3, none⟩ (.int .i64 0)).setCell ⟨w.heap.size + 1, 4, none⟩ (.int .i64 0)).setCell ⟨w.heap.size + 1, 5, none⟩ (.int .i64 0)) := ⟨_, rfl⟩
          have bY : BoxAt Y (w.heap.size + 1) #[.int .i64 0, .int .i64 0, .int .i64 0, .int .i64 0, .int .i64 0, .int .i64 0] 63 := by rw [hY]; exact box6 BC.out _ _ _ _ _ _
          have hB9 : Below w.heap.size w Y := by rw [hY]; exact below6 HB1.out (by omega) _ _ _ _ _ _
          rw [← hY]
          have r0 : Y.cell? ⟨w.heap.size + 1, 0, none⟩ = some (.int .i64 0) := bY.cell 0
          have r1 : Y.cell? ⟨w.heap.size + 1, 1, none⟩ = some (.int .i64 0) := bY.cell 1
          have r2 : Y.cell? ⟨w.heap.size + 1, 2, none⟩ = some (.int .i64 0) := bY.cell 2
          have r3 : Y.cell? ⟨w.heap.size + 1, 3, none⟩ = some (.int .i64 0) := bY.cell 3
          have r4 : Y.cell? ⟨w.heap.size + 1, 4, none⟩ = some (.int .i64 0) := bY.cell 4
          have r5 : Y.cell? ⟨w.heap.size + 1, 5, none⟩ = some (.int .i64 0) := bY.cell 5
          exact bodyPost_ret (v := .tuple #[.agg #[.int .i64 0, .int .i64 0, .int .i64 0, .int .i64 0, .int .i64 0, .int .i64 0], .int .i64 6]) (res_rg3t rfl rfl rfl bY) rfl (HFIN.out Y _ bY hB9 (by rw [HER.out, if_neg (by rw [HE0.out]; simp), if_pos (Or.inl h1)]) (by decide))
        · go_wp2_with (go_at_call 85; refine (isFrom_any _ _ _ _).mono ?_; rintro e w4 ⟨rfl, rfl⟩)
          go_roundw
          case rel => exact ⟨1, Or.inr (Or.inl rfl), by go_num, Lib.hid (show pairIn _ _ _ _ from ⟨fun _ => h1, fun h => absurd h (by omega)⟩), (by first | rfl | trivial)⟩
          case measure => simp [intOf] <;> omega
      · cases h1 : inB q 0 ((n : Int) - 1)
        · go_wp2_with (go_at_call 85; refine (isFrom_any _ _ _ _).mono ?_; rintro e w4 ⟨rfl, rfl⟩)
          obtain ⟨Y, hY⟩ : ∃ Y, Y = ((((((w1.setCell ⟨w.heap.size + 1, 0, none⟩ (.int .i64 0)).setCell ⟨w.heap.size + 1, 1, none⟩ (.int .i64 0)).setCell ⟨w.heap.size + 1, 2, none⟩ (.int .i64 0)).setCell ⟨w.heap.size + 1, 3, none⟩ (.int .i64 0)).setCell ⟨w.heap.size + 1, 4, none⟩ (.int .i64 0)).setCell ⟨w.heap.size + 1, 5, none⟩ (.int .i64 0)) := ⟨_, rfl⟩
          have bY : BoxAt Y (w.heap.size + 1) #[.int .i64 0, .int .i64 0, .int .i64 0, .int .i64 0, .int .i64 0, .int .i64 0] 63 := by rw [hY]; exact box6 BC.out _ _ _ _ _ _
          have hB9 : Below w.heap.size w Y := by rw [hY]; exact below6 HB1.out (by omega) _ _ _ _ _ _
          rw [← hY]
          have r0 : Y.cell? ⟨w.heap.size + 1, 0, none⟩ = some (.int .i64 0) := bY.cell 0
          have r1 : Y.cell? ⟨w.heap.size + 1, 1, none⟩ = some (.int .i64 0) := bY.cell 1
          have r2 : Y.cell? ⟨w.heap.size + 1, 2, none⟩ = some (.int .i64 0) := bY.cell 2
          have r3 : Y.cell? ⟨w.heap.size + 1, 3, none⟩ = some (.int .i64 0) := bY.cell 3
          have r4 : Y.cell? ⟨w.heap.size + 1, 4, none⟩ = some (.int .i64 0) := bY.cell 4
          have r5 : Y.cell? ⟨w.heap.size + 1, 5, none⟩ = some (.int .i64 0) := bY.cell 5
          exact bodyPost_ret (v := .tuple #[.agg #[.int .i64 0, .int .i64 0, .int .i64 0, .int .i64 0, .int .i64 0, .int .i64 0], .int .i64 6]) (res_rg3t rfl rfl rfl bY) rfl (HFIN.out Y _ bY hB9 (by rw [HER.out, if_neg (by rw [HE0.out]; simp), if_pos (Or.inr h1)]) (by decide))
        · go_wp2_with (go_at_call 85; refine (isFrom_any _ _ _ _).mono ?_; rintro e w4 ⟨rfl, rfl⟩)
          go_roundw
          case rel => exact ⟨2, Or.inr (Or.inr rfl), by go_num, Lib.hid (show pairIn _ _ _ _ from ⟨fun _ => hg.out.1 (by omega), fun _ => h1⟩), (by first | rfl | trivial)⟩
          case measure => simp [intOf] <;> omega
      · have g1 := hg.out.1 (by omega)
        have g2 := hg.out.2 (by omega)
        have HEE : Hid (E = 0) := Lib.hid (by rw [HER.out, if_neg (by rw [HE0.out]; simp), if_neg (by rw [g1, g2]; simp)])
        have HXX : Hid (X = offP (L.getD p.toNat noPin) (L.getD q.toNat noPin)) := Lib.hid (by rw [HV.out, if_pos HEE.out])
        rw [inB_iff] at g1 g2
        obtain ⟨pn, rfl⟩ : ∃ pn : Nat, p = pn := ⟨p.toNat, by omega⟩
        obtain ⟨qn, rfl⟩ : ∃ qn : Nat, q = qn := ⟨q.toNat, by omega⟩
        have hpn : pn < L.length := by have := HN.out; omega
        have hqn : qn < L.length := by have := HN.out; omega
        rw [Int.toNat_natCast, Int.toNat_natCast, pin_getD hpn, pin_getD hqn] at HXX
        have hpn' : (pn : Int) < n := by omega
        have hqn' : (qn : Int) < n := by omega
        have hrw := HR.out.below HB1.out
        obtain ⟨ad, rfl, hpl, s0, s1, s2, s3, s4, s5⟩ := hrw.pin hpn
        have hpl0 : (ad.add (pn * 6)).block < w.heap.size := by obtain ⟨ad3, e3, h3, -⟩ := HR.out.pin hpn; cases e3; exact h3
        have hql0 : (ad.add (qn * 6)).block < w.heap.size := by obtain ⟨ad3, e3, h3, -⟩ := HR.out.pin hqn; cases e3; exact h3
        obtain ⟨ad2, e, hql, u0, u1, u2, u3, u4, u5⟩ := hrw.pin hqn
        obtain rfl : ad = ad2 := Option.some.inj e
        have hok1 := HOK.out _ (List.getElem_mem hpn)
        have hok2 := HOK.out _ (List.getElem_mem hqn)
        have HOF := Lib.hid (fun W => offset_any L[pn] L[qn] W hok1 hok2)
        unfold OffPost at HOF
        obtain ⟨⟨a0, a1, a2, a3, a4, a5⟩, hA⟩ : ∃ x, x = L[pn] := ⟨_, rfl⟩
        obtain ⟨⟨b0, b1, b2, b3, b4, b5⟩, hB⟩ : ∃ x, x = L[qn] := ⟨_, rfl⟩
        rw [← hA] at s0 s1 s2 s3 s4 s5 HOF HXX
        rw [← hB] at u0 u1 u2 u3 u4 u5 HOF HXX
        unfold offP at HXX HOF
        dsimp only at s0 s1 s2 s3 s4 s5 u0 u1 u2 u3 u4 u5 HOF HXX
        clear hA hB hok1 hok2 e g1 g2 hg hrw hpn hqn
        go_wp2
        refine Code.wp_mono (Q := fun e a' w' => match e with
          | .normal => a' = { tmps := #[.slice (some ad) n c, .agg #[.int .i64 pn, .int .i64 qn], undef, .pointer (some ⟨w.heap.size, 0, none⟩), .pointer (some ⟨w.heap.size + 1, 0, none⟩), .int .i64 0, .int .i64 e0, undef, u8, .slice (some ad) n c, .int .i64 e0, .int .i64 e0, .bool false, undef, undef, .agg #[.int .i64 pn, .int .i64 qn], .int .i64 2, .bool false, u18, u19, u20, u21, u22, u23, u24, u25, u26, .slice (some ad) n c, .pointer (some ⟨w.heap.size, 0, none⟩), .int .i64 pn, .pointer (some (ad.add (pn * 6))), .agg #[.int .i64 a0, .int .i64 a1, .int .i64 a2, .int .i64 a3, .int .i64 a4, .int .i64 a5], .slice (some ad) n c, .pointer (some ⟨w.heap.size, 1, none⟩), .int .i64 qn, .pointer (some (ad.add (qn * 6))), .agg #[.int .i64 b0, .int .i64 b1, .int .i64 b2, .int .i64 b3, .int .i64 b4, .int .i64 b5], .agg #[.int .i64 (a0 - b1), .int .i64 (a1 - b0), .int .i64 (a2 - b3), .int .i64 (a3 - b2), .int .i64 (a4 - b5), .int .i64 (a5 - b4)]], defers := [] } ∧ BoxAt w' (w.heap.size + 1) #[.int .i64 (a0 - b1), .int .i64 (a1 - b0), .int .i64 (a2 - b3), .int .i64 (a3 - b2), .int .i64 (a4 - b5), .int .i64 (a5 - b4)] 63 ∧ Below w.heap.size w w'
          | _ => False) ?cont ?reg
        case cont =>
          rintro e a' w' hq
          cases e <;> try exact hq.elim
          obtain ⟨rfl, bY, hB9⟩ := hq
          clear p0 p1 s0 s1 s2 s3 s4 s5 u0 u1 u2 u3 u4 u5 d0 d1 d2 d3 d4 d5 f0 f1 f2 f3 f4 f5 hx0 hx1
          go_wp2
          refine bodyPost_ret (v := .tuple #[.agg #[.int .i64 (a0 - b1), .int .i64 (a1 - b0), .int .i64 (a2 - b3), .int .i64 (a3 - b2), .int .i64 (a4 - b5), .int .i64 (a5 - b4)], .int .i64 0]) (res_rg3t rfl rfl rfl bY) rfl ⟨?_, hB9⟩
          rw [HEE.out, HXX.out]
        case reg =>
          refine wp_region_held_drew (S := fun Z9 : World => Z9.cell? ⟨w.heap.size, 0, none⟩ = some (.int .i64 pn) ∧ Z9.cell? ⟨w.heap.size, 1, none⟩ = some (.int .i64 qn) ∧ Z9.cell? (ad.add (pn * 6)) = some (.int .i64 a0) ∧ Z9.cell? ⟨(ad.add (pn * 6)).block, (ad.add (pn * 6)).off + 1, none⟩ = some (.int .i64 a1) ∧ Z9.cell? ⟨(ad.add (pn * 6)).block, (ad.add (pn * 6)).off + 2, none⟩ = some (.int .i64 a2) ∧ Z9.cell? ⟨(ad.add (pn * 6)).block, (ad.add (pn * 6)).off + 3, none⟩ = some (.int .i64 a3) ∧ Z9.cell? ⟨(ad.add (pn * 6)).block, (ad.add (pn * 6)).off + 4, none⟩ = some (.int .i64 a4) ∧ Z9.cell? ⟨(ad.add (pn * 6)).block, (ad.add (pn * 6)).off + 5, none⟩ = some (.int .i64 a5) ∧ Z9.cell? (ad.add (qn * 6)) = some (.int .i64 b0) ∧ Z9.cell? ⟨(ad.add (qn * 6)).block, (ad.add (qn * 6)).off + 1, none⟩ = some (.int .i64 b1) ∧ Z9.cell? ⟨(ad.add (qn * 6)).block, (ad.add (qn * 6)).off + 2, none⟩ = some (.int .i64 b2) ∧ Z9.cell? ⟨(ad.add (qn * 6)).block, (ad.add (qn * 6)).off + 3, none⟩ = some (.int .i64 b3) ∧ Z9.cell? ⟨(ad.add (qn * 6)).block, (ad.add (qn * 6)).off + 4, none⟩ = some (.int .i64 b4) ∧ Z9.cell? ⟨(ad.add (qn * 6)).block, (ad.add (qn * 6)).off + 5, none⟩ = some (.int .i64 b5)) (by kernel_rfl) ⟨p0, p1, s0, s1, s2, s3, s4, s5, u0, u1, u2, u3, u4, u5⟩ (fun hSS => ?_)
          refine takeL (i := 0) (v := .slice (some ad) n c) rfl (by kernel_rfl) (by kernel_rfl) (by kernel_rfl) (fun _ _ _ h => h) (Or.inl ⟨by rfl, fun V9 h9 => by dsimp only at h9; go_simp⟩) hSS ?_
          try simp only [Act.put, List.setIfInBounds_toArray, List.set_cons_zero, List.set_cons_succ]
          refine takeL (i := 1) (v := .pointer (some ⟨w.heap.size, 0, none⟩)) rfl (by kernel_rfl) (by kernel_rfl) (by kernel_rfl) (fun _ _ _ h => h) (Or.inl ⟨by rfl, fun V9 h9 => by dsimp only at h9; go_simp⟩) hSS ?_
          try simp only [Act.put, List.setIfInBounds_toArray, List.set_cons_zero, List.set_cons_succ]
          refine takeL (i := 2) (v := .int .i64 pn) rfl (by kernel_rfl) (by kernel_rfl) (by kernel_rfl) (fun _ _ _ h => h) (Or.inl ⟨by rfl, fun V9 h9 => by dsimp only at h9; go_simp⟩) hSS ?_
          try simp only [Act.put, List.setIfInBounds_toArray, List.set_cons_zero, List.set_cons_succ]
          refine takeL (i := 3) (v := .pointer (some (ad.add (pn * 6)))) rfl (by kernel_rfl) (by kernel_rfl) (by kernel_rfl) (fun _ _ _ h => h) (Or.inl ⟨by rfl, fun V9 h9 => by dsimp only at h9; go_simp⟩) hSS ?_
          try simp only [Act.put, List.setIfInBounds_toArray, List.set_cons_zero, List.set_cons_succ]
          refine takeL (i := 4) (v := .agg #[.int .i64 a0, .int .i64 a1, .int .i64 a2, .int .i64 a3, .int .i64 a4, .int .i64 a5]) rfl (by kernel_rfl) (by kernel_rfl) (by kernel_rfl) (fun _ _ _ h => h) (Or.inl ⟨by rfl, fun V9 h9 => by dsimp only at h9; go_simp⟩) hSS ?_
          try simp only [Act.put, List.setIfInBounds_toArray, List.set_cons_zero, List.set_cons_succ]
          refine takeL (i := 5) (v := .slice (some ad) n c) rfl (by kernel_rfl) (by kernel_rfl) (by kernel_rfl) (fun _ _ _ h => h) (Or.inl ⟨by rfl, fun V9 h9 => by dsimp only at h9; go_simp⟩) hSS ?_
          try simp only [Act.put, List.setIfInBounds_toArray, List.set_cons_zero, List.set_cons_succ]
          refine takeL (i := 6) (v := .pointer (some ⟨w.heap.size, 1, none⟩)) rfl (by kernel_rfl) (by kernel_rfl) (by kernel_rfl) (fun _ _ _ h => h) (Or.inl ⟨by rfl, fun V9 h9 => by dsimp only at h9; go_simp⟩) hSS ?_
          try simp only [Act.put, List.setIfInBounds_toArray, List.set_cons_zero, List.set_cons_succ]
          refine takeL (i := 7) (v := .int .i64 qn) rfl (by kernel_rfl) (by kernel_rfl) (by kernel_rfl) (fun _ _ _ h => h) (Or.inl ⟨by rfl, fun V9 h9 => by dsimp only at h9; go_simp⟩) hSS ?_
          try simp only [Act.put, List.setIfInBounds_toArray, List.set_cons_zero, List.set_cons_succ]
          refine takeL (i := 8) (v := .pointer (some (ad.add (qn * 6)))) rfl (by kernel_rfl) (by kernel_rfl) (by kernel_rfl) (fun _ _ _ h => h) (Or.inl ⟨by rfl, fun V9 h9 => by dsimp only at h9; go_simp⟩) hSS ?_
          try simp only [Act.put, List.setIfInBounds_toArray, List.set_cons_zero, List.set_cons_succ]
          refine takeL (i := 9) (v := .agg #[.int .i64 b0, .int .i64 b1, .int .i64 b2, .int .i64 b3, .int .i64 b4, .int .i64 b5]) rfl (by kernel_rfl) (by kernel_rfl) (by kernel_rfl) (fun _ _ _ h => h) (Or.inl ⟨by rfl, fun V9 h9 => by dsimp only at h9; go_simp⟩) hSS ?_
          try simp only [Act.put, List.setIfInBounds_toArray, List.set_cons_zero, List.set_cons_succ]
          refine wpAnyH_ready (rs := [10]) (by kernel_rfl) (by simp) (consL rfl (fun K9 hK9 => ?_) AllReadyH.nil)
          go_simp
          refine (HOF.out _).mono ?_
          rintro e w5 ⟨rfl, hb5⟩
          have hb6 : Below w1.heap.size w1 w5 := (Below.refl _ _).drew.trans hb5
          have hS9 : (fun Z9 : World => Z9.cell? ⟨w.heap.size, 0, none⟩ = some (.int .i64 pn) ∧ Z9.cell? ⟨w.heap.size, 1, none⟩ = some (.int .i64 qn) ∧ Z9.cell? (ad.add (pn * 6)) = some (.int .i64 a0) ∧ Z9.cell? ⟨(ad.add (pn * 6)).block, (ad.add (pn * 6)).off + 1, none⟩ = some (.int .i64 a1) ∧ Z9.cell? ⟨(ad.add (pn * 6)).block, (ad.add (pn * 6)).off + 2, none⟩ = some (.int .i64 a2) ∧ Z9.cell? ⟨(ad.add (pn * 6)).block, (ad.add (pn * 6)).off + 3, none⟩ = some (.int .i64 a3) ∧ Z9.cell? ⟨(ad.add (pn * 6)).block, (ad.add (pn * 6)).off + 4, none⟩ = some (.int .i64 a4) ∧ Z9.cell? ⟨(ad.add (pn * 6)).block, (ad.add (pn * 6)).off + 5, none⟩ = some (.int .i64 a5) ∧ Z9.cell? (ad.add (qn * 6)) = some (.int .i64 b0) ∧ Z9.cell? ⟨(ad.add (qn * 6)).block, (ad.add (qn * 6)).off + 1, none⟩ = some (.int .i64 b1) ∧ Z9.cell? ⟨(ad.add (qn * 6)).block, (ad.add (qn * 6)).off + 2, none⟩ = some (.int .i64 b2) ∧ Z9.cell? ⟨(ad.add (qn * 6)).block, (ad.add (qn * 6)).off + 3, none⟩ = some (.int .i64 b3) ∧ Z9.cell? ⟨(ad.add (qn * 6)).block, (ad.add (qn * 6)).off + 4, none⟩ = some (.int .i64 b4) ∧ Z9.cell? ⟨(ad.add (qn * 6)).block, (ad.add (qn * 6)).off + 5, none⟩ = some (.int .i64 b5)) w5 := ⟨(hb6.cell (p := ⟨w.heap.size, 0, none⟩) pl9).trans p0, (hb6.cell (p := ⟨w.heap.size, 1, none⟩) pl9).trans p1, (hb6.cell (p := (ad.add (pn * 6))) hpl).trans s0, (hb6.cell (p := ⟨(ad.add (pn * 6)).block, (ad.add (pn * 6)).off + 1, none⟩) hpl).trans s1, (hb6.cell (p := ⟨(ad.add (pn * 6)).block, (ad.add (pn * 6)).off + 2, none⟩) hpl).trans s2, (hb6.cell (p := ⟨(ad.add (pn * 6)).block, (ad.add (pn * 6)).off + 3, none⟩) hpl).trans s3, (hb6.cell (p := ⟨(ad.add (pn * 6)).block, (ad.add (pn * 6)).off + 4, none⟩) hpl).trans s4, (hb6.cell (p := ⟨(ad.add (pn * 6)).block, (ad.add (pn * 6)).off + 5, none⟩) hpl).trans s5, (hb6.cell (p := (ad.add (qn * 6))) hql).trans u0, (hb6.cell (p := ⟨(ad.add (qn * 6)).block, (ad.add (qn * 6)).off + 1, none⟩) hql).trans u1, (hb6.cell (p := ⟨(ad.add (qn * 6)).block, (ad.add (qn * 6)).off + 2, none⟩) hql).trans u2, (hb6.cell (p := ⟨(ad.add (qn * 6)).block, (ad.add (qn * 6)).off + 3, none⟩) hql).trans u3, (hb6.cell (p := ⟨(ad.add (qn * 6)).block, (ad.add (qn * 6)).off + 4, none⟩) hql).trans u4, (hb6.cell (p := ⟨(ad.add (qn * 6)).block, (ad.add (qn * 6)).off + 5, none⟩) hql).trans u5⟩
          refine hK9.out _ _ hS9 (fun _ => ?_)
          clear hK9 K9 hSS
          try simp only [Act.put, List.setIfInBounds_toArray, List.set_cons_zero, List.set_cons_succ]
          have BW := BoxAt.below (w := w1) BC.out hb6
          have c0 : w5.cell? ⟨w.heap.size + 1, 0, none⟩ = some (.int .i64 0) := BW.cell 0
          have z0 : w5.frozen? ⟨w.heap.size + 1, 0, none⟩ = false := BW.free 0
          have c1 : w5.cell? ⟨w.heap.size + 1, 1, none⟩ = some (.int .i64 0) := BW.cell 1
          have z1 : w5.frozen? ⟨w.heap.size + 1, 1, none⟩ = false := BW.free 1
          have c2 : w5.cell? ⟨w.heap.size + 1, 2, none⟩ = some (.int .i64 0) := BW.cell 2
          have z2 : w5.frozen? ⟨w.heap.size + 1, 2, none⟩ = false := BW.free 2
          have c3 : w5.cell? ⟨w.heap.size + 1, 3, none⟩ = some (.int .i64 0) := BW.cell 3
          have z3 : w5.frozen? ⟨w.heap.size + 1, 3, none⟩ = false := BW.free 3
          have c4 : w5.cell? ⟨w.heap.size + 1, 4, none⟩ = some (.int .i64 0) := BW.cell 4
          have z4 : w5.frozen? ⟨w.heap.size + 1, 4, none⟩ = false := BW.free 4
          have c5 : w5.cell? ⟨w.heap.size + 1, 5, none⟩ = some (.int .i64 0) := BW.cell 5
          have z5 : w5.frozen? ⟨w.heap.size + 1, 5, none⟩ = false := BW.free 5
          have hWl := BW.lt
          refine wpAnyH_ready (rs := [11]) (by kernel_rfl) (by simp) (consL rfl (fun K9 hK9 => ?_) AllReadyH.nil)
          go_simp
          obtain ⟨Y, hY⟩ : ∃ Y, Y = ((((((w5.setCell ⟨w.heap.size + 1, 0, none⟩ (.int .i64 (a0 - b1))).setCell ⟨w.heap.size + 1, 1, none⟩ (.int .i64 (a1 - b0))).setCell ⟨w.heap.size + 1, 2, none⟩ (.int .i64 (a2 - b3))).setCell ⟨w.heap.size + 1, 3, none⟩ (.int .i64 (a3 - b2))).setCell ⟨w.heap.size + 1, 4, none⟩ (.int .i64 (a4 - b5))).setCell ⟨w.heap.size + 1, 5, none⟩ (.int .i64 (a5 - b4))) := ⟨_, rfl⟩
          have bY : BoxAt Y (w.heap.size + 1) #[.int .i64 (a0 - b1), .int .i64 (a1 - b0), .int .i64 (a2 - b3), .int .i64 (a3 - b2), .int .i64 (a4 - b5), .int .i64 (a5 - b4)] 63 := by rw [hY]; exact box6 BW _ _ _ _ _ _
          have hB9 : Below w.heap.size w Y := by rw [hY]; exact below6 (HB1.out.trans (hb6.mono HB1.out.size)) (by omega) _ _ _ _ _ _
          have hB8 : Below (w.heap.size + 1) w1 Y := by rw [hY]; exact below6 (hb6.mono (by omega)) (Nat.le_refl _) _ _ _ _ _ _
          rw [← hY]
          have hpl1 : (ad.add (pn * 6)).block < w.heap.size + 1 := by omega
          have hql1 : (ad.add (qn * 6)).block < w.heap.size + 1 := by omega
          have hS8 : (fun Z9 : World => Z9.cell? ⟨w.heap.size, 0, none⟩ = some (.int .i64 pn) ∧ Z9.cell? ⟨w.heap.size, 1, none⟩ = some (.int .i64 qn) ∧ Z9.cell? (ad.add (pn * 6)) = some (.int .i64 a0) ∧ Z9.cell? ⟨(ad.add (pn * 6)).block, (ad.add (pn * 6)).off + 1, none⟩ = some (.int .i64 a1) ∧ Z9.cell? ⟨(ad.add (pn * 6)).block, (ad.add (pn * 6)).off + 2, none⟩ = some (.int .i64 a2) ∧ Z9.cell? ⟨(ad.add (pn * 6)).block, (ad.add (pn * 6)).off + 3, none⟩ = some (.int .i64 a3) ∧ Z9.cell? ⟨(ad.add (pn * 6)).block, (ad.add (pn * 6)).off + 4, none⟩ = some (.int .i64 a4) ∧ Z9.cell? ⟨(ad.add (pn * 6)).block, (ad.add (pn * 6)).off + 5, none⟩ = some (.int .i64 a5) ∧ Z9.cell? (ad.add (qn * 6)) = some (.int .i64 b0) ∧ Z9.cell? ⟨(ad.add (qn * 6)).block, (ad.add (qn * 6)).off + 1, none⟩ = some (.int .i64 b1) ∧ Z9.cell? ⟨(ad.add (qn * 6)).block, (ad.add (qn * 6)).off + 2, none⟩ = some (.int .i64 b2) ∧ Z9.cell? ⟨(ad.add (qn * 6)).block, (ad.add (qn * 6)).off + 3, none⟩ = some (.int .i64 b3) ∧ Z9.cell? ⟨(ad.add (qn * 6)).block, (ad.add (qn * 6)).off + 4, none⟩ = some (.int .i64 b4) ∧ Z9.cell? ⟨(ad.add (qn * 6)).block, (ad.add (qn * 6)).off + 5, none⟩ = some (.int .i64 b5)) Y := ⟨(hB8.cell (p := ⟨w.heap.size, 0, none⟩) (show w.heap.size < w.heap.size + 1 by omega)).trans p0, (hB8.cell (p := ⟨w.heap.size, 1, none⟩) (show w.heap.size < w.heap.size + 1 by omega)).trans p1, (hB8.cell (p := (ad.add (pn * 6))) hpl1).trans s0, (hB8.cell (p := ⟨(ad.add (pn * 6)).block, (ad.add (pn * 6)).off + 1, none⟩) hpl1).trans s1, (hB8.cell (p := ⟨(ad.add (pn * 6)).block, (ad.add (pn * 6)).off + 2, none⟩) hpl1).trans s2, (hB8.cell (p := ⟨(ad.add (pn * 6)).block, (ad.add (pn * 6)).off + 3, none⟩) hpl1).trans s3, (hB8.cell (p := ⟨(ad.add (pn * 6)).block, (ad.add (pn * 6)).off + 4, none⟩) hpl1).trans s4, (hB8.cell (p := ⟨(ad.add (pn * 6)).block, (ad.add (pn * 6)).off + 5, none⟩) hpl1).trans s5, (hB8.cell (p := (ad.add (qn * 6))) hql1).trans u0, (hB8.cell (p := ⟨(ad.add (qn * 6)).block, (ad.add (qn * 6)).off + 1, none⟩) hql1).trans u1, (hB8.cell (p := ⟨(ad.add (qn * 6)).block, (ad.add (qn * 6)).off + 2, none⟩) hql1).trans u2, (hB8.cell (p := ⟨(ad.add (qn * 6)).block, (ad.add (qn * 6)).off + 3, none⟩) hql1).trans u3, (hB8.cell (p := ⟨(ad.add (qn * 6)).block, (ad.add (qn * 6)).off + 4, none⟩) hql1).trans u4, (hB8.cell (p := ⟨(ad.add (qn * 6)).block, (ad.add (qn * 6)).off + 5, none⟩) hql1).trans u5⟩
          refine hK9.out _ _ hS8 (fun _ => ?_)
          clear hK9 K9
          try simp only [Act.put, List.setIfInBounds_toArray, List.set_cons_zero, List.set_cons_succ]
          refine takeL (i := 12) (v := .int .i64 0) rfl (by kernel_rfl) (by kernel_rfl) (by kernel_rfl) (fun _ _ _ h => h) (Or.inl ⟨by rfl, fun V9 h9 => by dsimp only at h9; go_simp⟩) hS8 ?_
          try simp only [Act.put, List.setIfInBounds_toArray, List.set_cons_zero, List.set_cons_succ]
          refine wpAnyH_done (by kernel_rfl) ?_ _
          exact ⟨rfl, bY, hB9⟩
  · have h0' : (e0 != 0) = true := by simpa using h0
    have HE0 : Hid (E = e0) := Lib.hid (by rw [HER.out, if_pos h0])
    have HNE := Lib.hid h0
    clear h0
    go_enter Try.func38, Try.ntmps38
    go_wp2_with (go_at_call 40; refine (HCP.out _ hr2).mono ?_; rintro e w1 ⟨rfl, hb1⟩; have HB1 := Lib.hid (hb0.trans (hb1.mono hb0.size)); have BC := Lib.hid (bc.below hb1); have d0 : w1.cell? ⟨w.heap.size + 1, 0, none⟩ = some (.int .i64 0) := BC.out.cell 0; have f0 : w1.frozen? ⟨w.heap.size + 1, 0, none⟩ = false := BC.out.free 0; have d1 : w1.cell? ⟨w.heap.size + 1, 1, none⟩ = some (.int .i64 0) := BC.out.cell 1; have f1 : w1.frozen? ⟨w.heap.size + 1, 1, none⟩ = false := BC.out.free 1; have d2 : w1.cell? ⟨w.heap.size + 1, 2, none⟩ = some (.int .i64 0) := BC.out.cell 2; have f2 : w1.frozen? ⟨w.heap.size + 1, 2, none⟩ = false := BC.out.free 2; have d3 : w1.cell? ⟨w.heap.size + 1, 3, none⟩ = some (.int .i64 0) := BC.out.cell 3; have f3 : w1.frozen? ⟨w.heap.size + 1, 3, none⟩ = false := BC.out.free 3; have d4 : w1.cell? ⟨w.heap.size + 1, 4, none⟩ = some (.int .i64 0) := BC.out.cell 4; have f4 : w1.frozen? ⟨w.heap.size + 1, 4, none⟩ = false := BC.out.free 4; have d5 : w1.cell? ⟨w.heap.size + 1, 5, none⟩ = some (.int .i64 0) := BC.out.cell 5; have f5 : w1.frozen? ⟨w.heap.size + 1, 5, none⟩ = false := BC.out.free 5; clear hb1 hb0 bp hr2)
    obtain ⟨Y, hY⟩ : ∃ Y, Y = ((((((w1.setCell ⟨w.heap.size + 1, 0, none⟩ (.int .i64 0)).setCell ⟨w.heap.size + 1, 1, none⟩ (.int .i64 0)).setCell ⟨w.heap.size + 1, 2, none⟩ (.int .i64 0)).setCell ⟨w.heap.size + 1, 3, none⟩ (.int .i64 0)).setCell ⟨w.heap.size + 1, 4, none⟩ (.int .i64 0)).setCell ⟨w.heap.size + 1, 5, none⟩ (.int .i64 0)) := ⟨_, rfl⟩
    have bY : BoxAt Y (w.heap.size + 1) #[.int .i64 0, .int .i64 0, .int .i64 0, .int .i64 0, .int .i64 0, .int .i64 0] 63 := by rw [hY]; exact box6 BC.out _ _ _ _ _ _
    have hB9 : Below w.heap.size w Y := by rw [hY]; exact below6 HB1.out (by omega) _ _ _ _ _ _
    rw [← hY]
    have r0 : Y.cell? ⟨w.heap.size + 1, 0, none⟩ = some (.int .i64 0) := bY.cell 0
    have r1 : Y.cell? ⟨w.heap.size + 1, 1, none⟩ = some (.int .i64 0) := bY.cell 1
    have r2 : Y.cell? ⟨w.heap.size + 1, 2, none⟩ = some (.int .i64 0) := bY.cell 2
    have r3 : Y.cell? ⟨w.heap.size + 1, 3, none⟩ = some (.int .i64 0) := bY.cell 3
    have r4 : Y.cell? ⟨w.heap.size + 1, 4, none⟩ = some (.int .i64 0) := bY.cell 4
    have r5 : Y.cell? ⟨w.heap.size + 1, 5, none⟩ = some (.int .i64 0) := bY.cell 5
    exact bodyPost_ret (v := .tuple #[.agg #[.int .i64 0, .int .i64 0, .int .i64 0, .int .i64 0, .int .i64 0, .int .i64 0], .int .i64 e0]) (res_rg3t rfl rfl rfl bY) rfl (HFIN.out Y _ bY hB9 HE0.out HNE.out)
end Go.Proofs.Ytpplcbpnojggcaa
