/-
  The text of a fount.
-/
import Derived.Test.YtjkcomafgkabeaaDoorN4
namespace Go.Proofs.YtjkcomafgkabeaaDoor
open Go.RowKit Go.Maps

def kindWord (k : Int) : List UInt8 := if k = 1 then [108, 101, 116, 116, 101, 114] else if k = 2 then [108, 105, 103, 97, 116, 117, 114, 101] else [115, 112, 97, 99, 101]
def sortLine (y : TS) : List UInt8 := ((kindWord y.kind ++ [32]) ++ y.name.data.toList) ++ [32] ++ ((if y.kind = 3 then [] else y.text.data.toList ++ [32]) ++ (Lib.itoa y.width ++ [10]))
def printN (f : FT) : Nat → List UInt8
  | 0 => ((([102, 111, 117, 110, 116, 32] ++ f.name.data.toList) ++ [32]) ++ Lib.itoa f.body) ++ [10]
  | k + 1 => printN f k ++ sortLine (f.sorts.getD k noTS)
def printF (f : FT) : ByteArray := ⟨(printN f f.sorts.length).toArray⟩
def printR (f : FT) : ByteArray × Int := if (checkF f).2 ≠ 0 then (⟨#[]⟩, (checkF f).2) else (printF f, 0)

theorem name_bd {s : ByteArray} (h : isNameB s = true) : s.size ≤ 12 := by
  unfold isNameB at h
  simp only [Bool.and_eq_true, decide_eq_true_eq] at h
  exact h.1.1.2

theorem kindWord_bd (k : Int) : (kindWord k).length ≤ 8 := by
  unfold kindWord
  split
  · decide
  split <;> decide
theorem sort_right {f : FT} (h : ∀ j, j < f.sorts.length → sortErr (f.sorts.take j) (f.sorts.getD j noTS) = 0) {k : Nat} (hk : k < f.sorts.length) : (f.sorts.getD k noTS).name.size ≤ 12 ∧ 1 ≤ (f.sorts.getD k noTS).kind ∧ (f.sorts.getD k noTS).kind ≤ 3 ∧ 1 ≤ (f.sorts.getD k noTS).width ∧ (f.sorts.getD k noTS).width ≤ 100000 := by
  obtain ⟨h1, _, h3, h4, _⟩ := sortErr_zero (h k hk)
  have h3 := of_decide_eq_true (show decide _ = true from h3)
  have h4 := of_decide_eq_true (show decide _ = true from h4)
  exact ⟨name_bd h1, h3.1, h3.2, h4.1, h4.2⟩
theorem itoa_bd {n : Int} (h : 0 ≤ n ∧ n ≤ 1000000000000000000) : (Lib.itoa n).length ≤ 21 := Lib.itoa_length_le n (by omega) (by omega)
theorem len_data (s : ByteArray) : s.data.toList.length = s.size := Array.length_toList
theorem printN_bd {f : FT} (h : (checkF f).2 = 0) : ∀ k, k ≤ f.sorts.length → (printN f k).length ≤ 60 * (k + 1) := by
  obtain ⟨hnm, hR, hall⟩ := checkF_right h
  intro k
  induction k with
  | zero =>
    intro _
    have h1 := name_bd hnm
    have h2 := itoa_bd (n := f.body) (by have := hR.1; have := hR.2.1; omega)
    show (_ ++ _ : List UInt8).length ≤ _
    simp only [List.length_append, List.length_cons, List.length_nil, len_data]
    omega
  | succ k ih =>
    intro hk
    have h1 := ih (by omega)
    obtain ⟨n1, k1, k2, w1, w2⟩ := sort_right hall (k := k) (by omega)
    have h2 := itoa_bd (n := (f.sorts.getD k noTS).width) (by omega)
    have h3 := text_bd h (k := k) (by omega)
    have h4 := kindWord_bd (f.sorts.getD k noTS).kind
    have h5 : ∀ (p : Prop) [Decidable p], ((if p then [] else (f.sorts.getD k noTS).text.data.toList ++ [32] : List UInt8)).length ≤ 5 := by
      intro p _
      split
      · simp
      · rw [List.length_append, len_data]; simp only [List.length_cons, List.length_nil]; omega
    have h6 := h5 ((f.sorts.getD k noTS).kind = 3)
    show (printN f k ++ sortLine (f.sorts.getD k noTS)).length ≤ _
    unfold sortLine
    simp only [List.length_append, List.length_cons, List.length_nil, len_data] at h6 ⊢
    omega
theorem word_ex {w : World} (h : WordsOk w) {kn : Nat} (h1 : 1 ≤ kn) (h2 : kn ≤ 3) : ∃ kw : ByteArray, w.cell? ⟨0, kn, none⟩ = some (.string kw) ∧ kw.data.toList = kindWord (kn : Int) ∧ kw.size ≤ 10 := by
  obtain rfl | rfl | rfl : kn = 1 ∨ kn = 2 ∨ kn = 3 := by omega
  · exact ⟨_, h.c1, rfl, by decide⟩
  · exact ⟨_, h.c2, rfl, by decide⟩
  · exact ⟨_, h.c3, rfl, by decide⟩

set_option maxRecDepth 100000 in
set_option maxHeartbeats 4000000 in
theorem Print_any (f : FT) (a : Option Addr) (c : Nat) (w : World) (hF : FAt w a f) (hP : PowOk w) (hW : WordsOk w) :
    Calls Tryd.prog 62 #[.agg #[.string f.name, .int .i64 f.body, .slice a f.sorts.length c]] w fun e w' => e = .returned (.tuple #[.string (printR f).1, .int .i64 (printR f).2]) ∧ Below w.heap.size w w' := by
  have hB0 : Below (w.heap.size + 1) (w.alloc (boxF f a c)) (w.alloc (boxF f a c)) := Below.refl _ _
  have E0 := Env.of hF hB0
  by_cases h0 : (checkF f).2 = 0
  · have HE := Lib.hid (show printR f = (printF f, 0) by unfold printR; rw [if_neg (by simp [h0])])
    obtain ⟨hnm, hR, hall⟩ := checkF_right h0
    have hnb := name_bd hnm
    have hb1 := hR.1; have hb2 := hR.2.1
    have H0 := Lib.hid h0; have HR := Lib.hid hR; have HA := Lib.hid hall
    clear hall hR hnm
    go_enter Tryd.func62, Tryd.ntmps62
    go_wp2_with fail
    refine (checkFount_any f a c _ E0.fa.ok (by exact E0.fa.at_) (by exact E0.fa.tab)).mono ?_
    rintro e w1 ⟨rfl, hb⟩
    have E1 := E0.step hF hb
    rw [h0]
    clear hb h0
    have hlt1 := E1.lt
    have hbl := Bld.new w1
    have E2 := E1.alloc hF (.cells #[.pointer none, .slice none 0 0] 110)
    have hBe2 := (Below.refl w1.heap.size w1).alloc (Nat.le_refl _) (.cells #[.pointer none, .slice none 0 0] 110)
    go_wp2_with fail
    generalize w1.alloc (.cells #[.pointer none, .slice none 0 0] 110) = w2 at hbl E2 hBe2
    have q0 := E2.c0; have q1 := E2.c1
    have hsz2 := hBe2.size
    have P2 := (hP.below E2.low)
    have hit := itoaS_size (n := f.body) (by omega)
    obtain ⟨t1, g1, z1, d1⟩ := add_ex ⟨#[102, 111, 117, 110, 116, 32]⟩ f.name (by show 6 + f.name.size ≤ _; omega)
    have z1' : t1.size ≤ 18 := by have : t1.size = 6 + f.name.size := z1; omega
    obtain ⟨t2, g2, z2, d2⟩ := add_ex t1 ⟨#[32]⟩ (by show t1.size + 1 ≤ _; omega)
    have z2' : t2.size ≤ 19 := by have : t2.size = t1.size + 1 := z2; omega
    obtain ⟨t3, g3, z3, d3⟩ := add_ex t2 (itoaS f.body) (by omega)
    obtain ⟨t4, g4, z4, d4⟩ := add_ex t3 ⟨#[10]⟩ (by show t3.size + 1 ≤ _; omega)
    have z4' : t4.size ≤ 41 := by have : t4.size = t3.size + 1 := z4; omega
    have HD : Hid (t4.data.toList = printN f 0) := by rw [d4, d3, d2, d1]; rfl
    clear z1 z2 z3 z4 d1 d2 d3 d4
    go_region_held3 (fun w' => w'.cell? ⟨w.heap.size, 0, none⟩ = some (.string f.name) ∧ w'.cell? ⟨w.heap.size, 1, none⟩ = some (.int .i64 f.body)) (go_keep)
      (first | (go_at_call 89; refine (itoa_any f.body (by omega) _ (by exact ⟨P2.lt, P2.tab⟩)).mono ?_; rintro e w3 ⟨rfl, hb3⟩; have k0 := (hb3.cell (p := ⟨w.heap.size, 0, none⟩) E2.lt).trans q0; have k1 := (hb3.cell (p := ⟨w.heap.size, 1, none⟩) E2.lt).trans q1) | (go_at_call 83; refine (wStr_any w1.heap.size w1.heap.size [] _ _ (by exact hbl.drew.below hb3) (by show 0 + t4.size ≤ _; omega) (by exact Nat.le_trans hsz2 hb3.size)).mono ?_; rintro e w4 ⟨rfl, hbl4, hb4⟩; have k0 := (hb4.cell (p := ⟨w.heap.size, 0, none⟩) hlt1).trans k0; have k1 := (hb4.cell (p := ⟨w.heap.size, 1, none⟩) hlt1).trans k1))
    have hBe4 : Below w1.heap.size w1 w4 := hBe2.drew.trans ((hb3.mono (B' := w1.heap.size) hsz2).trans hb4)
    have hBl4 : Bld w1.heap.size w1.heap.size (printN f 0) w4 := by rw [← HD.out]; exact hbl4
    have E4 := E1.step hF hBe4
    clear hb3 hb4 hbl hbl4 q0 q1 k0 k1 g1 g2 g3 g4 HD hBe2 E2 P2
    have q2 := E4.c2
    go_wp2_with fail
    go_loopw [30] (fun i wr => ∃ k : Nat, k ≤ f.sorts.length ∧ i = .int .i64 k ∧ Bld w1.heap.size w1.heap.size (printN f k) wr ∧ Below w1.heap.size w1 wr) (fun i _ => f.sorts.length - (intOf i).toNat)
    case atStart => exact ⟨0, Nat.zero_le _, rfl, hBl4, hBe4⟩
    case round =>
      obtain ⟨k, hk, rfl, hBl, hBe⟩ := hrel
      clear hBl4 hBe4 E4 q2
      have E := E1.step hF hBe
      have hszr := hBe.size
      by_cases hlt : k < f.sorts.length
      · have hbd := printN_bd H0.out k hk
        obtain ⟨n1, k1, k2, wd1, wd2⟩ := sort_right HA.out hlt
        have htx := text_bd H0.out hlt
        have HST := Lib.hid (show printN f (k + 1) = printN f k ++ sortLine (f.sorts.getD k noTS) from rfl)
        obtain ⟨ad, hade, hadl, s0, s1, s2, s3⟩ := E.fa.at_.at_ hlt
        subst hade
        generalize f.sorts.getD k noTS = y at n1 k1 k2 wd1 wd2 htx HST s0 s1 s2 s3
        obtain ⟨kn, hkn⟩ : ∃ kn : Nat, y.kind = (kn : Int) := ⟨y.kind.toNat, by omega⟩
        have hkn1 : 1 ≤ kn := by omega
        have hkn3 : kn ≤ 3 := by omega
        have hkl : (k : Int) < (f.sorts.length : Int) := by omega
        have hk120 : k < 120 := by have := HR.out.2.2.2.1; omega
        rw [hkn] at s2
        go_wp2_with fail
        have hsb := heap_alloc_new wr (.cells #[.string y.name, .string y.text, .int .i64 kn, .int .i64 y.width] 47)
        have hBl5 := hBl.below ((Below.refl _ _).alloc (Nat.le_refl _) (.cells #[.string y.name, .string y.text, .int .i64 kn, .int .i64 y.width] 47))
        have hBe5 := hBe.alloc hszr (.cells #[.string y.name, .string y.text, .int .i64 kn, .int .i64 y.width] 47)
        have hsbne : wr.heap.size ≠ w1.heap.size := by have := hBl.lt; omega
        generalize wr.alloc (.cells #[.string y.name, .string y.text, .int .i64 kn, .int .i64 y.width] 47) = w5 at hsb hBl5 hBe5
        clear s0 s1 s2 s3 hBl hBe E hszr
        generalize wr.heap.size = sb at hsb hsbne
        have hsz5 := hBe5.size
        have hGlt : 0 < w1.heap.size := Nat.lt_of_lt_of_le hW.lt E1.low.size
        obtain ⟨kw, hkw, hkwl, hkws⟩ := word_ex (hW.below (E1.step hF hBe5).low) hkn1 hkn3
        have hit := itoaS_size (n := y.width) (by omega)
        obtain ⟨t1, g1, z1, d1⟩ := add_ex kw ⟨#[32]⟩ (by show kw.size + 1 ≤ _; omega)
        have z1' : t1.size ≤ 11 := by have : t1.size = kw.size + 1 := z1; omega
        obtain ⟨t2, g2, z2, d2⟩ := add_ex t1 y.name (by omega)
        have z2' : t2.size ≤ 23 := by omega
        obtain ⟨t3, g3, z3, d3⟩ := add_ex t2 ⟨#[32]⟩ (by show t2.size + 1 ≤ _; omega)
        have z3' : t3.size ≤ 24 := by have : t3.size = t2.size + 1 := z3; omega
        obtain ⟨t4, g4, z4, d4⟩ := add_ex y.text ⟨#[32]⟩ (by show y.text.size + 1 ≤ _; omega)
        have z4' : t4.size ≤ 5 := by have : t4.size = y.text.size + 1 := z4; omega
        obtain ⟨t5, g5, z5, d5⟩ := add_ex (itoaS y.width) ⟨#[10]⟩ (by show (itoaS y.width).size + 1 ≤ _; omega)
        have z5' : t5.size ≤ 22 := by have : t5.size = (itoaS y.width).size + 1 := z5; omega
        have HD : Hid (sortLine y = t3.data.toList ++ ((if y.kind = 3 then [] else t4.data.toList) ++ t5.data.toList)) := by
          rw [d5, d4, d3, d2, d1, hkwl, ← hkn]; rfl
        clear z1 z2 z3 z4 z5 d1 d2 d3 d4 d5 hkwl
        have a1 : w5.cell? ⟨sb, 1, none⟩ = some (.string y.text) := Lib.cell_of_heap hsb 1
        have p0 : w5.cell? ⟨sb, 0, none⟩ = some (.string y.name) := Lib.cell_of_heap hsb 0
        have p2 : w5.cell? ⟨sb, 2, none⟩ = some (.int .i64 kn) := Lib.cell_of_heap hsb 2
        have a2 := hbd; have a3 := hbd
        have l4 := len_data t3; have l5 := len_data t4
        by_cases h3 : kn = 3
        · subst h3
          have HST2 := Lib.hid (show printN f (k + 1) = (printN f k ++ t3.data.toList) ++ t5.data.toList by rw [HST.out, HD.out, if_pos (show y.kind = 3 from hkn)]; simp)
          clear HST HD
          go_region_held3 (fun w' => w'.cell? ⟨sb, 0, none⟩ = some (.string y.name) ∧ w'.cell? ⟨sb, 2, none⟩ = some (.int .i64 3) ∧ w'.cell? ⟨0, 3, none⟩ = some (.string kw)) (go_keep)
            (first | (go_at_call 83; refine (wStr_kept w1.heap.size w1.heap.size (printN f k) _ _ (by exact hBl5.drew) (by omega) (by exact hsz5)).mono ?_; rintro e w6 ⟨rfl, hbl6, hb6, ho6⟩; have hsb6 := Oth.cell ho6 hsbne hsb (by decide); have k0 : w6.cell? ⟨sb, 0, none⟩ = _ := Lib.cell_of_heap hsb6 0; have k2 : w6.cell? ⟨sb, 2, none⟩ = _ := Lib.cell_of_heap hsb6 2; have kk := (hb6.cell (p := ⟨0, 3, none⟩) hGlt).trans hkw))
          have hBe6 : Below w1.heap.size w1 w6 := hBe5.drew.trans hb6
          have hBl6 : Bld w1.heap.size w1.heap.size (printN f k ++ t3.data.toList) w6 := hbl6
          have hsz6 := hBe6.size
          have c1 : w6.cell? ⟨sb, 1, none⟩ = some (.string y.text) := Lib.cell_of_heap hsb6 1
          have c2 : w6.cell? ⟨sb, 2, none⟩ = some (.int .i64 3) := Lib.cell_of_heap hsb6 2
          have c3 : w6.cell? ⟨sb, 3, none⟩ = some (.int .i64 y.width) := Lib.cell_of_heap hsb6 3
          have PW6 := hP.below (E1.step hF hBe6).low
          clear hb6 hbl6 ho6 k0 k2 kk hBl5 hBe5 hsb a1 a2 a3 p0 p2 hkw
          rename_i hHeld
          clear hHeld
          go_wp2_with fail
          refine (itoa_any y.width (by omega) _ PW6).mono ?_
          rintro e wi ⟨rfl, hbi⟩
          have hBi := hBe6.trans (hbi.mono (B' := w1.heap.size) hBe6.size)
          have hBli := hBl6.below hbi
          have hszi := hBi.size
          clear hBl6 hBe6 hbi c1 c2 c3
          go_wp2_with fail
          refine (wStr_any _ _ _ _ _ hBli (by rw [List.length_append]; omega) hszi).mono ?_
          rintro e wj ⟨rfl, hBlj, hbj⟩
          have hBj := hBi.trans hbj
          clear hBli hBi hbj
          go_wp2
          go_roundw
          case rel => exact ⟨k + 1, by omega, by go_num, by rw [HST2.out]; exact hBlj, hBj⟩
          case measure => simp [intOf]; omega
        · have hk3 : (kn : Int) ≠ 3 := by omega
          have hk3b : ((kn : Int) == 3) = false := by simpa using hk3
          have hknl : (kn : Int) < 4 := by omega
          have HST2 := Lib.hid (show printN f (k + 1) = ((printN f k ++ t3.data.toList) ++ t4.data.toList) ++ t5.data.toList by rw [HST.out, HD.out, if_neg (show ¬ y.kind = 3 by omega)]; simp)
          clear HST HD
          go_region_held3 (fun w' => w'.cell? ⟨sb, 0, none⟩ = some (.string y.name) ∧ w'.cell? ⟨sb, 2, none⟩ = some (.int .i64 kn) ∧ w'.cell? ⟨0, kn, none⟩ = some (.string kw)) (go_keep)
            (first | (go_at_call 83; refine (wStr_kept w1.heap.size w1.heap.size (printN f k) _ _ (by exact hBl5.drew) (by omega) (by exact hsz5)).mono ?_; rintro e w6 ⟨rfl, hbl6, hb6, ho6⟩; have hsb6 := Oth.cell ho6 hsbne hsb (by decide); have k0 : w6.cell? ⟨sb, 0, none⟩ = _ := Lib.cell_of_heap hsb6 0; have k2 : w6.cell? ⟨sb, 2, none⟩ = _ := Lib.cell_of_heap hsb6 2; have kk := (hb6.cell (p := ⟨0, kn, none⟩) hGlt).trans hkw))
          have hBe6 : Below w1.heap.size w1 w6 := hBe5.drew.trans hb6
          have hBl6 : Bld w1.heap.size w1.heap.size (printN f k ++ t3.data.toList) w6 := hbl6
          have hsz6 := hBe6.size
          have c1 : w6.cell? ⟨sb, 1, none⟩ = some (.string y.text) := Lib.cell_of_heap hsb6 1
          have c2 : w6.cell? ⟨sb, 2, none⟩ = some (.int .i64 kn) := Lib.cell_of_heap hsb6 2
          have c3 : w6.cell? ⟨sb, 3, none⟩ = some (.int .i64 y.width) := Lib.cell_of_heap hsb6 3
          have PW6 := hP.below (E1.step hF hBe6).low
          clear hb6 hbl6 ho6 k0 k2 kk hBl5 hBe5 hsb a1 a2 a3 p0 p2 hkw
          rename_i hHeld
          clear hHeld
          go_wp2_with fail
          refine (wStr_kept _ _ _ _ _ hBl6 (by rw [List.length_append]; omega) hsz6).mono ?_
          rintro e w7 ⟨rfl, hBl7, hb7, ho7⟩
          have hsb7 := Oth.cell ho7 hsbne hsb6 (by decide)
          have hBe7 := hBe6.trans hb7
          have v3 : w7.cell? ⟨sb, 3, none⟩ = some (.int .i64 y.width) := Lib.cell_of_heap hsb7 3
          have PW7 := hP.below (E1.step hF hBe7).low
          clear hBl6 hBe6 hb7 ho7 c1 c2 c3 hsb6
          go_wp2_with fail
          refine (itoa_any y.width (by omega) _ PW7).mono ?_
          rintro e wi ⟨rfl, hbi⟩
          have hBi := hBe7.trans (hbi.mono (B' := w1.heap.size) hBe7.size)
          have hBli := hBl7.below hbi
          have hszi := hBi.size
          clear hBl7 hBe7 hbi v3
          go_wp2_with fail
          refine (wStr_any _ _ _ _ _ hBli (by rw [List.length_append, List.length_append]; omega) hszi).mono ?_
          rintro e wj ⟨rfl, hBlj, hbj⟩
          have hBj := hBi.trans hbj
          clear hBli hBi hbj
          go_wp2
          go_roundw
          case rel => exact ⟨k + 1, by omega, by go_num, by rw [HST2.out]; exact hBlj, hBj⟩
          case measure => simp [intOf]; omega
      · have hk2 : k = f.sorts.length := by omega
        have HT := Lib.hid (show (printN f k).toArray = (printF f).data by rw [hk2]; rfl)
        go_wp2_with fail
        refine (bStr_any _ _ _ _ hBl hszr).mono ?_
        rintro e w3 ⟨rfl, hb3⟩
        have hlow := (E1.step hF (hBe.trans hb3)).low
        rw [HT.out]
        go_wp2
        go_ret2
        exact ⟨by rw [HE.out]; rfl, hlow⟩
  · have HE := Lib.hid (show printR f = (⟨#[]⟩, (checkF f).2) by unfold printR; rw [if_pos h0])
    have heb : ((checkF f).2 != 0) = true := by simpa using h0
    clear h0
    go_enter Tryd.func62, Tryd.ntmps62
    go_wp2_with fail
    refine (checkFount_any f a c _ E0.fa.ok (by exact E0.fa.at_) (by exact E0.fa.tab)).mono ?_
    rintro e w1 ⟨rfl, hb⟩
    have hlow := (E0.step hF hb).low
    clear hb
    go_wp2
    go_ret2
    exact ⟨by rw [HE.out]; rfl, hlow⟩
end Go.Proofs.YtjkcomafgkabeaaDoor
