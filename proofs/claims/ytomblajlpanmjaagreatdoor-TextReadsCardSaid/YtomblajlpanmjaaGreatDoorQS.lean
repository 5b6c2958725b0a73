/-
  TextReads: the walk of the law.
-/
import Derived.Test.YtomblajlpanmjaaGreatDoorQOP
import Derived.Test.YtomblajlpanmjaaGreatDoorQQ
import Derived.Test.YtomblajlpanmjaaGreatDoorQN
import Derived.Test.YtomblajlpanmjaaGreatDoorNT
import Derived.Test.YtomblajlpanmjaaGreatDoorW9
import Derived.Laws.StructEq
namespace Go.Proofs.YtomblajlpanmjaaGreatDoor
open Go.RowKit Go.Maps Go.Shelf

theorem run_eq_mark (d : Nat) (a b : Int) (w : World) : (Op.equalIn (d + 2) 49 (.agg #[.int .i64 a, .int .i64 b]) (.agg #[.int .i64 a, .int .i64 b])).run Tryz.prog w = .ok true w := by
  have hi := fun (x y : Int) (W : World) => run_equalIn_int (P := Tryz.prog) W d 3 .i64 .i64 x y Tryz.underlying3
  have h := run_equalIn_agg (P := Tryz.prog) w (d + 1) 49 #[.int .i64 a, .int .i64 b] #[.int .i64 a, .int .i64 b] (by kernel_rfl) (by kernel_rfl)
  rw [h]
  have hu := Tryz.underlying49
  have hr := fun W : World => run_underlying (w := W) Tryz.underlying3
  simp only [Program.fieldsOf, hu]
  simp [Op.eqFields, part, isAgg, hr, hi, go_sem]
theorem neq_mark (a b : Int) (w : World) : (binOp .neq 49 (.agg #[.int .i64 a, .int .i64 b]) (.agg #[.int .i64 a, .int .i64 b])).run Tryz.prog w = .ok (.bool false) w := by
  rw [run_neq_struct, run_eq_mark]; rfl
theorem COwn.pown {w : World} {B n : Nat} {v : Value} {l : List CP} (h : COwn w B v n l) : POwn w B v n l (.slice none 0 0) := by
  obtain ⟨xs, h1, h2⟩ := h
  exact ⟨xs, h1, fun j hj => by obtain ⟨v2, e1, e2, e3⟩ := h2 j hj; exact ⟨v2, e1, e2, e3, fun q _ e => by cases e⟩⟩
/-- What was read, as it lies. -/
structure RdBack (W : World) (A : Option Addr) (l l2 : List CP) : Prop where
  at_ : PartsAt W A l2
  len : l2.length = l.length
  same : ∀ k, k < l.length → (l2.getD k noCP).kd = (l.getD k noCP).kd ∧ (l2.getD k noCP).l = (l.getD k noCP).l
theorem RdBack.of {W : World} {B : Nat} {v : Value} {l : List CP} {u : Value} (h : POwn W B v l.length l u) : ∃ A c l2, v = .slice A l.length c ∧ RdBack W A l l2 := by
  obtain ⟨A, c, l2, e, h1, h2, h3⟩ := pown_parts h rfl
  exact ⟨A, c, l2, e, h1, h2, h3⟩
theorem RdBack.below {W W' : World} {A : Option Addr} {l l2 : List CP} (h : RdBack W A l l2) (hb : Below W.heap.size W W') : RdBack W' A l l2 := ⟨h.at_.below hb, h.len, h.same⟩
theorem RdBack.alloc {W : World} {A : Option Addr} {l l2 : List CP} (h : RdBack W A l l2) (o : Obj) : RdBack (W.alloc o) A l l2 := h.below ((Below.refl _ _).alloc (Nat.le_refl _) o)
theorem RdBack.words {W : World} {A : Option Addr} {l l2 : List CP} (h : RdBack W A l l2) (hg : ∀ x ∈ l, gdP x) {k : Nat} (hk : k < l2.length) : gdP ⟨(l2.getD k noCP).kd, none, 0, (l2.getD k noCP).l⟩ := by
  have hk' : k < l.length := by rw [← h.len]; exact hk
  obtain ⟨h1, h2⟩ := h.same k hk'
  have h3 : gdP (l.getD k noCP) := by
    rw [List.getD_eq_getElem?_getD, List.getElem?_eq_getElem hk']; exact hg _ (List.getElem_mem hk')
  rw [h1, h2]
  exact ⟨h3.1, h3.2.1, h3.2.2⟩
set_option maxRecDepth 100000 in
set_option maxHeartbeats 8000000 in
theorem reads_walk (s : ByteArray) (w : World) (hT : TabOk w) (hM : ∃ m, w.cell? ⟨0, 0, none⟩ = some (.int .i64 m)) (h0 : 0 < w.heap.size) :
    Calls Tryz.prog 5 #[.string s] w fun e w' => e = .returned (.bool true) ∧ Below w.heap.size w w' := by
  have HAW := Lib.hid (awake_any w hT)
  obtain ⟨hG1, hG2⟩ := copyP_good s.data.toList
  obtain ⟨P, hP⟩ : ∃ P, P = copyP s.data.toList := ⟨_, rfl⟩
  have HTP := Lib.hid (fun (hs : s.size ≤ 70000) W hM h0 => show Calls Tryz.prog 23 #[.string s] W (CPPost W P) by rw [hP]; exact textParse_any s W hs hM h0)
  have HRP := Lib.hid (fun (hs : s.size ≤ 1000 ∨ 60000 < s.size) W => show Calls Tryz.prog 26 #[.string s] W (CPPost W P) by rw [hP]; exact refParse_any s W hs)
  rw [← hP] at hG1 hG2
  clear hP
  obtain ⟨l, ⟨mx, my⟩, er⟩ := P
  dsimp only at hG1 hG2
  have hlen : l.length ≤ 60 := by
    by_cases h : er = 0
    · exact (hG1 h).2
    · rw [hG2 h]; simp
  have hgd : ∀ x ∈ l, gdP x := fun x hx => by
    by_cases h : er = 0
    · exact (hG1 h).1 x hx
    · rw [hG2 h] at hx; cases hx
  have HGD := Lib.hid hgd; have HLEN := Lib.hid hlen
  have HTP1 : Hid (s.size ≤ 70000 → ∀ W, (∃ m, W.cell? ⟨0, 0, none⟩ = some (.int .i64 m)) → 0 < W.heap.size → Calls Tryz.prog 23 #[.string s] W fun e w' => ∃ A c l2, e = .returned (.tuple #[.slice A l.length c, .agg #[.int .i64 mx, .int .i64 my], .int .i64 er]) ∧ RdBack w' A l l2 ∧ Below W.heap.size W w') := Lib.hid (fun hs W hM h0 => (HTP.out hs W hM h0).mono fun e w' ⟨v, h1, h2, h3⟩ => by
    obtain ⟨A, c, l2, e2, h4⟩ := RdBack.of h2
    subst e2
    exact ⟨A, c, l2, h1, h4, h3⟩)
  have HRP1 : Hid ((s.size ≤ 1000 ∨ 60000 < s.size) → ∀ W, Calls Tryz.prog 26 #[.string s] W fun e w' => ∃ A c l2, e = .returned (.tuple #[.slice A l.length c, .agg #[.int .i64 mx, .int .i64 my], .int .i64 er]) ∧ RdBack w' A l l2 ∧ Below W.heap.size W w') := Lib.hid (fun hs W => (HRP.out hs W).mono fun e w' ⟨v, h1, h2, h3⟩ => by
    obtain ⟨A, c, l2, e2, h4⟩ := RdBack.of h2
    subst e2
    exact ⟨A, c, l2, h1, h4, h3⟩)
  have HCS : Hid (∀ A B l2 l3 c d W, RdBack W A l l2 → RdBack W B l l3 → Calls Tryz.prog 25 #[.slice A l.length c, .slice B l.length d] W fun e w' => e = .returned (.bool true) ∧ Below W.heap.size W w') := Lib.hid (fun A B l2 l3 c d W h1 h2 => (copies_same A B l2 l3 l.length c d W h1.at_ h2.at_ h1.len h2.len (by have := HLEN.out; omega) (fun k hk => ⟨(h1.same k hk).1.trans (h2.same k hk).1.symm, (h1.same k hk).2.trans (h2.same k hk).2.symm⟩) (fun k hk => by
    have h3 := (h1.words HGD.out (k := k) (by rw [h1.len]; exact hk)).2.2.1
    have h3 : (l2.getD k noCP).l.length ≤ 100 := h3
    unfold maxLen; omega)).mono fun e w' ⟨he, hd⟩ => ⟨he, by exact hd.below (Below.refl _ _)⟩)
  have HCO : Hid (∀ A l2 c W, RdBack W A l l2 → Calls Tryz.prog 20 #[.slice A l.length c] W fun e w' => ∃ A4 c4 l4, e = .returned (.slice A4 l.length c4) ∧ RdBack w' A4 l l4 ∧ Below W.heap.size W w') := Lib.hid (fun A l2 c W h1 => by
    have h2 := copyOf_any A l2 c W h1.at_ (by rw [h1.len]; have := HLEN.out; omega) (fun k hk => by
      have h3 := (h1.words HGD.out hk).2.2.1
      have h3 : (l2.getD k noCP).l.length ≤ 100 := h3
      refine ⟨by omega, fun e => ?_⟩
      obtain ⟨ad, -, -, -, ht⟩ := h1.at_ k hk
      have h4 : (l2.getD k noCP).l ≠ [] := (h1.words HGD.out hk).2.1
      obtain ⟨ad2, e2, -⟩ := ht 0 (by have : (l2.getD k noCP).l.length ≠ 0 := fun e => h4 (List.length_eq_zero_iff.1 e); omega)
      rw [e] at e2; cases e2)
    rw [h1.len] at h2
    refine h2.mono fun e w' ⟨v, he, hc, hb⟩ => ?_
    obtain ⟨A4, c4, l4, e4, q1, q2, q3⟩ := pown_parts hc.pown h1.len
    subst e4
    exact ⟨A4, c4, l4, he, ⟨q1, q2, fun k hk => ⟨(q3 k hk).1.trans (h1.same k hk).1, (q3 k hk).2.trans (h1.same k hk).2⟩⟩, hb⟩)
  have HCP : Hid (∀ A l2 c W, RdBack W A l l2 → Calls Tryz.prog 19 #[.slice A l.length c] W fun e w' => e = .returned (.tuple #[.int .i64 0, .int .i64 0]) ∧ Below W.heap.size W w') := Lib.hid (fun A l2 c W h1 => by
    have h2 := CheckParts_any A l2 c W h1.at_ ⟨by rw [h1.len]; have := HLEN.out; unfold maxLen; omega, fun k hk => by
      obtain ⟨-, -, h4, h5, -⟩ := h1.words HGD.out hk
      have h4 : (l2.getD k noCP).l.length ≤ 100 := h4
      refine ⟨by unfold maxLen; omega, fun j hj => ?_⟩
      have h6 : isWordB ((l2.getD k noCP).l.getD j noTx) = true := by
        rw [List.getD_eq_getElem?_getD, List.getElem?_eq_getElem hj]; exact h5 _ (List.getElem_mem hj)
      unfold isWordB at h6
      simp only [Bool.and_eq_true, decide_eq_true_eq] at h6
      unfold maxLen; omega⟩
    rw [copy_good (fun k hk => part_good (h1.words HGD.out hk)) (by rw [h1.len]; exact HLEN.out), h1.len] at h2
    exact h2)
  have hee : (er != er) = false := by simp
  have hnm := neq_mark mx my
  have HM := Lib.hid hM; have H0 := Lib.hid h0
  have HMW := Lib.hid (fun W (hb : Below w.heap.size w W) => show (∃ m, W.cell? ⟨0, 0, none⟩ = some (.int .i64 m)) ∧ 0 < W.heap.size from ⟨by obtain ⟨m, hm⟩ := hM; exact ⟨m, (hb.cell (p := ⟨0, 0, none⟩) h0).trans hm⟩, Nat.lt_of_lt_of_le h0 hb.size⟩)
  clear HTP HRP hG1 hG2 hlen hgd hT hM h0
  by_cases h8 : 800 < s.size ∧ s.size ≤ 60000
  · have i1 : decide ((s.size : Int) > 800) = true := decide_eq_true (by omega)
    have i2 : decide ((s.size : Int) ≤ 60000) = true := decide_eq_true (by omega)
    clear h8
    go_enter Tryz.func5, Tryz.ntmps5
    go_wp2_with (first | (go_at_call 8; refine HAW.out.mono ?_; rintro e w1 ⟨rfl, hb1⟩))
    go_ret
    exact ⟨rfl, hb1⟩
  by_cases h6 : 60050 < s.size
  · have i1 : decide ((s.size : Int) > 800) = true := decide_eq_true (by omega)
    have i2 : decide ((s.size : Int) ≤ 60000) = false := decide_eq_false (by omega)
    have i3 : decide ((s.size : Int) > 60050) = true := decide_eq_true (by omega)
    clear h8 h6
    go_enter Tryz.func5, Tryz.ntmps5
    go_wp2_with (first | (go_at_call 8; refine HAW.out.mono ?_; rintro e w1 ⟨rfl, hb1⟩))
    go_ret
    exact ⟨rfl, hb1⟩
  have i3 : decide ((s.size : Int) > 60050) = false := decide_eq_false (by omega)
  have HTP2 := Lib.hid (HTP1.out (by omega))
  have HRP2 := Lib.hid (HRP1.out (by omega))
  have hcase : (decide ((s.size : Int) > 800) = false) ∨ (decide ((s.size : Int) > 800) = true ∧ decide ((s.size : Int) ≤ 60000) = false) := by
    by_cases h : 800 < s.size
    · exact Or.inr ⟨decide_eq_true (by omega), decide_eq_false (by omega)⟩
    · exact Or.inl (decide_eq_false (by omega))
  clear h8 h6 HTP1 HRP1
  have HE8 : ∀ (er2 : Int), True := fun _ => trivial
  by_cases he : er = 0
  · subst he
    rcases hcase with i1 | ⟨i1, i2⟩
    all_goals
      go_enter Tryz.func5, Tryz.ntmps5
      go_wp2_with (first
        | (go_at_call 8; refine HAW.out.mono ?_; rintro e w1 ⟨rfl, hb1⟩; have HB1 := Lib.hid hb1; clear hb1)
        | (go_at_call 23; refine (HTP2.out _ (HMW.out _ HB1.out).1 (HMW.out _ HB1.out).2).mono ?_; rintro e w2 ⟨A2, c2, l2, rfl, hr2, hb2⟩; have HB2 := Lib.hid (HB1.out.trans (hb2.mono HB1.out.size)); have HR2 := Lib.hid hr2; clear hb2 hr2)
        | (go_at_call 26; refine (HRP2.out _).mono ?_; rintro e w3 ⟨A3, c3, l3, rfl, hr3, hb3⟩; have HB3 := Lib.hid ((HB2.out.alloc HB2.out.size _).trans (hb3.mono (HB2.out.alloc HB2.out.size _).size)); have HR3 := Lib.hid ((HR2.out.alloc _).below hb3); have HS3 := Lib.hid hr3; have bx3 := (BoxAt.new w2 #[.int .i64 mx, .int .i64 my] 49).below hb3; have k0 : w3.cell? ⟨w2.heap.size, 0, none⟩ = some (.int .i64 mx) := bx3.cell 0; have k1 : w3.cell? ⟨w2.heap.size, 1, none⟩ = some (.int .i64 my) := bx3.cell 1; have lk := bx3.lt; clear hb3 hr3 bx3)
        | (go_at_call 25; refine (HCS.out A2 A3 l2 l3 c2 c3 _ (HR3.out.alloc _) (HS3.out.alloc _)).mono ?_; rintro e w4 ⟨rfl, hb4⟩; have HB4 := Lib.hid ((HB3.out.alloc HB3.out.size _).trans (hb4.mono (HB3.out.alloc HB3.out.size _).size)); have HR4 := Lib.hid ((HR3.out.alloc _).below hb4); clear hb4)
        | (go_at_call 20; refine (HCO.out A2 l2 c2 _ HR4.out).mono ?_; rintro e w5 ⟨A5, c5, l5, rfl, hr5, hb5⟩; have HB5 := Lib.hid (HB4.out.trans (hb5.mono HB4.out.size)); have HR5 := Lib.hid hr5; clear hb5 hr5)
        | (go_at_call 19; refine (HCP.out A5 l5 c5 _ HR5.out).mono ?_; rintro e w6 ⟨rfl, hb6⟩; have HB6 := Lib.hid (HB5.out.trans (hb6.mono HB5.out.size)); clear hb6))
      go_ret
      exact ⟨rfl, HB6.out⟩
  · have heb : (er != 0) = true := by simpa using he
    rcases hcase with i1 | ⟨i1, i2⟩
    all_goals
      go_enter Tryz.func5, Tryz.ntmps5
      go_wp2_with (first
        | (go_at_call 8; refine HAW.out.mono ?_; rintro e w1 ⟨rfl, hb1⟩; have HB1 := Lib.hid hb1; clear hb1)
        | (go_at_call 23; refine (HTP2.out _ (HMW.out _ HB1.out).1 (HMW.out _ HB1.out).2).mono ?_; rintro e w2 ⟨A2, c2, l2, rfl, hr2, hb2⟩; have HB2 := Lib.hid (HB1.out.trans (hb2.mono HB1.out.size)); have HR2 := Lib.hid hr2; clear hb2 hr2)
        | (go_at_call 26; refine (HRP2.out _).mono ?_; rintro e w3 ⟨A3, c3, l3, rfl, hr3, hb3⟩; have HB3 := Lib.hid ((HB2.out.alloc HB2.out.size _).trans (hb3.mono (HB2.out.alloc HB2.out.size _).size)); have HR3 := Lib.hid ((HR2.out.alloc _).below hb3); have HS3 := Lib.hid hr3; have bx3 := (BoxAt.new w2 #[.int .i64 mx, .int .i64 my] 49).below hb3; have k0 : w3.cell? ⟨w2.heap.size, 0, none⟩ = some (.int .i64 mx) := bx3.cell 0; have k1 : w3.cell? ⟨w2.heap.size, 1, none⟩ = some (.int .i64 my) := bx3.cell 1; have lk := bx3.lt; clear hb3 hr3 bx3)
        | (go_at_call 25; refine (HCS.out A2 A3 l2 l3 c2 c3 _ (HR3.out.alloc _) (HS3.out.alloc _)).mono ?_; rintro e w4 ⟨rfl, hb4⟩; have HB4 := Lib.hid ((HB3.out.alloc HB3.out.size _).trans (hb4.mono (HB3.out.alloc HB3.out.size _).size)); have HR4 := Lib.hid ((HR3.out.alloc _).below hb4); clear hb4))
      go_ret
      exact ⟨rfl, HB4.out⟩
end Go.Proofs.YtomblajlpanmjaaGreatDoor
