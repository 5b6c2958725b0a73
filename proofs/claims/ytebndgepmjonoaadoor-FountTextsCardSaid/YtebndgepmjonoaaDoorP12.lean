/-
  The reference's text of a fount; whether two founts are alike.
-/
import Derived.Test.YtebndgepmjonoaaDoorP11
namespace Go.Proofs.YtebndgepmjonoaaDoor
open Go.RowKit Go.Maps

theorem decimal_is (n : Int) (h1 : 1 ≤ n) (h2 : n ≤ 1000000) (w : World) :
    Calls Tryd.prog 53 #[.int .i64 n] w fun e w' => e = .returned (.string (itoaS n)) ∧ Below w.heap.size w w' := by
  obtain ⟨m, rfl⟩ : ∃ m : Nat, n = (m : Int) := ⟨n.toNat, by omega⟩
  refine (decimal_any m (by omega) (by omega) w).mono ?_
  rintro e w' ⟨⟨s, rfl, hs⟩, hb⟩
  obtain rfl : s = itoaS m := WideShapes.bytes_inj (by rw [hs]; rfl)
  exact ⟨rfl, hb⟩
set_option maxRecDepth 100000 in
set_option maxHeartbeats 8000000 in
theorem refPrint_any (f : FT) (a : Option Addr) (c : Nat) (w : World) (hF : FAt w a f) (h0 : (checkF f).2 = 0) :
    Calls Tryd.prog 26 #[.agg #[.string f.name, .int .i64 f.body, .slice a f.sorts.length c]] w fun e w' => e = .returned (.string (printF f)) ∧ Below w.heap.size w w' := by
  have hB0 : Below (w.heap.size + 1) (w.alloc (boxF f a c)) (w.alloc (boxF f a c)) := Below.refl _ _
  have E0 := Env.of hF hB0
  have q0 := E0.c0; have q1 := E0.c1; have q2 := E0.c2
  obtain ⟨hnm, hR, hall⟩ := checkF_right h0
  have hnb := name_bd hnm
  have hb1 := hR.1; have hb2 := hR.2.1; have hn120 := hR.2.2.2.1
  have H0 := Lib.hid h0; have HA := Lib.hid hall
  have hit := itoaS_size (n := f.body) (by omega)
  obtain ⟨t1, g1, z1, d1⟩ := add_ex ⟨#[102, 111, 117, 110, 116, 32]⟩ f.name (by show 6 + f.name.size ≤ _; omega)
  have z1' : t1.size ≤ 18 := by have : t1.size = 6 + f.name.size := z1; omega
  obtain ⟨t2, g2, z2, d2⟩ := add_ex t1 ⟨#[32]⟩ (by show t1.size + 1 ≤ _; omega)
  have z2' : t2.size ≤ 19 := by have : t2.size = t1.size + 1 := z2; omega
  obtain ⟨t3, g3, z3, d3⟩ := add_ex t2 (itoaS f.body) (by omega)
  obtain ⟨t4, g4, z4, d4⟩ := add_ex t3 ⟨#[10]⟩ (by show t3.size + 1 ≤ _; omega)
  have HD : Hid (t4.data.toList = printN f 0) := by rw [d4, d3, d2, d1]; rfl
  have HDC := Lib.hid (fun w => decimal_is f.body hb1 (by omega) w)
  clear z1 z2 z3 z4 d1 d2 d3 d4 hall hR hnm h0
  go_enter Tryd.func26, Tryd.ntmps26
  go_wp2_with fail
  go_region_held3 (fun w' => w'.cell? ⟨w.heap.size, 0, none⟩ = some (.string f.name) ∧ w'.cell? ⟨w.heap.size, 1, none⟩ = some (.int .i64 f.body)) (go_keep)
    (first | (go_at_call 53; refine (HDC.out _).mono ?_; rintro e w3 ⟨rfl, hb3⟩; have k0 := (hb3.cell (p := ⟨w.heap.size, 0, none⟩) E0.lt).trans E0.c0; have k1 := (hb3.cell (p := ⟨w.heap.size, 1, none⟩) E0.lt).trans E0.c1))
  have E3 := (E0.drew hF).step hF hb3
  clear hb3 E0 q0 q1 q2 k0 k1 g1 g2 g3 g4
  rename_i hHeld
  clear hHeld
  have q0 := E3.c0; have q1 := E3.c1; have q2 := E3.c2
  go_wp2_with fail
  go_loopw [3, 4] (fun v3 v4 wr => ∃ (k : Nat) (t : ByteArray), k ≤ f.sorts.length ∧ v4 = .int .i64 k ∧ v3 = .string t ∧ Hid (t.data.toList = printN f k) ∧ Env w f a c wr) (fun _ v4 _ => f.sorts.length - (intOf v4).toNat)
  case atStart => exact ⟨0, t4, Nat.zero_le _, rfl, rfl, HD, E3⟩
  case round =>
    obtain ⟨k, t, hk, rfl, rfl, HT, E⟩ := hrel
    clear q0 q1 q2 E3
    have q0 := E.c0; have q1 := E.c1; have q2 := E.c2; have hlt0 := E.lt
    by_cases hlt : k < f.sorts.length
    · obtain ⟨ad, rfl, had, s0, s1, s2, s3⟩ := E.fa.at_.at_ hlt
      have hkl : (k : Int) < (f.sorts.length : Int) := by omega
      obtain ⟨e1, e2, e3, e4, e5⟩ := sort_right HA.out hlt
      have e6 := text_bd H0.out hlt
      have hts : t.size ≤ 10000 := by
        have h1 := printN_bd H0.out k (by omega)
        have h2 := len_data t
        rw [HT.out] at h2
        omega
      have HP := Lib.hid (show printN f (k + 1) = printN f k ++ sortLine (f.sorts.getD k noTS) from rfl)
      generalize f.sorts.getD k noTS = y at s0 s1 s2 s3 e1 e2 e3 e4 e5 e6 HP
      have hiw := itoaS_size (n := y.width) (by omega)
      have HDW := Lib.hid (fun w => decimal_is y.width e4 (by omega) w)
      have h3 : y.kind = 1 ∨ y.kind = 2 ∨ y.kind = 3 := by omega
      rcases h3 with h3 | h3 | h3
      · rw [h3] at s2
        obtain ⟨u1, g1, z1, d1⟩ := add_ex t ⟨#[108, 101, 116, 116, 101, 114, 32]⟩ (by show t.size + 7 ≤ _; omega)
        have z1' : u1.size ≤ 10010 := by have : u1.size = t.size + 7 := z1; omega
        obtain ⟨u2, g2, z2, d2⟩ := add_ex u1 y.name (by omega)
        have z2' : u2.size ≤ 10030 := by omega
        obtain ⟨u3, g3, z3, d3⟩ := add_ex u2 ⟨#[32]⟩ (by show u2.size + 1 ≤ _; omega)
        have z3' : u3.size ≤ 10031 := by have : u3.size = u2.size + 1 := z3; omega
        obtain ⟨u4, g4, z4, d4⟩ := add_ex u3 y.text (by omega)
        have z4' : u4.size ≤ 10040 := by omega
        obtain ⟨u5, g5, z5, d5⟩ := add_ex u4 ⟨#[32]⟩ (by show u4.size + 1 ≤ _; omega)
        have z5' : u5.size ≤ 10041 := by have : u5.size = u4.size + 1 := z5; omega
        obtain ⟨u6, g6, z6, d6⟩ := add_ex u5 (itoaS y.width) (by omega)
        have z6' : u6.size ≤ 10070 := by omega
        obtain ⟨u7, g7, z7, d7⟩ := add_ex u6 ⟨#[10]⟩ (by show u6.size + 1 ≤ _; omega)
        have HN : Hid (u7.data.toList = printN f (k + 1)) := Lib.hid (by
          rw [HP.out, d7, d6, d5, d4, d3, d2, d1, HT.out]
          unfold sortLine kindWord
          rw [h3]
          simp [itoaS])
        have E2 := E.alloc hF (.cells #[.string y.name, .string y.text, .int .i64 1, .int .i64 y.width] 63)
        clear z1 z2 z5 z6 z7 d1 d2 d5 d6 d7 z3 z4 d3 d4 h3
        go_wp2_with fail
        refine (HDW.out _).mono ?_
        rintro e w5 ⟨rfl, hb5⟩
        have E5 := E2.step hF hb5
        clear hb5 E2
        go_wp2
        go_roundw
        case rel => exact ⟨k + 1, u7, by omega, by go_num, rfl, HN, E5⟩
        case measure => simp [intOf]; omega
      · rw [h3] at s2
        obtain ⟨u1, g1, z1, d1⟩ := add_ex t ⟨#[108, 105, 103, 97, 116, 117, 114, 101, 32]⟩ (by show t.size + 9 ≤ _; omega)
        have z1' : u1.size ≤ 10010 := by have : u1.size = t.size + 9 := z1; omega
        obtain ⟨u2, g2, z2, d2⟩ := add_ex u1 y.name (by omega)
        have z2' : u2.size ≤ 10030 := by omega
        obtain ⟨u3, g3, z3, d3⟩ := add_ex u2 ⟨#[32]⟩ (by show u2.size + 1 ≤ _; omega)
        have z3' : u3.size ≤ 10031 := by have : u3.size = u2.size + 1 := z3; omega
        obtain ⟨u4, g4, z4, d4⟩ := add_ex u3 y.text (by omega)
        have z4' : u4.size ≤ 10040 := by omega
        obtain ⟨u5, g5, z5, d5⟩ := add_ex u4 ⟨#[32]⟩ (by show u4.size + 1 ≤ _; omega)
        have z5' : u5.size ≤ 10041 := by have : u5.size = u4.size + 1 := z5; omega
        obtain ⟨u6, g6, z6, d6⟩ := add_ex u5 (itoaS y.width) (by omega)
        have z6' : u6.size ≤ 10070 := by omega
        obtain ⟨u7, g7, z7, d7⟩ := add_ex u6 ⟨#[10]⟩ (by show u6.size + 1 ≤ _; omega)
        have HN : Hid (u7.data.toList = printN f (k + 1)) := Lib.hid (by
          rw [HP.out, d7, d6, d5, d4, d3, d2, d1, HT.out]
          unfold sortLine kindWord
          rw [h3]
          simp [itoaS])
        have E2 := E.alloc hF (.cells #[.string y.name, .string y.text, .int .i64 2, .int .i64 y.width] 63)
        clear z1 z2 z5 z6 z7 d1 d2 d5 d6 d7 z3 z4 d3 d4 h3
        go_wp2_with fail
        refine (HDW.out _).mono ?_
        rintro e w5 ⟨rfl, hb5⟩
        have E5 := E2.step hF hb5
        clear hb5 E2
        go_wp2
        go_roundw
        case rel => exact ⟨k + 1, u7, by omega, by go_num, rfl, HN, E5⟩
        case measure => simp [intOf]; omega
      · rw [h3] at s2
        obtain ⟨u1, g1, z1, d1⟩ := add_ex t ⟨#[115, 112, 97, 99, 101, 32]⟩ (by show t.size + 6 ≤ _; omega)
        have z1' : u1.size ≤ 10010 := by have : u1.size = t.size + 6 := z1; omega
        obtain ⟨u2, g2, z2, d2⟩ := add_ex u1 y.name (by omega)
        have z2' : u2.size ≤ 10030 := by omega
        obtain ⟨u5, g5, z5, d5⟩ := add_ex u2 ⟨#[32]⟩ (by show u2.size + 1 ≤ _; omega)
        have z5' : u5.size ≤ 10041 := by have : u5.size = u2.size + 1 := z5; omega
        obtain ⟨u6, g6, z6, d6⟩ := add_ex u5 (itoaS y.width) (by omega)
        have z6' : u6.size ≤ 10070 := by omega
        obtain ⟨u7, g7, z7, d7⟩ := add_ex u6 ⟨#[10]⟩ (by show u6.size + 1 ≤ _; omega)
        have HN : Hid (u7.data.toList = printN f (k + 1)) := Lib.hid (by
          rw [HP.out, d7, d6, d5, d2, d1, HT.out]
          unfold sortLine kindWord
          rw [h3]
          simp [itoaS])
        have E2 := E.alloc hF (.cells #[.string y.name, .string y.text, .int .i64 3, .int .i64 y.width] 63)
        clear z1 z2 z5 z6 z7 d1 d2 d5 d6 d7 h3
        go_wp2_with fail
        refine (HDW.out _).mono ?_
        rintro e w5 ⟨rfl, hb5⟩
        have E5 := E2.step hF hb5
        clear hb5 E2
        go_wp2
        go_roundw
        case rel => exact ⟨k + 1, u7, by omega, by go_num, rfl, HN, E5⟩
        case measure => simp [intOf]; omega
    · obtain rfl : k = f.sorts.length := by omega
      have hlow := E.low
      obtain rfl : t = printF f := WideShapes.bytes_inj (by rw [HT.out]; rfl)
      go_wp2
      go_ret
      exact ⟨rfl, hlow⟩
end Go.Proofs.YtebndgepmjonoaaDoor
