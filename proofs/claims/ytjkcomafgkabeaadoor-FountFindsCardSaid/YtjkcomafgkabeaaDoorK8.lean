/-
  The law on finding sorts: its walk.
-/
import Derived.Test.YtjkcomafgkabeaaDoorU4
import Derived.Test.YtjkcomafgkabeaaDoorN8
import Derived.Test.YtjkcomafgkabeaaDoorR1
namespace Go.Proofs.YtjkcomafgkabeaaDoor
open Go.RowKit Go.Maps

structure FracAt (w : World) (g : Nat) (m n : Int) : Prop where
  lt : g < w.heap.size
  c0 : w.cell? ⟨g, 0, none⟩ = some (.int .i64 m)
  c1 : w.cell? ⟨g, 1, none⟩ = some (.int .i64 n)
theorem FracAt.below {w w' : World} {g : Nat} {m n : Int} (h : FracAt w g m n) (hb : Below w.heap.size w w') : FracAt w' g m n :=
  ⟨Nat.lt_of_lt_of_le h.lt hb.size, (hb.cell (p := ⟨g, 0, none⟩) h.lt).trans h.c0, (hb.cell (p := ⟨g, 1, none⟩) h.lt).trans h.c1⟩
theorem FracAt.new (w : World) (m n : Int) : FracAt (w.alloc (.cells #[.int .i64 m, .int .i64 n] 40)) w.heap.size m n := ⟨by simp, by simp, by simp⟩
theorem refEm_as {f : FT} {a : Option Addr} {c : Nat} {w : World} {E : Nat} (h : 1 ≤ f.body ∧ f.body ≤ 144) (hE : f.body * 60 = (E : Int)) :
    Calls Tryd.prog 23 #[.agg #[.string f.name, .int .i64 f.body, .slice a f.sorts.length c]] w fun e w' => e = .returned (.int .i64 E) ∧ Below w.heap.size w w' := by
  rw [← hE]; exact refEm_any f a c w h
theorem FracAt.drew {w : World} {g : Nat} {m n : Int} (h : FracAt w g m n) : FracAt w.drew g m n := ⟨h.lt, h.c0, h.c1⟩
theorem lowest_as {m n mg ng : Nat} (hm : m ≤ 1000000000) (hn : n ≤ 1000000000) (hn1 : 1 ≤ n) (h1 : m / Nat.gcd m n = mg) (h2 : n / Nat.gcd m n = ng) {w : World} :
    Calls Tryd.prog 31 #[.int .i64 m, .int .i64 n] w fun e w' => e = .returned (.agg #[.int .i64 mg, .int .i64 ng]) ∧ Below w.heap.size w w' := by
  subst h1 h2; exact lowest_any m n hm hn hn1 w
theorem within_as {n lo hi : Int} {w : World} {bl : Bool} (h : inB n lo hi = bl) :
    Calls Tryd.prog 30 #[.int .i64 n, .int .i64 lo, .int .i64 hi] w fun e w' => e = .returned (.bool bl) ∧ w' = w := within_same h
theorem part_as {f : FT} {a : Option Addr} {c : Nat} {x : Int} {w : World} (hF : FAt w a f) {v1 v2 v3 : Int} (h : partR f x = (v1, v2, v3)) :
    Calls Tryd.prog 26 #[.agg #[.string f.name, .int .i64 f.body, .slice a f.sorts.length c], .int .i64 x] w fun e w' => e = .returned (.tuple #[.agg #[.int .i64 v1, .int .i64 v2], .int .i64 v3]) ∧ Below w.heap.size w w' :=
  (PartOf_any f a c x w hF).mono fun e w' h' => by obtain ⟨h1, h2⟩ := h'; rw [h] at h1; exact ⟨h1, h2⟩
theorem find_as {f : FT} {a : Option Addr} {c : Nat} {s : ByteArray} {w : World} (hs : s.size ≤ maxLen) (hF : FAt w a f) {v1 v2 : Int} (h : findR f (sameName s) = (v1, v2)) :
    Calls Tryd.prog 27 #[.agg #[.string f.name, .int .i64 f.body, .slice a f.sorts.length c], .string s] w fun e w' => e = .returned (.tuple #[.int .i64 v1, .int .i64 v2]) ∧ Below w.heap.size w w' :=
  (Find_any f a c s w hs hF).mono fun e w' h' => by obtain ⟨h1, h2⟩ := h'; rw [h] at h1; exact ⟨h1, h2⟩
theorem printing_as {f : FT} {a : Option Addr} {c : Nat} {s : ByteArray} {w : World} (hs : s.size ≤ maxLen) (hF : FAt w a f) {v1 v2 : Int} (h : findR f (sameText s) = (v1, v2)) :
    Calls Tryd.prog 28 #[.agg #[.string f.name, .int .i64 f.body, .slice a f.sorts.length c], .string s] w fun e w' => e = .returned (.tuple #[.int .i64 v1, .int .i64 v2]) ∧ Below w.heap.size w w' :=
  (Printing_any f a c s w hs hF).mono fun e w' h' => by obtain ⟨h1, h2⟩ := h'; rw [h] at h1; exact ⟨h1, h2⟩
/-- What a look for a sort answers, of each side: in the program the number or 0 with an error, in the reference the number or -1. -/
inductive Found : Int → Int → Int → Prop
  | yes (i : Nat) : Found i 0 i
  | no : Found 0 6 (-1)
theorem found_of {f : FT} {p : TS → Bool} (h0 : (checkF f).2 = 0) : Found (findR f p).1 (findR f p).2 (idxI (f.sorts.findIdx? p)) := by
  have : findR f p = numR (f.sorts.findIdx? p) := by unfold findR; rw [if_neg (by simp [h0])]
  rw [this]
  cases f.sorts.findIdx? p
  · exact .no
  · exact .yes _

set_option maxRecDepth 100000 in
set_option maxHeartbeats 8000000 in
theorem finds_walk (f : FT) (a : Option Addr) (c : Nat) (x : Int) (s : ByteArray) (w : World) (hF : FAt w a f) (hL : LawOk w) (hc : f.sorts.length ≤ c) (ha : a = none → c = 0) (hs : s.size ≤ maxLen) :
    Calls Tryd.prog 4 #[.agg #[.string f.name, .int .i64 f.body, .slice a f.sorts.length c], .int .i64 x, .string s] w fun e w' => e = .returned (.bool true) ∧ Below w.heap.size w w' := by
  have hB0 : Below (w.heap.size + 1) (w.alloc (boxF f a c)) (w.alloc (boxF f a c)) := Below.refl _ _
  have E0 := Env.of hF hB0
  go_enter Tryd.func4, Tryd.ntmps4
  go_wp2_with fail
  refine (awake_any _ (hL.below E0.low)).mono ?_
  rintro e w2 ⟨rfl, hb2⟩
  have E2 := E0.step hF hb2
  have q0 := E2.c0; have q1 := E2.c1; have q2 := E2.c2
  clear hb2 E0
  go_wp2_with fail
  refine (few_any f a c _ E2.fa.ok E2.fa.at_).mono ?_
  rintro e w3 ⟨rfl, hb3⟩
  have E3 := E2.step hF hb3
  clear q0 q1 q2 hb3 E2
  have q0 := E3.c0; have q1 := E3.c1; have q2 := E3.c2
  cases hfew : fewB f
  · have hlow := E3.low
    go_wp2
    go_ret
    exact ⟨rfl, hlow⟩
  have hf123 := few_le hfew
  by_cases h20 : 20 < s.size
  · have h20' : (20 : Int) < (s.size : Int) := by omega
    have hlow := E3.low
    go_wp2
    go_ret
    exact ⟨rfl, hlow⟩
  have h20' : (s.size : Int) ≤ 20 := by omega
  clear hfew h20
  by_cases h0 : (checkF f).2 = 0
  case neg =>
    obtain ⟨X, eX⟩ : ∃ X, X = (checkF f).2 := ⟨_, rfl⟩
    have hpr : partR f x = (0, 0, X) := by unfold partR; rw [if_pos h0, eX]
    have hn1 : findR f (sameName s) = (0, X) := by unfold findR; rw [if_pos h0, eX]
    have hn2 : findR f (sameText s) = (0, X) := by unfold findR; rw [if_pos h0, eX]
    have hxb : (X != 0) = true := by rw [eX]; simpa using h0
    have HPR := Lib.hid hpr; have HN1 := Lib.hid hn1; have HN2 := Lib.hid hn2; have HX := Lib.hid eX
    clear hpr hn1 hn2 h0 eX
    go_wp2_with fail
    refine (copyFount_any f a c _ E3.fa (by omega) ha).mono ?_
    rintro e w4 ⟨gf4, cf4, rfl, hcf4, fc4, hb4⟩
    have E4 := E3.step hF hb4
    clear hb4 E3  q0 q1 q2
    have q0 := E4.c0; have q1 := E4.c1; have q2 := E4.c2
    go_wp2_with fail
    refine (part_as fc4 HPR.out).mono ?_
    rintro e w5 ⟨rfl, hb5⟩
    have E5 := E4.step hF hb5
    have fc5 := fc4.below hb5
    clear hb5 E4 fc4 q0 q1 q2
    have q0 := E5.c0; have q1 := E5.c1; have q2 := E5.c2
    clear fc5
    have fp6 := FracAt.new w5 (0) (0)
    have hbp : Below w5.heap.size w5 (w5.alloc (.cells #[.int .i64 (0), .int .i64 (0)] 40)) := (Below.refl _ _).alloc (Nat.le_refl _) _
    have E6 := E5.step hF hbp
    clear hbp E5 q0 q1 q2
    have z0 := fp6.c0; have z1 := fp6.c1
    have q0 := E6.c0; have q1 := E6.c1; have q2 := E6.c2
    go_wp2_with fail
    refine (copyFount_any f a c _ E6.fa (by omega) ha).mono ?_
    rintro e w7 ⟨gf7, cf7, rfl, hcf7, fc7, hb7⟩
    have E7 := E6.step hF hb7
    have fp7 := fp6.below hb7
    clear hb7 E6 fp6 q0 q1 q2
    have q0 := E7.c0; have q1 := E7.c1; have q2 := E7.c2
    clear z0 z1
    have z0 := fp7.c0; have z1 := fp7.c1
    go_wp2_with fail
    refine (find_as hs fc7 HN1.out).mono ?_
    rintro e w8 ⟨rfl, hb8⟩
    have E8 := E7.step hF hb8
    have fp8 := fp7.below hb8
    have fc8 := fc7.below hb8
    clear hb8 E7 fp7 fc7 q0 q1 q2
    have q0 := E8.c0; have q1 := E8.c1; have q2 := E8.c2
    clear z0 z1
    have z0 := fp8.c0; have z1 := fp8.c1
    clear fc8
    go_wp2_with fail
    refine (copyFount_any f a c _ E8.fa (by omega) ha).mono ?_
    rintro e w9 ⟨gf9, cf9, rfl, hcf9, fc9, hb9⟩
    have E9 := E8.step hF hb9
    have fp9 := fp8.below hb9
    clear hb9 E8 fp8 q0 q1 q2
    have q0 := E9.c0; have q1 := E9.c1; have q2 := E9.c2
    clear z0 z1
    have z0 := fp9.c0; have z1 := fp9.c1
    go_wp2_with fail
    refine (printing_as hs fc9 HN2.out).mono ?_
    rintro e w10 ⟨rfl, hb10⟩
    have E10 := E9.step hF hb10
    have fp10 := fp9.below hb10
    have fc10 := fc9.below hb10
    clear hb10 E9 fp9 fc9 q0 q1 q2
    have q0 := E10.c0; have q1 := E10.c1; have q2 := E10.c2
    clear z0 z1
    have z0 := fp10.c0; have z1 := fp10.c1
    clear fc10
    go_wp2_with fail
    refine (refErr_any f a c _ hc E10.fa.ok E10.fa.at_).mono ?_
    rintro e w11 ⟨rfl, hb11⟩
    have E11 := E10.step hF hb11
    have fp11 := fp10.below hb11
    clear hb11 E10 fp10 q0 q1 q2
    have q0 := E11.c0; have q1 := E11.c1; have q2 := E11.c2
    clear z0 z1
    have z0 := fp11.c0; have z1 := fp11.c1
    rw [← HX.out]
    have hlow := E11.low
    go_wp2
    go_ret
    exact ⟨rfl, hlow⟩
  obtain ⟨_, hR, _⟩ := checkF_right h0
  obtain ⟨hb1, hb2, _, hn120, hall⟩ := hR
  have hfo1 := found_of (p := sameName s) h0
  have hfo2 := found_of (p := sameText s) h0
  have HC := Lib.hid h0
  have hml : f.sorts.length ≤ maxLen := by unfold maxLen; omega
  obtain ⟨n1, en1⟩ : ∃ n1, n1 = (findR f (sameName s)).1 := ⟨_, rfl⟩
  obtain ⟨r1, er1⟩ : ∃ r1, r1 = (findR f (sameName s)).2 := ⟨_, rfl⟩
  obtain ⟨n2, en2⟩ : ∃ n2, n2 = (findR f (sameText s)).1 := ⟨_, rfl⟩
  obtain ⟨r2, er2⟩ : ∃ r2, r2 = (findR f (sameText s)).2 := ⟨_, rfl⟩
  have HN1 := Lib.hid (show findR f (sameName s) = (n1, r1) by rw [en1, er1])
  have HN2 := Lib.hid (show findR f (sameText s) = (n2, r2) by rw [en2, er2])
  rw [← en1, ← er1] at hfo1
  rw [← en2, ← er2] at hfo2
  clear en1 er1 en2 er2
  obtain ⟨y1, ey1⟩ : ∃ y1, y1 = idxI (f.sorts.findIdx? (sameName s)) := ⟨_, rfl⟩
  obtain ⟨y2, ey2⟩ : ∃ y2, y2 = idxI (f.sorts.findIdx? (sameText s)) := ⟨_, rfl⟩
  rw [← ey1] at hfo1
  rw [← ey2] at hfo2
  have HY1 := Lib.hid ey1.symm; have HY2 := Lib.hid ey2.symm
  clear ey1 ey2 h0
  cases hx : idxBad f.sorts.length x
  case true =>
    have HPR := Lib.hid (show partR f x = (0, 0, 6) by unfold partR; rw [if_neg (by simp [HC.out]), if_pos hx])
    have hin : inB x 0 ((f.sorts.length : Int) - 1) = false := decide_eq_false (by have := of_decide_eq_true (show decide _ = true from hx); omega)
    have HIN := Lib.hid hin
    clear hin hx hall
    go_wp2_with fail
    refine (copyFount_any f a c _ E3.fa (by omega) ha).mono ?_
    rintro e w4 ⟨gf4, cf4, rfl, hcf4, fc4, hb4⟩
    have E4 := E3.step hF hb4
    clear hb4 E3  q0 q1 q2
    have q0 := E4.c0; have q1 := E4.c1; have q2 := E4.c2
    go_wp2_with fail
    refine (part_as fc4 HPR.out).mono ?_
    rintro e w5 ⟨rfl, hb5⟩
    have E5 := E4.step hF hb5
    have fc5 := fc4.below hb5
    clear hb5 E4 fc4 q0 q1 q2
    have q0 := E5.c0; have q1 := E5.c1; have q2 := E5.c2
    clear fc5
    have fp6 := FracAt.new w5 (0) (0)
    have hbp : Below w5.heap.size w5 (w5.alloc (.cells #[.int .i64 (0), .int .i64 (0)] 40)) := (Below.refl _ _).alloc (Nat.le_refl _) _
    have E6 := E5.step hF hbp
    clear hbp E5 q0 q1 q2
    have z0 := fp6.c0; have z1 := fp6.c1
    have q0 := E6.c0; have q1 := E6.c1; have q2 := E6.c2
    go_wp2_with fail
    refine (copyFount_any f a c _ E6.fa (by omega) ha).mono ?_
    rintro e w7 ⟨gf7, cf7, rfl, hcf7, fc7, hb7⟩
    have E7 := E6.step hF hb7
    have fp7 := fp6.below hb7
    clear hb7 E6 fp6 q0 q1 q2
    have q0 := E7.c0; have q1 := E7.c1; have q2 := E7.c2
    clear z0 z1
    have z0 := fp7.c0; have z1 := fp7.c1
    go_wp2_with fail
    refine (find_as hs fc7 HN1.out).mono ?_
    rintro e w8 ⟨rfl, hb8⟩
    have E8 := E7.step hF hb8
    have fp8 := fp7.below hb8
    have fc8 := fc7.below hb8
    clear hb8 E7 fp7 fc7 q0 q1 q2
    have q0 := E8.c0; have q1 := E8.c1; have q2 := E8.c2
    clear z0 z1
    have z0 := fp8.c0; have z1 := fp8.c1
    clear fc8
    go_wp2_with fail
    refine (copyFount_any f a c _ E8.fa (by omega) ha).mono ?_
    rintro e w9 ⟨gf9, cf9, rfl, hcf9, fc9, hb9⟩
    have E9 := E8.step hF hb9
    have fp9 := fp8.below hb9
    clear hb9 E8 fp8 q0 q1 q2
    have q0 := E9.c0; have q1 := E9.c1; have q2 := E9.c2
    clear z0 z1
    have z0 := fp9.c0; have z1 := fp9.c1
    go_wp2_with fail
    refine (printing_as hs fc9 HN2.out).mono ?_
    rintro e w10 ⟨rfl, hb10⟩
    have E10 := E9.step hF hb10
    have fp10 := fp9.below hb10
    have fc10 := fc9.below hb10
    clear hb10 E9 fp9 fc9 q0 q1 q2
    have q0 := E10.c0; have q1 := E10.c1; have q2 := E10.c2
    clear z0 z1
    have z0 := fp10.c0; have z1 := fp10.c1
    clear fc10
    go_wp2_with fail
    refine (refErr_any f a c _ hc E10.fa.ok E10.fa.at_).mono ?_
    rintro e w11 ⟨rfl, hb11⟩
    have E11 := E10.step hF hb11
    have fp11 := fp10.below hb11
    clear hb11 E10 fp10 q0 q1 q2
    have q0 := E11.c0; have q1 := E11.c1; have q2 := E11.c2
    clear z0 z1
    have z0 := fp11.c0; have z1 := fp11.c1
    rw [HC.out]
    have hwn : IntKind.i64.wrap ((f.sorts.length : Int) - 1) = (f.sorts.length : Int) - 1 := IntWalk.i64_in _ (by omega)
    go_wp2_with fail
    refine (within_as HIN.out).mono ?_
    rintro e w20 ⟨rfl, rfl⟩
    clear hwn
    go_wp2_with fail
    go_region_held3 (fun w' => w'.cell? ⟨w.heap.size, 0, none⟩ = some (.string f.name) ∧ w'.cell? ⟨w.heap.size, 1, none⟩ = some (.int .i64 f.body) ∧ w'.cell? ⟨w.heap.size, 2, none⟩ = some (.slice a f.sorts.length c)) (go_keep)
      (first | (go_at_call 32; refine (refFind_any f a c s _ (by exact E11.fa.at_) hml).mono ?_; rintro e w12 ⟨rfl, hb12⟩; have E12 := (E11.drew hF).step hF hb12; have k0 := E12.c0; have k1 := E12.c1; have k2 := E12.c2) | (go_at_call 33; refine (refPrinting_any f a c s _ (by exact E12.fa) hn120).mono ?_; rintro e w13 ⟨rfl, hb13⟩; have E13 := E12.step hF hb13; have k0 := E13.c0; have k1 := E13.c1; have k2 := E13.c2))
    rw [HY1.out, HY2.out]
    have hlow := E13.low
    clear k0 k1 k2 q0 q1 q2 hb12 hb13 E11
    rcases hfo1 with i1 | _ <;> rcases hfo2 with i2 | _
    case yes.yes =>
      have m1 : max (i1 : Int) 0 = i1 := by omega
      have m3 : (0 : Int) ≤ i1 := by omega
      have m2 : max (i2 : Int) 0 = i2 := by omega
      have m4 : (0 : Int) ≤ i2 := by omega
      go_wp2
      go_ret
      exact ⟨rfl, hlow⟩
    case yes.no =>
      have m1 : max (i1 : Int) 0 = i1 := by omega
      have m3 : (0 : Int) ≤ i1 := by omega
      have m5 : max (-1 : Int) 0 = 0 := by decide
      go_wp2
      go_ret
      exact ⟨rfl, hlow⟩
    case no.yes =>
      have m2 : max (i2 : Int) 0 = i2 := by omega
      have m4 : (0 : Int) ≤ i2 := by omega
      have m5 : max (-1 : Int) 0 = 0 := by decide
      go_wp2
      go_ret
      exact ⟨rfl, hlow⟩
    case no.no =>
      have m5 : max (-1 : Int) 0 = 0 := by decide
      go_wp2
      go_ret
      exact ⟨rfl, hlow⟩
  have hxr := of_decide_eq_false (show decide _ = false from hx)
  obtain ⟨k, rfl⟩ : ∃ k : Nat, x = (k : Int) := ⟨x.toNat, by omega⟩
  have hk : k < f.sorts.length := by omega
  obtain ⟨hw1, hw2, _⟩ := hall k hk
  obtain ⟨W, eW⟩ : ∃ W : Nat, (f.sorts.getD k noTS).width = (W : Int) := ⟨(f.sorts.getD k noTS).width.toNat, by omega⟩
  obtain ⟨E, eE⟩ : ∃ E : Nat, f.body * 60 = (E : Int) := ⟨(f.body * 60).toNat, by omega⟩
  have hE1 : 1 ≤ E := by omega
  have hE2 : E ≤ 1000000000 := by omega
  have hW2 : W ≤ 1000000000 := by omega
  obtain ⟨mg, emg⟩ : ∃ mg, mg = W / Nat.gcd W E := ⟨_, rfl⟩
  obtain ⟨ng, eng⟩ : ∃ ng, ng = E / Nat.gcd W E := ⟨_, rfl⟩
  have HPR := Lib.hid (show partR f (k : Int) = ((mg : Int), (ng : Int), 0) by
    unfold partR partW emN
    rw [if_neg (by simp [HC.out]), if_neg (by simp [hx]), Int.toNat_natCast, eW, eE, Int.toNat_natCast, Int.toNat_natCast, emg, eng])
  have HMG := Lib.hid emg.symm; have HNG := Lib.hid eng.symm
  have HEE := Lib.hid eE
  have HEW := Lib.hid eW
  have HIN := Lib.hid (show inB (k : Int) 0 ((f.sorts.length : Int) - 1) = true from decide_eq_true (by omega))
  have hkl : (k : Int) < (f.sorts.length : Int) := by omega
  clear emg eng eE eW hx hxr hw1 hw2 hall
  go_wp2_with fail
  refine (copyFount_any f a c _ E3.fa (by omega) ha).mono ?_
  rintro e w4 ⟨gf4, cf4, rfl, hcf4, fc4, hb4⟩
  have E4 := E3.step hF hb4
  clear hb4 E3  q0 q1 q2
  have q0 := E4.c0; have q1 := E4.c1; have q2 := E4.c2
  go_wp2_with fail
  refine (part_as fc4 HPR.out).mono ?_
  rintro e w5 ⟨rfl, hb5⟩
  have E5 := E4.step hF hb5
  have fc5 := fc4.below hb5
  clear hb5 E4 fc4 q0 q1 q2
  have q0 := E5.c0; have q1 := E5.c1; have q2 := E5.c2
  clear fc5
  have fp6 := FracAt.new w5 (mg) (ng)
  have hbp : Below w5.heap.size w5 (w5.alloc (.cells #[.int .i64 (mg), .int .i64 (ng)] 40)) := (Below.refl _ _).alloc (Nat.le_refl _) _
  have E6 := E5.step hF hbp
  clear hbp E5 q0 q1 q2
  have z0 := fp6.c0; have z1 := fp6.c1
  have q0 := E6.c0; have q1 := E6.c1; have q2 := E6.c2
  go_wp2_with fail
  refine (copyFount_any f a c _ E6.fa (by omega) ha).mono ?_
  rintro e w7 ⟨gf7, cf7, rfl, hcf7, fc7, hb7⟩
  have E7 := E6.step hF hb7
  have fp7 := fp6.below hb7
  clear hb7 E6 fp6 q0 q1 q2
  have q0 := E7.c0; have q1 := E7.c1; have q2 := E7.c2
  clear z0 z1
  have z0 := fp7.c0; have z1 := fp7.c1
  go_wp2_with fail
  refine (find_as hs fc7 HN1.out).mono ?_
  rintro e w8 ⟨rfl, hb8⟩
  have E8 := E7.step hF hb8
  have fp8 := fp7.below hb8
  have fc8 := fc7.below hb8
  clear hb8 E7 fp7 fc7 q0 q1 q2
  have q0 := E8.c0; have q1 := E8.c1; have q2 := E8.c2
  clear z0 z1
  have z0 := fp8.c0; have z1 := fp8.c1
  clear fc8
  go_wp2_with fail
  refine (copyFount_any f a c _ E8.fa (by omega) ha).mono ?_
  rintro e w9 ⟨gf9, cf9, rfl, hcf9, fc9, hb9⟩
  have E9 := E8.step hF hb9
  have fp9 := fp8.below hb9
  clear hb9 E8 fp8 q0 q1 q2
  have q0 := E9.c0; have q1 := E9.c1; have q2 := E9.c2
  clear z0 z1
  have z0 := fp9.c0; have z1 := fp9.c1
  go_wp2_with fail
  refine (printing_as hs fc9 HN2.out).mono ?_
  rintro e w10 ⟨rfl, hb10⟩
  have E10 := E9.step hF hb10
  have fp10 := fp9.below hb10
  have fc10 := fc9.below hb10
  clear hb10 E9 fp9 fc9 q0 q1 q2
  have q0 := E10.c0; have q1 := E10.c1; have q2 := E10.c2
  clear z0 z1
  have z0 := fp10.c0; have z1 := fp10.c1
  clear fc10
  go_wp2_with fail
  refine (refErr_any f a c _ hc E10.fa.ok E10.fa.at_).mono ?_
  rintro e w11 ⟨rfl, hb11⟩
  have E11 := E10.step hF hb11
  have fp11 := fp10.below hb11
  clear hb11 E10 fp10 q0 q1 q2
  have q0 := E11.c0; have q1 := E11.c1; have q2 := E11.c2
  clear z0 z1
  have z0 := fp11.c0; have z1 := fp11.c1
  rw [HC.out]
  have hwn : IntKind.i64.wrap ((f.sorts.length : Int) - 1) = (f.sorts.length : Int) - 1 := IntWalk.i64_in _ (by omega)
  go_wp2_with fail
  refine (within_as HIN.out).mono ?_
  rintro e w20 ⟨rfl, rfl⟩
  clear hwn
  obtain ⟨ad, rfl, hadl, s0, s1, s2, s3⟩ := E11.fa.at_.at_ hk
  rw [HEW.out] at s3
  clear s0 s1 s2
  have hadk : (ad.add (k * 4)).block < w20.heap.size := by rw [add_block]; exact hadl
  go_wp2_with fail
  go_region_held3 (fun w' => w'.cell? ⟨w.heap.size, 0, none⟩ = some (.string f.name) ∧ w'.cell? ⟨w.heap.size, 1, none⟩ = some (.int .i64 f.body) ∧ w'.cell? ⟨w.heap.size, 2, none⟩ = some (.slice (some ad) f.sorts.length c) ∧ w'.cell? ⟨w5.heap.size, 0, none⟩ = some (.int .i64 mg) ∧ w'.cell? ⟨w5.heap.size, 1, none⟩ = some (.int .i64 ng) ∧ w'.cell? ⟨(ad.add (k * 4)).block, (ad.add (k * 4)).off + 3, none⟩ = some (.int .i64 W)) (go_keep)
    (first | (go_at_call 23; refine (refEm_as ⟨hb1, hb2⟩ HEE.out).mono ?_; rintro e w12 ⟨rfl, hb12⟩; have E12 := (E11.drew hF).step hF hb12; have fp12 := fp11.drew.below hb12; have k0 := E12.c0; have k1 := E12.c1; have k2 := E12.c2; have k3 := fp12.c0; have k4 := fp12.c1; have k5 := (hb12.cell (p := ⟨(ad.add (k * 4)).block, (ad.add (k * 4)).off + 3, none⟩) hadk).trans s3; have hadk' := Nat.lt_of_lt_of_le hadk hb12.size) | (go_at_call 31; refine (lowest_as hW2 hE2 hE1 HMG.out HNG.out).mono ?_; rintro e w13 ⟨rfl, hb13⟩; have E13 := E12.step hF hb13; have fp13 := fp12.below hb13; have k0 := E13.c0; have k1 := E13.c1; have k2 := E13.c2; have k3 := fp13.c0; have k4 := fp13.c1; have k5 := (hb13.cell (p := ⟨(ad.add (k * 4)).block, (ad.add (k * 4)).off + 3, none⟩) hadk').trans k5))
  clear k0 k1 k2 k3 k4 k5 q0 q1 q2 z0 z1 s3 hb12 hb13 E11 E12 fp11 fp12
  rename_i hHeld
  clear hHeld
  have q0 := E13.c0; have q1 := E13.c1; have q2 := E13.c2
  go_wp2_with fail
  go_region_held3 (fun w' => w'.cell? ⟨w.heap.size, 0, none⟩ = some (.string f.name) ∧ w'.cell? ⟨w.heap.size, 1, none⟩ = some (.int .i64 f.body) ∧ w'.cell? ⟨w.heap.size, 2, none⟩ = some (.slice (some ad) f.sorts.length c)) (go_keep)
    (first | (go_at_call 32; refine (refFind_any f (some ad) c s _ (by exact E13.fa.at_) hml).mono ?_; rintro e w14 ⟨rfl, hb14⟩; have E14 := (E13.drew hF).step hF hb14; have k0 := E14.c0; have k1 := E14.c1; have k2 := E14.c2) | (go_at_call 33; refine (refPrinting_any f (some ad) c s _ (by exact E14.fa) hn120).mono ?_; rintro e w15 ⟨rfl, hb15⟩; have E15 := E14.step hF hb15; have k0 := E15.c0; have k1 := E15.c1; have k2 := E15.c2))
  rw [HY1.out, HY2.out]
  have hlow := E15.low
  clear k0 k1 k2 q0 q1 q2 hb14 hb15 E13
  rcases hfo1 with i1 | _ <;> rcases hfo2 with i2 | _
  case yes.yes =>
    have m1 : max (i1 : Int) 0 = i1 := by omega
    have m3 : (0 : Int) ≤ i1 := by omega
    have m2 : max (i2 : Int) 0 = i2 := by omega
    have m4 : (0 : Int) ≤ i2 := by omega
    go_wp2
    go_ret
    exact ⟨rfl, hlow⟩
  case yes.no =>
    have m1 : max (i1 : Int) 0 = i1 := by omega
    have m3 : (0 : Int) ≤ i1 := by omega
    have m5 : max (-1 : Int) 0 = 0 := by decide
    go_wp2
    go_ret
    exact ⟨rfl, hlow⟩
  case no.yes =>
    have m2 : max (i2 : Int) 0 = i2 := by omega
    have m4 : (0 : Int) ≤ i2 := by omega
    have m5 : max (-1 : Int) 0 = 0 := by decide
    go_wp2
    go_ret
    exact ⟨rfl, hlow⟩
  case no.no =>
    have m5 : max (-1 : Int) 0 = 0 := by decide
    go_wp2
    go_ret
    exact ⟨rfl, hlow⟩
end Go.Proofs.YtjkcomafgkabeaaDoor
