/-
  The law on schemes and folds that are written, read, printed twice, cut and folded: its walk.
-/
import Derived.Test.YtgoandhlcekmiaaGreatDoorKJ
import Derived.Test.YtgoandhlcekmiaaGreatDoorKP
import Derived.Test.YtgoandhlcekmiaaGreatDoorTD
import Derived.Test.YtgoandhlcekmiaaGreatDoorTQ
import Derived.Test.YtgoandhlcekmiaaGreatDoorKW
import Derived.Test.YtgoandhlcekmiaaGreatDoorDI
import Derived.Test.YtgoandhlcekmiaaGreatDoorDO
namespace Go.Proofs.YtgoandhlcekmiaaGreatDoor
open Go.RowKit

theorem comb_n (C R : Int) (a : Option Addr) (n : Nat) (L : List Cell) (c : Nat) (b : Bool) (w : World) (hn : n = L.length) (hL : RowsAt 4 Cell.l w a L) (hl : L.length ≤ 1000000) {q : Int} {D : Int × Int} {V : List Page} (h1 : cbErr C R L b = q) (h2 : cbD C R L b = D) (h3 : cbL C R L b = V) :
    Calls Tryz.prog 14 #[.agg #[.int .i64 C, .int .i64 R, .slice a n c], .bool b] w (CombPost w (.int .i64 q) D V) := by
  subst hn; rw [← h1, ← h2, ← h3]; exact combined_any C R a L c b w hL hl
theorem twC_n (C R : Int) (a : Option Addr) (n : Nat) (L : List Page) (c : Nat) (b : Bool) (w : World) (hn : n = L.length) (hL : RowsAt 2 Page.l w a L) (hl : L.length ≤ 1000000) {D : Int × Int} {X : List Cell} (h1 : twErr C R L = 0) (h2 : twD C R L = D) (h3 : twL C R L b = X) :
    Calls Tryz.prog 15 #[.agg #[.int .i64 C, .int .i64 R, .slice a n c], .bool b] w fun e w' => ∃ (a : Option Addr) (n c : Nat), e = .returned (.tuple #[.agg #[.int .i64 D.1, .int .i64 D.2, .slice a n c], .int .i64 0]) ∧ n = X.length ∧ RowsAt 4 Cell.l w' a X ∧ (a = none → c = 0) ∧ Below w.heap.size w w' := by
  subst hn
  have h := printedTwice_any C R a L c b w hL hl
  unfold TwPost at h
  rw [h1, h2, h3] at h
  exact h
theorem hvC_n (C R : Int) (a : Option Addr) (n : Nat) (L : List Cell) (c : Nat) (b : Bool) (w : World) (hn : n = L.length) (hL : RowsAt 4 Cell.l w a L) (hl : L.length ≤ 1000000) {q : Int} {D : Int × Int} {H1 H2 : List Cell} (h1 : hvErr C R L b = q) (h2 : hvD C R L b = D) (h3 : hv1 C R L b = H1) (h4 : hv2 C R L b = H2) :
    Calls Tryz.prog 16 #[.agg #[.int .i64 C, .int .i64 R, .slice a n c], .bool b] w (HalvesPost w q D H1 H2) := by
  subst hn; rw [← h1, ← h2, ← h3, ← h4]; exact halves_any C R a L c b w hL hl
theorem parse_n (s : ByteArray) (w : World) (hP : WF w) (hs : s.size ≤ 5000 ∨ 60000 < s.size) (hs2 : s.size ≤ 100000) {M : RdP} (hM : parseT s.data.toList = M) :
    Calls Tryz.prog 9 #[.string s] w (ParsePost w M) := by
  subst hM; exact parse_any s w hP hs hs2
theorem samePr_n (C R : Int) (L : List Cell) (a1 a2 : Option Addr) (n1 n2 c1 c2 : Nat) (w : World) (e1 : n1 = L.length) (e2 : n2 = L.length) (h1 : RowsAt 4 Cell.l w a1 L) (h2 : RowsAt 4 Cell.l w a2 L) (hl : L.length ≤ 1000000) :
    Calls Tryz.prog 12 #[.agg #[.int .i64 C, .int .i64 R, .slice a1 n1 c1], .agg #[.int .i64 C, .int .i64 R, .slice a2 n2 c2]] w fun e w' => e = .returned (.bool true) ∧ Below w.heap.size w w' := by
  subst e1; subst e2
  have hm : L.length ≤ maxLen := by unfold maxLen; omega
  refine (same_any ⟨C, R, L⟩ a1 c1 ⟨C, R, L⟩ a2 c2 w h1 h2 hm hm).mono fun e w' ⟨he, hb⟩ => ⟨?_, hb⟩
  rw [he]; exact ret_bool (by unfold sameS; simp)
theorem printRes_err {C R : Int} {L : List Cell} {q : Int} (h : (checkSc C R L).2 = q) : (printRes C R L).2 = q := by
  unfold printRes
  split
  · exact h
  · rename_i h2
    have h2 : (checkSc C R L).2 = 0 := Decidable.not_not.1 h2
    show (0 : Int) = q
    rw [← h, h2]
theorem print_n (C R : Int) (a : Option Addr) (L : List Cell) (n c : Nat) (w : World) (hP : WF w) (hn : n = L.length) (hL : RowsAt 4 Cell.l w a L) (hl : L.length ≤ 1000000) {q : Int} {fs : ByteArray} (h2 : (checkSc C R L).2 = q) (h1 : bs (printRes C R L).1 = fs) :
    Calls Tryz.prog 7 #[.agg #[.int .i64 C, .int .i64 R, .slice a n c]] w fun e w' => e = .returned (.tuple #[.string fs, .int .i64 q]) ∧ Below w.heap.size w w' := by
  rw [← h1, ← printRes_err h2, hn]; exact print_any C R a L c w hP hL hl
theorem printRes_right {Cn Rn : Nat} {L : List Cell} (h : (checkSc Cn Rn L).2 = 0) : (printRes Cn Rn L).1 = printT Cn Rn L := by
  unfold printRes; rw [if_neg (fun e => e h)]; rfl
theorem printed {Cn Rn : Nat} {L : List Cell} {fs : ByteArray} (h2 : (checkSc Cn Rn L).2 = 0) (h1 : bs (printRes Cn Rn L).1 = fs) : fs.size ≤ 5000 ∧ parseT fs.data.toList = ⟨Cn, Rn, L, 0, 0⟩ := by
  subst h1
  rw [printRes_right h2]
  exact ⟨by rw [bs_size]; exact print_len h2, by rw [show (bs (printT Cn Rn L)).data.toList = printT Cn Rn L from rfl]; exact parse_print h2⟩
theorem fparse_n (s : ByteArray) (t : List UInt8) (h : s = bs t) (w : World) (hs : t.length ≤ 1000) (hP : WF w) {M : List Fold × Int} (hM : parseM t = M) :
    Calls Tryz.prog 10 #[.string s] w (FParsePost w M) := by
  subst h; subst hM; exact parseFolds_any (bs t) w (by rw [bs_size]; exact hs) hP
theorem fmt_n (a : Option Addr) (L : List Fold) (n c : Nat) (w : World) (hn : n = L.length) (hL : RowsAt 2 Fold.l w a L) (hl : n ≤ 20) (hc : ∀ f ∈ L, OkI f.c) (hP : WF w) {s : ByteArray} (hs : bs (fmtM L) = s) :
    Calls Tryz.prog 11 #[.slice a n c] w fun e w' => e = .returned (.string s) ∧ Below w.heap.size w w' := by
  subst hs; exact formatFolds_any a L n c w hn hL hl hc hP
theorem sameF_w (a1 a2 : Option Addr) (n1 n2 : Nat) (L : List Fold) (c1 c2 : Nat) (w : World) (e1 : n1 = L.length) (e2 : n2 = L.length) (h1 : RowsAt 2 Fold.l w a1 L) (h2 : RowsAt 2 Fold.l w a2 L) (hl : L.length ≤ maxLen) :
    Calls Tryz.prog 13 #[.slice a1 n1 c1, .slice a2 n2 c2] w fun e w' => e = .returned (.bool true) ∧ Below w.heap.size w w' := by
  subst e1; subst e2
  refine (sameFolds_any a1 L c1 a2 L c2 w h1 h2 hl hl).mono fun e w' ⟨he, hd⟩ => ⟨?_, hd.below (Below.refl _ _)⟩
  rw [he]; exact ret_bool (decide_eq_true rfl)
set_option maxRecDepth 100000 in
set_option maxHeartbeats 16000000 in
theorem back_walk (x y : Int) (a : Option Addr) (L : List Fold) (c : Nat) (b : Bool) (w : World) (hL : RowsAt 2 Fold.l w a L) (hl : L.length ≤ maxLen) (hn : a = none → c = 0) (hI : ∀ z ∈ L, OkI z.c) (hW : WF w) :
    Calls Tryz.prog 3 #[.agg #[.int .i64 x, .int .i64 y], .slice a L.length c, .bool b] w fun e w' => e = .returned (.bool true) ∧ Below w.heap.size w w' := by
  unfold maxLen at hl
  go_enter Tryz.func3, Tryz.ntmps3
  go_wp2_with fail
  refine (imposed_any _).mono ?_
  rintro e w1 ⟨rfl, hb1⟩
  have hB1 := ((Below.refl w.heap.size w).alloc (Nat.le_refl _) (.cells #[.int .i64 x, .int .i64 y] 22)).trans (hb1.mono (B' := w.heap.size) (by simp))
  have bx1 := (BoxAt.new w #[.int .i64 x, .int .i64 y] 22).below hb1
  have hL1 := (hL.alloc (.cells #[.int .i64 x, .int .i64 y] 22)).below hb1
  clear hb1
  have c0 := bx1.cell 0; have c1 := bx1.cell 1
  simp at c0 c1
  by_cases h20 : 12 < L.length
  · go_wp2_with fail
    go_ret
    exact ⟨rfl, hB1⟩
  have h20' : L.length ≤ 12 := by omega
  have h20I : ¬ (12 : Int) < (L.length : Int) := by omega
  obtain ⟨p, hp⟩ : ∃ p, (checkFo x y L).1 = p := ⟨_, rfl⟩
  obtain ⟨q, hq⟩ : ∃ q, (checkFo x y L).2 = q := ⟨_, rfl⟩
  obtain ⟨D, hD⟩ : ∃ D, schemeD x y L = D := ⟨_, rfl⟩
  obtain ⟨M, hM⟩ : ∃ M, schemeC x y L = M := ⟨_, rfl⟩
  have HP := Lib.hid hp; have HQ := Lib.hid hq; have HD := Lib.hid hD; have HM := Lib.hid hM; have HI := Lib.hid hI; have HNC := Lib.hid hn; have HWF := Lib.hid hW
  have HLM : Hid (L.length ≤ maxLen) := Lib.hid (by unfold maxLen; omega)
  have HLL : Hid (L.length ≤ 1000000) := Lib.hid (by omega)
  have HLT : Hid (L.length ≤ 12) := Lib.hid h20'
  obtain ⟨D1, D2⟩ := D
  clear hp hq hD hM hI hn h20 hW
  go_wp2_with fail
  refine (refCheckFo_n x y a L.length L c _ rfl hL1 HLM.out HP.out HQ.out).mono ?_
  rintro e w2 ⟨rfl, hb2⟩
  have hB2 := hB1.trans (hb2.mono (B' := w.heap.size) hB1.size)
  have bx2 := bx1.below hb2
  have hL2 := hL1.below hb2
  clear hb2 hB1 bx1 hL1 c0 c1
  by_cases he : q = 0
  case neg =>
    have heb : (q != 0) = true := by simpa using he
    go_wp2_with fail
    go_ret
    exact ⟨rfl, hB2⟩
  subst he
  have s1 : (D1, D2) = (x, y) := by rw [← HD.out]; unfold schemeD; rw [if_pos HQ.out]
  injection s1 with e1 e2
  subst e1 e2
  have HMS : Hid (M = schemeP D1 D2 L) := Lib.hid (by rw [← HM.out]; unfold schemeC; rw [if_pos HQ.out])
  obtain ⟨hs, -, -⟩ := checkFo_ok HQ.out
  obtain ⟨sC, sR, sm⟩ := side_ok hs
  obtain ⟨cn, rfl⟩ : ∃ n : Nat, D1 = n := ⟨D1.toNat, by omega⟩
  obtain ⟨rn, rfl⟩ : ∃ n : Nat, D2 = n := ⟨D2.toNat, by omega⟩
  have hcr8 : cn ≤ 8 ∧ rn ≤ 8 := by omega
  have hp32 : cn * rn ≤ 32 := by have h : ((cn * rn : Nat) : Int) ≤ 32 := by rw [Int.natCast_mul]; exact sm
                                 omega
  have hp1 : 1 ≤ cn * rn := Nat.mul_pos (show 0 < cn by omega) (show 0 < rn by omega)
  have HML : Hid (M.length ≤ 64) := Lib.hid (by rw [HMS.out, schemeP_len]; omega)
  have HMM : Hid (M.length ≤ 1000000) := Lib.hid (Nat.le_trans HML.out (by decide))
  obtain ⟨N, hN⟩ : ∃ N : Int, N = 2 * (cn : Int) * (rn : Int) := ⟨_, rfl⟩
  have hNN : N = ((2 * (cn * rn) : Nat) : Int) := by rw [hN, Int.mul_assoc]; push_cast; rfl
  have hw1 : IntKind.i64.wrap (2 * (cn : Int)) = 2 * (cn : Int) := IntWalk.i64_in _ (by omega)
  have hw2 : IntKind.i64.wrap (2 * (cn : Int) * (rn : Int)) = N := by rw [← hN]; exact IntWalk.i64_in _ (by omega)
  have HN := Lib.hid hN; have HNN := Lib.hid hNN
  have HW1 := Lib.hid hw1; have HW2 := Lib.hid hw2
  have HSR : Hid ((checkSc cn rn M).2 = 0) := Lib.hid (by rw [HMS.out]; exact schemeP_right HQ.out)
  clear hs sC sR sm hN hNN hw1 hw2 hcr8 hp32 hp1
  clear h20I h20'
  have c0 := bx2.cell 0; have c1 := bx2.cell 1
  simp at c0 c1
  have hbl := bx2.lt
  have hq : Below w2.heap.size w2 w2.drew := (Below.refl _ w2).drew
  have jn0 := World.new_ne _ _ c0; have jn1 := World.new_ne _ _ c1
  go_wp2_with fail
  have OA : OwnR 2 59 Fold.l (w2.alloc (.cells #[] 59)) w2.heap.size (.slice (some ⟨w2.heap.size, 0, none⟩) 0 0) [] := World.ownsRow_made (e := 59) (size := 2) (base := w2.heap.size) w2 #[] 0 (Nat.le_refl _) (Nat.zero_le _) rfl
  have OC : OwnR 2 59 Fold.l ((w2.alloc (.cells #[.int .i64 0, .int .i64 0, .slice none 0 0] 29)).alloc (.cells #[] 59)) w2.heap.size (.slice (some ⟨w2.heap.size + 1, 0, none⟩) 0 0) [] := by
    have h := World.ownsRow_made (e := 59) (size := 2) (base := w2.heap.size) (w2.alloc (.cells #[.int .i64 0, .int .i64 0, .slice none 0 0] 29)) #[] 0 (by simp) (Nat.zero_le _) rfl
    rw [show (w2.alloc (.cells #[.int .i64 0, .int .i64 0, .slice none 0 0] 29)).heap.size = w2.heap.size + 1 by simp] at h
    exact h
  have HA := (Below.refl w2.heap.size w2).alloc (Nat.le_refl _) (.cells #[] 59)
  have HC := (Below.refl w2.heap.size w2).alloc (Nat.le_refl _) (.cells #[.int .i64 0, .int .i64 0, .slice none 0 0] 29)
  have BZ2 : BoxAt ((w2.alloc (.cells #[] 59)).alloc (.cells #[.int .i64 0, .int .i64 0, .slice none 0 0] 29)).drew (w2.heap.size + 1) #[.int .i64 0, .int .i64 0, .slice none 0 0] 29 := by
    have h := BoxAt.new (w2.alloc (.cells #[] 59)) #[.int .i64 0, .int .i64 0, .slice none 0 0] 29
    rw [show (w2.alloc (.cells #[] 59)).heap.size = w2.heap.size + 1 by simp] at h
    exact h
  have BZ3 : BoxAt ((w2.alloc (.cells #[.int .i64 0, .int .i64 0, .slice none 0 0] 29)).alloc (.cells #[] 59)).drew w2.heap.size #[.int .i64 0, .int .i64 0, .slice none 0 0] 29 := (BoxAt.new w2 _ _).alloc _
  go_cut [9, 10] from 40 to 154 (fun v5 v6 wx => v6 = .int .i64 0 ∧ ∃ sa sn sc, Hid (sn = M.length) ∧ Hid (sa = none → sc = 0) ∧ ∃ b5, v5 = .pointer (some ⟨b5, 0, none⟩) ∧ BoxAt wx b5 #[.int .i64 cn, .int .i64 rn, .slice sa sn sc] 29 ∧ RowsAt 4 Cell.l wx sa M ∧ Below w2.heap.size w2 wx)
  case first =>
    rename_i J9 K9 hR9 hM9
    go_region_held3 (fun w' => w'.cell? ⟨w.heap.size, 0, none⟩ = some (.int .i64 cn) ∧ w'.cell? ⟨w.heap.size, 1, none⟩ = some (.int .i64 rn)) (first | exact ⟨j0, j1⟩ | go_keep)
      (first
        | (refine step_appL tFold fold_l _ (by rfl) _ _ (by rfl) w2.heap.size _ [] (by rfl) OA.drew a L L.length c rfl (by rfl) (hL2.alloc _).drew HNC.out (by simp) HLL.out (by simp <;> omega) ?_; intro v2 v hO2 hg2 hbv ho2; obtain ⟨a2, d2, e2, hr2, -, -, -, -⟩ := hO2.rows fold_l; obtain ⟨n2, hn2⟩ : ∃ n, n = L.length := ⟨_, rfl⟩; rw [List.nil_append] at hr2 e2; rw [← hn2] at e2; subst e2; have HN2 := Lib.hid hn2; clear hn2; have hq := HA.drew.trans hbv; have j0 := (hq.cell (p := ⟨w.heap.size, 0, none⟩) hbl).trans c0; have jn0 := World.new_ne _ _ j0; have j1 := (hq.cell (p := ⟨w.heap.size, 1, none⟩) hbl).trans c1; have jn1 := World.new_ne _ _ j1)
        | (refine step_appL tFold fold_l _ (by rfl) _ _ (by rfl) w2.heap.size _ [] (by rfl) (OA.alloc _).drew a L L.length c rfl (by rfl) ((hL2.alloc _).alloc _).drew HNC.out (by simp) HLL.out (by simp <;> omega) ?_; intro v2 v hO2 hg2 hbv ho2; obtain ⟨a2, d2, e2, hr2, -, -, -, -⟩ := hO2.rows fold_l; obtain ⟨n2, hn2⟩ : ∃ n, n = L.length := ⟨_, rfl⟩; rw [List.nil_append] at hr2 e2; rw [← hn2] at e2; subst e2; have HN2 := Lib.hid hn2; clear hn2; have hq := (HA.alloc HA.size _).drew.trans hbv; have bal : BoxAt v (w2.heap.size + 1) #[.int .i64 0, .int .i64 0, .slice none 0 0] 29 := BZ2.grown hg2 (fun e => absurd (show w2.heap.size + 1 = w2.heap.size from Option.some.inj e) (by omega)); have hle := Nat.le_succ w2.heap.size; have fz := fun j => bal.free j; have hbl8 := bal.lt; have y0 := bal.cell 0; have y1 := bal.cell 1; have y2 := bal.cell 2; simp at y0 y1 y2; obtain ⟨nx1, ny1⟩ := lt_ne (show w.heap.size < w2.heap.size + 1 from Nat.lt_succ_of_lt hbl); have j0 := (hq.cell (p := ⟨w.heap.size, 0, none⟩) hbl).trans c0; have jn0 := World.new_ne _ _ j0; have j1 := (hq.cell (p := ⟨w.heap.size, 1, none⟩) hbl).trans c1; have jn1 := World.new_ne _ _ j1)
        | (refine step_appL tFold fold_l _ (by rfl) _ _ (by rfl) w2.heap.size _ [] (by rfl) OC.drew a L L.length c rfl (by rfl) ((hL2.alloc _).alloc _).drew HNC.out (by simp) HLL.out (by simp <;> omega) ?_; intro v2 v hO2 hg2 hbv ho2; obtain ⟨a2, d2, e2, hr2, -, -, -, -⟩ := hO2.rows fold_l; obtain ⟨n2, hn2⟩ : ∃ n, n = L.length := ⟨_, rfl⟩; rw [List.nil_append] at hr2 e2; rw [← hn2] at e2; subst e2; have HN2 := Lib.hid hn2; clear hn2; have hq := (HC.alloc HC.size _).drew.trans hbv; have bal : BoxAt v w2.heap.size #[.int .i64 0, .int .i64 0, .slice none 0 0] 29 := BZ3.grown hg2 (fun e => absurd (show w2.heap.size = w2.heap.size + 1 from Option.some.inj e) (by omega)); have hle := Nat.le_refl w2.heap.size; have fz := fun j => bal.free j; have hbl8 := bal.lt; have y0 := bal.cell 0; have y1 := bal.cell 1; have y2 := bal.cell 2; simp at y0 y1 y2; obtain ⟨nx1, ny1⟩ := lt_ne hbl; have j0 := (hq.cell (p := ⟨w.heap.size, 0, none⟩) hbl).trans c0; have jn0 := World.new_ne _ _ j0; have j1 := (hq.cell (p := ⟨w.heap.size, 1, none⟩) hbl).trans c1; have jn1 := World.new_ne _ _ j1)
        | (go_at_call 6; refine (schemeOf_n cn rn a2 n2 L d2 _ HN2.out (by first | exact hr2 | exact hr2.alloc _) HLM.out HI.out HQ.out HD.out HM.out).mono ?_; rintro e v ⟨sa, sn, sc, rfl, hsn, hsr, hsnil, hbv⟩; have HSN := Lib.hid hsn; have HSX := Lib.hid hsnil; clear hsn hsnil; first | ((with_reducible have hq := keep_same hq hbv); (try (have bal := bal.below hbv; have fz := fun j => bal.free j; have hbl8 := bal.lt; have y0 := bal.cell 0; have y1 := bal.cell 1; have y2 := bal.cell 2; simp at y0 y1 y2)); have j0 := (hq.cell (p := ⟨w.heap.size, 0, none⟩) hbl).trans c0; have jn0 := World.new_ne _ _ j0; have j1 := (hq.cell (p := ⟨w.heap.size, 1, none⟩) hbl).trans c1; have jn1 := World.new_ne _ _ j1) | ((with_reducible have bal := box_new hbv); have fz := fun j => bal.free j; have hbl8 := bal.lt; have y0 := bal.cell 0; have y1 := bal.cell 1; have y2 := bal.cell 2; simp at y0 y1 y2; have hle := hq.size; obtain ⟨nx1, ny1⟩ := lt_ne (Nat.lt_of_lt_of_le hbl hq.size); (with_reducible have hq := keep_new hq hbv); have j0 := (hq.cell (p := ⟨w.heap.size, 0, none⟩) hbl).trans c0; have jn0 := World.new_ne _ _ j0; have j1 := (hq.cell (p := ⟨w.heap.size, 1, none⟩) hbl).trans c1; have jn1 := World.new_ne _ _ j1)))
    all_goals
      refine hM9 _ _ ?_
      refine Met.intro ?_
      refine hR9 _ _ ?_
      (repeat apply Exists.intro)
      refine ⟨?_, rfl⟩
    all_goals
      first
        | exact ⟨rfl, sa, sn, sc, HSN, HSX, (sc_fin1 hq hsr 0).2⟩
        | exact ⟨rfl, sa, sn, sc, HSN, HSX, (sc_fin2 bal hle hq hsr 0).2⟩
  case rest =>
  obtain ⟨rfl, sa, sn, sc, HSN, HSX, b5, rfl, bs3, hsr, hq1⟩ := hcut
  rename World => w3
  have hB3 := hB2.trans (hq1.mono (B' := w.heap.size) hB2.size)
  have bx3 := bx2.below hq1
  have hL3 := hL2.below hq1
  clear hq1 hq bx2 hL2 hB2 c0 c1 hbl jn0 jn1 OA OC HA HC BZ2 BZ3
  have s0 := bs3.cell 0; have s1 := bs3.cell 1; have s2 := bs3.cell 2
  simp at s0 s1 s2
  obtain ⟨fs, hfs⟩ : ∃ fs, bs (printRes cn rn M).1 = fs := ⟨_, rfl⟩
  have HFS := Lib.hid hfs
  obtain ⟨hf1, hf2⟩ := printed HSR.out HFS.out
  have HF1 := Lib.hid hf1; have HF2 := Lib.hid hf2
  obtain ⟨ff, hff⟩ : ∃ ff, bs (fmtM L) = ff := ⟨_, rfl⟩
  have HFF := Lib.hid hff
  have HFL : Hid ((fmtM L).length ≤ 1000) := Lib.hid (by have := fmt_len HI.out; have := HLT.out; omega)
  clear hfs hf1 hf2 hff
  go_wp2_with fail
  refine (copySc_n (cn : Int) (rn : Int) sa sn M sc _ HSN.out hsr HMM.out HSX.out).mono ?_
  rintro e w4 ⟨a4, n4, d4, rfl, hn4, hr4, -, hb4⟩
  have HN4 := Lib.hid hn4
  have hB4 := hB3.trans (hb4.mono (B' := w.heap.size) hB3.size)
  have bx4 := bx3.below hb4; have bs4 := bs3.below hb4; have hL4 := hL3.below hb4; have hsr4 := hsr.below hb4
  clear hb4 hB3 bx3 bs3 hL3 hsr hn4 s0 s1 s2
  go_wp2_with fail
  refine (print_n (cn : Int) (rn : Int) a4 M n4 d4 _ (HWF.out.below hB4) HN4.out hr4 HMM.out HSR.out HFS.out).mono ?_
  rintro e w5 ⟨rfl, hb5⟩
  have hB5 := hB4.trans (hb5.mono (B' := w.heap.size) hB4.size)
  have bx5 := bx4.below hb5; have bs5 := bs4.below hb5; have hL5 := hL4.below hb5; have hsr5 := hsr4.below hb5
  clear hb5 hB4 bx4 bs4 hL4 hsr4 hr4
  go_wp2_with fail
  refine (parse_n fs _ (HWF.out.below hB5) (Or.inl HF1.out) (by have := HF1.out; omega) HF2.out).mono ?_
  rintro e w6 ⟨a6, n6, d6, rfl, hn6, hr6, hx6, hb6⟩
  have HN6 := Lib.hid hn6; have HX6 := Lib.hid hx6
  have hB6 := hB5.trans (hb6.mono (B' := w.heap.size) hB5.size)
  have bx6 := bx5.below hb6; have bs6 := bs5.below hb6; have hL6 := hL5.below hb6; have hsr6 := hsr5.below hb6
  clear hb6 hB5 bx5 bs5 hL5 hsr5 hn6 hx6
  have br7 := BoxAt.new w6 #[.int .i64 (cn : Int), .int .i64 (rn : Int), .slice a6 n6 d6] 29
  have bx7 := bx6.alloc (.cells #[.int .i64 (cn : Int), .int .i64 (rn : Int), .slice a6 n6 d6] 29)
  have bs7 := bs6.alloc (.cells #[.int .i64 (cn : Int), .int .i64 (rn : Int), .slice a6 n6 d6] 29)
  have hB7 := hB6.alloc hB6.size (.cells #[.int .i64 (cn : Int), .int .i64 (rn : Int), .slice a6 n6 d6] 29)
  have hL7 := hL6.alloc (.cells #[.int .i64 (cn : Int), .int .i64 (rn : Int), .slice a6 n6 d6] 29)
  have hsr7 := hsr6.alloc (.cells #[.int .i64 (cn : Int), .int .i64 (rn : Int), .slice a6 n6 d6] 29)
  have hr7 := hr6.alloc (.cells #[.int .i64 (cn : Int), .int .i64 (rn : Int), .slice a6 n6 d6] 29)
  clear bx6 bs6 hB6 hL6 hsr6 hr6
  obtain ⟨w7, hw7⟩ : ∃ w7, w7 = w6.alloc (.cells #[.int .i64 (cn : Int), .int .i64 (rn : Int), .slice a6 n6 d6] 29) := ⟨_, rfl⟩
  obtain ⟨g7, hg7⟩ : ∃ g, g = w6.heap.size := ⟨_, rfl⟩
  rw [← hw7] at br7 bx7 bs7 hB7 hL7 hsr7 hr7
  rw [← hg7] at br7
  have HW7 := Lib.hid hw7; have HG7 := Lib.hid hg7
  clear hw7 hg7
  go_upto_region 11 with fail
  rw [← HW7.out, ← HG7.out]
  have hown : OwnR 2 59 Fold.l (w7.alloc (.cells #[] 59)) w7.heap.size (.slice (some ⟨w7.heap.size, 0, none⟩) 0 0) [] := World.ownsRow_made (e := 59) (size := 2) (base := w7.heap.size) w7 #[] 0 (Nat.le_refl _) (Nat.zero_le _) rfl
  have hbE := (Below.refl w7.heap.size w7).alloc (Nat.le_refl _) (.cells #[] 59)
  go_wp2_with (at_builtin; refine wpList_appL tFold fold_l _ rfl _ _ rfl w7.heap.size _ [] rfl hown a L c rfl (hL7.alloc _) HNC.out (by simp) HLL.out (by simp) ?_; intro v8 w8 hown8 hg8 hb8 hor8; obtain ⟨a8, d8, e8, hr8, -, -, -, -⟩ := hown8.rows fold_l; obtain ⟨n8, hn8⟩ : ∃ n, n = L.length := ⟨_, rfl⟩; rw [List.nil_append] at hr8 e8; rw [← hn8] at e8; subst e8; have HN8 := Lib.hid hn8; clear hn8)
  have hbX := hbE.trans hb8
  have bx8 := bx7.below hbX; have bs8 := bs7.below hbX; have br8 := br7.below hbX; have hL8 := hL7.below hbX; have hsr8 := hsr7.below hbX; have hr68 := hr7.below hbX
  have hB8 := hB7.trans (hbX.mono (B' := w.heap.size) hB7.size)
  clear hown8 hg8 hor8 hb8 hown hbE hbX bx7 bs7 br7 hB7 hL7 hsr7 hr7
  refine (fmt_n a8 L n8 d8 _ HN8.out hr8 (by have h1 := HN8.out; have h2 := HLT.out; omega) HI.out (HWF.out.below hB8) HFF.out).mono ?_
  rintro e w9 ⟨rfl, hb9⟩
  have bx9 := bx8.below hb9; have bs9 := bs8.below hb9; have br9 := br8.below hb9; have hL9 := hL8.below hb9; have hsr9 := hsr8.below hb9; have hr69 := hr68.below hb9
  have hB9 := hB8.trans (hb9.mono (B' := w.heap.size) hB8.size)
  clear hb9 bx8 bs8 br8 hB8 hL8 hsr8 hr68 hr8
  go_wp2_with fail
  refine (fparse_n ff (fmtM L) HFF.out.symm _ HFL.out (HWF.out.below hB9) (right_back HQ.out)).mono ?_
  rintro e w10 ⟨a10, n10, d10, rfl, hn10, hr10, hx10, hb10⟩
  have HN10 := Lib.hid hn10; have HX10 := Lib.hid hx10
  have bx10 := bx9.below hb10; have bs10 := bs9.below hb10; have br10 := br9.below hb10; have hL10 := hL9.below hb10; have hsr10 := hsr9.below hb10; have hr610 := hr69.below hb10
  have hB10 := hB9.trans (hb10.mono (B' := w.heap.size) hB9.size)
  clear hb10 bx9 bs9 br9 hB9 hL9 hsr9 hr69 hn10 hx10
  have s0 := bs10.cell 0; have s1 := bs10.cell 1; have s2 := bs10.cell 2
  have r0 := br10.cell 0; have r1 := br10.cell 1; have r2 := br10.cell 2
  simp at s0 s1 s2 r0 r1 r2
  go_wp2_with fail
  refine (samePr_n (cn : Int) (rn : Int) M a6 sa n6 sn d6 sc _ HN6.out HSN.out hr610 hsr10 HMM.out).mono ?_
  rintro e w11 ⟨rfl, hb11⟩
  have bx11 := bx10.below hb11; have br11 := br10.below hb11; have hL11 := hL10.below hb11; have hr611 := hr610.below hb11; have hr1011 := hr10.below hb11
  have hB11 := hB10.trans (hb11.mono (B' := w.heap.size) hB10.size)
  clear hb11 bx10 bs10 br10 hB10 hL10 hsr10 hr610 hr10 s0 s1 s2 r0 r1 r2
  go_wp2_with fail
  refine (sameF_w a10 a n10 L.length L d10 c _ HN10.out rfl hr1011 hL11 HLM.out).mono ?_
  rintro e w12 ⟨rfl, hb12⟩
  have bx12 := bx11.below hb12; have br12 := br11.below hb12; have hr612 := hr611.below hb12; have hr1012 := hr1011.below hb12
  have hB12 := hB11.trans (hb12.mono (B' := w.heap.size) hB11.size)
  clear hb12 bx11 br11 hB11 hL11 hr611 hr1011
  have r0 := br12.cell 0; have r1 := br12.cell 1; have r2 := br12.cell 2
  simp at r0 r1 r2
  go_wp2_with fail
  refine (copySc_n (cn : Int) (rn : Int) a6 n6 M d6 _ HN6.out hr612 HMM.out HX6.out).mono ?_
  rintro e w13 ⟨a13, n13, d13, rfl, hn13, hr13, -, hb13⟩
  have HN13 := Lib.hid hn13
  have bx13 := bx12.below hb13; have hr1013 := hr1012.below hb13
  have hB13 := hB12.trans (hb13.mono (B' := w.heap.size) hB12.size)
  clear hb13 bx12 br12 hB12 hr612 hr1012 hn13 r0 r1 r2
  obtain ⟨q2, hq2⟩ : ∃ q, cbErr cn rn M b = q := ⟨_, rfl⟩
  obtain ⟨DV, hDV⟩ : ∃ D, cbD cn rn M b = D := ⟨_, rfl⟩
  obtain ⟨V, hV⟩ : ∃ V, cbL cn rn M b = V := ⟨_, rfl⟩
  obtain ⟨V1, V2⟩ := DV
  have HQ2 := Lib.hid hq2; have HDV := Lib.hid hDV; have HV := Lib.hid hV
  have HVL : Hid (V.length ≤ 64) := Lib.hid (by rw [← hV]; exact cbL_len cn rn M b)
  clear hq2 hDV hV
  go_wp2_with fail
  refine (comb_n cn rn a13 n13 M d13 b _ HN13.out hr13 HMM.out HQ2.out HDV.out HV.out).mono ?_
  rintro e w14 ⟨a14, n14, d14, rfl, hn14, hr14, -, hb14⟩
  have HN14 := Lib.hid hn14
  have bx14 := bx13.below hb14; have hr1014 := hr1013.below hb14
  have hB14 := hB13.trans (hb14.mono (B' := w.heap.size) hB13.size)
  clear hb14 bx13 hB13 hr1013 hn14 hr13
  by_cases hq0 : q2 = 0
  case neg =>
    have hq8 : q2 = 8 := by
      have h := HQ2.out
      unfold cbErr at h
      rw [HSR.out, if_neg (by simp)] at h
      by_cases h1 : sideErr (cC (cn : Int).toNat b : Nat) (cR (rn : Int).toNat b : Nat) = 0
      · rw [if_neg (fun hh => hh h1)] at h; exact absurd h.symm hq0
      · rw [if_pos h1] at h; exact h.symm
    subst hq8
    have hB15 := hB14.alloc hB14.size (.cells #[.int .i64 V1, .int .i64 V2, .slice a14 n14 d14] 45)
    clear hq0
    go_wp2_with fail
    go_ret
    exact ⟨rfl, hB15⟩
  subst hq0
  obtain ⟨t1, t2, t3, t4, t5, t6⟩ := cb_right HSR.out HQ2.out
  have hDD : (V1, V2) = (((cC cn b : Nat) : Int), ((cR rn b : Nat) : Int)) := by rw [← HDV.out]; unfold cbD; rw [if_pos HQ2.out, Int.toNat_natCast, Int.toNat_natCast]
  injection hDD with s1 s2
  subst s1 s2
  have hVV : V = cbAll cn rn b M := by rw [← HV.out]; unfold cbL; rw [if_pos HQ2.out, Int.toNat_natCast, Int.toNat_natCast]
  rw [← hVV] at t1 t2 t3 t4 t5 t6
  obtain ⟨X, hX⟩ : ∃ X, twL (cC cn b : Nat) (cR rn b : Nat) V b = X := ⟨_, rfl⟩
  rw [hX] at t3 t4 t5 t6
  have T1 := Lib.hid t1; have T2 := Lib.hid t2; have T3 := Lib.hid t3; have T4 := Lib.hid t4; have T5 := Lib.hid t5; have T6 := Lib.hid t6; have HX := Lib.hid hX
  have HXL : Hid (X.length ≤ 1000000) := Lib.hid (by
    rw [← hX]; unfold twL
    rw [if_pos t1, twTo_len (Nat.le_refl _)]; have := HVL.out; omega)
  clear t1 t2 t3 t4 t5 t6 hVV hX
  have bv15 := BoxAt.new w14 #[.int .i64 (cC cn b : Nat), .int .i64 (cR rn b : Nat), .slice a14 n14 d14] 45
  have bx15 := bx14.alloc (.cells #[.int .i64 (cC cn b : Nat), .int .i64 (cR rn b : Nat), .slice a14 n14 d14] 45)
  have hB15 := hB14.alloc hB14.size (.cells #[.int .i64 (cC cn b : Nat), .int .i64 (cR rn b : Nat), .slice a14 n14 d14] 45)
  have hr1015 := hr1014.alloc (.cells #[.int .i64 (cC cn b : Nat), .int .i64 (cR rn b : Nat), .slice a14 n14 d14] 45)
  have hr1415 := hr14.alloc (.cells #[.int .i64 (cC cn b : Nat), .int .i64 (cR rn b : Nat), .slice a14 n14 d14] 45)
  clear bx14 hB14 hr1014 hr14
  have e0 := bv15.cell 0; have e1 := bv15.cell 1; have e2 := bv15.cell 2
  simp at e0 e1 e2
  go_wp2_with fail
  refine (twC_n _ _ a14 n14 V d14 b _ HN14.out hr1415 (Nat.le_trans HVL.out (by decide)) T1.out T2.out HX.out).mono ?_
  rintro e w16 ⟨a16, n16, d16, rfl, hn16, hr16, -, hb16⟩
  have HN16 := Lib.hid hn16
  have bx16 := bx15.below hb16; have hr1016 := hr1015.below hb16
  have hB16 := hB15.trans (hb16.mono (B' := w.heap.size) hB15.size)
  clear hb16 hn16 bx15 bv15 hB15 hr1015 hr1415 e0 e1 e2
  have bt17 := BoxAt.new w16 #[.int .i64 (cC cn b : Nat), .int .i64 (cR rn b : Nat), .slice a16 n16 d16] 29
  have bx17 := bx16.alloc (.cells #[.int .i64 (cC cn b : Nat), .int .i64 (cR rn b : Nat), .slice a16 n16 d16] 29)
  have hB17 := hB16.alloc hB16.size (.cells #[.int .i64 (cC cn b : Nat), .int .i64 (cR rn b : Nat), .slice a16 n16 d16] 29)
  have hr1017 := hr1016.alloc (.cells #[.int .i64 (cC cn b : Nat), .int .i64 (cR rn b : Nat), .slice a16 n16 d16] 29)
  have hr1617 := hr16.alloc (.cells #[.int .i64 (cC cn b : Nat), .int .i64 (cR rn b : Nat), .slice a16 n16 d16] 29)
  clear bx16 hB16 hr1016 hr16
  have e0 := bt17.cell 0; have e1 := bt17.cell 1; have e2 := bt17.cell 2
  simp at e0 e1 e2
  go_wp2_with fail
  refine (hvC_n _ _ a16 n16 X d16 b _ HN16.out hr1617 HXL.out T3.out T4.out T5.out T6.out).mono ?_
  rintro e w18 ⟨a18, n18, d18, a19, n19, d19, rfl, hn18, hn19, hr18, hr19, -, -, hb18⟩
  have HN18 := Lib.hid hn18; have HN19 := Lib.hid hn19
  have bx18 := bx17.below hb18; have hr1018 := hr1017.below hb18
  have hB18 := hB17.trans (hb18.mono (B' := w.heap.size) hB17.size)
  clear hb18 hn18 hn19 bx17 bt17 hB17 hr1017 hr1617 e0 e1 e2
  obtain ⟨w19, hw19⟩ : ∃ w19, w19 = w18.alloc (.cells #[.int .i64 cn, .int .i64 rn, .slice a18 n18 d18, .int .i64 cn, .int .i64 rn, .slice a19 n19 d19] 49) := ⟨_, rfl⟩
  have hA19 : Below w18.heap.size w18 w19 := by rw [hw19]; exact (Below.refl _ _).alloc (Nat.le_refl _) _
  obtain ⟨g19, hg19⟩ : ∃ g, g = w18.heap.size := ⟨_, rfl⟩
  have bg19 : BoxAt w19 g19 #[.int .i64 cn, .int .i64 rn, .slice a18 n18 d18, .int .i64 cn, .int .i64 rn, .slice a19 n19 d19] 49 := by rw [hw19, hg19]; exact BoxAt.new _ _ _
  have bx19 := bx18.below hA19; have hr1019 := hr1018.below hA19; have hr1819 := hr18.below hA19; have hr1919 := hr19.below hA19
  have hB19 := hB18.trans (hA19.mono (B' := w.heap.size) hB18.size)
  have HW19 := Lib.hid hw19; have HG19 := Lib.hid hg19
  clear hw19 hg19 hA19 bx18 hr1018 hr18 hr19 hB18
  go_upto_region 19 with fail
  rw [← HW19.out, ← HG19.out]
  have HRE : Hid (readE cn rn M L = 0) := Lib.hid (by unfold readE; rw [if_pos HSR.out, HQ.out])
  have hpl := pileP_len HQ.out
  rw [Int.toNat_natCast, Int.toNat_natCast] at hpl
  have HRP : Hid (readP cn rn M L = ordP (2 * (cn * rn))) := Lib.hid (by unfold readP; rw [if_pos ⟨HSR.out, HQ.out⟩, HMS.out, rd_ord HQ.out _ (Nat.le_refl _), hpl])
  clear hpl
  go_wp2_with fail
  have hgl := bg19.lt
  have HPM : Hid (2 * (cn * rn) ≤ 1000) := Lib.hid (by have h1 := HML.out; rw [HMS.out, schemeP_len] at h1; omega)
  go_loopw [24] (fun i wr => ∃ k : Int, (k = 0 ∨ k = 1 ∨ k = 2) ∧ i = .int .i64 k ∧ Below w19.heap.size w19 wr) (fun i _ => 2 - (intOf i).toNat)
  case atStart => exact ⟨0, Or.inl rfl, rfl, Below.refl _ _⟩
  case round =>
    obtain ⟨k, hk, rfl, hB⟩ := hrel
    have bg := bg19.below hB; have bx := bx19.below hB
    have hA0 := hr1019.below hB; have hH1 := hr1819.below hB; have hH2 := hr1919.below hB
    have hBw := hB19.trans (hB.mono (B' := w.heap.size) hB19.size)
    have e0 := bg.cell 0; have e1 := bg.cell 1; have e2 := bg.cell 2; have e3 := bg.cell 3; have e4 := bg.cell 4; have e5 := bg.cell 5
    have hwl := bg.lt
    simp at e0 e1 e2 e3 e4 e5
    have OA : OwnR 2 59 Fold.l (wr.alloc (.cells #[] 59)) wr.heap.size (.slice (some ⟨wr.heap.size, 0, none⟩) 0 0) [] := World.ownsRow_made (e := 59) (size := 2) (base := wr.heap.size) wr #[] 0 (Nat.le_refl _) (Nat.zero_le _) rfl
    have HA := (Below.refl wr.heap.size wr).alloc (Nat.le_refl _) (.cells #[] 59)
    have hq : Below wr.heap.size wr wr.drew := (Below.refl _ wr).drew
    rcases hk with rfl | rfl | rfl
    case inr.inr =>
      go_wp2_with fail
      go_ret
      exact ⟨rfl, hBw⟩
    case inl =>
      go_wp2_with fail
      go_cut [25, 26] from 127 to 154 (fun v25 v26 wx => v26 = .int .i64 0 ∧ ∃ pa pn pc, v25 = .slice pa pn pc ∧ Hid (pn = 2 * (cn * rn)) ∧ RowsAt 2 Page.l wx pa (ordP (2 * (cn * rn))) ∧ Below wr.heap.size wr wx)
      case first =>
        rename_i J9 K9 hR9 hM9
        go_region_held3 (fun w' => w'.cell? ⟨g19, 0, none⟩ = some (.int .i64 cn) ∧ w'.cell? ⟨g19, 1, none⟩ = some (.int .i64 rn) ∧ w'.cell? ⟨g19, 2, none⟩ = some (.slice a18 n18 d18)) (first | exact ⟨j0, j1, j2⟩ | go_keep)
          (first
            | (refine step_appL tFold fold_l _ (by rfl) _ _ (by rfl) wr.heap.size _ [] (by rfl) OA.drew a10 L n10 d10 HN10.out (by rfl) (hA0.alloc _).drew HX10.out (by simp) HLL.out (by simp <;> omega) ?_; intro v2 v hO2 hg2 hbv ho2; obtain ⟨a2, d2, e2', hr2, -, -, -, -⟩ := hO2.rows fold_l; obtain ⟨n2, hn2⟩ : ∃ n, n = L.length := ⟨_, rfl⟩; rw [List.nil_append] at hr2 e2'; rw [← hn2] at e2'; subst e2'; have HN2 := Lib.hid hn2; clear hn2; have hq := HA.drew.trans hbv; have j0 := (hq.cell (p := ⟨g19, 0, none⟩) hwl).trans e0; have j1 := (hq.cell (p := ⟨g19, 1, none⟩) hwl).trans e1; have j2 := (hq.cell (p := ⟨g19, 2, none⟩) hwl).trans e2)
            | (go_at_call 17; refine (reads_n (cn : Int) (rn : Int) a18 n18 M d18 a2 n2 L d2 _ HN18.out (hH1.below hq) HMM.out HN2.out (by first | exact hr2 | exact hr2.drew) HLM.out HI.out HRE.out HRP.out).mono ?_; rintro e v ⟨pa, pn, pc, rfl, hpn, hpr, -, hbv⟩; rw [ordP_len] at hpn; have HPN := Lib.hid hpn; clear hpn; have hq := hq.trans (hbv.mono (B' := wr.heap.size) hq.size); have j0 := (hq.cell (p := ⟨g19, 0, none⟩) hwl).trans e0; have j1 := (hq.cell (p := ⟨g19, 1, none⟩) hwl).trans e1; have j2 := (hq.cell (p := ⟨g19, 2, none⟩) hwl).trans e2))
        all_goals
          refine hM9 _ _ ?_
          refine Met.intro ?_
          refine hR9 _ _ ?_
          (repeat apply Exists.intro)
          refine ⟨?_, rfl⟩
        all_goals exact ⟨rfl, pa, pn, pc, rfl, HPN, hpr, hq⟩
      case rest =>
      obtain ⟨rfl, pa, pn, pc, rfl, HPN, hpr, hbx⟩ := hcut
      rename World => wx
      have bxx := bx.below hbx
      have c0 := bxx.cell 0; have c1 := bxx.cell 1
      simp at c0 c1
      have hpnN : N = (pn : Int) := by rw [HPN.out]; exact HNN.out
      have hpn64 : pn ≤ 1000 := by rw [HPN.out]; exact HPM.out
      have hw1 := HW1.out; have hw2 := HW2.out
      rw [hpnN] at hw2
      have hpp : ((pn : Int) != (pn : Int)) = false := by simp
      clear e0 e1 e2 e3 e4 e5 hwl OA HA hq hA0 hH1 hH2 bg
      go_wp2_with (go_at_call 18; refine (inOrder_any pa pn (2 * (cn * rn)) pc _ HPN.out hpr HPM.out).mono ?_; rintro e v ⟨rfl, hbv⟩; have hbz := hbx.trans (hbv.mono (B' := wr.heap.size) hbx.size))
      go_roundw
      case rel => exact ⟨1, Or.inr (Or.inl rfl), rfl, hB.trans (hbz.mono (B' := w19.heap.size) hB.size)⟩
      case measure => simp [intOf]
    case inr.inl =>
      go_wp2_with fail
      go_cut [25, 26] from 127 to 154 (fun v25 v26 wx => v26 = .int .i64 0 ∧ ∃ pa pn pc, v25 = .slice pa pn pc ∧ Hid (pn = 2 * (cn * rn)) ∧ RowsAt 2 Page.l wx pa (ordP (2 * (cn * rn))) ∧ Below wr.heap.size wr wx)
      case first =>
        rename_i J9 K9 hR9 hM9
        go_region_held3 (fun w' => w'.cell? ⟨g19, 3, none⟩ = some (.int .i64 cn) ∧ w'.cell? ⟨g19, 4, none⟩ = some (.int .i64 rn) ∧ w'.cell? ⟨g19, 5, none⟩ = some (.slice a19 n19 d19)) (first | exact ⟨j0, j1, j2⟩ | go_keep)
          (first
            | (refine step_appL tFold fold_l _ (by rfl) _ _ (by rfl) wr.heap.size _ [] (by rfl) OA.drew a10 L n10 d10 HN10.out (by rfl) (hA0.alloc _).drew HX10.out (by simp) HLL.out (by simp <;> omega) ?_; intro v2 v hO2 hg2 hbv ho2; obtain ⟨a2, d2, e2', hr2, -, -, -, -⟩ := hO2.rows fold_l; obtain ⟨n2, hn2⟩ : ∃ n, n = L.length := ⟨_, rfl⟩; rw [List.nil_append] at hr2 e2'; rw [← hn2] at e2'; subst e2'; have HN2 := Lib.hid hn2; clear hn2; have hq := HA.drew.trans hbv; have j0 := (hq.cell (p := ⟨g19, 3, none⟩) hwl).trans e3; have j1 := (hq.cell (p := ⟨g19, 4, none⟩) hwl).trans e4; have j2 := (hq.cell (p := ⟨g19, 5, none⟩) hwl).trans e5)
            | (go_at_call 17; refine (reads_n (cn : Int) (rn : Int) a19 n19 M d19 a2 n2 L d2 _ HN19.out (hH2.below hq) HMM.out HN2.out (by first | exact hr2 | exact hr2.drew) HLM.out HI.out HRE.out HRP.out).mono ?_; rintro e v ⟨pa, pn, pc, rfl, hpn, hpr, -, hbv⟩; rw [ordP_len] at hpn; have HPN := Lib.hid hpn; clear hpn; have hq := hq.trans (hbv.mono (B' := wr.heap.size) hq.size); have j0 := (hq.cell (p := ⟨g19, 3, none⟩) hwl).trans e3; have j1 := (hq.cell (p := ⟨g19, 4, none⟩) hwl).trans e4; have j2 := (hq.cell (p := ⟨g19, 5, none⟩) hwl).trans e5))
        all_goals
          refine hM9 _ _ ?_
          refine Met.intro ?_
          refine hR9 _ _ ?_
          (repeat apply Exists.intro)
          refine ⟨?_, rfl⟩
        all_goals exact ⟨rfl, pa, pn, pc, rfl, HPN, hpr, hq⟩
      case rest =>
      obtain ⟨rfl, pa, pn, pc, rfl, HPN, hpr, hbx⟩ := hcut
      rename World => wx
      have bxx := bx.below hbx
      have c0 := bxx.cell 0; have c1 := bxx.cell 1
      simp at c0 c1
      have hpnN : N = (pn : Int) := by rw [HPN.out]; exact HNN.out
      have hpn64 : pn ≤ 1000 := by rw [HPN.out]; exact HPM.out
      have hw1 := HW1.out; have hw2 := HW2.out
      rw [hpnN] at hw2
      have hpp : ((pn : Int) != (pn : Int)) = false := by simp
      clear e0 e1 e2 e3 e4 e5 hwl OA HA hq hA0 hH1 hH2 bg
      go_wp2_with (go_at_call 18; refine (inOrder_any pa pn (2 * (cn * rn)) pc _ HPN.out hpr HPM.out).mono ?_; rintro e v ⟨rfl, hbv⟩; have hbz := hbx.trans (hbv.mono (B' := wr.heap.size) hbx.size))
      go_roundw
      case rel => exact ⟨2, Or.inr (Or.inr rfl), rfl, hB.trans (hbz.mono (B' := w19.heap.size) hB.size)⟩
      case measure => simp [intOf]
end Go.Proofs.YtgoandhlcekmiaaGreatDoor
