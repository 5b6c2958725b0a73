/-
  Package press: the check of a tree, by the reference.
-/
import Derived.Test.YtpplcbpnojggcaaFP
import Derived.Test.YtpplcbpnojggcaaGB
import Derived.Test.YtpplcbpnojggcaaGC
import Derived.Laws.Rows
import Derived.Test.YtpplcbpnojggcaaE8
import Derived.Deep.RegionHeld3
import Derived.Test.YtpplcbpnojggcaaG9
import Derived.Deep.AppendLies
import Derived.Test.YtpplcbpnojggcaaGA
import Derived.Test.YtpplcbpnojggcaaGF
import Derived.Test.YtpplcbpnojggcaaAD
import Derived.Test.YtpplcbpnojggcaaEL
import Derived.Test.YtpplcbpnojggcaaEZ
import Derived.Test.YtpplcbpnojggcaaGE

namespace Go.Proofs.Ytpplcbpnojggcaa
open Go.RowKit Go.Maps Go.Shelf

theorem fe_stop {g : Nat → Int × Int} {n i : Nat} (h : (g i).2 ≠ 0) : fe g (n + 1) i = g i := by
  show (if _ then _ else _) = _; rw [if_pos h]
theorem fe_go {g : Nat → Int × Int} {n i : Nat} (h : (g i).2 = 0) : fe g (n + 1) i = fe g n (i + 1) := by
  show (if _ then _ else _) = _; rw [if_neg (by simp [h])]
theorem left_more {O : List Int} {n : Nat} {y : Int} (h : y ∈ leftK O n) : (leftK (O ++ [y]) n).length + 1 = (leftK O n).length := by
  obtain ⟨⟨h1, h2⟩, h3⟩ := leftK_in O n y h
  obtain ⟨c, rfl⟩ : ∃ c : Nat, y = c := ⟨y.toNat, by omega⟩
  have h4 := leftK_more O c h3 n
  rw [if_pos (by omega)] at h4
  exact h4
set_option maxRecDepth 100000 in
set_option maxHeartbeats 8000000 in
/-- One step of the walk: the walk of the branches is given. -/
theorem walk_one (x : Cols) (bd : Int) (T : List Nd) (ta : Option Addr) (tc : Nat) (hok : ColsOk x) (hTl : T.length ≤ 3000) (hnl : ∀ z ∈ T, z.nx.length ≤ maxLen) (f : Nat) (O : List Int) (at_ : Nat) (a : Option Addr) (n c : Nat) (w : World) (hn : n = O.length) (hf : (leftK O x.m.length).length = f) (hof : O.length + f ≤ 6) (hnd : O.Nodup) (hin : ∀ y ∈ O, 0 ≤ y ∧ y < x.m.length) (hat : at_ < T.length) (hT : NodesAt w ta T) (hx : ColsAt w x) (hO : RowsAt 1 intL w a O) (hd : a = none → c = 0)
    (ih : ∀ y ∈ leftK O x.m.length, ∀ (z : Nat) (a2 : Option Addr) (m2 c2 : Nat) (W : World), m2 = (O ++ [y]).length → z < T.length → NodesAt W ta T → ColsAt W x → RowsAt 1 intL W a2 (O ++ [y]) → (a2 = none → c2 = 0) →
      Calls Try.prog 117 #[x.v, .int .i64 bd, .slice ta T.length tc, .int .i64 z, .slice a2 m2 c2] W (TwoPost (chk x bd T (f - 1) z (O ++ [y])) W)) :
    Calls Try.prog 117 #[x.v, .int .i64 bd, .slice ta T.length tc, .int .i64 at_, .slice a n c] w (TwoPost (chk x bd T f at_ O) w) := by
  subst hn
  have HC := Lib.hid (fun W h => copyInts_any a O O.length c W rfl h (by omega) hd)
  have HOT := Lib.hid (fun W h => refOthers_any a O O.length c x.m.length W rfl h (by omega) (by have := hok.le; omega))
  have HLD := Lib.hid (fun na nn nc kind W h1 h2 => refHolds_any x bd kind na nn nc O a O.length c W rfl h1 hok h2 (by omega) hin hnd)
  have HER := Lib.hid (fun h => chk_err (x := x) (bd := bd) (T := T) (f := f) (at_ := at_) (O := O) h)
  have HLF := Lib.hid (fun h h2 => chk_leaf (x := x) (bd := bd) (T := T) (f := f) (at_ := at_) (O := O) h h2)
  have HSP : Hid (∀ f', f = f' + 1 → ndE x bd T at_ O = 0 → (T.getD at_ noNd).kind = 0 → chk x bd T f at_ O = fe (fun i => chk x bd T f' ((T.getD at_ noNd).nx.getD i 0).toNat (O ++ [(leftK O x.m.length).getD i 0])) (leftK O x.m.length).length 0) := Lib.hid (fun f' hf' h1 h2 => by
    subst hf'
    show (if _ then _ else _) = _
    rw [if_neg (fun h => h h1), if_neg (fun h => h h2)])
  have HND := Lib.hid (show ndE x bd T at_ O = if inB (T.getD at_ noNd).kind 0 2 = false then 15 else if (T.getD at_ noNd).kind ≠ 0 then (if holdB x bd (T.getD at_ noNd).kind O then 0 else 22) else if (leftK O x.m.length).length = 0 ∨ (T.getD at_ noNd).nx.length ≠ (leftK O x.m.length).length then 10 else nxE T.length at_ (T.getD at_ noNd).nx from rfl)
  have HX := Lib.hid hx; have HO := Lib.hid hO; have HT := Lib.hid hT; have HFL := Lib.hid hf; have HOF := Lib.hid hof
  have HIH := Lib.hid ih
  have HNL := Lib.hid (hnl _ (List.getElem_mem hat))
  obtain ⟨ad, rfl, had, s0, s1⟩ := hT.node hat
  rw [nd_getD hat] at HND HSP HLF
  have HNX := Lib.hid (hT.nxt _ (List.getElem_mem hat))
  obtain ⟨z, ez⟩ : ∃ z, z = T[at_] := ⟨_, rfl⟩
  rw [← ez] at HND HSP HLF HNX HNL s0 s1
  obtain ⟨kd, na, nx, nc⟩ := z
  dsimp only at HND HSP HLF HNX HNL s0 s1
  obtain ⟨R, hR⟩ : ∃ R, R = chk x bd T f at_ O := ⟨_, rfl⟩
  rw [← hR] at HER HLF HSP ⊢
  obtain ⟨NE, hNE⟩ : ∃ NE, NE = ndE x bd T at_ O := ⟨_, rfl⟩
  rw [← hNE] at HER HLF HSP HND
  have hatl : (at_ : Int) < (T.length : Int) := by omega
  have hb4 : O.length ≤ 6 := by omega
  have HTL := Lib.hid hTl
  clear hok hnl hf hof hnd hin hT hx hO hd ih ez hR hNE hat
  obtain ⟨ma, m, mc, da, TT, dc⟩ := x
  show Calls _ _ #[.agg #[.slice ma m.length mc, .slice da TT.length dc], .int .i64 bd, .slice (some ad) T.length tc, .int .i64 at_, .slice a O.length c] _ _
  have HLD : Hid (∀ (na : Option Addr) (nn nc : Nat) (kind : Int) (W : World), ColsAt W ⟨ma, m, mc, da, TT, dc⟩ → RowsAt 1 intL W a O → Calls Try.prog 144 #[.agg #[.slice ma m.length mc, .slice da TT.length dc], .int .i64 bd, .agg #[.int .i64 kind, .slice na nn nc], .slice a O.length c] W (AggPost (.bool (holdB ⟨ma, m, mc, da, TT, dc⟩ bd kind O)) W)) := HLD
  have HIH : Hid (∀ y ∈ leftK O m.length, ∀ (z : Nat) (a2 : Option Addr) (m2 c2 : Nat) (W : World), m2 = (O ++ [y]).length → z < T.length → NodesAt W (some ad) T → ColsAt W ⟨ma, m, mc, da, TT, dc⟩ → RowsAt 1 intL W a2 (O ++ [y]) → (a2 = none → c2 = 0) →
      Calls Try.prog 117 #[.agg #[.slice ma m.length mc, .slice da TT.length dc], .int .i64 bd, .slice (some ad) T.length tc, .int .i64 z, .slice a2 m2 c2] W (TwoPost (chk ⟨ma, m, mc, da, TT, dc⟩ bd T (f - 1) z (O ++ [y])) W)) := HIH
  have bx := BoxAt.new w #[.slice ma m.length mc, .slice da TT.length dc] 78
  have s0' : (w.alloc (.cells #[.slice ma m.length mc, .slice da TT.length dc] 78)).cell? (ad.add (at_ * 2)) = some (.int .i64 kd) := (((Below.refl w.heap.size w).alloc (Nat.le_refl _) _).cell had).trans s0
  have s1' : (w.alloc (.cells #[.slice ma m.length mc, .slice da TT.length dc] 78)).cell? ⟨(ad.add (at_ * 2)).block, (ad.add (at_ * 2)).off + 1, none⟩ = some (.slice na nx.length nc) := by rw [World.cell?_alloc_past _ _ _ had]; exact s1
  have hB0 := (Below.refl w.heap.size w).alloc (Nat.le_refl _) (.cells #[.slice ma m.length mc, .slice da TT.length dc] 78)
  go_enter Try.func117, Try.ntmps117
  go_upto_region 1 with fail
  obtain ⟨w0, hw0⟩ : ∃ w0, w0 = w.alloc (.cells #[.slice ma m.length mc, .slice da TT.length dc] 78) := ⟨_, rfl⟩
  have hz0 : w0.heap.size = w.heap.size + 1 := by rw [hw0]; simp
  have HZ0 := Lib.hid hz0
  rw [← hw0] at bx s0' s1' hB0 ⊢
  clear hw0 s0 s1 hz0
  have by_ := BoxAt.new w0 #[.int .i64 kd, .slice na nx.length nc] 170
  have bx1 := bx.alloc (.cells #[.int .i64 kd, .slice na nx.length nc] 170)
  have hB1 := hB0.alloc hB0.size (.cells #[.int .i64 kd, .slice na nx.length nc] 170)
  go_upto_region 2 with fail
  obtain ⟨w1, hw1⟩ : ∃ w1, w1 = w0.alloc (.cells #[.int .i64 kd, .slice na nx.length nc] 170) := ⟨_, rfl⟩
  have HZ1 := Lib.hid (show w1.heap.size = w0.heap.size + 1 by rw [hw1]; simp)
  rw [← hw1] at by_ bx1 hB1 ⊢
  clear hw1 s0' s1' hB0 bx
  have BX := Lib.hid bx1; have BY := Lib.hid by_; have HB1 := Lib.hid hB1
  have c0 : w1.cell? ⟨w0.heap.size, 0, none⟩ = some (.int .i64 kd) := by_.cell 0
  have c1 : w1.cell? ⟨w0.heap.size, 1, none⟩ = some (.slice na nx.length nc) := by_.cell 1
  have k0 : w1.cell? ⟨w.heap.size, 0, none⟩ = some (.slice ma m.length mc) := bx1.cell 0
  have k1 : w1.cell? ⟨w.heap.size, 1, none⟩ = some (.slice da TT.length dc) := bx1.cell 1
  clear bx1 by_ hB1
  cases h1 : inB kd 0 2
  · have HE := Lib.hid (show R = ((at_ : Int), 15) by
      have h9 : NE = 15 := by rw [HND.out, if_pos h1]
      rw [HER.out (by rw [h9]; decide), h9])
    have H1 := Lib.hid h1
    go_wp2_with (go_at_call 30; refine (within_any _ _ _ _).mono ?_; rintro e w' ⟨rfl, rfl⟩; rw [H1.out])
    go_ret2
    exact ⟨two_to HE.out, HB1.out⟩
  have H1 := Lib.hid h1
  by_cases h2 : kd = 0
  rotate_left
  · have h2' : (kd != 0) = true := by simpa using h2
    have HLD2 := Lib.hid (fun W h8 h9 => HLD.out na nx.length nc kd W h8 h9)
    cases h3 : holdB ⟨ma, m, mc, da, TT, dc⟩ bd kd O
    · have HE := Lib.hid (show R = ((at_ : Int), 22) by
        have h9 : NE = 22 := by rw [HND.out, if_neg (by rw [h1]; decide), if_pos h2, h3]; rfl
        rw [HER.out (by rw [h9]; decide), h9])
      rw [h3] at HLD2
      clear h1 h2
      go_wp2_with (first
        | (go_at_call 30; refine (within_any _ _ _ _).mono ?_; rintro e w' ⟨rfl, rfl⟩; rw [H1.out])
        | (go_at_call 144; refine (HLD2.out _ (HX.out.below HB1.out) (HO.out.below HB1.out)).mono ?_; rintro e w2 ⟨rfl, hb2⟩; have HB2 := Lib.hid (HB1.out.trans (hb2.mono HB1.out.size)); clear hb2))
      go_ret2
      exact ⟨two_to HE.out, HB2.out⟩
    · have HE := Lib.hid (show R = (0, 0) by
        have h9 : NE = 0 := by rw [HND.out, if_neg (by rw [h1]; decide), if_pos h2, h3]; rfl
        exact HLF.out h9 h2)
      rw [h3] at HLD2
      clear h1 h2
      go_wp2_with (first
        | (go_at_call 30; refine (within_any _ _ _ _).mono ?_; rintro e w' ⟨rfl, rfl⟩; rw [H1.out])
        | (go_at_call 144; refine (HLD2.out _ (HX.out.below HB1.out) (HO.out.below HB1.out)).mono ?_; rintro e w2 ⟨rfl, hb2⟩; have HB2 := Lib.hid (HB1.out.trans (hb2.mono HB1.out.size)); clear hb2))
      go_ret2
      exact ⟨two_to HE.out, HB2.out⟩
  · subst h2
    have HND2 := Lib.hid (show NE = if (leftK O m.length).length = 0 ∨ nx.length ≠ (leftK O m.length).length then 10 else nxE T.length at_ nx by rw [HND.out, if_neg (by rw [h1]; decide), if_neg (by simp)])
    have HSP2 : Hid (∀ f', f = f' + 1 → NE = 0 → R = fe (fun i => chk ⟨ma, m, mc, da, TT, dc⟩ bd T f' (nx.getD i 0).toNat (O ++ [(leftK O m.length).getD i 0])) (leftK O m.length).length 0) := Lib.hid (fun f' h8 h9 => HSP.out f' h8 h9 rfl)
    have HFL2 : Hid ((leftK O m.length).length = f) := HFL
    have HOT2 : Hid (∀ W, RowsAt 1 intL W a O → Calls Try.prog 143 #[.slice a O.length c, .int .i64 m.length] W (LeftPost W (leftK O m.length))) := HOT
    clear HFL HOT
    obtain ⟨Lf, hLf⟩ : ∃ Lf, Lf = leftK O m.length := ⟨_, rfl⟩
    rw [← hLf] at HND2 HSP2 HFL2 HOT2 HIH
    clear hLf h1
    by_cases h3 : Lf.length = 0
    · have HE := Lib.hid (show R = ((at_ : Int), 10) by
        have h9 : NE = 10 := by rw [HND2.out, if_pos (Or.inl h3)]
        rw [HER.out (by rw [h9]; decide), h9])
      go_wp2_with (first
        | (go_at_call 30; refine (within_any _ _ _ _).mono ?_; rintro e w' ⟨rfl, rfl⟩; rw [H1.out])
        | (go_at_call 143; refine (HOT2.out _ (HO.out.below HB1.out)).mono ?_; rintro e w2 ⟨v2, rfl, hO2, hb2⟩; obtain ⟨a2, c2, e2, -⟩ := hO2.rows int_l; subst e2; rw [h3]; have HB2 := Lib.hid (HB1.out.trans (hb2.mono HB1.out.size)); clear hb2 hO2))
      go_ret2
      exact ⟨two_to HE.out, HB2.out⟩
    have h3' : ((Lf.length : Int) == 0) = false := by simpa using h3
    by_cases h4 : nx.length = Lf.length
    rotate_left
    · have HE := Lib.hid (show R = ((at_ : Int), 10) by
        have h9 : NE = 10 := by rw [HND2.out, if_pos (Or.inr h4)]
        rw [HER.out (by rw [h9]; decide), h9])
      have h4' : ((nx.length : Int) != (Lf.length : Int)) = true := by simp; omega
      clear h3 h4
      go_wp2_with (first
        | (go_at_call 30; refine (within_any _ _ _ _).mono ?_; rintro e w' ⟨rfl, rfl⟩; rw [H1.out])
        | (go_at_call 143; refine (HOT2.out _ (HO.out.below HB1.out)).mono ?_; rintro e w2 ⟨v2, rfl, hO2, hb2⟩; obtain ⟨a2, c2, e2, -⟩ := hO2.rows int_l; subst e2; have d1 : w2.cell? ⟨w0.heap.size, 1, none⟩ = some (.slice na nx.length nc) := (BY.out.below hb2).cell 1; have HB2 := Lib.hid (HB1.out.trans (hb2.mono HB1.out.size)); clear hb2 hO2))
      go_ret2
      exact ⟨two_to HE.out, HB2.out⟩
    have HND3 := Lib.hid (show NE = nxE T.length at_ nx by rw [HND2.out, if_neg (by rintro (h | h); exact h3 h; exact h h4)])
    have h4' : ((nx.length : Int) != (Lf.length : Int)) = false := by simp; omega
    have HNL4 := Lib.hid h4
    have hlf6 : Lf.length ≤ 6 := by have h8 := HFL2.out; have h9 := HOF.out; omega
    clear h3 h4
    go_wp2_with (first
      | (go_at_call 30; refine (within_any _ _ _ _).mono ?_; rintro e w' ⟨rfl, rfl⟩; rw [H1.out])
      | (go_at_call 143; refine (HOT2.out _ (HO.out.below HB1.out)).mono ?_; rintro e w2 ⟨v2, rfl, hO2, hb2⟩; obtain ⟨a2, c2, e2, hr2, -⟩ := hO2.rows int_l; subst e2; have d1 : w2.cell? ⟨w0.heap.size, 1, none⟩ = some (.slice na nx.length nc) := (BY.out.below hb2).cell 1; have BX2 := Lib.hid (BX.out.below hb2); have BY2 := Lib.hid (BY.out.below hb2); have HR2 := Lib.hid hr2; have HB2 := Lib.hid (HB1.out.trans (hb2.mono HB1.out.size)); clear hb2 hO2 hr2))
    have HNX2 := Lib.hid (HNX.out.below HB2.out)
    have hwT : IntKind.i64.wrap ((T.length : Int) - 1) = (T.length : Int) - 1 := IntWalk.i64_in _ (by omega)
    go_loop [14] (fun i => ∃ k : Nat, k ≤ Lf.length ∧ i = .int .i64 k ∧ Hid (nxE T.length at_ nx = nxE T.length at_ (nx.drop k))) (fun i => Lf.length - (intOf i).toNat)
    case atStart => exact ⟨0, Nat.zero_le _, rfl, Lib.hid rfl⟩
    case round =>
      obtain ⟨k, hk, rfl, HQ⟩ := hrel
      by_cases hlt : k < Lf.length
      · have hkn : k < nx.length := by have := HNL4.out; omega
        obtain ⟨nad, ena, hnad, n0⟩ := HNX2.out.int hkn
        have ena : na = some nad := ena
        subst ena
        have HST := Lib.hid (nxE_at (n := T.length) (at_ := at_) hkn)
        obtain ⟨y, hy⟩ : ∃ y, y = nx[k] := ⟨_, rfl⟩
        rw [← hy] at n0 HST
        have hkl : (k : Int) < (Lf.length : Int) := by omega
        have hkn' : (k : Int) < (nx.length : Int) := by omega
        clear hy
        cases h5 : inB y 0 ((T.length : Int) - 1)
        · have HE := Lib.hid (show R = ((at_ : Int), 6) by
            have h9 : NE = 6 := by rw [HND3.out, HQ.out, HST.out, if_pos h5]
            rw [HER.out (by rw [h9]; decide), h9])
          have H5 := Lib.hid h5
          go_wp2_with (go_at_call 30; refine (within_any _ _ _ _).mono ?_; rintro e w' ⟨rfl, rfl⟩; rw [H5.out])
          go_ret2
          exact ⟨two_to HE.out, HB2.out⟩
        · have H5 := Lib.hid h5
          by_cases h6 : y ≤ at_
          · have HE := Lib.hid (show R = ((at_ : Int), 9) by
              have h9 : NE = 9 := by rw [HND3.out, HQ.out, HST.out, if_neg (by rw [h5]; decide), if_pos h6]
              rw [HER.out (by rw [h9]; decide), h9])
            clear h5
            go_wp2_with (go_at_call 30; refine (within_any _ _ _ _).mono ?_; rintro e w' ⟨rfl, rfl⟩; rw [H5.out])
            go_ret2
            exact ⟨two_to HE.out, HB2.out⟩
          · have HQ2 := Lib.hid (show nxE T.length at_ nx = nxE T.length at_ (nx.drop (k + 1)) by rw [HQ.out, HST.out, if_neg (by rw [h5]; decide), if_neg h6])
            clear h5
            go_wp2_with (go_at_call 30; refine (within_any _ _ _ _).mono ?_; rintro e w' ⟨rfl, rfl⟩; rw [H5.out])
            go_round
            case rel => exact ⟨k + 1, by omega, by go_num, HQ2⟩
            case measure => simp [intOf]; omega
      · obtain rfl : k = Lf.length := by omega
        have HNE0 := Lib.hid (show nxE T.length at_ nx = 0 by rw [HQ.out, List.drop_of_length_le (by have := HNL4.out; omega)]; rfl)
        have HNO := Lib.hid (nxE_ok HNE0.out)
        obtain ⟨f', hf'⟩ : ∃ f', f = f' + 1 := ⟨f - 1, by
          have := HFL2.out
          have h9 : Lf.length ≠ 0 := by simpa using h3'
          omega⟩
        have HR0 := Lib.hid (HSP2.out f' hf' (by rw [HND3.out, HNE0.out]))
        have HIH2 : Hid (∀ y ∈ Lf, ∀ (z : Nat) (a2 : Option Addr) (m2 c2 : Nat) (W : World), m2 = (O ++ [y]).length → z < T.length → NodesAt W (some ad) T → ColsAt W ⟨ma, m, mc, da, TT, dc⟩ → RowsAt 1 intL W a2 (O ++ [y]) → (a2 = none → c2 = 0) →
            Calls Try.prog 117 #[.agg #[.slice ma m.length mc, .slice da TT.length dc], .int .i64 bd, .slice (some ad) T.length tc, .int .i64 z, .slice a2 m2 c2] W (TwoPost (chk ⟨ma, m, mc, da, TT, dc⟩ bd T f' z (O ++ [y])) W)) := Lib.hid (by have h := HIH.out; rw [hf'] at h; exact h)
        clear HIH HQ hlt hf'
        obtain ⟨g, hg⟩ : ∃ g : Nat → Int × Int, g = fun i => chk ⟨ma, m, mc, da, TT, dc⟩ bd T f' (nx.getD i 0).toNat (O ++ [Lf.getD i 0]) := ⟨_, rfl⟩
        have HG := Lib.hid hg
        rw [← hg] at HR0
        clear hg
        go_wp2_with fail
        go_loopw [15] (fun i wr => ∃ k : Nat, k ≤ Lf.length ∧ i = .int .i64 k ∧ Hid (R = fe g (Lf.length - k) k) ∧ Below w2.heap.size w2 wr) (fun i _ => Lf.length - (intOf i).toNat)
        case atStart => exact ⟨0, Nat.zero_le _, rfl, Lib.hid HR0.out, Below.refl _ _⟩
        case round =>
          obtain ⟨k, hk, rfl, HQ, hB⟩ := hrel
          have HBW := Lib.hid (HB2.out.trans (hB.mono HB2.out.size))
          by_cases hlt : k < Lf.length
          · have hkn : k < nx.length := by have := HNL4.out; omega
            obtain ⟨nad, ena, hnad, n0⟩ := (HNX.out.below HBW.out).int hkn
            have ena : na = some nad := ena
            subst ena
            obtain ⟨lad, rfl, hlad, l0⟩ := (HR2.out.below hB).int hlt
            have hyn := HNO.out _ (List.getElem_mem hkn)
            have HYM := Lib.hid (List.getElem_mem hlt)
            have HGK := Lib.hid (show g k = chk ⟨ma, m, mc, da, TT, dc⟩ bd T f' nx[k].toNat (O ++ [Lf[k]]) by rw [HG.out]; dsimp only; rw [getD_eqI hkn, getD_eqI hlt])
            obtain ⟨y, ey⟩ : ∃ y, y = Lf[k] := ⟨_, rfl⟩
            rw [← ey] at l0 HYM HGK
            obtain ⟨zi, ez⟩ : ∃ zi, zi = nx[k] := ⟨_, rfl⟩
            rw [← ez] at n0 hyn HGK
            obtain ⟨z, rfl⟩ : ∃ z : Nat, zi = z := ⟨zi.toNat, by omega⟩
            have hzl : z < T.length := by omega
            rw [show ((z : Int)).toNat = z by omega] at HGK
            have HFE := Lib.hid (show fe g (Lf.length - k) k = if (g k).2 ≠ 0 then g k else fe g (Lf.length - (k + 1)) (k + 1) by rw [show Lf.length - k = (Lf.length - (k + 1)) + 1 by omega]; rfl)
            have bx3 := BX2.out.below hB; have by3 := BY2.out.below hB
            have d0 : wr.cell? ⟨w.heap.size, 0, none⟩ = some (.slice ma m.length mc) := bx3.cell 0
            have d2 : wr.cell? ⟨w.heap.size, 1, none⟩ = some (.slice da TT.length dc) := bx3.cell 1
            have d1 : wr.cell? ⟨w0.heap.size, 1, none⟩ = some (.slice (some nad) nx.length nc) := by3.cell 1
            have hbl := bx3.lt; have hyl := by3.lt
            have hkl : (k : Int) < (Lf.length : Int) := by omega
            have hkn' : (k : Int) < (nx.length : Int) := by omega
            have hladb : (lad.add k).block < wr.heap.size := by rw [add_block]; exact hlad
            have hnadb : (nad.add k).block < wr.heap.size := by rw [add_block]; exact hnad
            have HIH3 := Lib.hid (fun a2 m2 c2 W h2 hT2 hx2 hO2 hd2 => HIH2.out y HYM.out z a2 m2 c2 W h2 hzl hT2 hx2 hO2 hd2)
            obtain ⟨pp, hpp⟩ : ∃ pp, pp = chk ⟨ma, m, mc, da, TT, dc⟩ bd T f' z (O ++ [y]) := ⟨_, rfl⟩
            rw [← hpp] at HIH3 HGK
            obtain ⟨p1, p2⟩ := pp
            rw [HGK.out] at HFE
            dsimp only at HFE
            have HOW := Lib.hid (HO.out.below HBW.out)
            have N0 := Lib.hid n0; have L0 := Lib.hid l0; have D0 := Lib.hid d0; have D1 := Lib.hid d1; have D2 := Lib.hid d2
            have HB := Lib.hid hB
            clear ey ez hyn bx3 by3 hpp hB
            go_wp2_with fail
            have j0 := d0; have j1 := d2; have j2 := d1; have j3 := n0; have j4 := l0
            go_region_held3 (fun w' => w'.cell? ⟨w.heap.size, 0, none⟩ = some (.slice ma m.length mc) ∧ w'.cell? ⟨w.heap.size, 1, none⟩ = some (.slice da TT.length dc) ∧ w'.cell? ⟨w0.heap.size, 1, none⟩ = some (.slice (some nad) nx.length nc) ∧ w'.cell? (nad.add k) = some (.int .i64 z) ∧ w'.cell? (lad.add k) = some (.int .i64 y)) (first | exact ⟨j0, j1, j2, j3, j4⟩ | go_keep)
              (first
                | (go_at_call 47; refine Calls.mono (HC.out _ (by first | exact HOW.out.drew | exact HOW.out.drew.alloc _ | exact (HOW.out.alloc _).drew)) ?_; rintro e w3 ⟨v3, rfl, hO3, hb3⟩; obtain ⟨a3, c3, e3, -⟩ := hO3.rows int_l; subst e3; have HB3 : Hid (Below wr.heap.size wr w3) := Lib.hid (by first | exact (Below.refl _ wr).drew.trans hb3 | exact ((Below.refl _ wr).drew.alloc (Nat.le_refl _) _).trans (hb3.mono (by simp)) | exact ((Below.refl _ wr).alloc (Nat.le_refl _) _).drew.trans (hb3.mono (by simp))); have HO3 : Hid (OwnR 1 3 intL w3 wr.heap.size (.slice a3 O.length c3) O) := Lib.hid (hO3.mono (by first | exact Nat.le_refl _ | simp)); (try have HM3 : Hid (RowsAt 1 intL w3 (some ⟨wr.heap.size, 0, none⟩) [y]) := Lib.hid (by first | exact ((IBox.lit wr.drew [y] _ rfl).below hb3).rows | exact (((IBox.lit wr [y] _ rfl).drew).below hb3).rows)); have j0 := (HB3.out.cell (p := ⟨w.heap.size, 0, none⟩) hbl).trans D0.out; have j1 := (HB3.out.cell (p := ⟨w.heap.size, 1, none⟩) hbl).trans D2.out; have j2 := (HB3.out.cell (p := ⟨w0.heap.size, 1, none⟩) hyl).trans D1.out; have j3 := (HB3.out.cell hnadb).trans N0.out; have j4 := (HB3.out.cell hladb).trans L0.out; clear hO3 hb3)
                | (refine step_appL tInt int_l _ (by rfl) _ _ (by rfl) wr.heap.size _ O (by rfl) (by first | exact HO3.out | exact HO3.out.alloc _) _ [y] 1 1 rfl (by rfl) (by first | exact (IBox.lit w3 [y] _ rfl).rows | exact (HM3.out)) (fun e => by cases e) (by omega) (by simp) (by first | exact HB3.out.size | (have := HB3.out.size; simp; omega)) ?_; intro v4 w4 hO4 hg4 hB4 hor4; obtain ⟨a4, c4, e4, hr4, -, -, hn4, -⟩ := hO4.rows int_l; subst e4; have HB4 : Hid (Below wr.heap.size wr w4) := Lib.hid (by first | exact HB3.out.trans hB4 | exact (HB3.out.alloc HB3.out.size _).trans hB4); have HR4 := Lib.hid hr4; have j0 := (HB4.out.cell (p := ⟨w.heap.size, 0, none⟩) hbl).trans D0.out; have j1 := (HB4.out.cell (p := ⟨w.heap.size, 1, none⟩) hbl).trans D2.out; have j2 := (HB4.out.cell (p := ⟨w0.heap.size, 1, none⟩) hyl).trans D1.out; have j3 := (HB4.out.cell hnadb).trans N0.out; have j4 := (HB4.out.cell hladb).trans L0.out; have HBA := Lib.hid (HBW.out.trans (HB4.out.mono HBW.out.size)); clear hO4 hg4 hB4 hor4 hr4)
                | (go_at_call 117; refine (HIH3.out a4 _ c4 _ (by simp) (HT.out.below HBA.out) (HX.out.below HBA.out) HR4.out hn4).mono ?_; rintro e w5 ⟨rfl, hb5⟩; have HB5 := Lib.hid (HB4.out.trans (hb5.mono HB4.out.size)); have j0 := (HB5.out.cell (p := ⟨w.heap.size, 0, none⟩) hbl).trans D0.out; have j1 := (HB5.out.cell (p := ⟨w.heap.size, 1, none⟩) hbl).trans D2.out; have j2 := (HB5.out.cell (p := ⟨w0.heap.size, 1, none⟩) hyl).trans D1.out; have j3 := (HB5.out.cell hnadb).trans N0.out; have j4 := (HB5.out.cell hladb).trans L0.out; clear hb5))
            all_goals
              have HB6 := Lib.hid (HB.out.trans (HB5.out.mono HB.out.size))
              by_cases hp2 : p2 = 0
              · subst hp2
                have HQ2 := Lib.hid (show R = fe g (Lf.length - (k + 1)) (k + 1) by rw [HQ.out, HFE.out, if_neg (by simp)])
                go_wp2
                go_roundw
                case rel => exact ⟨k + 1, by omega, by go_num, HQ2, HB6.out⟩
                case measure => simp [intOf]; omega
              · have hp2' : (p2 != 0) = true := by simpa using hp2
                have HE := Lib.hid (show R = (p1, p2) by rw [HQ.out, HFE.out, if_pos hp2])
                clear hp2
                go_wp2
                go_ret2
                exact ⟨two_to HE.out, HB2.out.trans (HB6.out.mono HB2.out.size)⟩
          · obtain rfl : k = Lf.length := by omega
            have HE := Lib.hid (show R = (0, 0) by rw [HQ.out, Nat.sub_self]; rfl)
            go_wp2_with fail
            go_ret2
            exact ⟨two_to HE.out, HBW.out⟩
set_option maxRecDepth 100000 in
set_option maxHeartbeats 8000000 in
theorem refWalk_any (x : Cols) (bd : Int) (T : List Nd) (ta : Option Addr) (tc : Nat) (hok : ColsOk x) (hTl : T.length ≤ 3000) (hnl : ∀ z ∈ T, z.nx.length ≤ maxLen) : ∀ (f : Nat) (O : List Int) (at_ : Nat) (a : Option Addr) (n c : Nat) (w : World), n = O.length → (leftK O x.m.length).length = f → O.length + f ≤ 6 → O.Nodup → (∀ y ∈ O, 0 ≤ y ∧ y < x.m.length) → at_ < T.length → NodesAt w ta T → ColsAt w x → RowsAt 1 intL w a O → (a = none → c = 0) →
    Calls Try.prog 117 #[x.v, .int .i64 bd, .slice ta T.length tc, .int .i64 at_, .slice a n c] w (TwoPost (chk x bd T f at_ O) w) := by
  intro f
  induction f with
  | zero =>
    intro O at_ a n c w hn hf hof hnd hin hat hT hx hO hd
    exact walk_one x bd T ta tc hok hTl hnl 0 O at_ a n c w hn hf hof hnd hin hat hT hx hO hd (fun y hy => by rw [List.eq_nil_of_length_eq_zero hf] at hy; cases hy)
  | succ f ih =>
    intro O at_ a n c w hn hf hof hnd hin hat hT hx hO hd
    exact walk_one x bd T ta tc hok hTl hnl (f + 1) O at_ a n c w hn hf hof hnd hin hat hT hx hO hd (fun y hy z a2 m2 c2 W h2 hz hT2 hx2 hO2 hd2 => by
      have h3 := left_more hy
      obtain ⟨h4, h5⟩ := leftK_in O x.m.length y hy
      refine ih (O ++ [y]) z a2 m2 c2 W h2 (by omega) (by rw [List.length_append, List.length_singleton]; omega) ?_ ?_ hz hT2 hx2 hO2 hd2
      · rw [List.nodup_append]
        exact ⟨hnd, by simp, fun u hu v hv e => by rw [List.mem_singleton.1 hv] at e; rw [e] at hu; exact h5 hu⟩
      · intro u hu
        rcases List.mem_append.1 hu with hu | hu
        · exact hin u hu
        · rw [List.mem_singleton.1 hu]; exact h4)
end Go.Proofs.Ytpplcbpnojggcaa

namespace Go.Proofs.Ytpplcbpnojggcaa
open Go.RowKit Go.Maps Go.Shelf

theorem info_cols : (Try.prog.info? 78).map (·.size) = some 2 := by kernel_rfl
theorem res_cols {fn : Func} {p : Tmp} {tmps : Array Value} {Y : World} {d : Nat} {T : TypeId} {x0 x1 : Value} (hf : fn.results = #[.cell p 78]) (hp : tmps.getD p undef = .pointer (some ⟨d, 0, none⟩)) (h : BoxAt Y d #[x0, x1] T) :
    (results fn tmps).run Try.prog Y = .ok (.agg #[x0, x1]) Y := by
  have hl : (loadVar 78 ⟨d, 0, none⟩).run Try.prog Y = .ok (.agg #[x0, x1]) Y := run_loadVar_row (P := Try.prog) Y d T 78 _ (0, 0) _ h Try.underlying78 rfl info_cols
  have hp' : tmps[p]?.getD undef = .pointer (some ⟨d, 0, none⟩) := by simpa using hp
  simp only [results, hf]
  simp [hp', asAddr, hl]
/-- Colours that read the same. -/
structure SameC (x y : Cols) : Prop where
  m : y.m = x.m
  t : y.T.map (·.l) = x.T.map (·.l)
theorem tab_getD {T : List PR} (e : Nat) : (T.getD e noPR).l = (T.map (·.l)).getD e [] := by
  rw [List.getD_eq_getElem?_getD, List.getD_eq_getElem?_getD, List.getElem?_map]
  cases T[e]? <;> rfl
theorem SameC.len {x y : Cols} (h : SameC x y) : y.T.length = x.T.length := by
  have := congrArg List.length h.t; simpa using this
theorem SameC.dry {x y : Cols} (h : SameC x y) (e c : Nat) : dryI y e c = dryI x e c := by
  unfold dryI; rw [tab_getD, tab_getD, h.t]
theorem SameC.beg {x y : Cols} (h : SameC x y) (O E : List Int) (c : Nat) (e0 : Int) : ∀ k, begK y O E c e0 k = begK x O E c e0 k
  | 0 => rfl
  | k + 1 => by unfold begK; rw [h.beg O E c e0 k, h.dry]
theorem SameC.clashK {x y : Cols} (h : SameC x y) (O : List Int) (c : Nat) : ∀ k, clashK y O c k = clashK x O c k
  | 0 => rfl
  | k + 1 => by unfold Proofs.Ytpplcbpnojggcaa.clashK; rw [h.clashK O c k, h.dry]
theorem SameC.ord {x y : Cols} (h : SameC x y) (O : List Int) : ∀ k, ordK y O k = ordK x O k
  | 0 => rfl
  | k + 1 => by unfold ordK; rw [h.ord O k, h.beg, h.m]
theorem SameC.clashO {x y : Cols} (h : SameC x y) (O : List Int) : ∀ k, clashO y O k = clashO x O k
  | 0 => rfl
  | k + 1 => by unfold Proofs.Ytpplcbpnojggcaa.clashO; rw [h.clashO O k, h.clashK]
theorem SameC.mins {x y : Cols} (h : SameC x y) (O : List Int) : minsE y O = minsE x O := by
  unfold minsE; rw [h.clashO, h.ord]
theorem rowsE_map {n : Nat} {least : Int} : ∀ {T T' : List PR}, T'.map (·.l) = T.map (·.l) → rowsE n least T' = rowsE n least T
  | [], [], _ => rfl
  | [], _ :: _, h => by cases h
  | _ :: _, [], h => by cases h
  | x :: T, y :: T', h => by
    have h1 : y.l = x.l := by simpa using (List.cons.inj h).1
    have h2 : T'.map (·.l) = T.map (·.l) := (List.cons.inj h).2
    unfold rowsE
    rw [h1, rowsE_map h2]
theorem SameC.err {x y : Cols} (h : SameC x y) : colsErr y = colsErr x := by
  unfold colsErr; rw [h.m, h.len, rowsE_map h.t]
def CCPost (x : Cols) (w : World) (e : Ending) (w' : World) : Prop := ∃ y : Cols, e = .returned y.v ∧ SameC x y ∧ ColsAt w' y ∧ Below w.heap.size w w'
set_option maxRecDepth 100000 in
set_option maxHeartbeats 4000000 in
theorem copyColours_any (x : Cols) (w : World) (hx : ColsAt w x) (hm : x.m.length ≤ 1000000) (hT : x.T.length ≤ 1000) (hmn : x.ma = none → x.mc = 0) (hsz : ∀ r ∈ x.T, r.l.length ≤ 1000000) (hd : ∀ r ∈ x.T, r.a = none → r.c = 0) :
    Calls Try.prog 46 #[x.v] w (CCPost x w) := by
  have HCI := Lib.hid (fun W (h : RowsAt 1 intL W x.ma x.m) => copyInts_any x.ma x.m x.m.length x.mc W rfl h hm hmn)
  have HCL := Lib.hid (fun W (h : TabAt W x.da x.T) => copyLists_any x.da x.T x.T.length x.dc W rfl h hT hsz hd)
  obtain ⟨x, ex⟩ : ∃ x', x' = x := ⟨x, rfl⟩
  obtain ⟨ma, m, mc, da, T, dc⟩ := x
  rw [← ex] at HCI HCL hx ⊢
  clear ex hm hT hmn hsz hd
  unfold Cols.v
  dsimp only at HCI HCL ⊢
  have hb0 := ((Below.refl w.heap.size w).alloc (Nat.le_refl _) (.cells #[.slice ma m.length mc, .slice da T.length dc] 78)).alloc (by simp) (.cells #[.slice none 0 0, .slice none 0 0] 78)
  have bx := (BoxAt.new w #[.slice ma m.length mc, .slice da T.length dc] 78).alloc (.cells #[.slice none 0 0, .slice none 0 0] 78)
  have bz := BoxAt.new (w.alloc (.cells #[.slice ma m.length mc, .slice da T.length dc] 78)) #[.slice none 0 0, .slice none 0 0] 78
  rw [World.size_alloc] at bz
  have HX := Lib.hid (hx.below hb0)
  clear hx
  go_enter Try.func46, Try.ntmps46
  go_wp2_with fail
  obtain ⟨w0, hw0⟩ : ∃ w0, w0 = (w.alloc (.cells #[.slice ma m.length mc, .slice da T.length dc] 78)).alloc (.cells #[.slice none 0 0, .slice none 0 0] 78) := ⟨_, rfl⟩
  rw [← hw0] at hb0 bx bz HX ⊢
  clear hw0
  have k0 : w0.cell? ⟨w.heap.size, 0, none⟩ = some (.slice ma m.length mc) := bx.cell 0
  have k1 : w0.cell? ⟨w.heap.size, 1, none⟩ = some (.slice da T.length dc) := bx.cell 1
  have lx := bx.lt
  have lz := bz.lt
  have HBX := Lib.hid bx; have HBZ := Lib.hid bz; have HB0 := Lib.hid hb0
  clear bx bz hb0
  go_region_held3 (fun w' => w'.cell? ⟨w.heap.size, 0, none⟩ = some (.slice ma m.length mc) ∧ w'.cell? ⟨w.heap.size, 1, none⟩ = some (.slice da T.length dc)) (go_keep)
    ((first | (go_at_call 47; refine (HCI.out _ HX.out.mins.drew).mono ?_; rintro e w1 ⟨v1, rfl, hO1, hb1⟩; obtain ⟨a1, c1, e1, -⟩ := hO1.rows int_l; subst e1; have k0 : w1.cell? ⟨w.heap.size, 0, none⟩ = some (.slice ma m.length mc) := (HBX.out.drew.below hb1).cell 0; have k1 : w1.cell? ⟨w.heap.size, 1, none⟩ = some (.slice da T.length dc) := (HBX.out.drew.below hb1).cell 1; skip) | (go_at_call 71; refine (HCL.out _ (HX.out.tab.drew.below hb1)).mono ?_; rintro e w2 ⟨a2, c2, T2, rfl, hT2, hA2, hn2, hN2, hG2, hb2⟩; have k0 : w2.cell? ⟨w.heap.size, 0, none⟩ = some (.slice ma m.length mc) := ((HBX.out.drew.below hb1).below hb2).cell 0; have k1 : w2.cell? ⟨w.heap.size, 1, none⟩ = some (.slice da T.length dc) := ((HBX.out.drew.below hb1).below hb2).cell 1; have BZ2 := (HBZ.out.drew.below hb1).below hb2; have f0 : w2.frozen? ⟨w.heap.size + 1, 0, none⟩ = false := BZ2.free 0; have f1 : w2.frozen? ⟨w.heap.size + 1, 1, none⟩ = false := BZ2.free 1; have g0 : w2.cell? ⟨w.heap.size + 1, 0, none⟩ = some (.slice none 0 0) := BZ2.cell 0; have g1 : w2.cell? ⟨w.heap.size + 1, 1, none⟩ = some (.slice none 0 0) := BZ2.cell 1; have l2 := BZ2.lt; skip)))
  obtain ⟨Y, hY⟩ : ∃ Y, Y = ((w2.setCell ⟨w.heap.size + 1, 0, none⟩ (.slice a1 m.length c1)).setCell ⟨w.heap.size + 1, 1, none⟩ (.slice a2 T2.length c2)) := ⟨_, rfl⟩
  have bY : BoxAt Y (w.heap.size + 1) #[.slice a1 m.length c1, .slice a2 T2.length c2] 78 := by rw [hY]; exact (BZ2.set 0 (.slice a1 m.length c1)).set 1 (.slice a2 T2.length c2)
  have hz0 : w0.drew.heap.size = w0.heap.size := rfl
  have hz1 := hb1.size
  have hO2 := hO1.below hb2
  have hne : (Value.slice a1 m.length c1).ownBlock ≠ some (w.heap.size + 1) := fun e => by have := (hO1.lt _ e).1; omega
  have hOY : OwnR 1 3 intL Y w0.drew.heap.size (.slice a1 m.length c1) m := by rw [hY]; exact (hO2.set (p := ⟨w.heap.size + 1, 0, none⟩) hne _).set (p := ⟨w.heap.size + 1, 1, none⟩) hne _
  have hTY : TabAt Y a2 T2 := by rw [hY]; exact (hA2.set hG2 (p := ⟨w.heap.size + 1, 0, none⟩) (by show w.heap.size + 1 < w1.heap.size; omega) _).set hG2 (p := ⟨w.heap.size + 1, 1, none⟩) (by show w.heap.size + 1 < w1.heap.size; omega) _
  have hBY : Below w.heap.size w Y := by
    rw [hY]
    exact (((HB0.out.drew.trans (hb1.mono (by omega))).trans (hb2.mono (by omega))).setCell (p := ⟨w.heap.size + 1, 0, none⟩) (by show w.heap.size ≤ w.heap.size + 1; omega) _).setCell (p := ⟨w.heap.size + 1, 1, none⟩) (by show w.heap.size ≤ w.heap.size + 1; omega) _
  rw [← hY]
  obtain ⟨a3, c3, e3, hr3, -⟩ := hOY.rows int_l
  injection e3 with e4 _ e5
  subst e4; subst e5
  have HF := Lib.hid (show CCPost ⟨ma, m, mc, da, T, dc⟩ w (.returned (.agg #[.slice a1 m.length c1, .slice a2 T2.length c2])) Y from ⟨⟨a1, m, c1, a2, T2, c2⟩, rfl, ⟨rfl, hT2⟩, ⟨hr3, hTY⟩, hBY⟩)
  clear hY hz0 hz1 hO2 hne hOY hTY hBY hr3 hT2 hA2 hn2 hN2 hG2 hb2 BZ2 hO1 hb1
  go_wp2
  (try simp only [Exit.inBlock, Exit.then]); refine bodyPost_ret (res_cols rfl rfl bY) rfl HF.out
set_option maxRecDepth 100000 in
set_option maxHeartbeats 4000000 in
theorem refCheckColours_any (x : Cols) (w : World) (hx : ColsAt w x) (hm : x.m.length ≤ maxLen) (hT : x.T.length ≤ maxLen) (hsz : ∀ r ∈ x.T, r.l.length ≤ maxLen) :
    Calls Try.prog 48 #[x.v] w (CheckPost (colsErr x) w) := by
  obtain ⟨ma, m, mc, da, T, dc⟩ := x
  have hm : m.length ≤ maxLen := hm
  have hT : T.length ≤ maxLen := hT
  have HSZ := Lib.hid (show ∀ r ∈ T, r.l.length ≤ maxLen from hsz)
  unfold maxLen at hm hT
  show Calls _ _ #[.agg #[.slice ma m.length mc, .slice da T.length dc]] _ _
  have bx := BoxAt.new w #[.slice ma m.length mc, .slice da T.length dc] 78
  have hb := (Below.refl w.heap.size w).alloc (Nat.le_refl _) (.cells #[.slice ma m.length mc, .slice da T.length dc] 78)
  have hx2 := hx.below hb
  have HM := Lib.hid hx2.mins; have HT := Lib.hid hx2.tab
  have HDEF := Lib.hid (show colsErr ⟨ma, m, mc, da, T, dc⟩ = if 6 < m.length then 8 else if m.all (fun y => inB y 0 10000) = false then 2 else if T.length ≠ m.length then 10 else rowsE T.length (-1) T from rfl)
  obtain ⟨ce, hce⟩ : ∃ ce, ce = colsErr ⟨ma, m, mc, da, T, dc⟩ := ⟨_, rfl⟩
  rw [← hce] at HDEF ⊢
  clear hx hx2 hce hsz
  go_enter Try.func48, Try.ntmps48
  by_cases h1 : 6 < m.length
  · have HE := Lib.hid (show ce = 8 by rw [HDEF.out, if_pos h1])
    have h1' : (6 : Int) < (m.length : Int) := by omega
    clear h1
    go_wp2_with fail
    go_ret
    exact ⟨ret_int HE.out.symm, hb⟩
  have h1' : ¬ (6 : Int) < (m.length : Int) := by omega
  have HDEF1 := Lib.hid (show ce = if m.all (fun y => inB y 0 10000) = false then 2 else if T.length ≠ m.length then 10 else rowsE T.length (-1) T by rw [HDEF.out, if_neg h1])
  go_wp2_with fail
  clear h1'
  obtain ⟨w0, hw0⟩ : ∃ w0, w0 = w.alloc (.cells #[.slice ma m.length mc, .slice da T.length dc] 78) := ⟨_, rfl⟩
  rw [← hw0] at bx hb HM HT ⊢
  clear hw0
  have k0 : w0.cell? ⟨w.heap.size, 0, none⟩ = some (.slice ma m.length mc) := bx.cell 0
  have k1 : w0.cell? ⟨w.heap.size, 1, none⟩ = some (.slice da T.length dc) := bx.cell 1
  have lx := bx.lt
  have HB := Lib.hid hb
  clear bx hb
  go_loop [4] (fun i => ∃ k : Nat, k ≤ m.length ∧ i = .int .i64 k ∧ Hid (m.all (fun x => inB x 0 10000) = (m.drop k).all (fun x => inB x 0 10000))) (fun i => m.length - (intOf i).toNat)
  case atStart => exact ⟨0, Nat.zero_le _, rfl, Lib.hid rfl⟩
  case round =>
    obtain ⟨k, hk, rfl, HR⟩ := hrel
    by_cases hlt : k < m.length
    · obtain ⟨ad, rfl, had, s0⟩ := HM.out.int hlt
      have HAL := Lib.hid (all_step (α := Int) (p := fun x => inB x 0 10000) hlt)
      obtain ⟨y, ey⟩ : ∃ y, y = m[k] := ⟨_, rfl⟩
      rw [← ey] at s0 HAL
      have hkl : (k : Int) < (m.length : Int) := by omega
      clear ey
      cases hin : inB y 0 10000
      · have HE := Lib.hid (show ce = 2 by rw [HDEF1.out, if_pos (by rw [HR.out, HAL.out, hin]; rfl)])
        go_wp2_with (go_at_call 30; refine (within_any _ _ _ _).mono ?_; rintro e w' ⟨rfl, rfl⟩)
        go_ret
        exact ⟨ret_int HE.out.symm, HB.out⟩
      · have HIN := Lib.hid hin
        go_wp2_with (go_at_call 30; refine (within_any _ _ _ _).mono ?_; rintro e w' ⟨rfl, rfl⟩; rw [HIN.out])
        go_round
        case rel => exact ⟨k + 1, by omega, by go_num, Lib.hid (by rw [HR.out, HAL.out, HIN.out]; rfl)⟩
        case measure => simp [intOf]; omega
    · have HALL := Lib.hid (show m.all (fun x => inB x 0 10000) = true by rw [HR.out]; exact all_stop hlt)
      have HDEF2 := Lib.hid (show ce = if T.length ≠ m.length then 10 else rowsE T.length (-1) T by rw [HDEF1.out, if_neg (by rw [HALL.out]; decide)])
      obtain rfl : k = m.length := by omega
      by_cases h3 : T.length = m.length
      · have HDEF3 := Lib.hid (show ce = rowsE T.length (-1) T by rw [HDEF2.out, if_neg (by simp [h3])])
        have h3' : ((T.length : Int) != (m.length : Int)) = false := by simp [h3]
        have H3 := Lib.hid h3
        clear h3
        go_wp2_with fail
        clear h3'
        go_loop [5] (fun i => ∃ k : Nat, k ≤ m.length ∧ i = .int .i64 k ∧ Hid (rowsE T.length (-1) T = rowsE T.length (-1) (T.drop k))) (fun i => m.length - (intOf i).toNat)
        case atStart => exact ⟨0, Nat.zero_le _, rfl, Lib.hid rfl⟩
        case round =>
          obtain ⟨k, hk, rfl, HR⟩ := hrel
          by_cases hlt2 : k < m.length
          · have hlt : k < T.length := by have := H3.out; omega
            have hkT : (k : Int) < (T.length : Int) := by omega
            obtain ⟨ad, ra, rl, rc, rfl, had, s0, hrow, hrr⟩ := HT.out.pick hlt
            have HST := Lib.hid (fun h => rowsE_stop (n := T.length) (least := -1) hlt h)
            have HGO := Lib.hid (fun h => rowsE_go (n := T.length) (least := -1) hlt h)
            have hrz : rl.length ≤ maxLen := by have := HSZ.out _ (List.getElem_mem hlt); rw [hrr] at this; exact this
            rw [hrr] at HST HGO
            dsimp only at HST HGO
            have HRW := Lib.hid hrow
            unfold maxLen at hrz
            clear hrr hrow
            by_cases hx : rl.length = m.length
            · have hx' : ((rl.length : Int) != (m.length : Int)) = false := by simp [hx]
              have HX := Lib.hid hx
              clear hx
              go_wp2_with fail
              clear hx'
              go_loop [6] (fun i => ∃ j : Nat, j ≤ m.length ∧ i = .int .i64 j ∧ Hid (rl.all (fun x => inB x (-1) 10000) = (rl.drop j).all (fun x => inB x (-1) 10000))) (fun i => m.length - (intOf i).toNat)
              case atStart => exact ⟨0, Nat.zero_le _, rfl, Lib.hid rfl⟩
              case round =>
                obtain ⟨j, hj, rfl, HJ⟩ := hrel
                by_cases hjm : j < m.length
                · have hjl : j < rl.length := by have := HX.out; omega
                  have hjl' : (j : Int) < (rl.length : Int) := by omega
                  obtain ⟨ad2, rfl, had2, s2⟩ := HRW.out.int hjl
                  have HAL := Lib.hid (all_step (α := Int) (p := fun x => inB x (-1) 10000) hjl)
                  obtain ⟨y, ey⟩ : ∃ y, y = rl[j] := ⟨_, rfl⟩
                  rw [← ey] at s2 HAL
                  clear ey
                  cases hin : inB y (-1) 10000
                  · have HE := Lib.hid (show ce = 2 by
                      have h1 : rowErr T.length (-1) rl = 2 := by unfold rowErr; rw [if_neg (by have := HX.out; have := H3.out; omega), if_neg (by rw [HJ.out, HAL.out, hin]; simp)]
                      rw [HDEF3.out, HR.out, HST.out (by rw [h1]; decide), h1])
                    go_wp2_with (go_at_call 30; refine (within_any _ _ _ _).mono ?_; rintro e w' ⟨rfl, rfl⟩)
                    go_ret
                    exact ⟨ret_int HE.out.symm, HB.out⟩
                  · have HIN := Lib.hid hin
                    go_wp2_with (go_at_call 30; refine (within_any _ _ _ _).mono ?_; rintro e w' ⟨rfl, rfl⟩; rw [HIN.out])
                    go_round
                    case rel => exact ⟨j + 1, by omega, by go_num, Lib.hid (by rw [HJ.out, HAL.out, HIN.out]; rfl)⟩
                    case measure => simp [intOf]; omega
                · have HE := Lib.hid (show rowErr T.length (-1) rl = 0 by unfold rowErr; rw [if_neg (by have := HX.out; have := H3.out; omega), if_pos (by rw [HJ.out]; exact all_stop (by have := HX.out; omega))])
                  go_wp2
                  go_round
                  case rel => exact ⟨k + 1, by omega, by go_num, Lib.hid (by rw [HR.out, HGO.out HE.out])⟩
                  case measure => simp [intOf]; omega
            · have hx' : ((rl.length : Int) != (m.length : Int)) = true := by simp; omega
              have HE := Lib.hid (show ce = 10 by
                have h1 : rowErr T.length (-1) rl = 10 := by unfold rowErr; rw [if_pos (by have := H3.out; omega)]
                rw [HDEF3.out, HR.out, HST.out (by rw [h1]; decide), h1])
              clear hx
              go_wp2
              go_ret
              exact ⟨ret_int HE.out.symm, HB.out⟩
          · have HE := Lib.hid (show ce = 0 by rw [HDEF3.out, HR.out, List.drop_of_length_le (by have := H3.out; omega)]; rfl)
            go_wp2
            go_ret
            exact ⟨ret_int HE.out.symm, HB.out⟩
      · have HE := Lib.hid (show ce = 10 by rw [HDEF2.out, if_pos h3])
        have h3' : ((T.length : Int) != (m.length : Int)) = true := by simp; omega
        clear h3
        go_wp2_with fail
        go_ret
        exact ⟨ret_int HE.out.symm, HB.out⟩
end Go.Proofs.Ytpplcbpnojggcaa

namespace Go.Proofs.Ytpplcbpnojggcaa
open Go.RowKit Go.Maps Go.Shelf

def SlimPost (P : Prop) (w : World) (e : Ending) (w' : World) : Prop := (∃ b, e = .returned (.bool b) ∧ (b = true → P)) ∧ w = w'
theorem leftK_nil : ∀ n, (leftK [] n).length = n
  | 0 => rfl
  | n + 1 => by
    have := leftK_nil n
    unfold leftK
    rw [if_neg (by simp), List.length_append, this]; rfl
/-- What the check of a tree of right colours answers. -/
def ctR (x : Cols) (bd : Int) (T : List Nd) : Int × Int :=
  if inB bd 0 1000000 = false then (0, 2) else if inB (T.length : Int) 1 3000 = false then (0, 10) else chk x bd T x.m.length 0 []
/-- The same tree, laid elsewhere. -/
structure SameN (T T' : List Nd) : Prop where
  len : T'.length = T.length
  kind : ∀ i, (T'.getD i noNd).kind = (T.getD i noNd).kind
  nx : ∀ i, (T'.getD i noNd).nx = (T.getD i noNd).nx
theorem holdB_same {x y : Cols} (h : SameC x y) (bd kind : Int) (O : List Int) : holdB y bd kind O = holdB x bd kind O := by
  unfold holdB restI; rw [h.mins, h.m]
theorem ndE_same {x y : Cols} {T T' : List Nd} (h : SameC x y) (hT : SameN T T') (bd : Int) (at_ : Nat) (O : List Int) : ndE y bd T' at_ O = ndE x bd T at_ O := by
  unfold ndE; rw [hT.kind, hT.nx, hT.len, h.m, holdB_same h]
theorem fe_congr {g g' : Nat → Int × Int} (h : ∀ i, g' i = g i) : ∀ n i, fe g' n i = fe g n i
  | 0, _ => rfl
  | n + 1, i => by unfold fe; rw [h i, fe_congr h n]
theorem chk_same {x y : Cols} {T T' : List Nd} (h : SameC x y) (hT : SameN T T') (bd : Int) : ∀ (f at_ : Nat) (O : List Int), chk y bd T' f at_ O = chk x bd T f at_ O
  | 0, at_, O => by unfold chk; rw [ndE_same h hT]
  | f + 1, at_, O => by
    unfold chk
    rw [ndE_same h hT, hT.kind, hT.nx, h.m]
    rw [fe_congr (g := fun i => chk x bd T f ((T.getD at_ noNd).nx.getD i 0).toNat (O ++ [(leftK O x.m.length).getD i 0])) (fun i => chk_same h hT bd f _ _)]
theorem ctR_same {x y : Cols} {T T' : List Nd} (h : SameC x y) (hT : SameN T T') (bd : Int) : ctR y bd T' = ctR x bd T := by
  unfold ctR; rw [hT.len, h.m, chk_same h hT]
set_option maxRecDepth 100000 in
set_option maxHeartbeats 2000000 in
theorem refCheckColourTree_any (x : Cols) (bd : Int) (T : List Nd) (ta : Option Addr) (tc : Nat) (w : World) (hok : ColsOk x) (hnl : ∀ z ∈ T, z.nx.length ≤ maxLen) (hT : NodesAt w ta T) (hx : ColsAt w x) :
    Calls Try.prog 54 #[x.v, .int .i64 bd, .slice ta T.length tc] w (TwoPost (ctR x bd T) w) := by
  have HDEF := Lib.hid (show ctR x bd T = if inB bd 0 1000000 = false then (0, 2) else if inB (T.length : Int) 1 3000 = false then (0, 10) else chk x bd T x.m.length 0 [] from rfl)
  obtain ⟨R, hR⟩ : ∃ R, R = ctR x bd T := ⟨_, rfl⟩
  rw [← hR] at HDEF ⊢
  have HW := Lib.hid (fun (h1 : 1 ≤ T.length) (h3 : T.length ≤ 3000) W h h2 => refWalk_any x bd T ta tc hok h3 hnl x.m.length [] 0 none 0 0 W rfl (leftK_nil _) (by have := hok.le; simpa using this) List.nodup_nil (fun y hy => by cases hy) h1 h h2 (fun k hk => absurd hk (Nat.not_lt_zero _)) (fun _ => rfl))
  have HT := Lib.hid hT; have HX := Lib.hid hx
  clear hok hnl hT hx hR
  obtain ⟨ma, m, mc, da, TT, dc⟩ := x
  show Calls _ _ #[.agg #[.slice ma m.length mc, .slice da TT.length dc], .int .i64 bd, .slice ta T.length tc] _ _
  have HW : Hid (1 ≤ T.length → T.length ≤ 3000 → ∀ W, NodesAt W ta T → ColsAt W ⟨ma, m, mc, da, TT, dc⟩ → Calls Try.prog 117 #[.agg #[.slice ma m.length mc, .slice da TT.length dc], .int .i64 bd, .slice ta T.length tc, .int .i64 (0 : Nat), .slice none 0 0] W (TwoPost (chk ⟨ma, m, mc, da, TT, dc⟩ bd T m.length 0 []) W)) := HW
  have hB := (Below.refl w.heap.size w).alloc (Nat.le_refl _) (.cells #[.slice ma m.length mc, .slice da TT.length dc] 78)
  have bx := BoxAt.new w #[.slice ma m.length mc, .slice da TT.length dc] 78
  have k0 := bx.cell 0; have k1 := bx.cell 1
  simp at k0 k1
  have HB := Lib.hid hB
  clear hB bx
  go_enter Try.func54, Try.ntmps54
  cases h1 : inB bd 0 1000000
  · have HE := Lib.hid (show R = (0, 2) by rw [HDEF.out, if_pos h1])
    have H1 := Lib.hid h1
    go_wp2_with (go_at_call 30; refine (within_any _ _ _ _).mono ?_; rintro e w' ⟨rfl, rfl⟩; rw [H1.out])
    go_ret2
    exact ⟨two_to HE.out, HB.out⟩
  have H1 := Lib.hid h1
  cases h2 : inB (T.length : Int) 1 3000
  · have HE := Lib.hid (show R = (0, 10) by rw [HDEF.out, if_neg (by rw [h1]; decide), if_pos h2])
    have H2 := Lib.hid h2
    clear h1 h2
    go_wp2_with (go_at_call 30; refine (within_any _ _ _ _).mono ?_; rintro e w' ⟨rfl, rfl⟩; first | rw [H1.out] | rw [H2.out])
    go_ret2
    exact ⟨two_to HE.out, HB.out⟩
  have HE := Lib.hid (show R = chk ⟨ma, m, mc, da, TT, dc⟩ bd T m.length 0 [] by rw [HDEF.out, if_neg (by rw [h1]; decide), if_neg (by rw [h2]; decide)])
  have H2 := Lib.hid h2
  have hin := inB_iff.1 h2
  have HW2 := Lib.hid (fun W h h2 => HW.out (by omega) (by omega) W h h2)
  rw [← HE.out] at HW2
  clear h1 h2 hin
  go_wp2_with (first
    | (go_at_call 30; refine (within_any _ _ _ _).mono ?_; rintro e w' ⟨rfl, rfl⟩; first | rw [H1.out] | rw [H2.out])
    | (go_at_call 117; refine (HW2.out _ (HT.out.below HB.out) (HX.out.below HB.out)).mono ?_; rintro e w2 ⟨rfl, hb2⟩))
  go_ret2
  exact ⟨rfl, HB.out.trans (hb2.mono HB.out.size)⟩
set_option maxRecDepth 100000 in
set_option maxHeartbeats 2000000 in
theorem slim_any (T : List Nd) (ta : Option Addr) (tc : Nat) (w : World) (hT : NodesAt w ta T) (hTl : T.length ≤ maxLen) (hnl : ∀ z ∈ T, z.nx.length ≤ maxLen) :
    Calls Try.prog 58 #[.slice ta T.length tc] w (SlimPost (T.length ≤ 3002 ∧ ∀ z ∈ T, z.nx.length ≤ 8) w) := by
  unfold maxLen at hTl hnl
  have HT := Lib.hid hT; have HNL := Lib.hid hnl
  clear hT hnl
  go_enter Try.func58, Try.ntmps58
  by_cases h1 : (60 < T.length ∧ T.length ≤ 3000) ∨ 3002 < T.length
  · have hg : (60 : Int) < T.length := by omega
    have hg9 := decide_eq_true hg
    rcases h1 with ⟨h2, h3⟩ | h3
    · have hg2 : (T.length : Int) ≤ 3000 := by omega
      have hg8 := decide_eq_true hg2
      go_wp2_with fail
      go_ret
      exact ⟨⟨false, rfl, fun h => by cases h⟩, rfl⟩
    · have hg2 : ¬ (T.length : Int) ≤ 3000 := by omega
      have hg8 := decide_eq_false hg2
      have hg3 : (3002 : Int) < T.length := by omega
      have hg7 := decide_eq_true hg3
      go_wp2_with fail
      go_ret
      exact ⟨⟨false, rfl, fun h => by cases h⟩, rfl⟩
  have hg3 : ¬ (3002 : Int) < T.length := by omega
  have hg7 := decide_eq_false hg3
  have H3 := Lib.hid (show T.length ≤ 3002 by omega)
  have key : ∀ b6 b3 : Bool, decide ((60 : Int) < T.length) = b6 → decide ((T.length : Int) ≤ 3000) = b3 → (b6 && b3) = false := by
    intro b6 b3 e1 e2
    subst e1; subst e2
    simp
    omega
  rcases Nat.lt_or_ge 60 T.length with h6 | h6
  · have hg : (60 : Int) < T.length := by omega
    have hg9 := decide_eq_true hg
    have hg2 : ¬ (T.length : Int) ≤ 3000 := by omega
    have hg8 := decide_eq_false hg2
    clear key h1
    go_wp2_with fail
    go_loop [3] (fun i => ∃ k : Nat, k ≤ T.length ∧ i = .int .i64 k ∧ Hid (∀ z ∈ T.take k, z.nx.length ≤ 8)) (fun i => T.length - (intOf i).toNat)
    case atStart => exact ⟨0, Nat.zero_le _, rfl, Lib.hid (fun z hz => by simp at hz)⟩
    case round =>
      obtain ⟨k, hk, rfl, HQ⟩ := hrel
      by_cases hlt : k < T.length
      · obtain ⟨ad, rfl, had, s0, s1⟩ := HT.out.node hlt
        have HTK := Lib.hid (List.take_succ_eq_append_getElem hlt)
        have hzl := HNL.out _ (List.getElem_mem hlt)
        obtain ⟨z, ez⟩ : ∃ z, z = T[k] := ⟨_, rfl⟩
        rw [← ez] at s0 s1 HTK hzl
        have hkl : (k : Int) < (T.length : Int) := by omega
        clear ez
        by_cases h8 : 8 < z.nx.length
        · have h8' : (8 : Int) < (z.nx.length : Int) := by omega
          have h89 := decide_eq_true h8'
          clear h8
          go_wp2_with fail
          go_ret
          exact ⟨⟨false, rfl, fun h => by cases h⟩, rfl⟩
        · have h8' : ¬ (8 : Int) < (z.nx.length : Int) := by omega
          have h89 := decide_eq_false h8'
          have HQ2 : Hid (∀ y ∈ T.take (k + 1), y.nx.length ≤ 8) := Lib.hid (fun y hy => by
            rw [HTK.out] at hy
            rcases List.mem_append.1 hy with h | h
            · exact HQ.out y h
            · rw [List.mem_singleton.1 h]; omega)
          clear h8
          go_wp2_with fail
          go_round
          case rel => exact ⟨k + 1, by omega, by go_num, HQ2⟩
          case measure => simp [intOf]; omega
      · obtain rfl : k = T.length := by omega
        rw [List.take_length] at HQ
        go_wp2_with fail
        go_ret
        exact ⟨⟨true, rfl, fun _ => ⟨H3.out, HQ.out⟩⟩, rfl⟩
  · have hg : ¬ (60 : Int) < T.length := by omega
    have hg9 := decide_eq_false hg
    clear key h1
    go_wp2_with fail
    go_loop [3] (fun i => ∃ k : Nat, k ≤ T.length ∧ i = .int .i64 k ∧ Hid (∀ z ∈ T.take k, z.nx.length ≤ 8)) (fun i => T.length - (intOf i).toNat)
    case atStart => exact ⟨0, Nat.zero_le _, rfl, Lib.hid (fun z hz => by simp at hz)⟩
    case round =>
      obtain ⟨k, hk, rfl, HQ⟩ := hrel
      by_cases hlt : k < T.length
      · obtain ⟨ad, rfl, had, s0, s1⟩ := HT.out.node hlt
        have HTK := Lib.hid (List.take_succ_eq_append_getElem hlt)
        have hzl := HNL.out _ (List.getElem_mem hlt)
        obtain ⟨z, ez⟩ : ∃ z, z = T[k] := ⟨_, rfl⟩
        rw [← ez] at s0 s1 HTK hzl
        have hkl : (k : Int) < (T.length : Int) := by omega
        clear ez
        by_cases h8 : 8 < z.nx.length
        · have h8' : (8 : Int) < (z.nx.length : Int) := by omega
          have h89 := decide_eq_true h8'
          clear h8
          go_wp2_with fail
          go_ret
          exact ⟨⟨false, rfl, fun h => by cases h⟩, rfl⟩
        · have h8' : ¬ (8 : Int) < (z.nx.length : Int) := by omega
          have h89 := decide_eq_false h8'
          have HQ2 : Hid (∀ y ∈ T.take (k + 1), y.nx.length ≤ 8) := Lib.hid (fun y hy => by
            rw [HTK.out] at hy
            rcases List.mem_append.1 hy with h | h
            · exact HQ.out y h
            · rw [List.mem_singleton.1 h]; omega)
          clear h8
          go_wp2_with fail
          go_round
          case rel => exact ⟨k + 1, by omega, by go_num, HQ2⟩
          case measure => simp [intOf]; omega
      · obtain rfl : k = T.length := by omega
        rw [List.take_length] at HQ
        go_wp2_with fail
        go_ret
        exact ⟨⟨true, rfl, fun _ => ⟨H3.out, HQ.out⟩⟩, rfl⟩
end Go.Proofs.Ytpplcbpnojggcaa

namespace Go.Proofs.Ytpplcbpnojggcaa
open Go.RowKit Go.Maps Go.Shelf

/-- The best order, as the reference finds it. -/
def rbP (tk : List Int → Int × Int) (st : List Int × Int × Bool) (O : List Int) : List Int × Int × Bool := if (tk O).2 = 0 ∧ (st.2.2 = false ∨ (tk O).1 < st.2.1) then (O, (tk O).1, true) else st
def rbF (tk : List Int → Int × Int) (L : List (List Int)) : List Int × Int × Bool := L.foldl (rbP tk) ([], 0, false)
theorem rbF_snoc (tk : List Int → Int × Int) (L : List (List Int)) (O : List Int) : rbF tk (L ++ [O]) = rbP tk (rbF tk L) O := by unfold rbF; rw [List.foldl_append]; rfl
theorem lst_rb (tk : List Int → Int × Int) : ∀ (n : Nat) (L : List (List Int)), L.length = n →
    (lstF tk L).1 = (rbF tk L).1 ∧ (lstF tk L).2.1 = (rbF tk L).2.1 ∧ (((lstF tk L).2.2 = 12 ∧ (rbF tk L).2.2 = false ∧ (rbF tk L).1 = [] ∧ (rbF tk L).2.1 = 0 ∧ ∀ O ∈ L, (tk O).2 ≠ 0) ∨
      ((lstF tk L).2.2 = 0 ∧ (rbF tk L).2.2 = true ∧ (rbF tk L).1 ∈ L ∧ (rbF tk L).2.1 = (tk (rbF tk L).1).1 ∧ ∀ O ∈ L, (tk O).2 = 0 → (rbF tk L).2.1 ≤ (tk O).1))
  | 0, L, h => by
    rw [List.eq_nil_of_length_eq_zero h]
    exact ⟨rfl, rfl, Or.inl ⟨rfl, rfl, rfl, rfl, fun O hO => by cases hO⟩⟩
  | n + 1, L, h => by
    obtain ⟨L0, O, rfl⟩ : ∃ L0 O, L = L0 ++ [O] := ⟨L.dropLast, L.getLast (fun e => by rw [e] at h; cases h), (List.dropLast_concat_getLast _).symm⟩
    obtain ⟨h1, h2, h3⟩ := lst_rb tk n L0 (by simpa using h)
    rw [lstF_snoc, rbF_snoc]
    unfold lstP rbP
    by_cases h0 : (tk O).2 = 0
    · rcases h3 with ⟨e1, e2, e3, e4, e5⟩ | ⟨e1, e2, e3, e4, e5⟩
      · rw [if_pos ⟨h0, Or.inl (by rw [e1]; decide)⟩, if_pos ⟨h0, Or.inl e2⟩]
        refine ⟨rfl, rfl, Or.inr ⟨rfl, rfl, List.mem_append_right _ (List.mem_singleton.2 rfl), rfl, fun M hM hM0 => ?_⟩⟩
        rcases List.mem_append.1 hM with hM | hM
        · exact absurd hM0 (e5 M hM)
        · rw [List.mem_singleton.1 hM]; exact Int.le_refl _
      · by_cases hlt : (tk O).1 < (rbF tk L0).2.1
        · rw [if_pos ⟨h0, Or.inr (by rw [h2]; exact hlt)⟩, if_pos ⟨h0, Or.inr hlt⟩]
          refine ⟨rfl, rfl, Or.inr ⟨rfl, rfl, List.mem_append_right _ (List.mem_singleton.2 rfl), rfl, fun M hM hM0 => ?_⟩⟩
          rcases List.mem_append.1 hM with hM | hM
          · have := e5 M hM hM0; show (tk O).1 ≤ (tk M).1; omega
          · rw [List.mem_singleton.1 hM]; exact Int.le_refl _
        · rw [if_neg (by rintro ⟨-, h | h⟩; exact h e1; rw [h2] at h; exact hlt h), if_neg (by rintro ⟨-, h | h⟩; rw [e2] at h; cases h; exact hlt h)]
          refine ⟨h1, h2, Or.inr ⟨e1, e2, List.mem_append_left _ e3, e4, fun M hM hM0 => ?_⟩⟩
          rcases List.mem_append.1 hM with hM | hM
          · exact e5 M hM hM0
          · rw [List.mem_singleton.1 hM]; omega
    · rw [if_neg (fun h => h0 h.1), if_neg (fun h => h0 h.1)]
      refine ⟨h1, h2, ?_⟩
      rcases h3 with ⟨e1, e2, e3, e4, e5⟩ | ⟨e1, e2, e3, e4, e5⟩
      · refine Or.inl ⟨e1, e2, e3, e4, fun M hM => ?_⟩
        rcases List.mem_append.1 hM with hM | hM
        · exact e5 M hM
        · rw [List.mem_singleton.1 hM]; exact h0
      · refine Or.inr ⟨e1, e2, List.mem_append_left _ e3, e4, fun M hM hM0 => ?_⟩
        rcases List.mem_append.1 hM with hM | hM
        · exact e5 M hM hM0
        · rw [List.mem_singleton.1 hM] at hM0; exact absurd hM0 h0
theorem left_count {n : Nat} : ∀ (k : Nat) (O : List Int), O.length = k → O.Nodup → (∀ y ∈ O, 0 ≤ y ∧ y < n) → (leftK O n).length + O.length = n
  | 0, O, h, _, _ => by
    rw [List.eq_nil_of_length_eq_zero h]
    show (leftK [] n).length + 0 = n
    rw [left_nil]; rfl
  | k + 1, O, h, hnd, hin => by
    obtain ⟨O0, c, rfl⟩ : ∃ O0 c, O = O0 ++ [c] := ⟨O.dropLast, O.getLast (fun e => by rw [e] at h; cases h), (List.dropLast_concat_getLast _).symm⟩
    obtain ⟨h1, -, h3⟩ := List.nodup_append.1 hnd
    have hc : c ∉ O0 := fun hm => h3 c hm c (List.mem_singleton.2 rfl) rfl
    have hcb := hin c (List.mem_append_right _ (List.mem_singleton.2 rfl))
    obtain ⟨y, rfl⟩ : ∃ y : Nat, c = y := ⟨c.toNat, by omega⟩
    have ih := left_count k O0 (by simpa using h) h1 (fun z hz => hin z (List.mem_append_left _ hz))
    have h4 := leftK_more O0 y hc n
    rw [if_pos (by omega)] at h4
    rw [List.length_append, List.length_singleton]
    omega
theorem refOrds_nd {n : Nat} : ∀ (f : Nat) (O : List Int), O.Nodup → ∀ M ∈ refOrds f n O, M.Nodup
  | 0, O, hO, M, h => by rw [List.mem_singleton.1 h]; exact hO
  | f + 1, O, hO, M, h => by
    unfold refOrds at h
    obtain ⟨c, hc, hM⟩ := List.mem_flatMap.1 h
    refine refOrds_nd f _ ?_ M hM
    rw [List.nodup_append]
    exact ⟨hO, by simp, fun a ha b hb e => by rw [List.mem_singleton.1 hb] at e; exact (leftK_in O n c hc).2 (e ▸ ha)⟩
/-- The best order of both sides. -/
theorem best_both {x : Cols} (hok : ColsOk x) (h5 : x.m.length ≤ 5) : ∃ (c : Nat) (F : List Int) (le er : Int) (fd : Bool), OrdsEnd x.m.length c ∧ bestOf x c = (F, le, er) ∧ rbF (minsE x) (refOrds x.m.length x.m.length []) = (F, le, fd) ∧ F.length ≤ 5 ∧
    ((er = 12 ∧ fd = false ∧ F = [] ∧ le = 0 ∧ BoundOk x 1000000) ∨ (er = 0 ∧ fd = true ∧ 0 ≤ le ∧ le ≤ 1000000 ∧ BoundOk x le)) := by
  obtain ⟨c, hE, hL⟩ := ords_all h5
  obtain ⟨h1, h2, h3⟩ := lst_rb (minsE x) _ (refOrds x.m.length x.m.length []) rfl
  have hbe : bestOf x c = lstF (minsE x) (refOrds x.m.length x.m.length []) := by unfold bestOf; rw [hL]
  have hin : ∀ O : List Int, O.Nodup → (∀ y ∈ O, 0 ≤ y ∧ y < x.m.length) → leftK O x.m.length = [] → O ∈ refOrds x.m.length x.m.length [] := fun O hnd hr h0 => by
    have h4 := left_count (n := x.m.length) O.length O rfl hnd hr
    rw [h0] at h4
    exact ords_mem (n := x.m.length) x.m.length [] O (by simpa using h4) hnd hr
  obtain ⟨st, hst⟩ : ∃ st, st = rbF (minsE x) (refOrds x.m.length x.m.length []) := ⟨_, rfl⟩
  obtain ⟨sl, hsl⟩ : ∃ sl, sl = lstF (minsE x) (refOrds x.m.length x.m.length []) := ⟨_, rfl⟩
  rw [← hst, ← hsl] at h1 h2 h3
  obtain ⟨F, le, fd⟩ := st
  obtain ⟨F2, le2, er⟩ := sl
  dsimp only at h1 h2 h3
  subst h1; subst h2
  refine ⟨c, F2, le2, er, fd, hE, by rw [hbe, ← hsl], hst.symm, ?_, ?_⟩
  · rcases h3 with ⟨-, -, e3, -, -⟩ | ⟨-, -, e3, -, -⟩
    · rw [e3]; decide
    · have h9 := (refOrds_item (n := x.m.length) x.m.length [] _ e3).1
      simp at h9; omega
  · rcases h3 with ⟨e1, e2, e3, e4, e5⟩ | ⟨e1, e2, e3, e4, e5⟩
    · exact Or.inl ⟨e1, e2, e3, e4, fun O hnd hr h0 h4 => absurd h4 (e5 O (hin O hnd hr h0))⟩
    · have h9 := (refOrds_item (n := x.m.length) x.m.length [] _ e3).1
      have h8 := mins_bd hok (O := F2) (by simp at h9; omega)
      rw [← e4] at h8
      exact Or.inr ⟨e1, e2, h8.1, by omega, fun O hnd hr h0 h4 => e5 O (hin O hnd hr h0) h4⟩
/-- A tree that is right is accepted. -/
theorem ct_right {x : Cols} {bd : Int} {T : List Nd} (h1 : 0 ≤ bd) (h2 : bd ≤ 1000000) (h3 : 1 ≤ T.length) (h4 : T.length ≤ 1957) (h5 : (chk x bd T x.m.length 0 []).2 = 0) : ctR x bd T = (0, 0) := by
  unfold ctR
  rw [if_neg (by rw [show inB bd 0 1000000 = true from inB_iff.2 ⟨h1, h2⟩]; decide), if_neg (by rw [show inB (T.length : Int) 1 3000 = true from inB_iff.2 ⟨by omega, by omega⟩]; decide)]
  exact chk_two h5
end Go.Proofs.Ytpplcbpnojggcaa

namespace Go.Proofs.Ytpplcbpnojggcaa
open Go.RowKit Go.Maps Go.Shelf
attribute [local go_sem] Oper.semAt_some

set_option maxRecDepth 100000 in
set_option maxHeartbeats 4000000 in
theorem leastReady_any (cn c : Nat) (tk : List Int → Int × Int) (lb : Value) (w : World) (hE : OrdsEnd cn c) (hcn : cn ≤ 100)
    (htk : ∀ (O : List Int) (v : Value) (B : Nat) (W : World), Below w.heap.size w W → OwnR 1 3 intL W B v O → O.length = cn → (∀ y ∈ O, 0 ≤ y ∧ y < cn) → Calls Try.prog 129 #[v, lb] W (TwoPost (tk O) W)) :
    Calls Try.prog 113 #[.int .i64 cn, .func (.func 129) #[] #[lb]] w (LstPost (lstF tk (ordsL cn c)) w) := by
  have HE := Lib.hid hE; have HTK := Lib.hid htk
  clear hE htk
  refine (callsIn_wide (n := 9)).1 ?_
  refine callsIn_of_wp_marks Try.func113 rfl trivial ?_ rfl
  simp only [Try.ntmps113, List.size_toArray, List.length_cons, List.length_nil, Nat.reduceAdd, Nat.reduceSub, Array.replicate_succ, Array.replicate_zero, List.push_toArray, List.append_toArray, List.nil_append, List.cons_append]
  gi_wp2_with (refine ⟨trivial, ?_⟩; gi_at_call 139; refine (callsIn_wide.2 (orders_any _ _)).mono ?_; rintro e w' ⟨rfl, rfl⟩)
  obtain ⟨fv, hfv⟩ : ∃ fv, fv = Value.func (.func 129) #[] #[lb] := ⟨_, rfl⟩
  have HFV := Lib.hid hfv
  obtain ⟨A1, hA1⟩ : ∃ A1, A1 = w.alloc (.cells #[Value.func (.func 129) #[] #[lb]] 162) := ⟨_, rfl⟩
  obtain ⟨A2, hA2⟩ : ∃ A2, A2 = A1.alloc (.cells #[.slice none 0 0] 75) := ⟨_, rfl⟩
  obtain ⟨A3, hA3⟩ : ∃ A3, A3 = A2.alloc (.cells #[.int .i64 0] 3) := ⟨_, rfl⟩
  obtain ⟨A4, hA4⟩ : ∃ A4, A4 = A3.alloc (.cells #[.int .i64 12] 29) := ⟨_, rfl⟩
  obtain ⟨A5, hA5⟩ : ∃ A5, A5 = A4.alloc (.cells #[.int .i64 cn] 3) := ⟨_, rfl⟩
  have hz1 : A1.heap.size = w.heap.size + 1 := by rw [hA1]; simp
  have hz2 : A2.heap.size = w.heap.size + 1 + 1 := by rw [hA2]; simp [hz1]
  have hz3 : A3.heap.size = w.heap.size + 1 + 1 + 1 := by rw [hA3]; simp [hz2]
  have hz4 : A4.heap.size = w.heap.size + 1 + 1 + 1 + 1 := by rw [hA4]; simp [hz3]
  have hz5 : A5.heap.size = w.heap.size + 5 := by rw [hA5]; simp [hz4]
  have b0 : BoxAt A5 w.heap.size #[fv] 162 := by rw [hA5, hA4, hA3, hA2, hA1, hfv]; exact ((((BoxAt.new w _ _).alloc _).alloc _).alloc _).alloc _
  have b1 : BoxAt A5 (w.heap.size + 1) #[.slice none 0 0] 75 := by rw [hA5, hA4, hA3, hA2, ← hz1]; exact (((BoxAt.new A1 _ _).alloc _).alloc _).alloc _
  have b2 : BoxAt A5 (w.heap.size + 2) #[.int .i64 0] 3 := by rw [hA5, hA4, hA3, show w.heap.size + 2 = A2.heap.size by omega]; exact ((BoxAt.new A2 _ _).alloc _).alloc _
  have b3 : BoxAt A5 (w.heap.size + 3) #[.int .i64 12] 29 := by rw [hA5, hA4, show w.heap.size + 3 = A3.heap.size by omega]; exact (BoxAt.new A3 _ _).alloc _
  have b4 : BoxAt A5 (w.heap.size + 1 + 1 + 1 + 1) #[.int .i64 cn] 3 := by rw [hA5, ← hz4]; exact BoxAt.new A4 _ _
  have hlow : Below w.heap.size w A5 := by
    rw [hA5, hA4, hA3, hA2, hA1]
    exact ((((((Below.refl w.heap.size w).alloc (Nat.le_refl _) _).alloc (by simp) _).alloc (by simp; omega) _).alloc (by simp; omega) _).alloc (by simp; omega) _)
  have hLI : LsI w fv (lstF tk []) [] (.slice none 0 0) A5 := ⟨b0, b1, b2, b3, OwnR.nil _ _, (fun y hy => by cases hy), hlow, by omega, fun _ => rfl⟩
  change Code.wpIn _ _ _ _ _ _ (((((w.alloc (.cells #[Value.func (.func 129) #[] #[lb]] 162)).alloc (.cells #[.slice none 0 0] 75)).alloc (.cells #[.int .i64 0] 3)).alloc (.cells #[.int .i64 12] 29)).alloc (.cells #[.int .i64 cn] 3))
  rw [← hA1, ← hA2, ← hA3, ← hA4, ← hA5]
  clear hA1 hA2 hA3 hA4 hA5 hz1 hz2 hz3 hz4 b0 b1 b2 b3 hfv
  refine wpIn_rangeFunc_rw rfl (by omega) (gf := 154) (lb := #[.pointer (some ⟨w.heap.size + 1 + 1 + 1 + 1, 0, none⟩)]) rfl trivial (enters_of Try.func154 (by kernel_rfl) rfl)
    (orders_rw cn c (w.heap.size + 1 + 1 + 1 + 1) _ A5 HE.out hcn b4) rfl
    (fun xs W => ∃ V, LsI w fv (lstF tk (xs.map (·.l))) xs V W)
    (fun _ _ _ => False)
    (fun xs X Y row hs hg hr => by obtain ⟨V, h⟩ := hs; exact ⟨V, h.kept hg (fun r e => ⟨by have := (hr r e).1; omega, (hr r e).2⟩)⟩)
    (fun _ _ _ _ _ hs _ _ => hs)
    (fun xs x X Y hs ho ht => by obtain ⟨V, h⟩ := hs; exact ⟨V, h.turn (List.mem_append.2 (Or.inr (List.mem_singleton.2 rfl))) (fun k e => by have := (ho.lt k e).1; omega) ht⟩)
    (fun X hX => ⟨_, hLI.below hX⟩)
    (fun x => { tmps := #[.int .i64 cn, .func (.func 129) #[] #[lb], undef, .pointer (some ⟨w.heap.size, 0, none⟩), .slice none 0 0, .int .i64 0, .int .i64 0, .pointer (some ⟨w.heap.size + 1, 0, none⟩), .pointer (some ⟨w.heap.size + 1 + 1, 0, none⟩), .pointer (some ⟨w.heap.size + 1 + 1 + 1, 0, none⟩), x.v, undef, undef, .int .i64 cn, .func (.func 154) #[] #[.pointer (some ⟨w.heap.size + 1 + 1 + 1 + 1, 0, none⟩)], x.v, undef, undef, undef, undef, undef, undef, undef, undef, undef, undef, undef, undef, undef, undef, undef, undef, undef, undef, undef, undef, undef, undef, undef], defers := [] }) ?assign ?body ?done ?stop
  case assign =>
    intro l x W K hK
    gi_wp2
    exact hK
  case body =>
    rintro l pre x W ⟨V, hI⟩ hlen ⟨hone, k, hk, hm⟩ how
    have hxl := ord_pick hm
    have HLEN := Lib.hid (show x.l.length = cn by rw [hxl]; exact ordAt_len _ _)
    have HTC := Lib.hid (HTK.out x.l x.v (A5.heap.size + 2) W hI.low how HLEN.out (by rw [hxl]; exact ord_in' _ _))
    have HSN := Lib.hid (show lstF tk ((pre ++ [x]).map (·.l)) = lstP tk (lstF tk (pre.map (·.l))) x.l by rw [List.map_append]; exact lstF_snoc _ _ _)
    obtain ⟨st, hst⟩ : ∃ st, st = lstF tk (pre.map (·.l)) := ⟨_, rfl⟩
    rw [← hst] at hI HSN
    have HONE := Lib.hid hone
    clear hst hm hxl hone
    obtain ⟨F, le, fo⟩ := st
    obtain ⟨t, ht⟩ : ∃ t, t = tk x.l := ⟨_, rfl⟩
    rw [← ht] at HTC
    have HLP := Lib.hid (show lstP tk (F, le, fo) x.l = if t.2 = 0 ∧ (fo ≠ 0 ∨ t.1 < le) then (x.l, t.1, 0) else (F, le, fo) by unfold lstP; rw [← ht])
    clear ht
    obtain ⟨mn, er⟩ := t
    dsimp only at HLP
    have c0 : W.cell? ⟨w.heap.size, 0, none⟩ = some fv := hI.b0.cell 0
    rw [HFV.out] at c0
    have HI := Lib.hid hI
    have HOW := Lib.hid how
    have hlo := hI.lo
    have HZ5 := Lib.hid hz5
    have HLX0 := Lib.hid (fun (W' : World) (hb : Below W.heap.size W W') => (show LsI w fv (F, le, fo) (pre ++ [x]) V W' from
      { hI.below hb with
        ne := fun y hy q e => by
          have hq : ∀ y ∈ pre, y.v = x.v := fun y hy => by
            obtain ⟨v, h⟩ := HONE.out
            rw [h y (List.mem_append.2 (Or.inl hy)), h x (List.mem_append.2 (Or.inr (List.mem_singleton.2 rfl)))]
          rcases List.mem_append.1 hy with h | h
          · exact hI.ne y h q e
          · rw [List.mem_singleton.1 h]
            rcases pre with _ | ⟨y0, pre0⟩
            · rw [hI.emp rfl] at e; cases e
            · rw [← hq y0 List.mem_cons_self]; exact hI.ne y0 List.mem_cons_self q e
        emp := fun h => by simp at h }))
    clear hI how hlow hz5 hLI b4
    refine wpIn_block ?_
    refine wpIn_seq ?_
    refine wpIn_round_plain (by rfl) (fun ⟨_, _, h⟩ => h) ?_
    go_wp2_with (go_at_call 129; refine HTC.out.mono ?_; rintro e W1 ⟨rfl, hb1⟩)
    have HB1 := Lib.hid hb1
    have HLX := Lib.hid (HLX0.out W1 hb1)
    have hI1 := HI.out.below hb1
    have hz1 := hb1.size
    have d2 : W1.cell? ⟨w.heap.size + 1 + 1, 0, none⟩ = some (.int .i64 le) := hI1.b2.cell 0
    have d3 : W1.cell? ⟨w.heap.size + 1 + 1 + 1, 0, none⟩ = some (.int .i64 fo) := hI1.b3.cell 0
    have HI1 := Lib.hid hI1
    have HO1 := Lib.hid (HOW.out.below hb1)
    clear c0 hb1 hI1 HLX0
    refine wpIn_seq ?_
    by_cases h1 : er = 0
    · by_cases h2 : fo = 0
      · by_cases h3 : mn < le
        · have HLP : Hid (lstP tk (F, le, fo) x.l = (x.l, mn, 0)) := Lib.hid (by rw [HLP.out, if_pos ⟨h1, Or.inr h3⟩])
          have h1' : (er == 0) = true := by simpa using h1
          have h2' : (fo != 0) = false := by simpa using h2
          have h3' : decide (mn < le) = true := decide_eq_true h3
          clear h1 h2 h3
          refine wpIn_round_plain (by rfl) (fun ⟨_, _, h⟩ => h) ?_
          go_wp2
          refine wpIn_cond (t := true) rfl ?_
          refine wpIn_round_plain (by rfl) (fun ⟨_, _, h⟩ => h) ?_
          go_wp2_with (go_at_call 140; refine (cloneOwn_any _ x.v x.l W1 HO1.out (by rw [HLEN.out]; omega)).mono ?_; rintro e W2 ⟨v2, rfl, hO2, hb2⟩; obtain ⟨ca, cc, ev, -⟩ := hO2.rows int_l; subst ev; have B1 := HI1.out.b1.below hb2; have B2 := HI1.out.b2.below hb2; have B3 := HI1.out.b3.below hb2; have k1 : W2.cell? ⟨w.heap.size + 1, 0, none⟩ = some V := B1.cell 0; have k2 : W2.cell? ⟨w.heap.size + 1 + 1, 0, none⟩ = some (.int .i64 le) := B2.cell 0; have k3 : W2.cell? ⟨w.heap.size + 1 + 1 + 1, 0, none⟩ = some (.int .i64 fo) := B3.cell 0; have f1 : W2.frozen? ⟨w.heap.size + 1, 0, none⟩ = false := B1.free 0; have f2 : W2.frozen? ⟨w.heap.size + 1 + 1, 0, none⟩ = false := B2.free 0; have f3 : W2.frozen? ⟨w.heap.size + 1 + 1 + 1, 0, none⟩ = false := B3.free 0; have l1 : w.heap.size + 1 + 1 + 1 < W2.heap.size := B3.lt; clear B1 B2 B3; have HO2 := Lib.hid hO2; have HB2 := Lib.hid hb2; clear hO2 hb2)
          have hne : ∀ y ∈ pre ++ [x], ∀ q, (Value.slice ca x.l.length cc).ownBlock = some q → y.v.ownBlock ≠ some q := fun y hy q e e2 => by
            obtain ⟨v, h⟩ := HONE.out
            have h1 := (HO2.out.lt q e).1
            rw [h y hy, ← h x (List.mem_append.2 (Or.inr (List.mem_singleton.2 rfl)))] at e2
            have h2 := (HO1.out.lt q e2).2
            omega
          have hP := (HI1.out.below HB2.out).put (mn := mn) (xs' := pre ++ [x]) HO2.out (by omega) hne (by simp)
          have hkk : ∀ k, k < W.heap.size → w.heap.size + 5 ≤ k → (((W2.setCell ⟨w.heap.size + 1, 0, none⟩ (.slice ca x.l.length cc)).setCell ⟨w.heap.size + 1 + 1, 0, none⟩ (.int .i64 mn)).setCell ⟨w.heap.size + 1 + 1 + 1, 0, none⟩ (.int .i64 0)).heap[k]? = W.heap[k]? := fun k hk hk2 => (hP.2 k hk2).trans ((HB2.out.block k (by omega)).trans (HB1.out.block k hk))
          have hz5 := HZ5.out
          refine ⟨⟨by simp; have := HB2.out.size; omega, fun k o hk ho _ => (hkk k (heap_lt ho) (by omega)).trans ho⟩, fun q e => hkk q (HOW.out.lt q e).2 (by have := (HOW.out.lt q e).1; omega), .slice ca x.l.length cc, ?_⟩
          rw [HSN.out, HLP.out]
          exact hP.1
        · have HLP : Hid (lstP tk (F, le, fo) x.l = (F, le, fo)) := Lib.hid (by rw [HLP.out, if_neg (by rintro ⟨_, h | h⟩; exact h h2; exact h3 h)])
          have h1' : (er == 0) = true := by simpa using h1
          have h2' : (fo != 0) = false := by simpa using h2
          have h3' : decide (mn < le) = false := decide_eq_false h3
          clear h1 h2 h3
          refine wpIn_round_plain (by rfl) (fun ⟨_, _, h⟩ => h) ?_
          go_wp2
          refine wpIn_cond (t := false) rfl ?_
          refine wpIn_skip ?_
          refine ⟨keeps_below HB1.out, fun q e => HB1.out.block q (HOW.out.lt q e).2, V, ?_⟩
          rw [HSN.out, HLP.out]
          exact HLX.out
      · have HLP : Hid (lstP tk (F, le, fo) x.l = (x.l, mn, 0)) := Lib.hid (by rw [HLP.out, if_pos ⟨h1, Or.inl h2⟩])
        have h1' : (er == 0) = true := by simpa using h1
        have h2' : (fo != 0) = true := by simpa using h2
        clear h1 h2
        refine wpIn_round_plain (by rfl) (fun ⟨_, _, h⟩ => h) ?_
        go_wp2
        refine wpIn_cond (t := true) rfl ?_
        refine wpIn_round_plain (by rfl) (fun ⟨_, _, h⟩ => h) ?_
        go_wp2_with (go_at_call 140; refine (cloneOwn_any _ x.v x.l W1 HO1.out (by rw [HLEN.out]; omega)).mono ?_; rintro e W2 ⟨v2, rfl, hO2, hb2⟩; obtain ⟨ca, cc, ev, -⟩ := hO2.rows int_l; subst ev; have B1 := HI1.out.b1.below hb2; have B2 := HI1.out.b2.below hb2; have B3 := HI1.out.b3.below hb2; have k1 : W2.cell? ⟨w.heap.size + 1, 0, none⟩ = some V := B1.cell 0; have k2 : W2.cell? ⟨w.heap.size + 1 + 1, 0, none⟩ = some (.int .i64 le) := B2.cell 0; have k3 : W2.cell? ⟨w.heap.size + 1 + 1 + 1, 0, none⟩ = some (.int .i64 fo) := B3.cell 0; have f1 : W2.frozen? ⟨w.heap.size + 1, 0, none⟩ = false := B1.free 0; have f2 : W2.frozen? ⟨w.heap.size + 1 + 1, 0, none⟩ = false := B2.free 0; have f3 : W2.frozen? ⟨w.heap.size + 1 + 1 + 1, 0, none⟩ = false := B3.free 0; have l1 : w.heap.size + 1 + 1 + 1 < W2.heap.size := B3.lt; clear B1 B2 B3; have HO2 := Lib.hid hO2; have HB2 := Lib.hid hb2; clear hO2 hb2)
        have hne : ∀ y ∈ pre ++ [x], ∀ q, (Value.slice ca x.l.length cc).ownBlock = some q → y.v.ownBlock ≠ some q := fun y hy q e e2 => by
          obtain ⟨v, h⟩ := HONE.out
          have h1 := (HO2.out.lt q e).1
          rw [h y hy, ← h x (List.mem_append.2 (Or.inr (List.mem_singleton.2 rfl)))] at e2
          have h2 := (HO1.out.lt q e2).2
          omega
        have hP := (HI1.out.below HB2.out).put (mn := mn) (xs' := pre ++ [x]) HO2.out (by omega) hne (by simp)
        have hkk : ∀ k, k < W.heap.size → w.heap.size + 5 ≤ k → (((W2.setCell ⟨w.heap.size + 1, 0, none⟩ (.slice ca x.l.length cc)).setCell ⟨w.heap.size + 1 + 1, 0, none⟩ (.int .i64 mn)).setCell ⟨w.heap.size + 1 + 1 + 1, 0, none⟩ (.int .i64 0)).heap[k]? = W.heap[k]? := fun k hk hk2 => (hP.2 k hk2).trans ((HB2.out.block k (by omega)).trans (HB1.out.block k hk))
        have hz5 := HZ5.out
        refine ⟨⟨by simp; have := HB2.out.size; omega, fun k o hk ho _ => (hkk k (heap_lt ho) (by omega)).trans ho⟩, fun q e => hkk q (HOW.out.lt q e).2 (by have := (HOW.out.lt q e).1; omega), .slice ca x.l.length cc, ?_⟩
        rw [HSN.out, HLP.out]
        exact hP.1
    · have HLP : Hid (lstP tk (F, le, fo) x.l = (F, le, fo)) := Lib.hid (by rw [HLP.out, if_neg (fun h => h1 h.1)])
      have h1' : (er == 0) = false := by simpa using h1
      clear h1
      refine wpIn_round_plain (by rfl) (fun ⟨_, _, h⟩ => h) ?_
      go_wp2
      refine wpIn_cond (t := false) rfl ?_
      refine wpIn_skip ?_
      refine ⟨keeps_below HB1.out, fun q e => HB1.out.block q (HOW.out.lt q e).2, V, ?_⟩
      rw [HSN.out, HLP.out]
      exact HLX.out
  case done =>
    rintro D xs W hD ⟨hone, hm⟩ ⟨V, hI⟩ hK
    rw [hm] at hI
    have c6 : W.cell? ⟨w.heap.size + 1, 0, none⟩ = some V := hI.b1.cell 0
    have c7 : W.cell? ⟨w.heap.size + 1 + 1, 0, none⟩ = some (.int .i64 (lstF tk (ordsL cn c)).2.1) := hI.b2.cell 0
    have c8 : W.cell? ⟨w.heap.size + 1 + 1 + 1, 0, none⟩ = some (.int .i64 (lstF tk (ordsL cn c)).2.2) := hI.b3.cell 0
    have HI := Lib.hid hI
    obtain ⟨va, vc, ev, -⟩ := hI.own.rows int_l
    subst ev
    clear hI hm hone
    gi_wp2
    refine wpIn_wide.2 ?_
    go_quiet (fail)
    gi_wp2
    have hnb : (Value.slice va (lstF tk (ordsL cn c)).1.length vc).ownBlock ≠ some D := fun e => by
      obtain ⟨cs, hcs⟩ := own_block HI.out.own D e
      rw [hK] at hcs; cases hcs
    refine ⟨by simp, .inl ⟨_, _, rfl, run_takeDeferred (w := W.drewN nq) hK, ?_⟩⟩
    refine ⟨.tuple #[.slice va (lstF tk (ordsL cn c)).1.length vc, .int .i64 (lstF tk (ordsL cn c)).2.1, .int .i64 (lstF tk (ordsL cn c)).2.2], by simp [results, Try.results113, go_sem], .slice va (lstF tk (ordsL cn c)).1.length vc, rfl, ?_, ?_⟩
    · exact ((HI.out.own.drewN nq).putObj hnb _).mono (by omega)
    · exact below_putObj (below_drewN HI.out.low nq) (by omega) _
  case stop =>
    rintro D cc pre W _ _ h _
    exact h.elim
end Go.Proofs.Ytpplcbpnojggcaa

namespace Go.Proofs.Ytpplcbpnojggcaa
open Go.RowKit Go.Maps Go.Shelf

set_option maxRecDepth 100000 in
set_option maxHeartbeats 1000000 in
theorem ready1_any (T : List PR) (ta : Option Addr) (tc b B : Nat) (O : List Int) (v : Value) (w : World) (hb : BoxAt w b #[.slice ta T.length tc] 76) (hT : TabAt w ta T) (hr : TabRight T)
    (hO : OwnR 1 3 intL w B v O) (hol : O.length ≤ 7) (hin : ∀ y ∈ O, 0 ≤ y ∧ y < T.length) :
    Calls Try.prog 129 #[v, .pointer (some ⟨b, 0, none⟩)] w (TwoPost (mkA T O, 0) w) := by
  obtain ⟨a, c, rfl, hRS, hc, -⟩ := hO.rows int_l
  have HM := Lib.hid (makeReady_any T ta T.length tc O a O.length c w rfl rfl hT hr hRS hol hin)
  have c0 : w.cell? ⟨b, 0, none⟩ = some (.slice ta T.length tc) := hb.cell 0
  clear hT hr hO hin hRS
  go_enter Try.func129, Try.ntmps129
  go_wp2_with (go_at_call 128; refine HM.out.mono ?_; rintro e w1 ⟨rfl, rfl⟩)
  go_ret2
  exact ⟨rfl, Below.refl _ _⟩
/-- What MakeReady returns: the minutes, the error. -/
def mrE (T : List PR) (O : List Int) : Int × Int := if tblErr T ≠ 0 then (0, tblErr T) else if ordErr T.length O ≠ 0 then (0, ordErr T.length O) else (mkA T O, 0)
theorem mrE_map {T T' : List PR} (h : T'.map (·.l) = T.map (·.l)) (O : List Int) : mrE T' O = mrE T O := by
  unfold mrE mkA; rw [tblErr_map h, map_len h, mkR_map h]
set_option maxRecDepth 100000 in
set_option maxHeartbeats 2000000 in
theorem MakeReady_any (T : List PR) (ta : Option Addr) (tn tc : Nat) (O : List Int) (a : Option Addr) (n oc : Nat) (w : World) (htn : tn = T.length) (hn : n = O.length) (hT : TabAt w ta T) (hTl : T.length ≤ 1000000) (hO : RowsAt 1 intL w a O) (hl : O.length ≤ maxLen) :
    Calls Try.prog 70 #[.slice ta tn tc, .slice a n oc] w (TwoPost (mrE T O) w) := by
  subst hn; subst htn
  have HCC := Lib.hid (errorOfReadyTable_any T ta T.length tc w rfl hT (by unfold maxLen; omega))
  have HEO := Lib.hid (errorOfOrder_any a O O.length oc T.length w rfl hO hl hTl)
  have HMO := Lib.hid (fun W (hb : Below w.heap.size w W) h2 h3 h4 => makeReady_any T ta T.length tc O a O.length oc W rfl rfl (hT.below hb) h2 (hO.below hb) h3 h4)
  have HDEF := Lib.hid (show mrE T O = if tblErr T ≠ 0 then (0, tblErr T) else if ordErr T.length O ≠ 0 then (0, ordErr T.length O) else (mkA T O, 0) from rfl)
  obtain ⟨R, hR⟩ : ∃ R, R = mrE T O := ⟨_, rfl⟩
  rw [← hR] at HDEF ⊢
  clear hT hO hR
  go_enter Try.func70, Try.ntmps70
  by_cases h0 : tblErr T = 0
  · have HOK := Lib.hid (tab_right h0)
    have HD1 := Lib.hid (show R = if ordErr T.length O ≠ 0 then (0, ordErr T.length O) else (mkA T O, 0) by rw [HDEF.out, if_neg (by simp [h0])])
    have H0 := Lib.hid h0
    clear h0 HDEF
    by_cases h1 : ordErr T.length O = 0
    · have HR := Lib.hid (show R = (mkA T O, 0) by rw [HD1.out, if_neg (by simp [h1])])
      have HL7 := Lib.hid (show O.length ≤ 7 by have := HOK.out.le; have h2 := (ord_right h1).1; omega)
      have HIN := Lib.hid (ord_right h1).2.2
      have H1 := Lib.hid h1
      clear h1 HD1
      go_wp2_with (first
        | (go_at_call 127; refine HCC.out.mono ?_; rintro e w1 ⟨rfl, rfl⟩; rw [H0.out])
        | (go_at_call 107; refine HEO.out.mono ?_; rintro e w2 ⟨rfl, hb2⟩; rw [H1.out]; have HB2 := Lib.hid hb2; clear hb2)
        | (go_at_call 128; refine (HMO.out _ HB2.out HOK.out HL7.out HIN.out).mono ?_; rintro e w3 ⟨rfl, rfl⟩))
      go_ret2
      exact ⟨two_to HR.out, HB2.out⟩
    · have HR := Lib.hid (show R = (0, ordErr T.length O) by rw [HD1.out, if_pos h1])
      have h1' : (ordErr T.length O != 0) = true := by simpa using h1
      obtain ⟨oe, hoe⟩ : ∃ oe, oe = ordErr T.length O := ⟨_, rfl⟩
      rw [← hoe] at HEO HR h1'
      clear h1 HD1 hoe
      go_wp2_with (first
        | (go_at_call 127; refine HCC.out.mono ?_; rintro e w1 ⟨rfl, rfl⟩; rw [H0.out])
        | (go_at_call 107; refine HEO.out.mono ?_; rintro e w2 ⟨rfl, hb2⟩))
      go_ret2
      exact ⟨two_to HR.out, hb2⟩
  · have HR := Lib.hid (show R = (0, tblErr T) by rw [HDEF.out, if_pos h0])
    have h0' : (tblErr T != 0) = true := by simpa using h0
    obtain ⟨ce, hce⟩ : ∃ ce, ce = tblErr T := ⟨_, rfl⟩
    rw [← hce] at HCC HR h0'
    clear h0 HDEF hce
    go_wp2_with (go_at_call 127; refine HCC.out.mono ?_; rintro e w1 ⟨rfl, rfl⟩)
    go_ret2
    exact ⟨two_to HR.out, Below.refl _ _⟩
/-- What LeastMakeReady returns. -/
def lmF (T : List PR) (c : Nat) : List Int × Int × Int := lstF (fun O => (mkA T O, 0)) (ordsL T.length c)
def LmPost (T : List PR) (c : Nat) (w : World) (e : Ending) (w' : World) : Prop :=
  ∃ (a : Option Addr) (n q : Nat), ((tblErr T ≠ 0 ∧ n = 0 ∧ e = .returned (.tuple #[.slice a n q, .int .i64 0, .int .i64 (tblErr T)])) ∨
  (tblErr T = 0 ∧ n = (lmF T c).1.length ∧ e = .returned (.tuple #[.slice a n q, .int .i64 (lmF T c).2.1, .int .i64 (lmF T c).2.2]) ∧ RowsAt 1 intL w' a (lmF T c).1)) ∧ Below w.heap.size w w'
theorem results_tmp3 {fn : Func} {tmps : Array Value} {w : World} {P : Program} {i j k : Nat} (hf : fn.results = #[.tmp i, .tmp j, .tmp k]) : (results fn tmps).run P w = .ok (.tuple #[tmps.getD i undef, tmps.getD j undef, tmps.getD k undef]) w := by
  simp [results, hf, go_sem]
set_option maxRecDepth 100000 in
set_option maxHeartbeats 2000000 in
theorem leastMakeReady_any (T : List PR) (ta : Option Addr) (tn tc c : Nat) (w : World) (htn : tn = T.length) (hT : TabAt w ta T) (hTl : T.length ≤ 1000000) (hE : T.length ≤ 7 → OrdsEnd T.length c) :
    Calls Try.prog 72 #[.slice ta tn tc] w (LmPost T c w) := by
  subst htn
  have hb0 := (Below.refl w.heap.size w).alloc (Nat.le_refl _) (.cells #[.slice ta T.length tc] 76)
  have bx := BoxAt.new w #[.slice ta T.length tc] 76
  have HCC := Lib.hid (errorOfReadyTable_any T ta T.length tc _ rfl (hT.below hb0) (by unfold maxLen; omega))
  have HT := Lib.hid hT
  have HBX := Lib.hid bx; have HB0 := Lib.hid hb0; have HE := Lib.hid hE
  clear hT bx hb0 hE
  go_enter Try.func72, Try.ntmps72
  by_cases h0 : tblErr T = 0
  · have HOK := Lib.hid (tab_right h0)
    have H0 := Lib.hid h0
    clear h0
    go_wp2_with (go_at_call 127; refine HCC.out.mono ?_; rintro e w1 ⟨rfl, rfl⟩; rw [H0.out])
    refine (leastReady_any T.length c (fun O => (mkA T O, 0)) (.pointer (some ⟨w.heap.size, 0, none⟩)) _ (HE.out HOK.out.le) (by have := HOK.out.le; omega) (fun O v B W hB hO hlen hin => ready1_any T ta tc w.heap.size B O v W (HBX.out.below hB) (HT.out.below (HB0.out.trans (hB.mono HB0.out.size))) HOK.out hO (by have := HOK.out.le; omega) hin)).mono ?_
    rintro e w2 ⟨v, rfl, hO2, hb2⟩
    have HLM := Lib.hid (show lmF T c = lstF (fun O => (mkA T O, 0)) (ordsL T.length c) from rfl)
    obtain ⟨st, hst⟩ : ∃ st, st = lstF (fun O => (mkA T O, 0)) (ordsL T.length c) := ⟨_, rfl⟩
    rw [← hst] at hO2 HLM ⊢
    clear hst
    obtain ⟨F, le, er⟩ := st
    dsimp only at hO2 ⊢
    obtain ⟨va, vc, ev, hrv, -⟩ := hO2.rows int_l
    subst ev
    have HF := Lib.hid (show LmPost T c w (.returned (.tuple #[.slice va F.length vc, .int .i64 le, .int .i64 er])) w2 from ⟨va, F.length, vc, Or.inr ⟨H0.out, by rw [HLM.out], by rw [HLM.out], by rw [HLM.out]; exact hrv⟩, HB0.out.trans (hb2.mono HB0.out.size)⟩)
    clear hrv hO2 hb2
    go_wp2
    (try simp only [Exit.inBlock, Exit.then]); refine bodyPost_ret (results_tmp3 rfl) rfl ?_
    exact HF.out
  · have HJ := Lib.hid h0
    have h0' : (tblErr T != 0) = true := by simpa using h0
    have HF := Lib.hid (show LmPost T c w (.returned (.tuple #[.slice none 0 0, .int .i64 0, .int .i64 (tblErr T)])) (w.alloc (.cells #[.slice ta T.length tc] 76)) from ⟨none, 0, 0, Or.inl ⟨h0, rfl, rfl⟩, HB0.out⟩)
    obtain ⟨ce, hce⟩ : ∃ ce, ce = tblErr T := ⟨_, rfl⟩
    rw [← hce] at HCC HF h0'
    clear h0 hce
    go_wp2_with (go_at_call 127; refine HCC.out.mono ?_; rintro e w1 ⟨rfl, rfl⟩)
    (try simp only [Exit.inBlock, Exit.then]); refine bodyPost_ret (results_tmp3 rfl) rfl ?_
    exact HF.out
end Go.Proofs.Ytpplcbpnojggcaa

namespace Go.Proofs.Ytpplcbpnojggcaa
open Go.RowKit Go.Maps Go.Shelf

def RbPost (st : List Int × Int × Bool) (w : World) (e : Ending) (w' : World) : Prop := ∃ (a : Option Addr) (n q : Nat), n = st.1.length ∧ e = .returned (.tuple #[.slice a n q, .int .i64 st.2.1, .bool st.2.2]) ∧ RowsAt 1 intL w' a st.1 ∧ Below w.heap.size w w'
set_option maxRecDepth 100000 in
set_option maxHeartbeats 4000000 in
theorem refBestOrder_any (x : Cols) (w : World) (hx : ColsAt w x) (hok : ColsOk x) (h5 : x.m.length ≤ 5) :
    Calls Try.prog 53 #[x.v] w (RbPost (rbF (minsE x) (refOrds x.m.length x.m.length [])) w) := by
  have HX := Lib.hid hx; have HOK := Lib.hid hok
  have HOR := Lib.hid (fun W => refOrders_any x.m.length h5 x.m.length [] none 0 0 W rfl (by simp) (RowsAt.nil _ _) (fun _ => rfl))
  have HIT := Lib.hid (refOrds_item (n := x.m.length) x.m.length [])
  have HNDP := Lib.hid (refOrds_nd (n := x.m.length) x.m.length [] List.nodup_nil)
  have HLN := Lib.hid (show (refOrds x.m.length x.m.length []).length ≤ 100000 from Nat.le_trans (refOrds_len _ _) (Nat.le_trans (Nat.pow_le_pow_left h5 _) (Nat.le_trans (Nat.pow_le_pow_right (by decide) h5) (by decide))))
  obtain ⟨L, hL⟩ : ∃ L, L = refOrds x.m.length x.m.length [] := ⟨_, rfl⟩
  rw [← hL] at HOR HIT HLN HNDP ⊢
  have HRM := Lib.hid (fun O a n c W hn h1 h2 h3 h4 h5 => refOrderMinutes_any x O a n c W hn h1 hok h2 h3 h4 h5)
  obtain ⟨tk, htk⟩ : ∃ tk, tk = minsE x := ⟨_, rfl⟩
  rw [← htk] at HRM ⊢
  have HM6 := Lib.hid h5
  have bx := BoxAt.new w #[.slice x.ma x.m.length x.mc, .slice x.da x.T.length x.dc] 78
  have hb0 := (Below.refl w.heap.size w).alloc (Nat.le_refl _) (.cells #[.slice x.ma x.m.length x.mc, .slice x.da x.T.length x.dc] 78)
  clear hx hok hL htk
  show Calls _ _ #[.agg #[.slice x.ma x.m.length x.mc, .slice x.da x.T.length x.dc]] _ _
  have HRM : Hid (∀ O a n c W, n = O.length → ColsAt W x → RowsAt 1 intL W a O → O.length ≤ 6 → (∀ y ∈ O, 0 ≤ y ∧ y < x.m.length) → O.Nodup → Calls Try.prog 51 #[.agg #[.slice x.ma x.m.length x.mc, .slice x.da x.T.length x.dc], .slice a n c] W (RMPost (tk O) W)) := HRM
  have HBX := Lib.hid bx; have HB0 := Lib.hid hb0
  have b0 : (w.alloc (.cells #[.slice x.ma x.m.length x.mc, .slice x.da x.T.length x.dc] 78)).cell? ⟨w.heap.size, 0, none⟩ = some (.slice x.ma x.m.length x.mc) := bx.cell 0
  clear bx hb0
  go_enter Try.func53, Try.ntmps53
  go_wp2_with (first | (go_at_call 116; refine (HOR.out _).mono ?_; rintro e w2 ⟨v2, TT, rfl, hG2, hR2, hm2, hb2⟩; obtain ⟨a2, c2, e2, hr2, -⟩ := hG2.rows prV_l; subst e2))
  have HTT := Lib.hid (show TabAt w2 a2 TT from ⟨hr2, fun x hx => by
    obtain ⟨a3, c3, e3, hr3, -⟩ := (hR2 x hx).rows int_l
    injection e3 with e4
    rw [e4]; exact hr3⟩)
  have HM2 := Lib.hid hm2; have HBX2 := Lib.hid (HBX.out.below hb2); have HB2 := Lib.hid (HB0.out.trans (hb2.mono HB0.out.size))
  have HTL := Lib.hid (show TT.length = L.length by have h := congrArg List.length hm2; simpa using h)
  have htl : TT.length ≤ 100000 := by have h1 := HTL.out; have h2 := HLN.out; omega
  clear hG2 hR2 hm2 hb2 hr2 b0
  go_loopw [5, 6, 7, 9] (fun v s f i wr => ∃ (k : Nat) (ba : Option Addr) (bn bc : Nat), k ≤ TT.length ∧ i = .int .i64 k ∧ v = .slice ba bn bc ∧ s = .int .i64 (rbF tk (L.take k)).2.1 ∧ f = .bool (rbF tk (L.take k)).2.2 ∧ Hid (bn = (rbF tk (L.take k)).1.length) ∧ Hid (RowsAt 1 intL wr ba (rbF tk (L.take k)).1) ∧ Below w2.heap.size w2 wr) (fun _ _ _ i _ => TT.length - (intOf i).toNat)
  case atStart => exact ⟨0, none, 0, 0, Nat.zero_le _, rfl, rfl, rfl, rfl, Lib.hid rfl, Lib.hid (RowsAt.nil _ _), Below.refl _ _⟩
  case round =>
    obtain ⟨k, ba, bn, bc, hk, rfl, rfl, rfl, rfl, HBN, HBR, hB⟩ := hrel
    by_cases hlt : k < TT.length
    · have hltL : k < L.length := by have := HTL.out; omega
      obtain ⟨ad, ra, rl, rc, rfl, had, s0, hrow, hrr⟩ := (HTT.out.below hB).pick hlt
      have HLK := Lib.hid (show L[k] = rl by
        have h := HM2.out
        have h1 : (TT.map (·.l))[k]? = some rl := by rw [List.getElem?_map, List.getElem?_eq_getElem hlt, hrr]; rfl
        rw [h, List.getElem?_eq_getElem hltL] at h1
        exact Option.some.inj h1)
      obtain ⟨hi1, hi2⟩ := HIT.out _ (List.getElem_mem hltL)
      rw [HLK.out] at hi1 hi2
      have HIN := Lib.hid (show ∀ y ∈ rl, 0 ≤ y ∧ y < x.m.length from fun y hy => (hi2 y hy).resolve_left (by simp))
      have HND := Lib.hid (show rl.Nodup by rw [← HLK.out]; exact HNDP.out _ (List.getElem_mem hltL))
      have HST := Lib.hid (show rbF tk (L.take (k + 1)) = rbP tk (rbF tk (L.take k)) rl by rw [List.take_succ_eq_append_getElem hltL, rbF_snoc, HLK.out])
      have HXW := Lib.hid (HX.out.below (HB2.out.trans (hB.mono HB2.out.size)))
      have HROW := Lib.hid hrow
      have HB := Lib.hid hB
      have hkl : (k : Int) < (TT.length : Int) := by omega
      have hrl : rl.length ≤ 6 := by have := HM6.out; simp at hi1; omega
      have k0 : wr.cell? ⟨w.heap.size, 0, none⟩ = some (.slice x.ma x.m.length x.mc) := (HBX2.out.below hB).cell 0
      have k1 : wr.cell? ⟨w.heap.size, 1, none⟩ = some (.slice x.da x.T.length x.dc) := (HBX2.out.below hB).cell 1
      obtain ⟨st, hst⟩ : ∃ st, st = rbF tk (L.take k) := ⟨_, rfl⟩
      rw [← hst] at HBN HBR HST ⊢
      obtain ⟨bo, ls, fo⟩ := st
      dsimp only at HBN HBR ⊢
      have HRP := Lib.hid (show rbP tk (bo, ls, fo) rl = if (tk rl).2 = 0 ∧ (fo = false ∨ (tk rl).1 < ls) then (rl, (tk rl).1, true) else (bo, ls, fo) from rfl)
      have HMK := Lib.hid (fun W h1 h2 => HRM.out rl ra rl.length rc W rfl h1 h2 hrl HIN.out HND.out)
      obtain ⟨q, hq⟩ : ∃ q, q = tk rl := ⟨_, rfl⟩
      rw [← hq] at HRP HMK
      obtain ⟨q1, q2⟩ := q
      dsimp only at HRP
      have HMK : Hid (∀ W, ColsAt W x → RowsAt 1 intL W ra rl → Calls Try.prog 51 #[.agg #[.slice x.ma x.m.length x.mc, .slice x.da x.T.length x.dc], .slice ra rl.length rc] W (fun e W' => e = .returned (.tuple #[.int .i64 q1, .bool (q2 == 0)]) ∧ Below W.heap.size W W')) := HMK
      have S0 := Lib.hid s0; have HBK := Lib.hid (HBX2.out.below hB)
      clear hB hrow hrr hst hi1 hi2 hq
      by_cases c0 : q2 = 0
      · subst c0
        by_cases c1 : fo = false
        · subst c1
          have HS := Lib.hid (show rbF tk (L.take (k + 1)) = (rl, q1, true) by rw [HST.out, HRP.out, if_pos ⟨rfl, Or.inl rfl⟩])
          go_wp2_with fail
          have HXD : Hid (ColsAt wr.drew x) := Lib.hid (HXW.out.below (Below.refl _ wr).drew)
          go_region_held3 (fun w' => w'.cell? (ad.add k) = some (.slice ra rl.length rc) ∧ w'.cell? ⟨w.heap.size, 0, none⟩ = some (.slice x.ma x.m.length x.mc) ∧ w'.cell? ⟨w.heap.size, 1, none⟩ = some (.slice x.da x.T.length x.dc)) (first | exact ⟨s0, k0, k1⟩ | go_keep)
            (first | (go_at_call 51; refine (HMK.out _ HXD.out HROW.out.drew).mono ?_; rintro e w3 ⟨rfl, hb3⟩; have HB3 := Lib.hid (HB.out.drew.trans (hb3.mono (show w2.heap.size ≤ wr.drew.heap.size from HB.out.size))); have HBW : Hid (Below wr.heap.size wr w3) := Lib.hid ((Below.refl _ wr).drew.trans hb3); have s0 : w3.cell? (ad.add k) = some (.slice ra rl.length rc) := (HBW.out.cell (p := ad.add k) (by rw [add_block]; exact had)).trans S0.out; have k0 : w3.cell? ⟨w.heap.size, 0, none⟩ = some (.slice x.ma x.m.length x.mc) := (HBK.out.below HBW.out).cell 0; have k1 : w3.cell? ⟨w.heap.size, 1, none⟩ = some (.slice x.da x.T.length x.dc) := (HBK.out.below HBW.out).cell 1; clear hb3))
          have s0 : w3.cell? (ad.add k) = some (.slice ra rl.length rc) := (HBW.out.cell (p := ad.add k) (by rw [add_block]; exact had)).trans S0.out
          go_wp2
          go_roundw
          case rel => exact ⟨k + 1, ra, rl.length, rc, by omega, by go_num, rfl, by rw [HS.out], by rw [HS.out], Lib.hid (by rw [HS.out]), Lib.hid (by rw [HS.out]; exact HROW.out.below HBW.out), HB3.out⟩
          case measure => simp [intOf]; omega
        · obtain rfl : fo = true := by simpa using c1
          by_cases c2 : q1 < ls
          · have HS := Lib.hid (show rbF tk (L.take (k + 1)) = (rl, q1, true) by rw [HST.out, HRP.out, if_pos ⟨rfl, Or.inr c2⟩])
            have c2' := decide_eq_true c2
            go_wp2_with fail
            have HXD : Hid (ColsAt wr.drew x) := Lib.hid (HXW.out.below (Below.refl _ wr).drew)
            go_region_held3 (fun w' => w'.cell? (ad.add k) = some (.slice ra rl.length rc) ∧ w'.cell? ⟨w.heap.size, 0, none⟩ = some (.slice x.ma x.m.length x.mc) ∧ w'.cell? ⟨w.heap.size, 1, none⟩ = some (.slice x.da x.T.length x.dc)) (first | exact ⟨s0, k0, k1⟩ | go_keep)
              (first | (go_at_call 51; refine (HMK.out _ HXD.out HROW.out.drew).mono ?_; rintro e w3 ⟨rfl, hb3⟩; have HB3 := Lib.hid (HB.out.drew.trans (hb3.mono (show w2.heap.size ≤ wr.drew.heap.size from HB.out.size))); have HBW : Hid (Below wr.heap.size wr w3) := Lib.hid ((Below.refl _ wr).drew.trans hb3); have s0 : w3.cell? (ad.add k) = some (.slice ra rl.length rc) := (HBW.out.cell (p := ad.add k) (by rw [add_block]; exact had)).trans S0.out; have k0 : w3.cell? ⟨w.heap.size, 0, none⟩ = some (.slice x.ma x.m.length x.mc) := (HBK.out.below HBW.out).cell 0; have k1 : w3.cell? ⟨w.heap.size, 1, none⟩ = some (.slice x.da x.T.length x.dc) := (HBK.out.below HBW.out).cell 1; clear hb3))
            have s0 : w3.cell? (ad.add k) = some (.slice ra rl.length rc) := (HBW.out.cell (p := ad.add k) (by rw [add_block]; exact had)).trans S0.out
            go_wp2
            go_roundw
            case rel => exact ⟨k + 1, ra, rl.length, rc, by omega, by go_num, rfl, by rw [HS.out], by rw [HS.out], Lib.hid (by rw [HS.out]), Lib.hid (by rw [HS.out]; exact HROW.out.below HBW.out), HB3.out⟩
            case measure => simp [intOf]; omega
          · have HS := Lib.hid (show rbF tk (L.take (k + 1)) = (bo, ls, true) by rw [HST.out, HRP.out, if_neg (by rintro ⟨-, h | h⟩; cases h; exact c2 h)])
            have c2' := decide_eq_false c2
            go_wp2_with fail
            have HXD : Hid (ColsAt wr.drew x) := Lib.hid (HXW.out.below (Below.refl _ wr).drew)
            go_region_held3 (fun w' => w'.cell? (ad.add k) = some (.slice ra rl.length rc) ∧ w'.cell? ⟨w.heap.size, 0, none⟩ = some (.slice x.ma x.m.length x.mc) ∧ w'.cell? ⟨w.heap.size, 1, none⟩ = some (.slice x.da x.T.length x.dc)) (first | exact ⟨s0, k0, k1⟩ | go_keep)
              (first | (go_at_call 51; refine (HMK.out _ HXD.out HROW.out.drew).mono ?_; rintro e w3 ⟨rfl, hb3⟩; have HB3 := Lib.hid (HB.out.drew.trans (hb3.mono (show w2.heap.size ≤ wr.drew.heap.size from HB.out.size))); have HBW : Hid (Below wr.heap.size wr w3) := Lib.hid ((Below.refl _ wr).drew.trans hb3); have s0 : w3.cell? (ad.add k) = some (.slice ra rl.length rc) := (HBW.out.cell (p := ad.add k) (by rw [add_block]; exact had)).trans S0.out; have k0 : w3.cell? ⟨w.heap.size, 0, none⟩ = some (.slice x.ma x.m.length x.mc) := (HBK.out.below HBW.out).cell 0; have k1 : w3.cell? ⟨w.heap.size, 1, none⟩ = some (.slice x.da x.T.length x.dc) := (HBK.out.below HBW.out).cell 1; clear hb3))
            go_wp2
            go_roundw
            case rel => exact ⟨k + 1, ba, bn, bc, by omega, by go_num, rfl, by rw [HS.out], by rw [HS.out], Lib.hid (by rw [HS.out]; exact HBN.out), Lib.hid (by rw [HS.out]; exact HBR.out.below HBW.out), HB3.out⟩
            case measure => simp [intOf]; omega
      · have HS := Lib.hid (show rbF tk (L.take (k + 1)) = (bo, ls, fo) by rw [HST.out, HRP.out, if_neg (fun h => c0 h.1)])
        have c0' : (q2 == 0) = false := by simpa using c0
        have HRM0 : Hid (∀ W, ColsAt W x → RowsAt 1 intL W ra rl → Calls Try.prog 51 #[.agg #[.slice x.ma x.m.length x.mc, .slice x.da x.T.length x.dc], .slice ra rl.length rc] W (fun e W' => e = .returned (.tuple #[.int .i64 q1, .bool false]) ∧ Below W.heap.size W W')) := Lib.hid (fun W h1 h2 => by have h9 := HMK.out W h1 h2; rw [c0'] at h9; exact h9)
        clear c0 c0' HMK
        have HMK := HRM0
        clear HRM0
        go_wp2_with fail
        have HXD : Hid (ColsAt wr.drew x) := Lib.hid (HXW.out.below (Below.refl _ wr).drew)
        go_region_held3 (fun w' => w'.cell? (ad.add k) = some (.slice ra rl.length rc) ∧ w'.cell? ⟨w.heap.size, 0, none⟩ = some (.slice x.ma x.m.length x.mc) ∧ w'.cell? ⟨w.heap.size, 1, none⟩ = some (.slice x.da x.T.length x.dc)) (first | exact ⟨s0, k0, k1⟩ | go_keep)
          (first | (go_at_call 51; refine (HMK.out _ HXD.out HROW.out.drew).mono ?_; rintro e w3 ⟨rfl, hb3⟩; have HB3 := Lib.hid (HB.out.drew.trans (hb3.mono (show w2.heap.size ≤ wr.drew.heap.size from HB.out.size))); have HBW : Hid (Below wr.heap.size wr w3) := Lib.hid ((Below.refl _ wr).drew.trans hb3); have s0 : w3.cell? (ad.add k) = some (.slice ra rl.length rc) := (HBW.out.cell (p := ad.add k) (by rw [add_block]; exact had)).trans S0.out; have k0 : w3.cell? ⟨w.heap.size, 0, none⟩ = some (.slice x.ma x.m.length x.mc) := (HBK.out.below HBW.out).cell 0; have k1 : w3.cell? ⟨w.heap.size, 1, none⟩ = some (.slice x.da x.T.length x.dc) := (HBK.out.below HBW.out).cell 1; clear hb3))
        go_wp2
        go_roundw
        case rel => exact ⟨k + 1, ba, bn, bc, by omega, by go_num, rfl, by rw [HS.out], by rw [HS.out], Lib.hid (by rw [HS.out]; exact HBN.out), Lib.hid (by rw [HS.out]; exact HBR.out.below HBW.out), HB3.out⟩
        case measure => simp [intOf]; omega
    · have HTK := Lib.hid (show L.take k = L by rw [List.take_of_length_le (by have := HTL.out; omega)])
      have HB := Lib.hid (HB2.out.trans (hB.mono HB2.out.size))
      rw [HTK.out] at HBN HBR ⊢
      clear hB
      go_wp2
      (try simp only [Exit.inBlock, Exit.then]); refine bodyPost_ret (results_tmp3 rfl) rfl ?_
      exact ⟨ba, bn, bc, HBN.out, rfl, HBR.out, HB.out⟩
end Go.Proofs.Ytpplcbpnojggcaa

namespace Go.Proofs.Ytpplcbpnojggcaa
open Go.RowKit Go.Maps Go.Shelf

theorem ndV_l : ∀ x : Nd, (ndV x).length = 2 := fun _ => rfl
theorem ndV_one : ∀ x : Nd, ∀ u ∈ ndV x, u.oneCell' = true := fun x u hu => by
  rcases List.mem_cons.1 hu with rfl | hu
  · rfl
  · rw [List.mem_singleton.1 hu]; rfl
theorem tNd : ElG 2 32 89 170 (.agg #[.int .i64 0, .slice none 0 0]) := ⟨Try.underlying89, by kernel_rfl, rfl, by decide, by decide⟩
theorem own_made2 (w : World) (B : Nat) (x : Nd) (hB : B ≤ w.heap.size) : OwnG 2 170 ndV (w.alloc (.cells #[.int .i64 x.kind, .slice x.a x.nx.length x.c] 170)) B (.slice (some ⟨w.heap.size, 0, none⟩) 1 1) [x] :=
  ⟨by simp [ndV], .inr ⟨w.heap.size, 1, #[.int .i64 x.kind, .slice x.a x.nx.length x.c], rfl, hB, heap_alloc_new w _, Nat.le_refl _, by unfold maxLen; decide, rfl, rfl⟩⟩
theorem rows_made2 (w : World) (x : Nd) : RowsG 2 ndV (w.alloc (.cells #[.int .i64 x.kind, .slice x.a x.nx.length x.c] 170)) (some ⟨w.heap.size, 0, none⟩) [x] := by
  obtain ⟨a, c, e, h, -⟩ := (own_made2 w w.heap.size x (Nat.le_refl _)).rows ndV_l
  injection e with e1
  rw [e1]; exact h
/-- The branches of nodes, each a row of the call's own. -/
def OwnNx (w : World) (B : Nat) (T : List Nd) : Prop := ∀ x ∈ T, OwnR 1 3 intL w B (.slice x.a x.nx.length x.c) x.nx
theorem OwnNx.below {w w' : World} {B : Nat} {T : List Nd} (h : OwnNx w B T) (hb : Below w.heap.size w w') : OwnNx w' B T := fun x hx => (h x hx).below hb
theorem OwnNx.grown {w w' : World} {B B' n m : Nat} {v : Value} {T : List Nd} {xs : List Value} (h : OwnNx w B T) (ho : w.ownsRow B' 170 n v m xs) (hg : w.grownBy w' v.ownBlock) : OwnNx w' B T := fun x hx =>
  (h x hx).grown hg (fun q e e' => rows_apart (h x hx) ho (by decide) q e e'.symm)
def kn (x : Nd) : Int × List Int := (x.kind, x.nx)
theorem same_kn {T T' : List Nd} (h : T'.map kn = T.map kn) : SameN T T' := by
  have hl : T'.length = T.length := by have := congrArg List.length h; simpa using this
  have hk : ∀ i, kn (T'.getD i noNd) = kn (T.getD i noNd) := fun i => by
    have h1 := congrArg (fun L => L[i]?) h
    simp only [List.getElem?_map] at h1
    rw [List.getD_eq_getElem?_getD, List.getD_eq_getElem?_getD]
    rcases Nat.lt_or_ge i T.length with hi | hi
    · rw [List.getElem?_eq_getElem hi, List.getElem?_eq_getElem (by omega)] at h1 ⊢
      simpa using h1
    · rw [List.getElem?_eq_none hi, List.getElem?_eq_none (by omega)]
  exact ⟨hl, fun i => congrArg Prod.fst (hk i), fun i => congrArg Prod.snd (hk i)⟩
/-- A copy of a tree. -/
def CTPost (T : List Nd) (w : World) (e : Ending) (w' : World) : Prop := ∃ (a : Option Addr) (c : Nat) (T' : List Nd), e = .returned (.slice a T'.length c) ∧ SameN T T' ∧ NodesAt w' a T' ∧ Below w.heap.size w w'
set_option maxRecDepth 100000 in
set_option maxHeartbeats 4000000 in
theorem copyTree_any (T : List Nd) (ta : Option Addr) (tc : Nat) (w : World) (hT : NodesAt w ta T) (hl : T.length ≤ 3002) (hsz : ∀ x ∈ T, x.nx.length ≤ 1000000) (hd : ∀ x ∈ T, x.a = none → x.c = 0) :
    Calls Try.prog 56 #[.slice ta T.length tc] w (CTPost T w) := by
  have HSZ := Lib.hid hsz; have HD := Lib.hid hd; have HT := Lib.hid hT
  clear hsz hd hT
  go_enter Try.func56, Try.ntmps56
  go_wp2_with fail
  go_loopw [3, 4] (fun v i wr => ∃ (k : Nat) (T' : List Nd), k ≤ T.length ∧ i = .int .i64 k ∧ Hid (T'.map kn = (T.take k).map kn) ∧ Hid (T'.length = k) ∧ OwnG 2 170 ndV wr w.heap.size v T' ∧ OwnNx wr w.heap.size T' ∧ Below w.heap.size w wr) (fun _ i _ => T.length - (intOf i).toNat)
  case atStart => exact ⟨0, [], Nat.zero_le _, rfl, Lib.hid rfl, Lib.hid rfl, OwnG.nil _ _, fun x hx => (by cases hx), Below.refl _ _⟩
  case round =>
    obtain ⟨k, T', hk, rfl, HM, HTL, hown, hrows, hB⟩ := hrel
    by_cases hlt : k < T.length
    · obtain ⟨ad, rfl, hadw, -, -⟩ := HT.out.node hlt
      obtain ⟨ad2, e2, had, s0, s1⟩ := (HT.out.below hB).node hlt
      injection e2 with e2
      subst e2
      have HRW := Lib.hid ((HT.out.below hB).nxt _ (List.getElem_mem hlt))
      have hxl := HSZ.out _ (List.getElem_mem hlt)
      have HXD := Lib.hid (HD.out _ (List.getElem_mem hlt))
      have HTK := Lib.hid (show (T.take (k + 1)).map kn = (T.take k).map kn ++ [kn T[k]] by rw [List.take_succ_eq_append_getElem hlt, List.map_append]; rfl)
      obtain ⟨z, ez⟩ : ∃ z, z = T[k] := ⟨_, rfl⟩
      rw [← ez] at s0 s1 HRW hxl HXD HTK
      obtain ⟨kd, na, nx, nc⟩ := z
      dsimp only at s0 s1 HRW hxl HXD
      have hkl : (k : Int) < (T.length : Int) := by omega
      have HO := Lib.hid hown; have HRS := Lib.hid hrows; have HB := Lib.hid hB
      obtain ⟨va, vc, ev, -⟩ := hown.rows ndV_l
      subst ev
      have HCI := Lib.hid (fun W h => copyInts_any na nx nx.length nc W rfl h hxl HXD.out)
      have S0 := Lib.hid s0; have S1 := Lib.hid s1
      clear ez hown hrows hB
      go_wp2_with fail
      have j0 := s0; have j1 := s1
      go_region_held3 (fun w' => w'.cell? (ad.add (k * 2)) = some (.int .i64 kd) ∧ w'.cell? ⟨(ad.add (k * 2)).block, (ad.add (k * 2)).off + 1, none⟩ = some (.slice na nx.length nc)) (first | exact ⟨j0, j1⟩ | go_keep)
        (first
          | (go_at_call 47; refine (HCI.out _ (HRW.out.drew)).mono ?_; rintro e w2 ⟨v2, rfl, hO2, hb2⟩; obtain ⟨a2, c2, e2, -⟩ := hO2.rows int_l; subst e2; have HBD : Hid (Below wr.heap.size wr w2) := Lib.hid ((Below.refl _ wr).drew.trans hb2); have HO2 := Lib.hid (hO2.mono (B' := w.heap.size) HB.out.size); have j0 := (HBD.out.cell had).trans S0.out; have j1 := (HBD.out.cell (p := ⟨(ad.add (k * 2)).block, (ad.add (k * 2)).off + 1, none⟩) had).trans S1.out; clear hO2 hb2)
          | (refine step_appG tNd ndV_l ndV_one _ (by rfl) _ _ (by rfl) w.heap.size _ T' (by rfl) ((HO.out.below HBD.out).below ((Below.refl _ _).alloc (Nat.le_refl _) _)) _ [⟨kd, a2, nx, c2⟩] 1 1 rfl (by rfl) (rows_made2 w2 ⟨kd, a2, nx, c2⟩) (fun e => by cases e) (by have := HTL.out; omega) (by simp) (by have h1 := HBD.out.size; have h2 := HB.out.size; simp; omega) ?_; intro v3 w3 hO3 hg3 hb3 hor3; have j0 := (hb3.cell (p := ad.add (k * 2)) hadw).trans (cell_alloc_keep j0); have j1 := (hb3.cell (p := ⟨(ad.add (k * 2)).block, (ad.add (k * 2)).off + 1, none⟩) hadw).trans (cell_alloc_keep j1)))
      have HOA := (HO.out.below HBD.out).below ((Below.refl w2.heap.size w2).alloc (Nat.le_refl _) (.cells #[.int .i64 kd, .slice a2 nx.length c2] 170))
      have hrows3 : OwnNx w3 w.heap.size (T' ++ [⟨kd, a2, nx, c2⟩]) := fun y hy => by
        rcases List.mem_append.1 hy with h | h
        · exact (((HRS.out.below HBD.out).below ((Below.refl w2.heap.size w2).alloc (Nat.le_refl _) _)).grown HOA hg3) y h
        · rw [List.mem_singleton.1 h]
          exact (HO2.out.alloc _).grown hg3 (fun q e e' => rows_apart (HO2.out.alloc _) HOA (by decide) q e e'.symm)
      have HB3 := Lib.hid ((HB.out.trans (HBD.out.mono HB.out.size)).trans (((Below.refl w2.heap.size w2).alloc (Nat.le_refl _) (.cells #[.int .i64 kd, .slice a2 nx.length c2] 170)).mono (Nat.le_trans HB.out.size HBD.out.size) |>.trans hb3))
      have HR3 := Lib.hid hrows3; have HO3 := Lib.hid hO3
      obtain ⟨va3, vc3, ev3, -⟩ := hO3.rows ndV_l
      subst ev3
      clear hrows3 hO3 hg3 hb3 hor3 HOA
      go_wp2
      go_roundw
      case rel => exact ⟨k + 1, T' ++ [⟨kd, a2, nx, c2⟩], by omega, by go_num, Lib.hid (by rw [List.map_append, HM.out, HTK.out]; rfl), Lib.hid (by rw [List.length_append, HTL.out]; rfl), HO3.out, HR3.out, HB3.out⟩
      case measure => simp [intOf]; omega
    · have hk2 : k = T.length := by omega
      subst hk2
      obtain ⟨a2, c2, ev, hr2, hn2, hge2⟩ := hown.rows ndV_l
      subst ev
      have HMM := Lib.hid (same_kn (show T'.map kn = T.map kn by rw [HM.out, List.take_length]))
      have HTA : Hid (NodesAt wr a2 T') := Lib.hid ⟨hr2, fun x hx => by
        obtain ⟨a3, c3, e3, hr3, -⟩ := (hrows x hx).rows int_l
        injection e3 with e4
        rw [e4]; exact hr3⟩
      clear hge2 hrows hown hr2
      go_wp2
      go_ret
      exact ⟨a2, c2, T', rfl, HMM.out, HTA.out, hB⟩
end Go.Proofs.Ytpplcbpnojggcaa

namespace Go.Proofs.Ytpplcbpnojggcaa
open Go.RowKit

/-- A tree of orders under way whose nodes are not looked at. -/
structure TC (w0 W : World) (b : Nat) (x : Cols) (bnd : Int) (nv : Value) (O : List Int) (ov : Value) : Prop where
  box : BoxAt W b #[.slice x.ma x.m.length x.mc, .slice x.da x.T.length x.dc, .int .i64 bnd, nv, ov] 164
  own : OwnR 1 3 intL W w0.heap.size ov O
  low : Below w0.heap.size w0 W
  ge : w0.heap.size ≤ b
theorem TC.keep {w0 W W' : World} {b : Nat} {x : Cols} {bnd : Int} {nv : Value} {O : List Int} {ov : Value} (h : TC w0 W b x bnd nv O ov) (hk : ∀ (q : Nat) (o : Obj), W.heap[q]? = some o → o.isCells = true → W'.heap[q]? = some o) (hl : Below w0.heap.size w0 W') : TC w0 W' b x bnd nv O ov :=
  ⟨hk _ _ h.box rfl, h.own.same (fun q e => by obtain ⟨cs, hc⟩ := own_block h.own q e; rw [hc]; exact hk _ _ hc rfl), hl, h.ge⟩
theorem TC.below {w0 W W' : World} {b : Nat} {x : Cols} {bnd : Int} {nv : Value} {O : List Int} {ov : Value} (h : TC w0 W b x bnd nv O ov) (hb : Below W.heap.size W W') : TC w0 W' b x bnd nv O ov :=
  h.keep (fun q _ e _ => (hb.block q (heap_lt e)).trans e) (h.low.trans (hb.mono h.low.size))
def tcPost (B : Nat) (R R' : World → Prop) (W : World) : Exit → Act → World → Prop
  | .normal, _, W' => KeepsFrom B W W' ∧ R W'
  | .ret, _, W' => KeepsFrom B W W' ∧ R' W'
  | _, _, _ => False
variable {F : Fence} {n : Nat} {P : Program}
def SeqTc (F : Fence) (n : Nat) (P : Program) (g : Nat) (lb : Array Value) (w0 : World) (b pb : Nat) (x : Cols) (bnd : Int) (nv : Value) (O L : List Int) (w : World) : Prop :=
  ∀ (l : Nat) (J : Nat → Nat × Value → World → Prop) (D : Nat → World → Prop) (W : World) (ov0 : Value), Below w.heap.size w W → TC w0 W b x bnd nv O ov0 →
    (∀ K k ov ov' X Y, J K (k, ov) X → (∃ O' O'', TC w0 X b x bnd nv O' ov ∧ TC w0 Y b x bnd nv O'' ov') → TreeTurn b ov ov' X Y → J K (k, ov') Y) →
    (∀ K ov ov' X Y, D K X → (∃ O' O'', TC w0 X b x bnd nv O' ov ∧ TC w0 Y b x bnd nv O'' ov') → TreeTurn b ov ov' X Y → D K Y) →
    (∀ K k W1 ov, W.heap.size ≤ K → K ≤ W1.heap.size → J K (k, ov) W1 → k < L.length → TC w0 W1 b x bnd nv (O ++ [L.getD k 0]) ov → OutOf W.heap.size K ov → YieldAt F (n - 1) P l #[.int .i64 k] W1 fun e W' =>
      (∃ go : Bool, e = .returned (.bool go) ∧ ∃ ov', ((go = true ∧ J K (k + 1, ov') W') ∨ (go = false ∧ D K W')) ∧ TC w0 W' b x bnd nv (O ++ [L.getD k 0]) ov' ∧ OutOf W.heap.size K ov') ∧ (∀ q, (q = pb ∨ (W.heap.size ≤ q ∧ q < K)) → W'.heap[q]? = W1.heap[q]?) ∧ KeepsFrom W.heap.size W1 W') →
    (∀ X, Below W.heap.size W X → J X.heap.size (0, ov0) X) →
    CallsIn F n P g (#[.func (.yield l) #[] #[]] ++ lb) W fun e W' => (∃ v, e = .returned v) ∧ ∃ K ov, (J K (L.length, ov) W' ∨ D K W') ∧ TC w0 W' b x bnd nv O ov

theorem wpIn_rangeFunc_tc {g : Operand} {ps : Array Tmp} {assign body : Code} {Q : Exit → Act → World → Prop} {a : Act} {w : World}
    (hro : F.round = none) (h1 : 1 ≤ n) {gf : Nat} {lb : Array Value} (hg : a.eval g = .func (.func gf) #[] lb) (hFg : F.fn gf) (eg : ∀ args w, (callFunc gf args).run P w = .ok (.enter gf args) w)
    {w0 : World} {b pb : Nat} {x : Cols} {bnd : Int} {nv : Value} {O L : List Int} (hseq : SeqTc F (n - 1) P gf lb w0 b pb x bnd nv O L w) (hpb : pb < w.heap.size)
    (hps : ps.size = 1)
    (I : Nat → Nat × Value → World → Prop) (hI : ∀ K, OwnFrom w.heap.size (I K)) (E : Nat → World → Prop) (hE : ∀ K, OwnFrom w.heap.size (fun (_ : Unit) => E K))
    (hIm : ∀ K k ov ov' X Y, I K (k, ov) X → (∃ O' O'', TC w0 X b x bnd nv O' ov ∧ TC w0 Y b x bnd nv O'' ov') → TreeTurn b ov ov' X Y → I K (k, ov') Y)
    (hEm : ∀ K ov ov' X Y, E K X → (∃ O' O'', TC w0 X b x bnd nv O' ov ∧ TC w0 Y b x bnd nv O'' ov') → TreeTurn b ov ov' X Y → E K Y)
    {ov0 : Value} (ht0 : TC w0 w b x bnd nv O ov0)
    (h0 : ∀ X, Below w.heap.size w X → I X.heap.size (0, ov0) X) (a₁ : Nat → Act)
    (hassign : ∀ (l : Nat) (k : Nat) (W : World) (K : Act → World → Prop), K (a₁ k) W →
      assign.wpIn (F.inRound l) (n - 1 - 1) P (Exit.then K (fun _ _ _ => False)) { tmps := (ps.zip #[.int .i64 k]).foldl (fun t (p, v) => t.setIfInBounds p v) a.tmps, defers := [] } W)
    (hbody : ∀ (l K k : Nat) (W : World) (ov : Value), w.heap.size + 2 ≤ K → K ≤ W.heap.size → I K (k, ov) W → k < L.length → TC w0 W b x bnd nv (O ++ [L.getD k 0]) ov → OutOf (w.heap.size + 2) K ov →
      body.wpIn (F.inRound l) (n - 1 - 1) P (tcPost w.heap.size (fun W' => (∃ ov', I K (k + 1, ov') W' ∧ TC w0 W' b x bnd nv (O ++ [L.getD k 0]) ov' ∧ OutOf (w.heap.size + 2) K ov') ∧ ∀ q, (q = pb ∨ (w.heap.size + 2 ≤ q ∧ q < K)) → W'.heap[q]? = W.heap[q]?) (fun W' => (∃ ov', E K W' ∧ TC w0 W' b x bnd nv (O ++ [L.getD k 0]) ov' ∧ OutOf (w.heap.size + 2) K ov') ∧ ∀ q, (q = pb ∨ (w.heap.size + 2 ≤ q ∧ q < K)) → W'.heap[q]? = W.heap[q]?) W) (a₁ k) W)
    (hdone : ∀ (D K : Nat) (W : World) (ov : Value), w.heap.size ≤ D → TC w0 W b x bnd nv O ov → I K (L.length, ov) W → W.heap[D]? = some (.deferred (some [])) → Q .normal { a with defers := { target := .collected D, args := #[] } :: a.defers } W)
    (hret : ∀ (D K : Nat) (W : World) (ov : Value), w.heap.size ≤ D → TC w0 W b x bnd nv O ov → E K W → W.heap[D]? = some (.deferred (some [])) → Code.ret.wpIn F n P Q { a with defers := { target := .collected D, args := #[] } :: a.defers } W) :
    (Code.rangeFunc g ps assign body).wpIn F n P Q a w := by
  refine wpIn_rangeFunc fun fn hfn => ?_
  rw [hro]
  let lp : LoopState → Option Code → Loop := fun st pe => { state := st, pending := pe, fn, tmps := a.tmps, params := ps, assign, body, defers := w.heap.size }
  have hlp : ∀ st pe, lp st pe = { state := st, pending := pe, fn, tmps := a.tmps, params := ps, assign, body, defers := w.heap.size } := fun _ _ => rfl
  obtain ⟨B, hB⟩ : ∃ B, B = w.heap.size := ⟨_, rfl⟩
  obtain ⟨V, hV⟩ : ∃ V, V = (w.alloc (.deferred (some []))).alloc (.loop (lp .ready none)) := ⟨_, rfl⟩
  have vsz : V.heap.size = B + 2 := by rw [hV, hB]; simp
  have vloop : V.heap[B + 1]? = some (.loop (lp .ready none)) := by
    have h := World.alloc_heap_new (w.alloc (.deferred (some []))) (.loop (lp .ready none))
    rw [World.size_alloc, ← hV, ← hB] at h; exact h
  have vdef : V.heap[B]? = some (.deferred (some [])) := by
    rw [hV, hB]; exact (Below.heap_alloc _ _ _ (by simp)).trans (World.alloc_heap_new w _)
  have vb : Below w.heap.size w V := by rw [hV]; exact ((Below.refl _ w).alloc (Nat.le_refl _) _).alloc (by simp) _
  have vI : ∀ X, Below V.heap.size V X → I X.heap.size (0, ov0) X := fun X hX => h0 X (vb.trans (hX.mono vb.size))
  have hw0 := ht0.low.size
  have hbl := ht0.box.lt
  rw [← hB] at hI hE hbody hdone hret hw0 hbl hpb
  let J : Nat → Nat × Value → World → Prop := fun K s W => I K s W ∧ W.heap[B + 1]? = some (.loop (lp .ready none)) ∧ W.heap[B]? = some (.deferred (some []))
  let D : Nat → World → Prop := fun K W => E K W ∧ W.heap[B + 1]? = some (.loop (lp .done (some .ret))) ∧ W.heap[B]? = some (.deferred (some []))
  have hkeep : ∀ ov ov' X Y, (∃ O' O'', TC w0 X b x bnd nv O' ov ∧ TC w0 Y b x bnd nv O'' ov') → TreeTurn b ov ov' X Y → ∀ (q : Nat) (o : Obj), X.heap[q]? = some o → o.isCells = false → Y.heap[q]? = some o := fun ov ov' X Y ht hy q o h hc => (hy.block q (heap_lt h) (fun e => by
      obtain ⟨O', _, ht, -⟩ := ht
      have h2 := ht.box
      unfold BoxAt at h2
      rw [← e, h] at h2; cases h2; cases hc) (fun e => by
      obtain ⟨O', _, ht, -⟩ := ht
      obtain ⟨cs, hcs⟩ := own_block ht.own q e
      rw [h] at hcs; cases hcs; cases hc)).trans h
  have hJm : ∀ K k ov ov' X Y, J K (k, ov) X → (∃ O' O'', TC w0 X b x bnd nv O' ov ∧ TC w0 Y b x bnd nv O'' ov') → TreeTurn b ov ov' X Y → J K (k, ov') Y := fun K k ov ov' X Y hs ht hy =>
    ⟨hIm K k ov ov' X Y hs.1 ht hy, hkeep _ _ _ _ ht hy _ _ hs.2.1 rfl, hkeep _ _ _ _ ht hy _ _ hs.2.2 rfl⟩
  have hDm : ∀ K ov ov' X Y, D K X → (∃ O' O'', TC w0 X b x bnd nv O' ov ∧ TC w0 Y b x bnd nv O'' ov') → TreeTurn b ov ov' X Y → D K Y := fun K ov ov' X Y hs ht hy =>
    ⟨hEm K ov ov' X Y hs.1 ht hy, hkeep _ _ _ _ ht hy _ _ hs.2.1 rfl, hkeep _ _ _ _ ht hy _ _ hs.2.2 rfl⟩
  refine ⟨B + 1, [{ target := .collected B, args := #[] }], V, { target := .fn (.func gf) lb, args := #[.func (.yield (B + 1)) #[] #[]] }, V, gf, #[.func (.yield (B + 1)) #[] #[]] ++ lb, V, ?_, ?_, ?_, ?_, fun _ => h1, ?_⟩
  · rw [hV, hB]; exact run_enterLoop_outer _ _ _ _ _
  · simp only [resolve, hg]; simp [go_sem]
  · intro f' hf'; simp [Target.leads] at hf'; subst hf'; exact hFg
  · simp [invoke, go_sem, eg]
  refine (hseq (B + 1) J D V ov0 vb (ht0.below vb) hJm hDm ?_ (fun X hX => ⟨vI X hX, (hX.block _ (by omega)).trans vloop, (hX.block _ (by omega)).trans vdef⟩)).mono ?_
  · rintro K k W ov hVK hKW ⟨hi, hl, hk⟩ hlen hts hov
    rw [vsz] at hVK hov ⊢
    have hlt : B + 1 < W.heap.size := (Array.getElem?_eq_some_iff.1 hl).1
    have hy := run_yield (P := P) (args := #[.int .i64 k]) hl (by rw [hlp]; exact hps.symm)
    rw [hlp] at hy
    refine ⟨fn, _, assign, body, hy, roundIn_of_wpIn hfn (hassign _ k W _ ⟨_, run_beginRound hl (by rw [hlp]), ?_⟩)⟩
    obtain ⟨Wb, hWb⟩ : ∃ Wb, Wb = W.putObj (B + 1) (.loop { lp .ready none with state := .busy }) := ⟨_, rfl⟩
    have bl : Wb.heap[B + 1]? = some (.loop { lp .ready none with state := .busy }) := by rw [hWb]; exact World.putObj_heap_same hlt
    have bd : Wb.heap[B]? = some (.deferred (some [])) := by rw [hWb]; exact (World.putObj_heap_other (by omega)).trans hk
    have bz : W.heap.size = Wb.heap.size := by rw [hWb]; simp
    have bi : I K (k, ov) Wb := by rw [hWb]; exact (hI K).putObj _ hi (by omega) hl rfl
    have bt : TC w0 Wb b x bnd nv (O ++ [L.getD k 0]) ov := by
      rw [hWb]
      exact hts.keep (fun q o h hc => (World.putObj_heap_other (fun e => by rw [e, hl] at h; cases h; cases hc)).trans h) (below_putObj hts.low (by omega) _)
    have bw : ∀ q, (q = pb ∨ (B + 2 ≤ q ∧ q < K)) → Wb.heap[q]? = W.heap[q]? := fun q hq => by rw [hWb]; exact World.putObj_heap_other (by omega)
    rw [← hWb]
    refine wpIn_mono (hbody _ K k _ ov (by omega) (by omega) bi hlen bt hov) ?_
    have fin : ∀ (jump : Option Code) (W3 : World), KeepsFrom B Wb W3 →
        (Instr.endRound (B + 1) jump).run P W3 = .ok (.bool jump.isNone) (W3.putObj (B + 1) (.loop (lp (if jump.isNone then .ready else .done) jump))) ∧
        W3.heap[B + 1]? = some (.loop { lp .ready none with state := .busy }) ∧
        (W3.putObj (B + 1) (.loop (lp (if jump.isNone then .ready else .done) jump))).heap[B + 1]? = some (.loop (lp (if jump.isNone then .ready else .done) jump)) ∧
        (W3.putObj (B + 1) (.loop (lp (if jump.isNone then .ready else .done) jump))).heap[B]? = some (.deferred (some [])) := fun jump W3 hk3 => by
      have h3 := hk3.same _ _ (by omega) bl rfl
      have hr := run_endRound (P := P) jump h3
      exact ⟨hr, h3, World.putObj_heap_same (Array.getElem?_eq_some_iff.1 h3).1, (World.putObj_heap_other (by omega)).trans (hk3.same _ _ (Nat.le_refl _) bd rfl)⟩
    have kf : ∀ (o' : Obj) (W3 : World), KeepsFrom B Wb W3 → KeepsFrom (B + 2) W (W3.putObj (B + 1) o') := fun o' W3 hk3 =>
      ⟨by have := hk3.size; rw [World.putObj_size]; omega, fun k o hk h0 ho => (World.putObj_heap_other (by omega)).trans (hk3.same k o (by omega) (by rw [hWb]; exact (World.putObj_heap_other (by omega)).trans h0) ho)⟩
    rintro e a3 W3 hp
    cases e with
    | normal =>
      obtain ⟨hk3, ⟨ov', hi3, ht3, ho3⟩, hw3⟩ := hp
      obtain ⟨hr, h3, h4, h5⟩ := fin none W3 hk3
      refine ⟨_, _, hr, ⟨true, rfl, ov', Or.inl ⟨rfl, (hI K).putObj _ hi3 (by omega) h3 rfl, h4, h5⟩, ?_, ho3⟩, fun q h1 => (World.putObj_heap_other (by omega)).trans ((hw3 q h1).trans (bw q h1)), kf _ _ hk3⟩
      exact ht3.keep (fun q o h hc => (World.putObj_heap_other (fun e => by rw [e, h3] at h; cases h; cases hc)).trans h) (below_putObj ht3.low (by omega) _)
    | ret =>
      obtain ⟨hk3, ⟨ov', hi3, ht3, ho3⟩, hw3⟩ := hp
      obtain ⟨hr, h3, h4, h5⟩ := fin (some .ret) W3 hk3
      refine ⟨_, _, hr, ⟨false, rfl, ov', Or.inr ⟨rfl, (hE K).putObj (s := ()) _ hi3 (by omega) h3 rfl, h4, h5⟩, ?_, ho3⟩, fun q h1 => (World.putObj_heap_other (by omega)).trans ((hw3 q h1).trans (bw q h1)), kf _ _ hk3⟩
      exact ht3.keep (fun q o h hc => (World.putObj_heap_other (fun e => by rw [e, h3] at h; cases h; cases hc)).trans h) (below_putObj ht3.low (by omega) _)
    | exit id => exact hp.elim
    | goto t => exact hp.elim
    | panic ch => exact hp.elim
    | outgrown => exact hp.elim
  · rintro e W2 ⟨⟨v, rfl⟩, K, ov, hJD, ht⟩
    rcases hJD with ⟨hi, hl, hk⟩ | ⟨hi, hl, hk⟩
    · refine ⟨none, _, run_endLoop (P := P) hl (by rw [hlp]; simp), hdone _ K _ ov (Nat.le_refl _) ?_ ((hI K).putObj _ hi (by omega) hl rfl) ((World.putObj_heap_other (by omega)).trans hk)⟩
      exact ht.keep (fun q o h hc => (World.putObj_heap_other (fun e => by rw [e, hl] at h; cases h; cases hc)).trans h) (below_putObj ht.low (by omega) _)
    · refine ⟨some .ret, _, run_endLoop (P := P) hl (by rw [hlp]; simp), hret _ K _ ov (Nat.le_refl _) ?_ ((hE K).putObj (s := ()) _ hi (by omega) hl rfl) ((World.putObj_heap_other (by omega)).trans hk)⟩
      exact ht.keep (fun q o h hc => (World.putObj_heap_other (fun e => by rw [e, hl] at h; cases h; cases hc)).trans h) (below_putObj ht.low (by omega) _)
end Go.Proofs.Ytpplcbpnojggcaa

namespace Go.Proofs.Ytpplcbpnojggcaa
open Go.RowKit Go.Maps Go.Shelf
attribute [local go_sem] Oper.semAt_some

theorem TC.app {w0 wr wg : World} {b : Nat} {x : Cols} {bnd : Int} {nv : Value} {O O1 : List Int} {ov : Value} {gg n1 c1 : Nat} (ht : TC w0 wr b x bnd nv O ov) (hO : OwnR 1 3 intL wg w0.heap.size (.slice (some ⟨gg, 0, none⟩) n1 c1) O1) (hg : wr.drew.grownBy wg ov.ownBlock) (hb : Below w0.heap.size wr.drew wg) (hat : ov.ownBlock = some gg ∨ gg = wr.drew.heap.size + 1) :
    TC w0 (wg.setCell ⟨b, 4, none⟩ (.slice (some ⟨gg, 0, none⟩) n1 c1)) b x bnd nv O1 (.slice (some ⟨gg, 0, none⟩) n1 c1) ∧ TreeTurn b ov (.slice (some ⟨gg, 0, none⟩) n1 c1) wr (wg.setCell ⟨b, 4, none⟩ (.slice (some ⟨gg, 0, none⟩) n1 c1)) := by
  have Bg : BoxAt wg b #[.slice x.ma x.m.length x.mc, .slice x.da x.T.length x.dc, .int .i64 bnd, nv, ov] 164 := BoxAt.grown (w := wr.drew) ht.box hg (fun e => own_ne ht.own ht.box (by decide) e.symm)
  have hbb : Below w0.heap.size w0 wg := ht.low.drew.trans hb
  refine ⟨⟨?_, ?_, hbb.setCell (p := ⟨b, 4, none⟩) ht.ge _, ht.ge⟩, ⟨hb.os, hb.tape, hb.output, by have := hb.size; simp; exact this, fun k hk h1 h2 => ?_, fun q e => ?_⟩⟩
  · exact Bg.set 4 (.slice (some ⟨gg, 0, none⟩) n1 c1)
  · exact hO.set (own_ne hO Bg (by decide)) _
  · rw [Below.heap_setCell _ _ _ _ (by show k ≠ b; exact h1)]
    exact hg.block k hk (fun e => h2 e.symm)
  · have e : gg = q := by simpa [Value.ownBlock] using e
    subst e
    rcases hat with h | h
    · exact Or.inl h
    · right; rw [h]; show wr.heap.size ≤ wr.heap.size + 1; omega
theorem TC.cut {w0 W : World} {b : Nat} {x : Cols} {bnd : Int} {nv : Value} {O : List Int} {y : Int} {g c nq : Nat} (ht : TC w0 W b x bnd nv (O ++ [y]) (.slice (some ⟨g, 0, none⟩) (O.length + 1) c)) :
    TC w0 ((W.setCell ⟨b, 4, none⟩ (.slice (some ⟨g, 0, none⟩) O.length c)).drewN nq) b x bnd nv O (.slice (some ⟨g, 0, none⟩) O.length c) ∧ TreeTurn b (.slice (some ⟨g, 0, none⟩) (O.length + 1) c) (.slice (some ⟨g, 0, none⟩) O.length c) W ((W.setCell ⟨b, 4, none⟩ (.slice (some ⟨g, 0, none⟩) O.length c)).drewN nq) := by
  refine ⟨⟨?_, ?_, below_drewN (ht.low.setCell (p := ⟨b, 4, none⟩) ht.ge _) _, ht.ge⟩, ⟨rfl, rfl, rfl, by simp, fun k _ h1 _ => Below.heap_setCell _ _ _ _ (by show k ≠ b; exact h1), fun q e => Or.inl e⟩⟩
  · exact ht.box.set 4 _
  · exact ((own_cut ht.own).set (own_ne (own_cut ht.own) ht.box (by decide)) _).drewN _
set_option maxRecDepth 100000 in
set_option maxHeartbeats 4000000 in
theorem branches2_any (w0 w : World) (b pb n : Nat) (x : Cols) (bnd : Int) (nv : Value) (O : List Int) (hx : ColsAt w0 x) (hm : x.m.length ≤ 6) (hol : O.length ≤ 6) (hpb : BoxAt w pb #[.pointer (some ⟨b, 0, none⟩)] 188) (hne : pb ≠ b) :
    SeqTc Fence.wide n Try.prog 157 #[.pointer (some ⟨pb, 0, none⟩)] w0 b pb x bnd nv O (leftK O x.m.length) w := by
  intro l J D W ov0 hW hts hT hDT hY h0
  have hpW := hpb.below hW
  have k0 : W.cell? ⟨pb, 0, none⟩ = some (.pointer (some ⟨b, 0, none⟩)) := hpW.cell 0
  have hpl := hpW.lt
  have HLF := Lib.hid (left_any ⟨x, bnd, nv, ov0, O⟩ w0.heap.size b W ⟨hts.box, hx.below hts.low, hts.own⟩ (by show x.m.length ≤ 100; omega) (by show O.length ≤ 100; omega))
  have HTS := Lib.hid hts; have HT := Lib.hid hT; have HDT := Lib.hid hDT; have HY := Lib.hid hY; have H0 := Lib.hid h0; have HPW := Lib.hid hpW
  clear hpb hts hT hDT hY h0 hpW hx
  show CallsIn _ _ _ _ #[.func (.yield l) #[] #[], .pointer (some ⟨pb, 0, none⟩)] _ _
  refine callsIn_of_wp Try.func157 rfl trivial ?_ rfl
  simp only [Try.ntmps157, List.size_toArray, List.length_cons, List.length_nil, Nat.reduceAdd, Nat.reduceSub, Array.replicate_succ, Array.replicate_zero, List.push_toArray, List.append_toArray, List.nil_append, List.cons_append]
  gi_wp2_with (refine ⟨trivial, fun h => (by simp [Fence.wide] at h), ?_⟩; refine (callsIn_wide.2 HLF.out).mono ?_; rintro e X ⟨lv, rfl, hOl, hbX⟩; obtain ⟨la, lc, ev, hRL, -⟩ := hOl.rows int_l; subst ev)
  obtain ⟨Lf, hLf⟩ : ∃ Lf, Lf = leftK O x.m.length := ⟨_, rfl⟩
  have hOl : OwnR 1 3 intL X W.heap.size (.slice la (leftK O x.m.length).length lc) (leftK O x.m.length) := hOl
  have hLl := leftK_len O x.m.length
  rw [← hLf] at hOl hLl HY ⊢
  have HOL := Lib.hid hOl; have HBX := Lib.hid hbX; have HLE := Lib.hid hLf
  have HPX := Lib.hid (HPW.out.below hbX)
  clear hOl hRL hLf
  gi_loopw [9] (fun v9 wr => ∃ (k : Nat) (ov : Value), k ≤ Lf.length ∧ v9 = .int .i64 k ∧ J X.heap.size (k, ov) wr ∧ TC w0 wr b x bnd nv O ov ∧ OutOf W.heap.size X.heap.size ov ∧ (∀ q, (q = pb ∨ (W.heap.size ≤ q ∧ q < X.heap.size)) → wr.heap[q]? = X.heap[q]?) ∧ X.heap.size ≤ wr.heap.size) (fun v9 _ => Lf.length - (intOf v9).toNat)
  case atStart => exact ⟨0, ov0, Nat.zero_le _, rfl, H0.out X hbX, HTS.out.below hbX, fun q e => Or.inl (HTS.out.own.lt q e).2, fun q _ => rfl, Nat.le_refl _⟩
  case round =>
    obtain ⟨k, ov, hk, rfl, hJ, ht, ho, hwin, hsz⟩ := hrel
    by_cases hlt : k < Lf.length
    · have hLw := HOL.out.same (w' := wr) (fun q e => hwin q (Or.inr (HOL.out.lt q e)))
      obtain ⟨la', lc', ev, hRL, -⟩ := hLw.rows int_l
      injection ev with e1 e2 e3
      subst e1; subst e3
      clear e2
      obtain ⟨ad, rfl, had, s0⟩ := hRL.int hlt
      have HG := Lib.hid (getD_eqI (d := 0) hlt)
      obtain ⟨c, hc⟩ : ∃ c, c = Lf[k] := ⟨_, rfl⟩
      rw [← hc] at s0 HG
      obtain ⟨oa, oc, ev2, -⟩ := ht.own.rows int_l
      subst ev2
      have HPB := Lib.hid (show BoxAt wr pb #[.pointer (some ⟨b, 0, none⟩)] 188 from (hwin pb (Or.inl rfl)).trans HPX.out)
      have p0 : wr.cell? ⟨pb, 0, none⟩ = some (.pointer (some ⟨b, 0, none⟩)) := BoxAt.cell (w := wr) (b := pb) (T := 188) ((hwin pb (Or.inl rfl)).trans HPX.out) 0
      have hpbl : pb < wr.heap.size := Nat.lt_of_lt_of_le HPX.out.lt hsz
      have b4 : wr.cell? ⟨b, 4, none⟩ = some (.slice oa O.length oc) := ht.box.cell 4
      have f4 : wr.frozen? ⟨b, 4, none⟩ = false := ht.box.free 4
      have hbl := ht.box.lt
      have HTW := Lib.hid ht; have HWIN := Lib.hid hwin; have HJ := Lib.hid hJ; have HOO := Lib.hid ho
      have HOW := Lib.hid ht.own
      have HLO := Lib.hid ht.low
      have p1 : (wr.alloc (.cells #[.int .i64 c] 3)).cell? ⟨pb, 0, none⟩ = some (.pointer (some ⟨b, 0, none⟩)) := by rw [World.cell?_alloc_past _ _ _ hpbl]; exact p0
      have b5 : (wr.alloc (.cells #[.int .i64 c] 3)).cell? ⟨b, 4, none⟩ = some (.slice oa O.length oc) := by rw [World.cell?_alloc_past _ _ _ hbl]; exact b4
      clear ht hwin hJ ho hLw hRL hc
      gi_wp2
      refine wpIn_wide.2 ?_
      refine Code.wp_mono (Q := fun e a' w' => match e with
        | .normal => ∃ (gg cg : Nat) (wg : World), OwnR 1 3 intL wg w0.heap.size (.slice (some ⟨gg, 0, none⟩) (O.length + 1) cg) (O ++ [c]) ∧ wr.drew.grownBy wg (Value.slice oa O.length oc).ownBlock ∧ Below w0.heap.size wr.drew wg ∧ ((Value.slice oa O.length oc).ownBlock = some gg ∨ gg = wr.drew.heap.size + 1) ∧ a' = { tmps := #[.func (.yield l) #[] #[], .pointer (some ⟨pb, 0, none⟩), undef, .int .i64 k, .int .i64 c, u5, .pointer (some ⟨b, 0, none⟩), .slice (some ad) Lf.length lc, .int .i64 Lf.length, .int .i64 k, .bool true, .int .i64 k, .pointer (some (ad.add k)), .int .i64 c, .pointer (some ⟨b, 0, none⟩), .pointer (some ⟨b, 0, none⟩), .pointer (some ⟨b, 0, none⟩), .pointer (some ⟨b, 4, none⟩), .slice oa O.length oc, .int .i64 c, .slice (some ⟨wr.heap.size, 0, none⟩) 1 1, .slice (some ⟨gg, 0, none⟩) (O.length + 1) cg, .pointer (some ⟨b, 0, none⟩), .pointer (some ⟨b, 4, none⟩), u24, u25, u26, u27, u28, u29, u30, u31, u32, u33, u34, u35, u36, u37, u38, u39, u40, u41, u42, u43], defers := [] } ∧ w' = wg.setCell ⟨b, 4, none⟩ (.slice (some ⟨gg, 0, none⟩) (O.length + 1) cg)
        | _ => False) ?cont ?reg
      case reg =>
        go_region_law (first
          | (refine step_appI wr.drew c (by rfl) _ _ (by rfl) w0.heap.size _ O (by rfl) HOW.out.drew (by rfl) (by omega) (by have := HLO.out.size; exact this) ?_; intro gg cg wg hOg hgg hBg hat; have Bg := BoxAt.grown (w := wr.drew) HTW.out.box hgg (fun e => own_ne HOW.out HTW.out.box (by decide) e.symm); have g4 : wg.cell? ⟨b, 4, none⟩ = some (.slice oa O.length oc) := Bg.cell 4; have z4 : wg.frozen? ⟨b, 4, none⟩ = false := Bg.free 4; have lg := Bg.lt; have Pg := BoxAt.grown (w := wr.drew) HPB.out hgg (fun e => own_ne HOW.out HPB.out (by decide) e.symm); have q0 : wg.cell? ⟨pb, 0, none⟩ = some (.pointer (some ⟨b, 0, none⟩)) := Pg.cell 0; have lq := Pg.lt))
        all_goals exact ⟨gg, cg, wg, hOg, hgg, hBg, hat, rfl, rfl⟩
      case cont =>
        rintro e a' w' hq
        cases e <;> try exact hq.elim
        obtain ⟨gg, cg, wg, hOg, hgg, hBg, hat, rfl, rfl⟩ := hq
        have hA := HTW.out.app hOg hgg hBg hat
        have HA1 := Lib.hid hA.1
        have HJ1 := Lib.hid (HT.out _ _ _ _ _ _ HJ.out ⟨O, _, HTW.out, hA.1⟩ hA.2)
        have hz1 := hA.2.size
        obtain ⟨W1, hW1⟩ : ∃ W1, W1 = wg.setCell ⟨b, 4, none⟩ (.slice (some ⟨gg, 0, none⟩) (O.length + 1) cg) := ⟨_, rfl⟩
        rw [← hW1] at HA1 HJ1 hz1 ⊢
        have HO1 : Hid (OutOf W.heap.size X.heap.size (.slice (some ⟨gg, 0, none⟩) (O.length + 1) cg)) := Lib.hid (fun q e => by
          rcases hA.2.row q e with h | h
          · exact HOO.out q h
          · right; omega)
        obtain ⟨fn, tmps, assign, body, hy, hR⟩ := HY.out X.heap.size k W1 _ HBX.out.size (by omega) HJ1.out hlt (by rw [HG.out]; exact HA1.out) HO1.out
        have hwb : ∀ q, (q = pb ∨ (W.heap.size ≤ q ∧ q < X.heap.size)) → W1.heap[q]? = X.heap[q]? := fun q hq => by
          rw [hW1]
          have hqb : q ≠ b := by
            rcases hq with h | h
            · rw [h]; exact hne
            · have := HTS.out.box.lt; omega
          refine (hA.2.block q (by rcases hq with h | h <;> omega) hqb (fun e => ?_)).trans (HWIN.out q hq)
          rcases hq with h | h
          · subst h
            exact own_ne HOW.out HPB.out (by decide) e
          · have := HOO.out q e; omega
        have HWB := Lib.hid hwb
        clear hA hW1 hwb hOg hgg hBg hat p0 p1 b4 b5 f4 s0
        gi_wp2
        refine ⟨fun h => (by simp [Fence.wide] at h), hR.mono ?_⟩
        rintro e W3 ⟨⟨go, rfl, ov', hJD, ht3, ho3⟩, hw3, hf3⟩
        rcases hJD with ⟨rfl, hJ3⟩ | ⟨rfl, hJ3⟩
        · rw [HG.out] at ht3
          obtain ⟨g3, c3, ev3, -, -⟩ := ht3.own.form (by simp)
          rw [show (O ++ [c]).length = O.length + 1 by simp] at ev3
          subst ev3
          have hc3 := own_len ht3.own
          rw [show (O ++ [c]).length = O.length + 1 by simp] at hc3
          have hCUT : ∀ W, (Instr.sliceAt 75 (.slice (some ⟨g3, 0, none⟩) (O.length + 1) c3) none (some (.int .i64 (O.length : Int))) none).run Try.prog W = .ok (.slice (some ⟨g3, 0, none⟩) O.length c3) W := fun W => cut_low (P := Try.prog) 75 ⟨g3, 0, none⟩ (O.length + 1) c3 O.length intsUnder 1 intSize (by omega) W
          have HP3 : Hid (BoxAt W3 pb #[.pointer (some ⟨b, 0, none⟩)] 188) := Lib.hid ((hw3 pb (Or.inl rfl)).trans ((HWB.out pb (Or.inl rfl)).trans HPX.out))
          have p0 : W3.cell? ⟨pb, 0, none⟩ = some (.pointer (some ⟨b, 0, none⟩)) := HP3.out.cell 0
          have b4 : W3.cell? ⟨b, 4, none⟩ = some (.slice (some ⟨g3, 0, none⟩) (O.length + 1) c3) := ht3.box.cell 4
          have f4 : W3.frozen? ⟨b, 4, none⟩ = false := ht3.box.free 4
          have hbl3 := ht3.box.lt
          have hf3s := hf3.size
          have HT3 := Lib.hid ht3; have HJ3 := Lib.hid hJ3; have HO3 := Lib.hid ho3; have HW3 := Lib.hid hw3
          clear ht3 hJ3 ho3 hw3 hf3 hR hy hc3
          gi_wp2
          refine wpIn_wide.2 ?_
          go_region
          have hA := HT3.out.cut (nq := 1)
          have HT4 := Lib.hid hA.1
          have HJ4 := Lib.hid (HT.out _ _ _ _ _ _ HJ3.out ⟨_, _, HT3.out, hA.1⟩ hA.2)
          have hz4 := hA.2.size
          have hwb4 : ∀ q, (q = pb ∨ (W.heap.size ≤ q ∧ q < X.heap.size)) → ((W3.setCell ⟨b, 4, none⟩ (.slice (some ⟨g3, 0, none⟩) O.length c3)).drewN 1).heap[q]? = X.heap[q]? := fun q hq => by
            have hqb : q ≠ b := by
              rcases hq with h | h
              · rw [h]; exact hne
              · have := HTS.out.box.lt; omega
            refine (hA.2.block q (by rcases hq with h | h <;> omega) hqb (fun e => ?_)).trans ((HW3.out q hq).trans (HWB.out q hq))
            rcases hq with h | h
            · subst h
              exact own_ne HT3.out.own HP3.out (by decide) e
            · have := HO3.out q e; omega
          obtain ⟨W4, hW4⟩ : ∃ W4, W4 = (W3.setCell ⟨b, 4, none⟩ (.slice (some ⟨g3, 0, none⟩) O.length c3)).drewN 1 := ⟨_, rfl⟩
          rw [← hW4] at HT4 HJ4 hz4 hwb4
          change Exit.then _ _ _ _ ((W3.setCell ⟨b, 4, none⟩ (.slice (some ⟨g3, 0, none⟩) O.length c3)).drewN 1)
          rw [← hW4]
          have HWB4 := Lib.hid hwb4
          clear hA hW4 hwb4 p0 b4 f4 hCUT
          gi_wp2
          go_roundw
          case rel => exact ⟨k + 1, .slice (some ⟨g3, 0, none⟩) O.length c3, by omega, by go_num, HJ4.out, HT4.out, HO3.out, HWB4.out, by omega⟩
          case measure => simp [intOf] <;> omega
        · rw [HG.out] at ht3
          obtain ⟨g3, c3, ev3, -, -⟩ := ht3.own.form (by simp)
          rw [show (O ++ [c]).length = O.length + 1 by simp] at ev3
          subst ev3
          have hc3 := own_len ht3.own
          rw [show (O ++ [c]).length = O.length + 1 by simp] at hc3
          have hCUT : ∀ W, (Instr.sliceAt 75 (.slice (some ⟨g3, 0, none⟩) (O.length + 1) c3) none (some (.int .i64 (O.length : Int))) none).run Try.prog W = .ok (.slice (some ⟨g3, 0, none⟩) O.length c3) W := fun W => cut_low (P := Try.prog) 75 ⟨g3, 0, none⟩ (O.length + 1) c3 O.length intsUnder 1 intSize (by omega) W
          have HP3 : Hid (BoxAt W3 pb #[.pointer (some ⟨b, 0, none⟩)] 188) := Lib.hid ((hw3 pb (Or.inl rfl)).trans ((HWB.out pb (Or.inl rfl)).trans HPX.out))
          have p0 : W3.cell? ⟨pb, 0, none⟩ = some (.pointer (some ⟨b, 0, none⟩)) := HP3.out.cell 0
          have b4 : W3.cell? ⟨b, 4, none⟩ = some (.slice (some ⟨g3, 0, none⟩) (O.length + 1) c3) := ht3.box.cell 4
          have f4 : W3.frozen? ⟨b, 4, none⟩ = false := ht3.box.free 4
          have hbl3 := ht3.box.lt
          have hf3s := hf3.size
          have HT3 := Lib.hid ht3; have HJ3 := Lib.hid hJ3; have HO3 := Lib.hid ho3; have HW3 := Lib.hid hw3
          clear ht3 hJ3 ho3 hw3 hf3 hR hy hc3
          gi_wp2
          refine wpIn_wide.2 ?_
          go_region
          have hA := HT3.out.cut (nq := 1)
          have HT4 := Lib.hid hA.1
          have HJ4 := Lib.hid (HDT.out _ _ _ _ _ HJ3.out ⟨_, _, HT3.out, hA.1⟩ hA.2)
          have hz4 := hA.2.size
          have hwb4 : ∀ q, (q = pb ∨ (W.heap.size ≤ q ∧ q < X.heap.size)) → ((W3.setCell ⟨b, 4, none⟩ (.slice (some ⟨g3, 0, none⟩) O.length c3)).drewN 1).heap[q]? = X.heap[q]? := fun q hq => by
            have hqb : q ≠ b := by
              rcases hq with h | h
              · rw [h]; exact hne
              · have := HTS.out.box.lt; omega
            refine (hA.2.block q (by rcases hq with h | h <;> omega) hqb (fun e => ?_)).trans ((HW3.out q hq).trans (HWB.out q hq))
            rcases hq with h | h
            · subst h
              exact own_ne HT3.out.own HP3.out (by decide) e
            · have := HO3.out q e; omega
          obtain ⟨W4, hW4⟩ : ∃ W4, W4 = (W3.setCell ⟨b, 4, none⟩ (.slice (some ⟨g3, 0, none⟩) O.length c3)).drewN 1 := ⟨_, rfl⟩
          rw [← hW4] at HT4 HJ4 hz4 hwb4
          change Exit.then _ _ _ _ ((W3.setCell ⟨b, 4, none⟩ (.slice (some ⟨g3, 0, none⟩) O.length c3)).drewN 1)
          rw [← hW4]
          have HWB4 := Lib.hid hwb4
          clear hA hW4 hwb4 p0 b4 f4 hCUT
          gi_wp2
          (try simp only [Exit.inBlock, Exit.then])
          refine bodyPost_ret (results_none rfl _ _ _) rfl ?_
          exact ⟨⟨_, rfl⟩, X.heap.size, .slice (some ⟨g3, 0, none⟩) O.length c3, Or.inr HJ4.out, HT4.out⟩
    · have e : k = Lf.length := by omega
      subst e
      have HJ := Lib.hid hJ; have HTW := Lib.hid ht
      clear hJ ht hwin ho
      gi_wp2
      go_end0
      exact ⟨⟨_, rfl⟩, X.heap.size, ov, Or.inl (by rw [← HLE.out]; exact HJ.out), HTW.out⟩
end Go.Proofs.Ytpplcbpnojggcaa

namespace Go.Proofs.Ytpplcbpnojggcaa
open Go.RowKit Go.Maps Go.Shelf

def splE (x : Cols) (T : List Nd) (at_ : Nat) (O : List Int) : Int :=
  if (leftK O x.m.length).length = 0 ∨ (T.getD at_ noNd).nx.length ≠ (leftK O x.m.length).length then 10 else nxE T.length at_ (T.getD at_ noNd).nx
set_option maxRecDepth 100000 in
set_option maxHeartbeats 4000000 in
theorem errorOfSplit_any (t : Tree) (B b : Nat) (T : List Nd) (ta : Option Addr) (tc at_ : Nat) (w : World) (ht : TreeAt w B b t) (hnv : t.nv = .slice ta T.length tc) (hT : NodesAt w ta T) (hat : at_ < T.length) (hTl : T.length ≤ 3000) (hm : t.x.m.length ≤ 6) (hol : t.O.length ≤ 6) :
    Calls Try.prog 158 #[.pointer (some ⟨b, 0, none⟩), .int .i64 at_] w (CheckPost (splE t.x T at_ t.O) w) := by
  have HLF := Lib.hid (fun w1 h => left_any t B b w1 h (by omega) (by omega))
  have HDEF := Lib.hid (show splE t.x T at_ t.O = if (leftK t.O t.x.m.length).length = 0 ∨ (T.getD at_ noNd).nx.length ≠ (leftK t.O t.x.m.length).length then 10 else nxE T.length at_ (T.getD at_ noNd).nx from rfl)
  have HLL := Lib.hid (leftK_len t.O t.x.m.length)
  obtain ⟨SE, hSE⟩ : ∃ SE, SE = splE t.x T at_ t.O := ⟨_, rfl⟩
  rw [← hSE] at HDEF ⊢
  obtain ⟨Lf, hLf⟩ : ∃ Lf, Lf = leftK t.O t.x.m.length := ⟨_, rfl⟩
  rw [← hLf] at HDEF HLF HLL
  have hlf6 : Lf.length ≤ 6 := Nat.le_trans HLL.out hm
  clear hSE hLf HLL
  have b3 : w.cell? ⟨b, 3, none⟩ = some (.slice ta T.length tc) := by rw [← hnv]; exact ht.box.cell 3
  have hbl := ht.box.lt
  obtain ⟨ad, rfl, had, s0, s1⟩ := hT.node hat
  have HNX := Lib.hid (hT.nxt _ (List.getElem_mem hat))
  rw [nd_getD hat] at HDEF
  obtain ⟨z, ez⟩ : ∃ z, z = T[at_] := ⟨_, rfl⟩
  rw [← ez] at s0 s1 HNX HDEF
  obtain ⟨kd, na, nx, nc⟩ := z
  dsimp only at s0 s1 HNX HDEF
  have HT := Lib.hid ht
  have hatl : (at_ : Int) < (T.length : Int) := by omega
  have B3 := Lib.hid b3; have S1 := Lib.hid s1
  have hwT : IntKind.i64.wrap ((T.length : Int) - 1) = (T.length : Int) - 1 := IntWalk.i64_in _ (by omega)
  clear ht hnv hT hat hm hol ez s0
  go_enter Try.func158, Try.ntmps158
  go_wp2_with fail
  have j0 := b3; have j1 := s1
  go_region_held3 (fun w' => w'.cell? ⟨b, 3, none⟩ = some (.slice (some ad) T.length tc) ∧ w'.cell? ⟨(ad.add (at_ * 2)).block, (ad.add (at_ * 2)).off + 1, none⟩ = some (.slice na nx.length nc)) (first | exact ⟨j0, j1⟩ | go_keep)
    ((go_at_call 156; refine (HLF.out _ (HT.out.below (Below.refl _ _).drew)).mono ?_; rintro e w8 ⟨lv, rfl, hOl, hb8⟩; obtain ⟨la, lc, ev, -⟩ := hOl.rows int_l; subst ev; have HB8 : Hid (Below w.heap.size w w8) := Lib.hid ((Below.refl w.heap.size w).drew.trans hb8); have j0 := (HB8.out.cell (p := ⟨b, 3, none⟩) hbl).trans B3.out; have j1 := (HB8.out.cell (p := ⟨(ad.add (at_ * 2)).block, (ad.add (at_ * 2)).off + 1, none⟩) had).trans S1.out; clear hb8 hOl))
  by_cases h3 : Lf.length = 0
  · have HE := Lib.hid (show SE = 10 by rw [HDEF.out, if_pos (Or.inl h3)])
    rw [h3]
    go_wp2_with fail
    go_ret
    exact ⟨ret_int HE.out.symm, HB8.out⟩
  have h3' : ((Lf.length : Int) == 0) = false := by simpa using h3
  by_cases h4 : nx.length = Lf.length
  rotate_left
  · have HE := Lib.hid (show SE = 10 by rw [HDEF.out, if_pos (Or.inr h4)])
    have h4' : ((nx.length : Int) != (Lf.length : Int)) = true := by simp; omega
    clear h3 h4
    go_wp2_with fail
    go_ret
    exact ⟨ret_int HE.out.symm, HB8.out⟩
  have HND3 := Lib.hid (show SE = nxE T.length at_ nx by rw [HDEF.out, if_neg (by rintro (h | h); exact h3 h; exact h h4)])
  have h4' : ((nx.length : Int) != (Lf.length : Int)) = false := by simp; omega
  have hn6 : nx.length ≤ 6 := by omega
  have HNX8 := Lib.hid (HNX.out.below HB8.out)
  have j0 : w8.cell? ⟨b, 3, none⟩ = some (.slice (some ad) T.length tc) := (HB8.out.cell (p := ⟨b, 3, none⟩) hbl).trans B3.out
  clear h3 h4 b3 s1
  go_wp2_with fail
  go_loop [30] (fun i => ∃ k : Nat, k ≤ nx.length ∧ i = .int .i64 k ∧ Hid (nxE T.length at_ nx = nxE T.length at_ (nx.drop k))) (fun i => nx.length - (intOf i).toNat)
  case atStart => exact ⟨0, Nat.zero_le _, rfl, Lib.hid rfl⟩
  case round =>
    obtain ⟨k, hk, rfl, HQ⟩ := hrel
    by_cases hlt : k < nx.length
    · obtain ⟨nad, ena, hnad, n0⟩ := HNX8.out.int hlt
      have ena : na = some nad := ena
      subst ena
      have HST := Lib.hid (nxE_at (n := T.length) (at_ := at_) hlt)
      obtain ⟨y, hy⟩ : ∃ y, y = nx[k] := ⟨_, rfl⟩
      rw [← hy] at n0 HST
      have hkn' : (k : Int) < (nx.length : Int) := by omega
      clear hy
      cases h5 : inB y 0 ((T.length : Int) - 1)
      · have HE := Lib.hid (show SE = 6 by rw [HND3.out, HQ.out, HST.out, if_pos h5])
        have H5 := Lib.hid h5
        clear h5
        go_wp2_with (go_at_call 85; refine (isFrom_any _ _ _ _).mono ?_; rintro e w' ⟨rfl, rfl⟩; rw [H5.out])
        go_ret
        exact ⟨ret_int HE.out.symm, HB8.out⟩
      · have H5 := Lib.hid h5
        by_cases h6 : y ≤ at_
        · have HE := Lib.hid (show SE = 9 by rw [HND3.out, HQ.out, HST.out, if_neg (by rw [h5]; decide), if_pos h6])
          clear h5
          go_wp2_with (go_at_call 85; refine (isFrom_any _ _ _ _).mono ?_; rintro e w' ⟨rfl, rfl⟩; rw [H5.out])
          go_ret
          exact ⟨ret_int HE.out.symm, HB8.out⟩
        · have HQ2 := Lib.hid (show nxE T.length at_ nx = nxE T.length at_ (nx.drop (k + 1)) by rw [HQ.out, HST.out, if_neg (by rw [h5]; decide), if_neg h6])
          clear h5
          go_wp2_with (go_at_call 85; refine (isFrom_any _ _ _ _).mono ?_; rintro e w' ⟨rfl, rfl⟩; rw [H5.out])
          go_round
          case rel => exact ⟨k + 1, by omega, by go_num, HQ2⟩
          case measure => simp [intOf]; omega
    · obtain rfl : k = nx.length := by omega
      have HE := Lib.hid (show SE = 0 by rw [HND3.out, HQ.out, List.drop_of_length_le (Nat.le_refl _)]; rfl)
      go_wp2_with fail
      go_ret
      exact ⟨ret_int HE.out.symm, HB8.out⟩
set_option maxRecDepth 100000 in
set_option maxHeartbeats 4000000 in
theorem errorOfNode_any (t : Tree) (B b : Nat) (T : List Nd) (ta : Option Addr) (tc at_ : Nat) (w : World) (ht : TreeAt w B b t) (hnv : t.nv = .slice ta T.length tc) (hT : NodesAt w ta T) (hat : at_ < T.length) (hTl : T.length ≤ 3000) (hok : ColsOk t.x) (hol : t.O.length ≤ 6) (hin : ∀ y ∈ t.O, 0 ≤ y ∧ y < t.x.m.length) :
    Calls Try.prog 145 #[.pointer (some ⟨b, 0, none⟩), .int .i64 at_] w (CheckPost (ndE t.x t.bound T at_ t.O) w) := by
  have HSP := Lib.hid (errorOfSplit_any t B b T ta tc at_ w ht hnv hT hat hTl hok.le hol)
  have HHV := Lib.hid (fun kind => holdsV_any t B b kind w ht hok hol hin)
  have HDEF := Lib.hid (show ndE t.x t.bound T at_ t.O = if inB (T.getD at_ noNd).kind 0 2 = false then 15 else if (T.getD at_ noNd).kind ≠ 0 then (if holdB t.x t.bound (T.getD at_ noNd).kind t.O then 0 else 22) else splE t.x T at_ t.O from rfl)
  obtain ⟨SE, hSE⟩ : ∃ SE, SE = splE t.x T at_ t.O := ⟨_, rfl⟩
  rw [← hSE] at HDEF HSP
  obtain ⟨NE, hNE⟩ : ∃ NE, NE = ndE t.x t.bound T at_ t.O := ⟨_, rfl⟩
  rw [← hNE] at HDEF ⊢
  have b3 : w.cell? ⟨b, 3, none⟩ = some (.slice ta T.length tc) := by rw [← hnv]; exact ht.box.cell 3
  obtain ⟨ad, rfl, had, s0, s1⟩ := hT.node hat
  rw [nd_getD hat] at HDEF
  obtain ⟨kd, ek⟩ : ∃ kd, kd = T[at_].kind := ⟨_, rfl⟩
  rw [← ek] at s0 HDEF
  have hatl : (at_ : Int) < (T.length : Int) := by omega
  have HB := Lib.hid (Below.refl w.heap.size w)
  clear hSE hNE ht hnv hT hat hok hol hin ek s1
  go_enter Try.func145, Try.ntmps145
  by_cases h0 : kd = 0
  · subst h0
    have HE := Lib.hid (show NE = SE by rw [HDEF.out, if_neg (by decide), if_neg (by simp)])
    rw [HE.out]
    go_wp2_with (go_at_call 158; refine HSP.out.mono ?_; rintro e w2 ⟨rfl, hb2⟩)
    go_ret
    exact ⟨rfl, hb2⟩
  have h0' : (kd == 0) = false := by simpa using h0
  by_cases h1 : kd = 1
  · subst h1
    cases hh : holdB t.x t.bound 1 t.O
    · have HE := Lib.hid (show NE = 22 by rw [HDEF.out, if_neg (by decide), if_pos (by decide), hh]; rfl)
      have HHK := Lib.hid (HHV.out 1)
      rw [hh] at HHK
      go_wp2_with (go_at_call 141; refine HHK.out.mono ?_; rintro e w2 ⟨rfl, hb2⟩)
      go_ret
      exact ⟨ret_int HE.out.symm, hb2⟩
    · have HE := Lib.hid (show NE = 0 by rw [HDEF.out, if_neg (by decide), if_pos (by decide), hh]; rfl)
      have HHK := Lib.hid (HHV.out 1)
      rw [hh] at HHK
      go_wp2_with (go_at_call 141; refine HHK.out.mono ?_; rintro e w2 ⟨rfl, hb2⟩)
      go_ret
      exact ⟨ret_int HE.out.symm, hb2⟩
  have h1' : (kd == 1) = false := by simpa using h1
  by_cases h2 : kd = 2
  · subst h2
    cases hh : holdB t.x t.bound 2 t.O
    · have HE := Lib.hid (show NE = 22 by rw [HDEF.out, if_neg (by decide), if_pos (by decide), hh]; rfl)
      have HHK := Lib.hid (HHV.out 2)
      rw [hh] at HHK
      go_wp2_with (go_at_call 141; refine HHK.out.mono ?_; rintro e w2 ⟨rfl, hb2⟩)
      go_ret
      exact ⟨ret_int HE.out.symm, hb2⟩
    · have HE := Lib.hid (show NE = 0 by rw [HDEF.out, if_neg (by decide), if_pos (by decide), hh]; rfl)
      have HHK := Lib.hid (HHV.out 2)
      rw [hh] at HHK
      go_wp2_with (go_at_call 141; refine HHK.out.mono ?_; rintro e w2 ⟨rfl, hb2⟩)
      go_ret
      exact ⟨ret_int HE.out.symm, hb2⟩
  have h2' : (kd == 2) = false := by simpa using h2
  have HE := Lib.hid (show NE = 15 by
    rw [HDEF.out, if_pos]
    cases hi : inB kd 0 2
    · rfl
    · have := inB_iff.1 hi; omega)
  clear h0 h1 h2
  go_wp2_with fail
  go_ret
  exact ⟨ret_int HE.out.symm, HB.out⟩
end Go.Proofs.Ytpplcbpnojggcaa

namespace Go.Proofs.Ytpplcbpnojggcaa
open Go.RowKit Go.Maps Go.Shelf

theorem tc_keeps {w0 X Y : World} {b : Nat} {x : Cols} {bnd : Int} {nv : Value} {O : List Int} {ov ov' : Value} (ht : TC w0 X b x bnd nv O ov) (hy : TreeTurn b ov ov' X Y) : KeepsFrom 0 X Y :=
  ⟨hy.size, fun q o _ h hc => (hy.block q (heap_lt h) (fun e => by
      have h2 := ht.box
      unfold BoxAt at h2
      rw [← e, h] at h2; cases h2; cases hc) (fun e => by
      obtain ⟨cs, hcs⟩ := own_block ht.own q e
      rw [h] at hcs; cases hcs; cases hc)).trans h⟩
/-- What lies between two rounds of check: the pointers, the number, the results, the tree's frame. -/
structure ChI (W : World) (b N : Nat) (ov0 : Value) (at_ : Nat) (ov : Value) (p : Int × Int) (X : World) : Prop where
  ptr : BoxAt X W.heap.size #[.pointer (some ⟨b, 0, none⟩)] 188
  atb : BoxAt X (W.heap.size + 1) #[.int .i64 at_] 3
  r1 : BoxAt X (W.heap.size + 2) #[.int .i64 p.1] 3
  r2 : BoxAt X (W.heap.size + 3) #[.int .i64 p.2] 29
  pbx : BoxAt X N #[.pointer (some ⟨b, 0, none⟩)] 188
  hN : W.heap.size + 4 ≤ N
  hb : b < W.heap.size
  hov : ∀ q, ov0.ownBlock = some q → q < W.heap.size
  ovn : ∀ q, ov.ownBlock = some q → ov0.ownBlock = some q ∨ N < q
  keep : ∀ q, q < W.heap.size → q ≠ b → ov0.ownBlock ≠ some q → X.heap[q]? = W.heap[q]?
  from_ : KeepsFrom 0 W X
  lo : N + 1 ≤ X.heap.size
section
variable {W : World} {b N : Nat} {ov0 : Value} {at_ : Nat} {ov ov' : Value} {p : Int × Int} {X Y : World}
theorem ChI.kept (h : ChI W b N ov0 at_ ov p X) {row : Option Nat} {B : Nat} (hg : X.grownBy Y row) (hr : ∀ r, row = some r → B ≤ r ∧ ∃ o : Obj, X.heap[r]? = some o ∧ o.isCells = false) (hB : W.heap.size ≤ B) : ChI W b N ov0 at_ ov p Y := by
  refine ⟨box_kept h.ptr hg (fun r e => (hr r e).2), box_kept h.atb hg (fun r e => (hr r e).2), box_kept h.r1 hg (fun r e => (hr r e).2), box_kept h.r2 hg (fun r e => (hr r e).2), box_kept h.pbx hg (fun r e => (hr r e).2), h.hN, h.hb, h.hov, h.ovn, fun q hq h1 h2 => ?_, ?_, Nat.le_trans h.lo hg.size⟩
  · refine (hg.block q (Nat.lt_of_lt_of_le hq h.from_.size) (fun e => ?_)).trans (h.keep q hq h1 h2)
    have := (hr q e.symm).1
    omega
  · refine ⟨Nat.le_trans h.from_.size hg.size, fun k o _ hk hc => (hg.block k (Nat.lt_of_lt_of_le (heap_lt hk) h.from_.size) (fun e => ?_)).trans (h.from_.same k o (Nat.zero_le _) hk hc)⟩
    have h1 := (hr k e.symm).1
    have h2 := heap_lt hk
    omega
/-- The tree goes on: its box and the order's row alone are turned. -/
theorem ChI.step (h : ChI W b N ov0 at_ ov p X) (hk : ∀ q, q < X.heap.size → q ≠ b → ov.ownBlock ≠ some q → Y.heap[q]? = X.heap[q]?) (hf : KeepsFrom 0 X Y) (hn : ∀ q, ov'.ownBlock = some q → ov.ownBlock = some q ∨ X.heap.size ≤ q) : ChI W b N ov0 at_ ov' p Y := by
  have hlo := h.lo; have hN := h.hN; have hb := h.hb
  have hfz := h.from_.size
  have far : ∀ q, W.heap.size ≤ q → q ≤ N → Y.heap[q]? = X.heap[q]? := fun q h1 h2 => hk q (by omega) (by omega) (fun e => by
    rcases h.ovn q e with h3 | h3
    · have := h.hov q h3; omega
    · omega)
  refine ⟨(far _ (by omega) (by omega)).trans h.ptr, (far _ (by omega) (by omega)).trans h.atb, (far _ (by omega) (by omega)).trans h.r1, (far _ (by omega) (by omega)).trans h.r2, (far _ (by omega) (by omega)).trans h.pbx, hN, hb, h.hov, fun q e => ?_, fun q hq h1 h2 => ?_, ⟨Nat.le_trans hfz hf.size, fun q o _ h1 hc => hf.same q o (Nat.zero_le _) (h.from_.same q o (Nat.zero_le _) h1 hc) hc⟩, Nat.le_trans hlo hf.size⟩
  · rcases hn q e with h3 | h3
    · exact h.ovn q h3
    · right; omega
  · exact (hk q (by omega) h1 (fun e => by
      rcases h.ovn q e with h3 | h3
      · exact h2 h3
      · omega)).trans (h.keep q hq h1 h2)
theorem ChI.turn {w0 : World} {x : Cols} {bnd : Int} {nv : Value} {O : List Int} (h : ChI W b N ov0 at_ ov p X) (ht : TC w0 X b x bnd nv O ov) (hy : TreeTurn b ov ov' X Y) : ChI W b N ov0 at_ ov' p Y :=
  h.step hy.block (tc_keeps ht hy) hy.row
theorem ChI.drew (h : ChI W b N ov0 at_ ov p X) : ChI W b N ov0 at_ ov p X.drew := ⟨h.ptr, h.atb, h.r1, h.r2, h.pbx, h.hN, h.hb, h.hov, h.ovn, h.keep, ⟨h.from_.size, h.from_.same⟩, h.lo⟩
/-- The results are stored. -/
theorem ChI.put (h : ChI W b N ov0 at_ ov p X) (u v : Int) : ChI W b N ov0 at_ ov (u, v) ((X.setCell ⟨W.heap.size + 2, 0, none⟩ (.int .i64 u)).setCell ⟨W.heap.size + 3, 0, none⟩ (.int .i64 v)) := by
  have hN := h.hN; have hb := h.hb
  have hz : ∀ q, q ≠ W.heap.size + 2 → q ≠ W.heap.size + 3 → ((X.setCell ⟨W.heap.size + 2, 0, none⟩ (.int .i64 u)).setCell ⟨W.heap.size + 3, 0, none⟩ (.int .i64 v)).heap[q]? = X.heap[q]? := fun q h1 h2 =>
    (Below.heap_setCell _ _ _ _ (by show q ≠ W.heap.size + 3; exact h2)).trans (Below.heap_setCell _ _ _ _ (by show q ≠ W.heap.size + 2; exact h1))
  have hs1 := h.r1.set 0 (.int .i64 u)
  have hs2 := (h.r2.set_other (p := ⟨W.heap.size + 2, 0, none⟩) (by show W.heap.size + 3 ≠ W.heap.size + 2; omega) (.int .i64 u)).set 0 (.int .i64 v)
  refine ⟨(hz _ (by omega) (by omega)).trans h.ptr, (hz _ (by omega) (by omega)).trans h.atb, hs1.set_other (by show W.heap.size + 2 ≠ W.heap.size + 3; omega) _, hs2, (hz _ (by omega) (by omega)).trans h.pbx, hN, hb, h.hov, h.ovn, fun q hq h1 h2 => (hz q (by omega) (by omega)).trans (h.keep q hq h1 h2), ⟨?_, fun q o _ h1 hc => ?_⟩, ?_⟩
  · rw [World.size_setCell, World.size_setCell]; exact h.from_.size
  · have := heap_lt h1
    exact (hz q (by omega) (by omega)).trans (h.from_.same q o (Nat.zero_le _) h1 hc)
  · rw [World.size_setCell, World.size_setCell]; exact h.lo
end
/-- What check answers, and what it leaves of the tree. -/
def ChkPost (w0 W : World) (b : Nat) (x : Cols) (bnd : Int) (nv : Value) (O : List Int) (ov : Value) (p : Int × Int) (e : Ending) (W' : World) : Prop :=
  e = .returned (.tuple #[.int .i64 p.1, .int .i64 p.2]) ∧ ∃ ov', TC w0 W' b x bnd nv O ov' ∧ KeepsFrom 0 W W' ∧
    (∀ q, q < W.heap.size → q ≠ b → ov.ownBlock ≠ some q → W'.heap[q]? = W.heap[q]?) ∧ (∀ q, ov'.ownBlock = some q → ov.ownBlock = some q ∨ W.heap.size ≤ q)
end Go.Proofs.Ytpplcbpnojggcaa

namespace Go.Proofs.Ytpplcbpnojggcaa
open Go.RowKit Go.Maps Go.Shelf
attribute [local go_sem] Oper.semAt_some

theorem TC.drew {w0 X : World} {b : Nat} {x : Cols} {bnd : Int} {nv : Value} {O : List Int} {ov : Value} (h : TC w0 X b x bnd nv O ov) : TC w0 X.drew b x bnd nv O ov := ⟨h.box, h.own.drew, h.low.drew, h.ge⟩
theorem fin_put {w0 W w1 : World} {b : Nat} {x : Cols} {bnd : Int} {nv : Value} {O : List Int} {ov : Value} (ht : TC w0 w1 b x bnd nv O ov) (hB : Below W.heap.size W w1) (hov : ∀ q, ov.ownBlock = some q → q < W.heap.size) (hb : b < W.heap.size) (hw0 : w0.heap.size ≤ W.heap.size) (u v : Value) :
    TC w0 ((w1.setCell ⟨W.heap.size + 2, 0, none⟩ u).setCell ⟨W.heap.size + 3, 0, none⟩ v) b x bnd nv O ov ∧ KeepsFrom 0 W ((w1.setCell ⟨W.heap.size + 2, 0, none⟩ u).setCell ⟨W.heap.size + 3, 0, none⟩ v) ∧ ∀ q, q < W.heap.size → ((w1.setCell ⟨W.heap.size + 2, 0, none⟩ u).setCell ⟨W.heap.size + 3, 0, none⟩ v).heap[q]? = W.heap[q]? := by
  have hB2 := (hB.setCell (p := ⟨W.heap.size + 2, 0, none⟩) (by show W.heap.size ≤ W.heap.size + 2; omega) u).setCell (p := ⟨W.heap.size + 3, 0, none⟩) (by show W.heap.size ≤ W.heap.size + 3; omega) v
  refine ⟨⟨?_, ?_, ?_, ht.ge⟩, ⟨hB2.size, fun q o _ h1 _ => (hB2.block q (heap_lt h1)).trans h1⟩, fun q hq => hB2.block q hq⟩
  · exact (ht.box.set_other (p := ⟨W.heap.size + 2, 0, none⟩) (by show b ≠ W.heap.size + 2; omega) u).set_other (p := ⟨W.heap.size + 3, 0, none⟩) (by show b ≠ W.heap.size + 3; omega) v
  · exact (ht.own.set (p := ⟨W.heap.size + 2, 0, none⟩) (fun e => by have : W.heap.size + 2 < W.heap.size := hov _ e; omega) u).set (p := ⟨W.heap.size + 3, 0, none⟩) (fun e => by have : W.heap.size + 3 < W.heap.size := hov _ e; omega) v
  · exact (ht.low.setCell (p := ⟨W.heap.size + 2, 0, none⟩) (by show w0.heap.size ≤ W.heap.size + 2; omega) u).setCell (p := ⟨W.heap.size + 3, 0, none⟩) (by show w0.heap.size ≤ W.heap.size + 3; omega) v
theorem put_far {W V : World} (u v : Value) {q : Nat} (h : q < W.heap.size ∨ W.heap.size + 4 ≤ q) : ((V.setCell ⟨W.heap.size + 2, 0, none⟩ u).setCell ⟨W.heap.size + 3, 0, none⟩ v).heap[q]? = V.heap[q]? :=
  (Below.heap_setCell _ _ _ _ (by show q ≠ W.heap.size + 3; omega)).trans (Below.heap_setCell _ _ _ _ (by show q ≠ W.heap.size + 2; omega))
theorem tc_put {w0 W V : World} {b N : Nat} {ov0 : Value} {at_ : Nat} {p : Int × Int} {x : Cols} {bnd : Int} {nv : Value} {O : List Int} {ov : Value} (ht : TC w0 V b x bnd nv O ov) (h : ChI W b N ov0 at_ ov p V) (hw0 : w0.heap.size ≤ W.heap.size) (u v : Value) :
    TC w0 ((V.setCell ⟨W.heap.size + 2, 0, none⟩ u).setCell ⟨W.heap.size + 3, 0, none⟩ v) b x bnd nv O ov := by
  have hN := h.hN; have hb := h.hb
  have hne : ∀ q, ov.ownBlock = some q → q < W.heap.size ∨ W.heap.size + 4 < q := fun q e => by
    rcases h.ovn q e with h1 | h1
    · exact Or.inl (h.hov q h1)
    · right; omega
  refine ⟨?_, ?_, ?_, ht.ge⟩
  · exact (ht.box.set_other (p := ⟨W.heap.size + 2, 0, none⟩) (by show b ≠ W.heap.size + 2; omega) u).set_other (p := ⟨W.heap.size + 3, 0, none⟩) (by show b ≠ W.heap.size + 3; omega) v
  · exact (ht.own.set (p := ⟨W.heap.size + 2, 0, none⟩) (fun e => by rcases hne _ e with (h1 : W.heap.size + 2 < _) | (h1 : _ < W.heap.size + 2) <;> omega) u).set (p := ⟨W.heap.size + 3, 0, none⟩) (fun e => by rcases hne _ e with (h1 : W.heap.size + 3 < _) | (h1 : _ < W.heap.size + 3) <;> omega) v
  · exact (ht.low.setCell (p := ⟨W.heap.size + 2, 0, none⟩) (by show w0.heap.size ≤ W.heap.size + 2; omega) u).setCell (p := ⟨W.heap.size + 3, 0, none⟩) (by show w0.heap.size ≤ W.heap.size + 3; omega) v
/-- The end: the block of the deferred calls is shut. -/
theorem fin_D {w0 W X : World} {b N D : Nat} {ov0 : Value} {at_ : Nat} {p : Int × Int} {x : Cols} {bnd : Int} {nv : Value} {O : List Int} {ov : Value} (ht : TC w0 X b x bnd nv O ov) (h : ChI W b N ov0 at_ ov p X) (hw0 : w0.heap.size ≤ W.heap.size) (hD : W.heap.size + 4 ≤ D) (hKD : X.heap[D]? = some (.deferred (some []))) :
    (X.putObj D (.deferred none)).cell? ⟨W.heap.size + 2, 0, none⟩ = some (.int .i64 p.1) ∧ (X.putObj D (.deferred none)).cell? ⟨W.heap.size + 3, 0, none⟩ = some (.int .i64 p.2) ∧
    ∃ ov', TC w0 (X.putObj D (.deferred none)) b x bnd nv O ov' ∧ KeepsFrom 0 W (X.putObj D (.deferred none)) ∧ (∀ q, q < W.heap.size → q ≠ b → ov0.ownBlock ≠ some q → (X.putObj D (.deferred none)).heap[q]? = W.heap[q]?) ∧ (∀ q, ov'.ownBlock = some q → ov0.ownBlock = some q ∨ W.heap.size ≤ q) := by
  have hN := h.hN
  have b1 : BoxAt (X.putObj D (.deferred none)) (W.heap.size + 2) #[.int .i64 p.1] 3 := (World.putObj_heap_other (by omega)).trans h.r1
  have b2 : BoxAt (X.putObj D (.deferred none)) (W.heap.size + 3) #[.int .i64 p.2] 29 := (World.putObj_heap_other (by omega)).trans h.r2
  refine ⟨b1.cell 0, b2.cell 0, ov, ht.keep (fun q o h1 hc => (World.putObj_heap_other (fun e => by rw [e, hKD] at h1; cases h1; cases hc)).trans h1) (below_putObj ht.low (by omega) _), ⟨by rw [World.putObj_size]; exact h.from_.size, fun q o _ h1 hc => (World.putObj_heap_other (by have := heap_lt h1; omega)).trans (h.from_.same q o (Nat.zero_le _) h1 hc)⟩, fun q hq h1 h2 => (World.putObj_heap_other (by omega)).trans (h.keep q hq h1 h2), fun q e => ?_⟩
  rcases h.ovn q e with h1 | h1
  · exact Or.inl h1
  · right; omega
set_option maxRecDepth 100000 in
set_option maxHeartbeats 8000000 in
/-- One step of the check: the check of the branches is given. -/
theorem check_one (x : Cols) (bnd : Int) (T : List Nd) (ta : Option Addr) (tc : Nat) (hok : ColsOk x) (hTl : T.length ≤ 3000) (f : Nat) (w0 W : World) (b at_ : Nat) (O : List Int) (ov : Value) (hf : (leftK O x.m.length).length = f) (hof : O.length + f ≤ 6) (hin : ∀ y ∈ O, 0 ≤ y ∧ y < x.m.length) (hat : at_ < T.length) (ht : TC w0 W b x bnd (.slice ta T.length tc) O ov) (hT : NodesAt w0 ta T) (hx : ColsAt w0 x)
    (ih : ∀ y ∈ leftK O x.m.length, ∀ (z : Nat) (X : World) (ovk : Value), z < T.length → TC w0 X b x bnd (.slice ta T.length tc) (O ++ [y]) ovk →
      Calls Try.prog 118 #[.pointer (some ⟨b, 0, none⟩), .int .i64 z] X (ChkPost w0 X b x bnd (.slice ta T.length tc) (O ++ [y]) ovk (chk x bnd T (f - 1) z (O ++ [y])))) :
    Calls Try.prog 118 #[.pointer (some ⟨b, 0, none⟩), .int .i64 at_] W (ChkPost w0 W b x bnd (.slice ta T.length tc) O ov (chk x bnd T f at_ O)) := by
  have HEN := Lib.hid (fun W1 (h : TreeAt W1 w0.heap.size b ⟨x, bnd, .slice ta T.length tc, ov, O⟩) h2 => errorOfNode_any ⟨x, bnd, .slice ta T.length tc, ov, O⟩ w0.heap.size b T ta tc at_ W1 h rfl h2 hat hTl hok (by show O.length ≤ 6; omega) hin)
  have HER := Lib.hid (fun h => chk_err (x := x) (bd := bnd) (T := T) (f := f) (at_ := at_) (O := O) h)
  have HLF := Lib.hid (fun h h2 => chk_leaf (x := x) (bd := bnd) (T := T) (f := f) (at_ := at_) (O := O) h h2)
  have HSP : Hid (∀ f', f = f' + 1 → ndE x bnd T at_ O = 0 → (T.getD at_ noNd).kind = 0 → chk x bnd T f at_ O = fe (fun i => chk x bnd T f' ((T.getD at_ noNd).nx.getD i 0).toNat (O ++ [(leftK O x.m.length).getD i 0])) (leftK O x.m.length).length 0) := Lib.hid (fun f' hf' h1 h2 => by
    subst hf'
    show (if _ then _ else _) = _
    rw [if_neg (fun h => h h1), if_neg (fun h => h h2)])
  have HSE := Lib.hid (show ndE x bnd T at_ O = 0 → (T.getD at_ noNd).kind = 0 → (leftK O x.m.length).length ≠ 0 ∧ (T.getD at_ noNd).nx.length = (leftK O x.m.length).length ∧ ∀ y ∈ (T.getD at_ noNd).nx, 0 ≤ y ∧ y < T.length from fun h1 h2 => by
    have h3 : ndE x bnd T at_ O = splE x T at_ O := by unfold ndE; rw [h2, if_neg (by decide), if_neg (by simp)]; rfl
    rw [h3] at h1
    unfold splE at h1
    split at h1
    · omega
    · rename_i h4
      refine ⟨fun h => h4 (Or.inl h), Classical.byContradiction fun h => h4 (Or.inr h), fun y hy => ?_⟩
      have := nxE_ok h1 y hy; omega)
  obtain ⟨R, hR⟩ : ∃ R, R = chk x bnd T f at_ O := ⟨_, rfl⟩
  rw [← hR] at HER HLF HSP ⊢
  obtain ⟨NE, hNE⟩ : ∃ NE, NE = ndE x bnd T at_ O := ⟨_, rfl⟩
  rw [← hNE] at HEN HER HLF HSP HSE
  have HT := Lib.hid hT; have HX := Lib.hid hx; have HTC := Lib.hid ht; have HIH := Lib.hid ih; have HFL := Lib.hid hf; have HOF := Lib.hid hof
  have hml6 : x.m.length ≤ 6 := hok.le
  obtain ⟨ad, rfl, had, s0, s1⟩ := hT.node hat
  have HNX := Lib.hid (hT.nxt _ (List.getElem_mem hat))
  rw [nd_getD hat] at HSP HLF HSE
  obtain ⟨z, ez⟩ : ∃ z, z = T[at_] := ⟨_, rfl⟩
  rw [← ez] at HSP HLF HSE HNX s0 s1
  obtain ⟨kd, na, nx, nc⟩ := z
  dsimp only at HSP HLF HSE HNX s0 s1
  have S0 := Lib.hid s0; have S1 := Lib.hid s1
  have hatl : (at_ : Int) < (T.length : Int) := by omega
  have hbW := ht.box.lt
  have hovW := ht.own.lt
  have HOV := Lib.hid (fun q e => (hovW q e).2)
  have hw0W := ht.low.size
  have hadw : (ad.add (at_ * 2)).block < w0.heap.size := had
  clear hok hf hof hin hT hx ht ih ez hR hNE hat s0 s1 hovW had
  -- the world behind the entry
  obtain ⟨V, hV⟩ : ∃ V, V = (((W.alloc (.cells #[.pointer (some ⟨b, 0, none⟩)] 188)).alloc (.cells #[.int .i64 at_] 3)).alloc (.cells #[.int .i64 0] 3)).alloc (.cells #[.int .i64 0] 29) := ⟨_, rfl⟩
  have hVB : Below W.heap.size W V := by rw [hV]; exact ((((Below.refl W.heap.size W).alloc (Nat.le_refl _) _).alloc (by simp) _).alloc (by simp; omega) _).alloc (by simp; omega) _
  have hVZ : V.heap.size = W.heap.size + 4 := by rw [hV]; simp
  have v0 : BoxAt V W.heap.size #[.pointer (some ⟨b, 0, none⟩)] 188 := by rw [hV]; exact (((BoxAt.new W _ _).alloc _).alloc _).alloc _
  have v1 : BoxAt V (W.heap.size + 1) #[.int .i64 at_] 3 := by rw [hV]; have h := (((BoxAt.new (W.alloc (.cells #[.pointer (some ⟨b, 0, none⟩)] 188)) #[.int .i64 at_] 3).alloc (.cells #[.int .i64 0] 3)).alloc (.cells #[.int .i64 0] 29)); simpa using h
  have v2 : BoxAt V (W.heap.size + 2) #[.int .i64 0] 3 := by rw [hV]; have h := (BoxAt.new ((W.alloc (.cells #[.pointer (some ⟨b, 0, none⟩)] 188)).alloc (.cells #[.int .i64 at_] 3)) #[.int .i64 0] 3).alloc (.cells #[.int .i64 0] 29); simpa using h
  have v3 : BoxAt V (W.heap.size + 3) #[.int .i64 0] 29 := by rw [hV]; have h := BoxAt.new (((W.alloc (.cells #[.pointer (some ⟨b, 0, none⟩)] 188)).alloc (.cells #[.int .i64 at_] 3)).alloc (.cells #[.int .i64 0] 3)) #[.int .i64 0] 29; simpa using h
  refine (callsIn_wide (n := 9)).1 ?_
  refine callsIn_of_wp_marks Try.func118 rfl trivial ?_ rfl
  simp only [Try.ntmps118, List.size_toArray, List.length_cons, List.length_nil, Nat.reduceAdd, Nat.reduceSub, Array.replicate_succ, Array.replicate_zero, List.push_toArray, List.append_toArray, List.nil_append, List.cons_append]
  gi_wp2_with fail
  rw [show W.heap.size + 1 + 1 + 1 = W.heap.size + 3 from rfl, show W.heap.size + 1 + 1 = W.heap.size + 2 from rfl]
  rw [← hV]
  refine ⟨trivial, ?_⟩
  refine (callsIn_wide.2 (HEN.out V ⟨(HTC.out.below hVB).box, HX.out.below (HTC.out.below hVB).low, (HTC.out.below hVB).own⟩ (HT.out.below (HTC.out.below hVB).low))).mono ?_
  rintro e w1 ⟨rfl, hb1⟩
  have hB1 : Below W.heap.size W w1 := hVB.trans (hb1.mono (by omega))
  have HB1 := Lib.hid hB1
  have HZ1 := Lib.hid (show W.heap.size + 4 ≤ w1.heap.size by have := hb1.size; omega)
  have HTC1 := Lib.hid (HTC.out.below hB1)
  have y0 := v0.below hb1; have y1 := v1.below hb1; have y2 := v2.below hb1; have y3 := v3.below hb1
  have c0 : w1.cell? ⟨W.heap.size, 0, none⟩ = some (.pointer (some ⟨b, 0, none⟩)) := y0.cell 0
  have c1 : w1.cell? ⟨W.heap.size + 1, 0, none⟩ = some (.int .i64 at_) := y1.cell 0
  have c2 : w1.cell? ⟨W.heap.size + 2, 0, none⟩ = some (.int .i64 0) := y2.cell 0
  have c3 : w1.cell? ⟨W.heap.size + 3, 0, none⟩ = some (.int .i64 0) := y3.cell 0
  have f2 := y2.free 0; have f3 := y3.free 0
  have l0 := y0.lt; have l1 := y1.lt; have l2 := y2.lt; have l3 := y3.lt
  have n23 : ¬ W.heap.size + 2 = W.heap.size + 3 := by omega
  have n32 : ¬ W.heap.size + 3 = W.heap.size + 2 := by omega
  have Y0 := Lib.hid y0; have Y1 := Lib.hid y1; have Y2 := Lib.hid y2; have Y3 := Lib.hid y3
  clear hV hVB hVZ v0 v1 v2 v3 y0 y1 y2 y3 hb1 hB1
  by_cases hne : NE = 0
  rotate_left
  · have hne' : (NE != 0) = true := by simpa using hne
    have HE := Lib.hid (HER.out hne)
    obtain ⟨e1, e2, e3⟩ := fin_put HTC1.out HB1.out HOV.out hbW hw0W (.int .i64 at_) (.int .i64 NE)
    have E1 := Lib.hid e1; have E2 := Lib.hid e2; have E3 := Lib.hid e3
    clear hne e1 e2 e3
    gi_wp2
    refine ⟨.tuple #[.int .i64 at_, .int .i64 NE], by simp [results, Try.results118, go_sem, *], by rw [HE.out], ov, E1.out, E2.out, fun q hq _ _ => E3.out q hq, fun q e => Or.inl e⟩
  · have hne' : (NE != 0) = false := by simpa using hne
    have k0 : w1.cell? (ad.add (at_ * 2)) = some (.int .i64 kd) := (HTC1.out.low.cell hadw).trans S0.out
    have b3 : w1.cell? ⟨b, 3, none⟩ = some (.slice (some ad) T.length tc) := HTC1.out.box.cell 3
    by_cases hk : kd = 0
    rotate_left
    · have hk' : (kd != 0) = true := by simpa using hk
      have HE := Lib.hid (HLF.out hne hk)
      have d1 := fin_put HTC1.out.drew HB1.out.drew HOV.out hbW hw0W (.int .i64 0) (.int .i64 0)
      have D1 := Lib.hid d1
      clear hne hk d1
      gi_wp2
      refine wpIn_wide.2 ?_
      go_region
      gi_wp2
      refine ⟨.tuple #[.int .i64 0, .int .i64 0], by simp [results, Try.results118, go_sem, *], by rw [HE.out], ov, D1.out.1, D1.out.2.1, fun q hq _ _ => D1.out.2.2 q hq, fun q e => Or.inl e⟩
    · subst hk
      obtain ⟨hL0, hnL, hnb⟩ := HSE.out hne rfl
      obtain ⟨f', hf'⟩ : ∃ f', f = f' + 1 := ⟨f - 1, by have := HFL.out; omega⟩
      have HR0 := Lib.hid (HSP.out f' hf' hne rfl)
      have HIH2 : Hid (∀ y ∈ leftK O x.m.length, ∀ (z : Nat) (X : World) (ovk : Value), z < T.length → TC w0 X b x bnd (.slice (some ad) T.length tc) (O ++ [y]) ovk →
          Calls Try.prog 118 #[.pointer (some ⟨b, 0, none⟩), .int .i64 z] X (ChkPost w0 X b x bnd (.slice (some ad) T.length tc) (O ++ [y]) ovk (chk x bnd T f' z (O ++ [y])))) := Lib.hid (by have h := HIH.out; rw [hf'] at h; exact h)
      have hol6 : O.length ≤ 6 := by have := HOF.out; omega
      obtain ⟨L, hL⟩ : ∃ L, L = leftK O x.m.length := ⟨_, rfl⟩
      rw [← hL] at hL0 hnL HR0 HIH2
      have HLE := Lib.hid hL
      obtain ⟨g, hg⟩ : ∃ g : Nat → Int × Int, g = fun i => chk x bnd T f' (nx.getD i 0).toNat (O ++ [L.getD i 0]) := ⟨_, rfl⟩
      have HG := Lib.hid hg
      rw [← hg] at HR0
      have HNB := Lib.hid hnb; have HNL := Lib.hid hnL
      clear HIH HSE HSP HLF HER hne hf' hL hg hnb hnL hL0
      gi_wp2
      refine wpIn_wide.2 ?_
      go_region
      have c0 : w1.drew.cell? ⟨W.heap.size, 0, none⟩ = some (.pointer (some ⟨b, 0, none⟩)) := c0
      gi_wp2_with (refine ⟨trivial, ?_⟩; refine (callsIn_wide.2 (branches_any b _)).mono ?_; rintro e W5 ⟨rfl, rfl⟩)
      obtain ⟨V6, hV6⟩ : ∃ V6, V6 = w1.drew.alloc (.cells #[.pointer (some ⟨b, 0, none⟩)] 188) := ⟨_, rfl⟩
      have hz6 : V6.heap.size = w1.heap.size + 1 := by rw [hV6]; simp
      have hB6 : Below w1.heap.size w1 V6 := by rw [hV6]; exact (Below.refl _ w1).drew.alloc (Nat.le_refl _) _
      have hp6 : BoxAt V6 w1.heap.size #[.pointer (some ⟨b, 0, none⟩)] 188 := by rw [hV6]; exact BoxAt.new w1.drew _ _
      change Code.wpIn _ _ _ _ _ _ (w1.drew.alloc (.cells #[.pointer (some ⟨b, 0, none⟩)] 188))
      rw [← hV6]
      clear hV6
      have hz1 := HZ1.out
      have hBW6 : Below W.heap.size W V6 := HB1.out.trans (hB6.mono HB1.out.size)
      have HCI : Hid (∀ X, Below V6.heap.size V6 X → ChI W b w1.heap.size ov at_ ov (0, 0) X) := Lib.hid (fun X hX =>
        ⟨(Y0.out.below hB6).below hX, (Y1.out.below hB6).below hX, (Y2.out.below hB6).below hX, (Y3.out.below hB6).below hX, hp6.below hX, hz1, hbW, HOV.out, fun q e => Or.inl e, fun q hq _ _ => (hX.block q (by have := hBW6.size; omega)).trans (hBW6.block q hq), ⟨by have := hBW6.size; have := hX.size; omega, fun q o _ h _ => (hX.block q (by have := hBW6.size; have := heap_lt h; omega)).trans ((hBW6.block q (heap_lt h)).trans h)⟩, by have := hX.size; omega⟩)
      have HTS6 := Lib.hid (HTC1.out.below hB6)
      have hbr := branches2_any w0 V6 b w1.heap.size 8 x bnd (.slice (some ad) T.length tc) O HX.out hml6 hol6 hp6 (by omega)
      rw [← HLE.out] at hbr
      clear hB6 hp6 hBW6 c0 c1 c2 c3 f2 f3 l0 l1 l2 l3 k0 b3
      refine wpIn_rangeFunc_tc rfl (by omega) (gf := 157) (lb := #[.pointer (some ⟨w1.heap.size, 0, none⟩)]) rfl trivial (enters_of Try.func157 (by kernel_rfl) rfl) (w0 := w0) (b := b) (pb := w1.heap.size) (x := x) (bnd := bnd) (nv := .slice (some ad) T.length tc) (O := O) (L := L) hbr (by omega) rfl
        (fun K s X => Hid (R = fe g (L.length - s.1) s.1) ∧ ChI W b w1.heap.size ov at_ s.2 (0, 0) X)
        (fun K s X Y row hs hg hr => ⟨hs.1, hs.2.kept hg hr (by omega)⟩)
        (fun K X => ∃ (p : Int × Int) (ovx : Value), Hid (R = p) ∧ (∃ cs, BoxAt X b cs 164 ∧ cs[4]? = some ovx) ∧ ChI W b w1.heap.size ov at_ ovx p X)
        (fun K s X Y row hs hg hr => by obtain ⟨p, ovx, h1, ⟨cs, h2, h3⟩, h4⟩ := hs; exact ⟨p, ovx, h1, ⟨cs, box_kept h2 hg (fun r e => (hr r e).2), h3⟩, h4.kept hg hr (by omega)⟩)
        (fun K k ov1 ov2 X Y hs ht hy => by obtain ⟨O2, O3, hta, htb⟩ := ht; exact ⟨hs.1, hs.2.turn hta hy⟩)
        (fun K ov1 ov2 X Y hs ht hy => by
          obtain ⟨O2, O3, hta, htb⟩ := ht
          obtain ⟨p, ovx, h1, ⟨cs, h2, h3⟩, h4⟩ := hs
          rw [box_uni h2 hta.box] at h3
          have h3 : ov1 = ovx := by simpa using h3
          subst h3
          exact ⟨p, ov2, h1, ⟨_, htb.box, rfl⟩, h4.turn hta hy⟩)
        HTS6.out (fun X hX => ⟨Lib.hid HR0.out, HCI.out X hX⟩)
        (fun k => { tmps := #[.pointer (some ⟨b, 0, none⟩), .int .i64 at_, .pointer (some ⟨W.heap.size, 0, none⟩), .pointer (some ⟨W.heap.size + 1, 0, none⟩), .pointer (some ⟨W.heap.size + 2, 0, none⟩), .pointer (some ⟨W.heap.size + 3, 0, none⟩), .int .i64 NE, .int .i64 k, undef, undef, .pointer (some ⟨b, 0, none⟩), .int .i64 at_, .int .i64 NE, .int .i64 NE, .bool false, undef, undef, .pointer (some ⟨b, 0, none⟩), .pointer (some ⟨b, 0, none⟩), .pointer (some ⟨b, 3, none⟩), .slice (some ad) T.length tc, .int .i64 at_, .pointer (some (ad.add (at_ * 2))), .pointer (some (ad.add (at_ * 2))), .int .i64 0, .bool false, .pointer (some ⟨b, 0, none⟩), .func (.func 157) #[] #[.pointer (some ⟨w1.heap.size, 0, none⟩)], .int .i64 k, undef, undef, undef, undef, undef, undef, undef, undef, undef, undef, undef, undef, undef, undef, undef, undef, undef, undef, undef, undef], defers := [] }) ?assign ?body ?done ?ret
      case assign =>
        intro l k W K hK
        gi_wp2
        exact hK
      case body =>
        rintro l K k X ovk hK hKX ⟨HQ, hI⟩ hlen htk hovk
        dsimp only at HQ hI
        have hkn : k < nx.length := by have := HNL.out; omega
        have hyL : L.getD k 0 ∈ leftK O x.m.length := by rw [← HLE.out, getD_eqI hlen]; exact List.getElem_mem _
        obtain ⟨nad, ena, hnad, n0⟩ := HNX.out.int hkn
        subst ena
        have hzb := HNB.out _ (List.getElem_mem hkn)
        have HGK := Lib.hid (show g k = chk x bnd T f' nx[k].toNat (O ++ [L.getD k 0]) by rw [HG.out]; dsimp only; rw [getD_eqI hkn])
        obtain ⟨zi, ez⟩ : ∃ zi, zi = nx[k] := ⟨_, rfl⟩
        rw [← ez] at n0 hzb HGK
        obtain ⟨z, rfl⟩ : ∃ z : Nat, zi = z := ⟨zi.toNat, by omega⟩
        have hzl : z < T.length := by omega
        rw [show ((z : Int)).toNat = z by omega] at HGK
        obtain ⟨y, hy⟩ : ∃ y, y = L.getD k 0 := ⟨_, rfl⟩
        rw [← hy] at hyL HGK htk ⊢
        have HCALL := Lib.hid (HIH2.out y (by rw [HLE.out]; exact hyL) z X.drew ovk hzl htk.drew)
        obtain ⟨pp, hpp⟩ : ∃ pp, pp = chk x bnd T f' z (O ++ [y]) := ⟨_, rfl⟩
        rw [← hpp] at HCALL HGK
        obtain ⟨p1, p2⟩ := pp
        have HFE := Lib.hid (show fe g (L.length - k) k = if (g k).2 ≠ 0 then g k else fe g (L.length - (k + 1)) (k + 1) by rw [show L.length - k = (L.length - (k + 1)) + 1 by omega]; rfl)
        rw [HGK.out] at HFE
        dsimp only at HFE
        have hkn' : (k : Int) < (nx.length : Int) := by omega
        have q0 : X.drew.cell? ⟨W.heap.size, 0, none⟩ = some (.pointer (some ⟨b, 0, none⟩)) := hI.ptr.cell 0
        have q1 : X.drew.cell? ⟨W.heap.size + 1, 0, none⟩ = some (.int .i64 at_) := hI.atb.cell 0
        have q2 : X.drew.cell? ⟨b, 3, none⟩ = some (.slice (some ad) T.length tc) := htk.box.cell 3
        have q3 : X.drew.cell? ⟨(ad.add (at_ * 2)).block, (ad.add (at_ * 2)).off + 1, none⟩ = some (.slice (some nad) nx.length nc) := (htk.low.cell (p := ⟨(ad.add (at_ * 2)).block, (ad.add (at_ * 2)).off + 1, none⟩) hadw).trans S1.out
        have hnadb : (nad.add k).block < w0.heap.size := by rw [add_block]; exact hnad
        have q4 : X.drew.cell? (nad.add k) = some (.int .i64 z) := (htk.low.cell hnadb).trans n0
        have N0 := Lib.hid n0; have HI := Lib.hid hI; have HTK := Lib.hid htk; have HOK := Lib.hid hovk
        clear hI htk hovk n0 hzb hyL hpp ez hy
        refine wpIn_block ?_
        gi_wp2
        refine wpIn_round_held (S := fun Z : World => Z.cell? ⟨W.heap.size, 0, none⟩ = some (.pointer (some ⟨b, 0, none⟩)) ∧ Z.cell? ⟨W.heap.size + 1, 0, none⟩ = some (.int .i64 at_) ∧ Z.cell? ⟨b, 3, none⟩ = some (.slice (some ad) T.length tc) ∧ Z.cell? ⟨(ad.add (at_ * 2)).block, (ad.add (at_ * 2)).off + 1, none⟩ = some (.slice (some nad) nx.length nc) ∧ Z.cell? (nad.add k) = some (.int .i64 z)) (by kernel_rfl) (by rfl) (fun ⟨_, _, h⟩ => h) ⟨q0, q1, q2, q3, q4⟩ (fun hSS => ?_)
        refine takeL (i := 0) (v := .pointer (some ⟨b, 0, none⟩)) rfl (by kernel_rfl) (by kernel_rfl) (by kernel_rfl) (fun _ _ _ h => h) (Or.inl ⟨by rfl, fun V9 h9 => by dsimp only at h9; go_simp⟩) (by assumption) ?_
        try simp only [Act.put, List.setIfInBounds_toArray, List.set_cons_zero, List.set_cons_succ]
        refine takeL (i := 1) (v := .pointer (some ⟨b, 0, none⟩)) rfl (by kernel_rfl) (by kernel_rfl) (by kernel_rfl) (fun _ _ _ h => h) (Or.inl ⟨by rfl, fun V9 h9 => by dsimp only at h9; go_simp⟩) (by assumption) ?_
        try simp only [Act.put, List.setIfInBounds_toArray, List.set_cons_zero, List.set_cons_succ]
        refine takeL (i := 2) (v := .pointer (some ⟨b, 0, none⟩)) rfl (by kernel_rfl) (by kernel_rfl) (by kernel_rfl) (fun _ _ _ h => h) (Or.inl ⟨by rfl, fun V9 h9 => by dsimp only at h9; go_simp⟩) (by assumption) ?_
        try simp only [Act.put, List.setIfInBounds_toArray, List.set_cons_zero, List.set_cons_succ]
        refine takeL (i := 3) (v := .pointer (some ⟨b, 3, none⟩)) rfl (by kernel_rfl) (by kernel_rfl) (by kernel_rfl) (fun _ _ _ h => h) (Or.inl ⟨by rfl, fun V9 h9 => by dsimp only at h9; go_simp⟩) (by assumption) ?_
        try simp only [Act.put, List.setIfInBounds_toArray, List.set_cons_zero, List.set_cons_succ]
        refine takeL (i := 4) (v := .slice (some ad) T.length tc) rfl (by kernel_rfl) (by kernel_rfl) (by kernel_rfl) (fun _ _ _ h => h) (Or.inl ⟨by rfl, fun V9 h9 => by dsimp only at h9; go_simp⟩) (by assumption) ?_
        try simp only [Act.put, List.setIfInBounds_toArray, List.set_cons_zero, List.set_cons_succ]
        refine takeL (i := 5) (v := .int .i64 at_) rfl (by kernel_rfl) (by kernel_rfl) (by kernel_rfl) (fun _ _ _ h => h) (Or.inl ⟨by rfl, fun V9 h9 => by dsimp only at h9; go_simp⟩) (by assumption) ?_
        try simp only [Act.put, List.setIfInBounds_toArray, List.set_cons_zero, List.set_cons_succ]
        refine takeL (i := 6) (v := .pointer (some (ad.add (at_ * 2)))) rfl (by kernel_rfl) (by kernel_rfl) (by kernel_rfl) (fun _ _ _ h => h) (Or.inl ⟨by rfl, fun V9 h9 => by dsimp only at h9; go_simp⟩) (by assumption) ?_
        try simp only [Act.put, List.setIfInBounds_toArray, List.set_cons_zero, List.set_cons_succ]
        refine takeL (i := 7) (v := .pointer (some ⟨(ad.add (at_ * 2)).block, (ad.add (at_ * 2)).off + 1, none⟩)) rfl (by kernel_rfl) (by kernel_rfl) (by kernel_rfl) (fun _ _ _ h => h) (Or.inl ⟨by rfl, fun V9 h9 => by dsimp only at h9; go_simp⟩) (by assumption) ?_
        try simp only [Act.put, List.setIfInBounds_toArray, List.set_cons_zero, List.set_cons_succ]
        refine takeL (i := 8) (v := .slice (some nad) nx.length nc) rfl (by kernel_rfl) (by kernel_rfl) (by kernel_rfl) (fun _ _ _ h => h) (Or.inl ⟨by rfl, fun V9 h9 => by dsimp only at h9; go_simp⟩) (by assumption) ?_
        try simp only [Act.put, List.setIfInBounds_toArray, List.set_cons_zero, List.set_cons_succ]
        refine takeL (i := 9) (v := .int .i64 k) rfl (by kernel_rfl) (by kernel_rfl) (by kernel_rfl) (fun _ _ _ h => h) (Or.inl ⟨by rfl, fun V9 h9 => by dsimp only at h9; go_simp⟩) (by assumption) ?_
        try simp only [Act.put, List.setIfInBounds_toArray, List.set_cons_zero, List.set_cons_succ]
        refine takeL (i := 10) (v := .pointer (some (nad.add k))) rfl (by kernel_rfl) (by kernel_rfl) (by kernel_rfl) (fun _ _ _ h => h) (Or.inl ⟨by rfl, fun V9 h9 => by dsimp only at h9; go_simp⟩) (by assumption) ?_
        try simp only [Act.put, List.setIfInBounds_toArray, List.set_cons_zero, List.set_cons_succ]
        refine takeL (i := 11) (v := .int .i64 z) rfl (by kernel_rfl) (by kernel_rfl) (by kernel_rfl) (fun _ _ _ h => h) (Or.inl ⟨by rfl, fun V9 h9 => by dsimp only at h9; go_simp⟩) (by assumption) ?_
        try simp only [Act.put, List.setIfInBounds_toArray, List.set_cons_zero, List.set_cons_succ]
        refine wpAnyH_ready (rs := [12]) (by kernel_rfl) (by simp) (consL rfl (fun K9 hK9 => ?_) AllReadyH.nil)
        go_simp
        refine HCALL.out.mono ?_
        rintro e V ⟨rfl, ov', htV, hfV, hkV, hoV⟩
        have hIV : ChI W b w1.heap.size ov at_ ov' (0, 0) V := HI.out.step (Y := V) hkV ⟨hfV.size, hfV.same⟩ hoV
        have r0 : V.cell? ⟨W.heap.size, 0, none⟩ = some (.pointer (some ⟨b, 0, none⟩)) := hIV.ptr.cell 0
        have r1 : V.cell? ⟨W.heap.size + 1, 0, none⟩ = some (.int .i64 at_) := hIV.atb.cell 0
        have r2 : V.cell? ⟨b, 3, none⟩ = some (.slice (some ad) T.length tc) := htV.box.cell 3
        have r3 : V.cell? ⟨(ad.add (at_ * 2)).block, (ad.add (at_ * 2)).off + 1, none⟩ = some (.slice (some nad) nx.length nc) := (htV.low.cell (p := ⟨(ad.add (at_ * 2)).block, (ad.add (at_ * 2)).off + 1, none⟩) hadw).trans S1.out
        have r4 : V.cell? (nad.add k) = some (.int .i64 z) := (htV.low.cell hnadb).trans N0.out
        have g2 : V.cell? ⟨W.heap.size + 2, 0, none⟩ = some (.int .i64 0) := hIV.r1.cell 0
        have g3 : V.cell? ⟨W.heap.size + 3, 0, none⟩ = some (.int .i64 0) := hIV.r2.cell 0
        have f2 := hIV.r1.free 0; have f3 := hIV.r2.free 0
        have l2 := hIV.r1.lt; have l3 := hIV.r2.lt
        have hXz : V6.heap.size + 2 ≤ X.heap.size := by omega
        have hWIN : Hid (∀ q, (q = w1.heap.size ∨ (V6.heap.size + 2 ≤ q ∧ q < K)) → V.heap[q]? = X.heap[q]?) := Lib.hid (fun q hq => hkV q (by show q < X.heap.size; omega) (by omega) (fun e => by
          rcases HI.out.ovn q e with h | h
          · have := HI.out.hov q h; omega
          · rcases hq with h2 | h2
            · omega
            · have := HOK.out q e; omega))
        have hKF : Hid (KeepsFrom V6.heap.size X V) := Lib.hid ⟨hfV.size, fun q o _ h hc => hfV.same q o (Nat.zero_le _) h hc⟩
        have hOO : Hid (OutOf (V6.heap.size + 2) K ov') := Lib.hid (fun q e => by
          rcases hoV q e with h | h
          · exact HOK.out q h
          · have h : X.heap.size ≤ q := h
            right; omega)
        have HIV := Lib.hid hIV; have HTV := Lib.hid htV
        clear htV hfV hkV hoV hIV q0 q1 q2 q3 q4 hSS
        refine hK9.out _ _ ⟨r0, r1, r2, r3, r4⟩ (fun hSS => ?_)
        clear hK9 K9
        refine takeL (i := 13) (v := .tuple #[.int .i64 p1, .int .i64 p2]) rfl (by kernel_rfl) (by kernel_rfl) (by kernel_rfl) (fun _ _ _ h => h) (Or.inl ⟨by rfl, fun V9 h9 => by dsimp only at h9; go_simp⟩) (by assumption) ?_
        try simp only [Act.put, List.setIfInBounds_toArray, List.set_cons_zero, List.set_cons_succ]
        refine takeL (i := 14) (v := .int .i64 p1) rfl (by kernel_rfl) (by kernel_rfl) (by kernel_rfl) (fun _ _ _ h => h) (Or.inl ⟨by rfl, fun V9 h9 => by dsimp only at h9; go_simp⟩) (by assumption) ?_
        try simp only [Act.put, List.setIfInBounds_toArray, List.set_cons_zero, List.set_cons_succ]
        refine takeL (i := 15) (v := .int .i64 p2) rfl (by kernel_rfl) (by kernel_rfl) (by kernel_rfl) (fun _ _ _ h => h) (Or.inl ⟨by rfl, fun V9 h9 => by dsimp only at h9; go_simp⟩) (by assumption) ?_
        try simp only [Act.put, List.setIfInBounds_toArray, List.set_cons_zero, List.set_cons_succ]
        refine takeL (i := 16) (v := .int .i64 p1) rfl (by kernel_rfl) (by kernel_rfl) (by kernel_rfl) (fun _ _ _ h => h) (Or.inl ⟨by rfl, fun V9 h9 => by dsimp only at h9; go_simp⟩) (by assumption) ?_
        try simp only [Act.put, List.setIfInBounds_toArray, List.set_cons_zero, List.set_cons_succ]
        refine takeL (i := 17) (v := .int .i64 p2) rfl (by kernel_rfl) (by kernel_rfl) (by kernel_rfl) (fun _ _ _ h => h) (Or.inl ⟨by rfl, fun V9 h9 => by dsimp only at h9; go_simp⟩) (by assumption) ?_
        try simp only [Act.put, List.setIfInBounds_toArray, List.set_cons_zero, List.set_cons_succ]
        refine wpAnyH_done (by kernel_rfl) ?_ _
        by_cases hp2 : p2 = 0
        · subst hp2
          have HQ2 := Lib.hid (show R = fe g (L.length - (k + 1)) (k + 1) by rw [HQ.out, HFE.out, if_neg (by simp)])
          gi_wp2
          exact ⟨hKF.out, ⟨ov', ⟨HQ2, HIV.out⟩, HTV.out, hOO.out⟩, hWIN.out⟩
        · have hp2' : (p2 != 0) = true := by simpa using hp2
          have HE := Lib.hid (show R = (p1, p2) by rw [HQ.out, HFE.out, if_pos hp2])
          clear hp2
          gi_wp2
          refine ⟨⟨by rw [World.size_setCell, World.size_setCell]; exact hKF.out.size, fun q o hq h hc => (put_far _ _ (Or.inr (by omega))).trans (hKF.out.same q o hq h hc)⟩, ⟨ov', ⟨(p1, p2), ov', HE, ⟨_, (tc_put HTV.out HIV.out hw0W _ _).box, rfl⟩, HIV.out.put p1 p2⟩, tc_put HTV.out HIV.out hw0W _ _, hOO.out⟩, fun q hq => (put_far _ _ (Or.inr (by omega))).trans (hWIN.out q hq)⟩
      case done =>
        rintro D K X ovf hD htf ⟨HQ, hI⟩ hKD
        dsimp only at HQ hI
        have HE := Lib.hid (show R = (0, 0) by rw [HQ.out, Nat.sub_self]; rfl)
        have g2 : X.cell? ⟨W.heap.size + 2, 0, none⟩ = some (.int .i64 0) := hI.r1.cell 0
        have g3 : X.cell? ⟨W.heap.size + 3, 0, none⟩ = some (.int .i64 0) := hI.r2.cell 0
        have f2 := hI.r1.free 0; have f3 := hI.r2.free 0
        have l2 := hI.r1.lt; have l3 := hI.r2.lt
        have hKD2 : ((X.setCell ⟨W.heap.size + 2, 0, none⟩ (.int .i64 0)).setCell ⟨W.heap.size + 3, 0, none⟩ (.int .i64 0)).heap[D]? = some (.deferred (some [])) := (put_far _ _ (Or.inr (by omega))).trans hKD
        have FD := Lib.hid (fin_D (tc_put htf hI hw0W (.int .i64 0) (.int .i64 0)) (hI.put 0 0) hw0W (by omega) hKD2)
        have HKD2 := Lib.hid hKD2
        clear hI htf hKD hKD2
        gi_wp2
        refine ⟨by simp, .inl ⟨_, _, rfl, run_takeDeferred HKD2.out, ?_⟩⟩
        obtain ⟨z1, z2, z3⟩ := FD.out
        refine ⟨.tuple #[.int .i64 0, .int .i64 0], by simp [results, Try.results118, go_sem, *], by rw [HE.out], z3⟩
      case ret =>
        rintro D K X ovf hD htf ⟨⟨p1, p2⟩, ovx, HE, ⟨cs, hbx, hcs⟩, hI⟩ hKD
        rw [box_uni hbx htf.box] at hcs
        have hcs : ovf = ovx := by simpa using hcs
        subst hcs
        have FD := Lib.hid (fin_D htf hI hw0W (by omega) hKD)
        have HKD := Lib.hid hKD
        clear hI htf hKD hbx
        refine wpIn_ret ?_
        refine ⟨by simp, .inl ⟨_, _, rfl, run_takeDeferred HKD.out, ?_⟩⟩
        obtain ⟨z1, z2, z3⟩ := FD.out
        refine ⟨.tuple #[.int .i64 p1, .int .i64 p2], by simp [results, Try.results118, go_sem, *], by rw [HE.out], z3⟩
end Go.Proofs.Ytpplcbpnojggcaa

namespace Go.Proofs.Ytpplcbpnojggcaa
open Go.RowKit Go.Maps Go.Shelf

theorem check_any (x : Cols) (bnd : Int) (T : List Nd) (ta : Option Addr) (tc : Nat) (hok : ColsOk x) (hTl : T.length ≤ 3000) (w0 : World) (b : Nat) (hT : NodesAt w0 ta T) (hx : ColsAt w0 x) : ∀ (f : Nat) (W : World) (at_ : Nat) (O : List Int) (ov : Value), (leftK O x.m.length).length = f → O.length + f ≤ 6 → (∀ y ∈ O, 0 ≤ y ∧ y < x.m.length) → at_ < T.length → TC w0 W b x bnd (.slice ta T.length tc) O ov →
    Calls Try.prog 118 #[.pointer (some ⟨b, 0, none⟩), .int .i64 at_] W (ChkPost w0 W b x bnd (.slice ta T.length tc) O ov (chk x bnd T f at_ O)) := by
  intro f
  induction f with
  | zero =>
    intro W at_ O ov hf hof hin hat ht
    exact check_one x bnd T ta tc hok hTl 0 w0 W b at_ O ov hf hof hin hat ht hT hx (fun y hy => by rw [List.eq_nil_of_length_eq_zero hf] at hy; cases hy)
  | succ f ih =>
    intro W at_ O ov hf hof hin hat ht
    exact check_one x bnd T ta tc hok hTl (f + 1) w0 W b at_ O ov hf hof hin hat ht hT hx (fun y hy z X ovk hz htk => by
      have h3 := left_more hy
      obtain ⟨h4, -⟩ := leftK_in O x.m.length y hy
      refine ih X z (O ++ [y]) ovk (by omega) (by rw [List.length_append, List.length_singleton]; omega) (fun u hu => ?_) hz htk
      rcases List.mem_append.1 hu with hu | hu
      · exact hin u hu
      · rw [List.mem_singleton.1 hu]; exact h4)
/-- What CheckColourTree answers. -/
def cctF (x : Cols) (bd : Int) (T : List Nd) : Int × Int := if colsErr x ≠ 0 then (0, colsErr x) else ctR x bd T
set_option maxRecDepth 100000 in
set_option maxHeartbeats 4000000 in
theorem checkColourTree_any (x : Cols) (bd : Int) (T : List Nd) (ta : Option Addr) (tc : Nat) (w : World) (hT : NodesAt w ta T) (hx : ColsAt w x) (hm : x.m.length ≤ maxLen) (hTT : x.T.length ≤ maxLen) :
    Calls Try.prog 55 #[x.v, .int .i64 bd, .slice ta T.length tc] w (TwoPost (cctF x bd T) w) := by
  have hb0 := (Below.refl w.heap.size w).alloc (Nat.le_refl _) (.cells #[.slice x.ma x.m.length x.mc, .slice x.da x.T.length x.dc] 78)
  have HCC := Lib.hid (checkColours_any x (w.alloc (.cells #[.slice x.ma x.m.length x.mc, .slice x.da x.T.length x.dc] 78)) (hx.below hb0) hm hTT)
  have HBX := Lib.hid (BoxAt.new w #[.slice x.ma x.m.length x.mc, .slice x.da x.T.length x.dc] 78)
  have k0 := HBX.out.cell 0; have k1 := HBX.out.cell 1
  simp at k0 k1
  have HCH := Lib.hid (fun (h0 : colsErr x = 0) (h1 : 1 ≤ T.length) (h3 : T.length ≤ 3000) w0 b W hT2 hx2 ht => check_any x bd T ta tc (cols_right h0) h3 w0 b hT2 hx2 x.m.length W 0 [] (.slice none 0 0) (leftK_nil _) (by have := (cols_right h0).le; simpa using this) (fun y hy => by cases hy) h1 ht)
  have HDEF := Lib.hid (show cctF x bd T = if colsErr x ≠ 0 then (0, colsErr x) else ctR x bd T from rfl)
  have HDR := Lib.hid (show ctR x bd T = if inB bd 0 1000000 = false then (0, 2) else if inB (T.length : Int) 1 3000 = false then (0, 10) else chk x bd T x.m.length 0 [] from rfl)
  obtain ⟨R, hR⟩ : ∃ R, R = cctF x bd T := ⟨_, rfl⟩
  rw [← hR] at HDEF ⊢
  have HT := Lib.hid hT; have HX := Lib.hid hx; have HB0 := Lib.hid hb0
  clear hT hx hm hTT hR hb0
  show Calls _ _ #[.agg #[.slice x.ma x.m.length x.mc, .slice x.da x.T.length x.dc], .int .i64 bd, .slice ta T.length tc] _ _
  have HCC : Hid (Calls Try.prog 49 #[.agg #[.slice x.ma x.m.length x.mc, .slice x.da x.T.length x.dc]] (w.alloc (.cells #[.slice x.ma x.m.length x.mc, .slice x.da x.T.length x.dc] 78)) (CheckPost (colsErr x) (w.alloc (.cells #[.slice x.ma x.m.length x.mc, .slice x.da x.T.length x.dc] 78)))) := HCC
  go_enter Try.func55, Try.ntmps55
  by_cases h0 : colsErr x = 0
  rotate_left
  · have h0' : (colsErr x != 0) = true := by simpa using h0
    have HE := Lib.hid (show R = (0, colsErr x) by rw [HDEF.out, if_pos h0])
    clear h0
    go_wp2_with (go_at_call 49; refine HCC.out.mono ?_; rintro e w1 ⟨rfl, hb1⟩)
    go_ret2
    exact ⟨two_to HE.out, HB0.out.trans (hb1.mono HB0.out.size)⟩
  have H0 := Lib.hid h0
  have HD2 := Lib.hid (show R = ctR x bd T by rw [HDEF.out, if_neg (fun h => h h0)])
  cases h1 : inB bd 0 1000000
  · have HE := Lib.hid (show R = (0, 2) by rw [HD2.out, HDR.out, if_pos h1])
    have H1 := Lib.hid h1
    clear h0 h1
    go_wp2_with (first
      | (go_at_call 49; refine HCC.out.mono ?_; rintro e w1 ⟨rfl, hb1⟩; rw [H0.out]; have HB1 := Lib.hid (HB0.out.trans (hb1.mono HB0.out.size)); clear hb1)
      | (go_at_call 85; refine (isFrom_any _ _ _ _).mono ?_; rintro e w' ⟨rfl, rfl⟩; rw [H1.out]))
    go_ret2
    exact ⟨two_to HE.out, HB1.out⟩
  have H1 := Lib.hid h1
  cases h2 : inB (T.length : Int) 1 3000
  · have HE := Lib.hid (show R = (0, 10) by rw [HD2.out, HDR.out, if_neg (by rw [h1]; decide), if_pos h2])
    have H2 := Lib.hid h2
    clear h0 h1 h2
    go_wp2_with (first
      | (go_at_call 49; refine HCC.out.mono ?_; rintro e w1 ⟨rfl, hb1⟩; rw [H0.out]; have HB1 := Lib.hid (HB0.out.trans (hb1.mono HB0.out.size)); clear hb1)
      | (go_at_call 85; refine (isFrom_any _ _ _ _).mono ?_; rintro e w' ⟨rfl, rfl⟩; first | rw [H1.out] | rw [H2.out]))
    go_ret2
    exact ⟨two_to HE.out, HB1.out⟩
  have HE := Lib.hid (show R = chk x bd T x.m.length 0 [] by rw [HD2.out, HDR.out, if_neg (by rw [h1]; decide), if_neg (by rw [h2]; decide)])
  have H2 := Lib.hid h2
  have hin := inB_iff.1 h2
  have HCH2 := Lib.hid (fun w0 b W hT2 hx2 ht => HCH.out h0 (by omega) (by omega) w0 b W hT2 hx2 ht)
  clear HCH h0 h1 h2 hin HDEF HDR HD2
  go_wp2_with (first
    | (go_at_call 49; refine HCC.out.mono ?_; rintro e w1 ⟨rfl, hb1⟩; rw [H0.out]; have c0 : w1.cell? ⟨w.heap.size, 0, none⟩ = some (.slice x.ma x.m.length x.mc) := (HBX.out.below hb1).cell 0; have c1 : w1.cell? ⟨w.heap.size, 1, none⟩ = some (.slice x.da x.T.length x.dc) := (HBX.out.below hb1).cell 1; have HB1 := Lib.hid (HB0.out.trans (hb1.mono HB0.out.size)); clear hb1)
    | (go_at_call 85; refine (isFrom_any _ _ _ _).mono ?_; rintro e w' ⟨rfl, rfl⟩; first | rw [H1.out] | rw [H2.out]))
  have hW1 : TC w1 (w1.alloc (.cells #[.slice x.ma x.m.length x.mc, .slice x.da x.T.length x.dc, .int .i64 bd, .slice ta T.length tc, .slice none 0 0] 164)) w1.heap.size x bd (.slice ta T.length tc) [] (.slice none 0 0) :=
    ⟨BoxAt.new w1 _ _, OwnR.nil _ _, (Below.refl _ w1).alloc (Nat.le_refl _) _, Nat.le_refl _⟩
  refine (HCH2.out w1 w1.heap.size (w1.alloc (.cells #[.slice x.ma x.m.length x.mc, .slice x.da x.T.length x.dc, .int .i64 bd, .slice ta T.length tc, .slice none 0 0] 164)) (HT.out.below HB1.out) (HX.out.below HB1.out) hW1).mono ?_
  rintro e w2 ⟨rfl, ov', htc, -, -, -⟩
  rw [← HE.out]
  go_wp2
  go_ret2
  exact ⟨rfl, HB1.out.trans (htc.low.mono HB1.out.size)⟩
end Go.Proofs.Ytpplcbpnojggcaa

namespace Go.Proofs.Ytpplcbpnojggcaa
open Go.RowKit Go.Maps Go.Shelf

/-- What OrderMinutes returns: the minutes, the error. -/
def omE (x : Cols) (O : List Int) : Int × Int := if colsErr x ≠ 0 then (0, colsErr x) else if ordErr x.m.length O ≠ 0 then (0, ordErr x.m.length O) else minsE x O
theorem SameC.om {x y : Cols} (h : SameC x y) (O : List Int) : omE y O = omE x O := by unfold omE; rw [h.err, h.m, h.mins]
set_option maxRecDepth 100000 in
set_option maxHeartbeats 2000000 in
theorem orderMinutes_any (x : Cols) (O : List Int) (a : Option Addr) (n oc : Nat) (w : World) (hn : n = O.length) (hx : ColsAt w x) (hm : x.m.length ≤ 1000000) (hT : x.T.length ≤ maxLen) (hO : RowsAt 1 intL w a O) (hc : O.length ≤ oc) (hl : O.length ≤ maxLen) :
    Calls Try.prog 45 #[x.v, .slice a n oc] w (TwoPost (omE x O) w) := by
  subst hn
  have hb0 := (Below.refl w.heap.size w).alloc (Nat.le_refl _) (.cells #[.slice x.ma x.m.length x.mc, .slice x.da x.T.length x.dc] 78)
  have bx := BoxAt.new w #[.slice x.ma x.m.length x.mc, .slice x.da x.T.length x.dc] 78
  have HCC := Lib.hid (checkColours_any x (w.alloc (.cells #[.slice x.ma x.m.length x.mc, .slice x.da x.T.length x.dc] 78)) (hx.below hb0) (by unfold maxLen; omega) hT)
  have HEO := Lib.hid (fun W (h : RowsAt 1 intL W a O) => errorOfOrder_any a O O.length oc x.m.length W rfl h hl hm)
  have HMO := Lib.hid (fun W h h1 h2 h3 h4 => minutesOf_any x O a oc W h h1 h2 hc h3 h4)
  have HX := Lib.hid hx
  have HO := Lib.hid hO
  have HDEF := Lib.hid (show omE x O = if colsErr x ≠ 0 then (0, colsErr x) else if ordErr x.m.length O ≠ 0 then (0, ordErr x.m.length O) else minsE x O from rfl)
  obtain ⟨R, hR⟩ : ∃ R, R = omE x O := ⟨_, rfl⟩
  rw [← hR] at HDEF ⊢
  obtain ⟨ma, m, mc, da, T, dc⟩ := x
  unfold Cols.v at HCC HMO ⊢
  dsimp only at HCC HEO HMO bx hb0 HDEF hm hT ⊢
  clear hx hO hR
  go_enter Try.func45, Try.ntmps45
  by_cases h0 : colsErr ⟨ma, m, mc, da, T, dc⟩ = 0
  · have HOK := Lib.hid (cols_right h0)
    have HD1 := Lib.hid (show R = if ordErr m.length O ≠ 0 then (0, ordErr m.length O) else minsE ⟨ma, m, mc, da, T, dc⟩ O by rw [HDEF.out, if_neg (by simp [h0])])
    have H0 := Lib.hid h0
    clear h0 HDEF
    by_cases h1 : ordErr m.length O = 0
    · have HR := Lib.hid (show R = minsE ⟨ma, m, mc, da, T, dc⟩ O by rw [HD1.out, if_neg (by simp [h1])])
      have HL6 := Lib.hid (show O.length ≤ 6 by have := HOK.out.le; have h2 := (ord_right h1).1; show O.length ≤ 6; rw [h2]; exact this)
      have HIN := Lib.hid (ord_right h1).2.2
      have H1 := Lib.hid h1
      clear h1 HD1
      go_wp2_with (first
        | (go_at_call 49; refine HCC.out.mono ?_; rintro e w1 ⟨rfl, hb1⟩; rw [H0.out]; have BX1 := Lib.hid (bx.below hb1); have HB1 := Lib.hid (hb0.trans (hb1.mono hb0.size)); have k0 : w1.cell? ⟨w.heap.size, 0, none⟩ = some (.slice ma m.length mc) := BX1.out.cell 0; have k1 : w1.cell? ⟨w.heap.size, 1, none⟩ = some (.slice da T.length dc) := BX1.out.cell 1; have l1 := BX1.out.lt; clear hb1 bx hb0)
        | (go_at_call 107; refine (HEO.out _ (HO.out.below HB1.out)).mono ?_; rintro e w2 ⟨rfl, hb2⟩; rw [H1.out]; have BX2 := Lib.hid (BX1.out.below hb2); have HB2 := Lib.hid (HB1.out.trans (hb2.mono HB1.out.size)); have k0 : w2.cell? ⟨w.heap.size, 0, none⟩ = some (.slice ma m.length mc) := BX2.out.cell 0; have k1 : w2.cell? ⟨w.heap.size, 1, none⟩ = some (.slice da T.length dc) := BX2.out.cell 1; have l1 := BX2.out.lt; clear hb2)
        | (go_at_call 108; refine (HMO.out _ (HX.out.below HB2.out) HOK.out (HO.out.below HB2.out) HL6.out HIN.out).mono ?_; rintro e w3 ⟨rfl, hb3⟩))
      go_ret2
      exact ⟨two_to (by rw [HR.out]), HB2.out.trans (hb3.mono HB2.out.size)⟩
    · have HR := Lib.hid (show R = (0, ordErr m.length O) by rw [HD1.out, if_pos h1])
      have h1' : (ordErr m.length O != 0) = true := by simpa using h1
      obtain ⟨oe, hoe⟩ : ∃ oe, oe = ordErr m.length O := ⟨_, rfl⟩
      rw [← hoe] at HEO HR h1'
      clear h1 HD1 hoe
      go_wp2_with (first
        | (go_at_call 49; refine HCC.out.mono ?_; rintro e w1 ⟨rfl, hb1⟩; rw [H0.out]; have BX1 := Lib.hid (bx.below hb1); have HB1 := Lib.hid (hb0.trans (hb1.mono hb0.size)); have k0 : w1.cell? ⟨w.heap.size, 0, none⟩ = some (.slice ma m.length mc) := BX1.out.cell 0; have k1 : w1.cell? ⟨w.heap.size, 1, none⟩ = some (.slice da T.length dc) := BX1.out.cell 1; have l1 := BX1.out.lt; clear hb1 bx hb0)
        | (go_at_call 107; refine (HEO.out _ (HO.out.below HB1.out)).mono ?_; rintro e w2 ⟨rfl, hb2⟩))
      go_ret2
      exact ⟨two_to HR.out, HB1.out.trans (hb2.mono HB1.out.size)⟩
  · have HR := Lib.hid (show R = (0, colsErr ⟨ma, m, mc, da, T, dc⟩) by rw [HDEF.out, if_pos h0])
    have h0' : (colsErr ⟨ma, m, mc, da, T, dc⟩ != 0) = true := by simpa using h0
    obtain ⟨ce, hce⟩ : ∃ ce, ce = colsErr ⟨ma, m, mc, da, T, dc⟩ := ⟨_, rfl⟩
    rw [← hce] at HCC HR h0'
    clear h0 HDEF hce
    go_wp2_with (go_at_call 49; refine HCC.out.mono ?_; rintro e w1 ⟨rfl, hb1⟩)
    go_ret2
    exact ⟨two_to HR.out, hb0.trans (hb1.mono hb0.size)⟩
def fewP (x : Cols) : Prop := x.m.length ≤ 8 ∧ (x.m.length ≤ 6 → x.m.length ≤ 5) ∧ x.T.length ≤ 8 ∧ ∀ r ∈ x.T, r.l.length ≤ 8
def FewPost (FP : Prop) (w : World) (e : Ending) (w' : World) : Prop := (∃ b, e = .returned (.bool b) ∧ (b = true → FP)) ∧ Below w.heap.size w w'
set_option maxRecDepth 100000 in
set_option maxHeartbeats 4000000 in
theorem few_any (x : Cols) (w : World) (hx : ColsAt w x) (hm : x.m.length ≤ maxLen) (hT : x.T.length ≤ maxLen) (hsz : ∀ r ∈ x.T, r.l.length ≤ maxLen) :
    Calls Try.prog 44 #[x.v] w (FewPost (fewP x) w) := by
  have hb := (Below.refl w.heap.size w).alloc (Nat.le_refl _) (.cells #[.slice x.ma x.m.length x.mc, .slice x.da x.T.length x.dc] 78)
  have bx := BoxAt.new w #[.slice x.ma x.m.length x.mc, .slice x.da x.T.length x.dc] 78
  have HT := Lib.hid (hx.below hb).tab
  have HSZ := Lib.hid hsz
  have HFP := Lib.hid (show fewP x ↔ x.m.length ≤ 8 ∧ (x.m.length ≤ 6 → x.m.length ≤ 5) ∧ x.T.length ≤ 8 ∧ ∀ r ∈ x.T, r.l.length ≤ 8 from Iff.rfl)
  obtain ⟨FP, hFP⟩ : ∃ FP, FP = fewP x := ⟨_, rfl⟩
  rw [← hFP] at HFP ⊢
  obtain ⟨ma, m, mc, da, T, dc⟩ := x
  unfold Cols.v
  dsimp only at bx hb HT HSZ HFP hm hT ⊢
  unfold maxLen at hm hT
  clear hx hsz hFP
  go_enter Try.func44, Try.ntmps44
  have HCASE : (5 < m.length ∧ m.length ≤ 6) ∨ 8 < m.length ∨ (8 < T.length ∧ m.length ≤ 5) ∨ (8 < T.length ∧ 6 < m.length ∧ m.length ≤ 8) ∨ (T.length ≤ 8 ∧ m.length ≤ 5) ∨ (T.length ≤ 8 ∧ 6 < m.length ∧ m.length ≤ 8) := by omega
  rcases HCASE with ⟨h1, h2⟩ | h1 | ⟨h3, h1⟩ | ⟨h3, h1, h2⟩ | ⟨h3, h1⟩ | ⟨h3, h1, h2⟩
  · have g1 : (5 : Int) < (m.length : Int) := by omega
    have g2 : (m.length : Int) ≤ 6 := by omega
    clear h1 h2
    go_wp2_with fail
    go_ret
    exact ⟨⟨_, rfl, fun h => by cases h⟩, hb⟩
  · have g1 : (5 : Int) < (m.length : Int) := by omega
    have g2 : ¬ (m.length : Int) ≤ 6 := by omega
    have g3 : (8 : Int) < (m.length : Int) := by omega
    have g2' := decide_eq_false g2
    clear h1
    go_wp2_with fail
    go_ret
    exact ⟨⟨_, rfl, fun h => by cases h⟩, hb⟩
  · have HL1 := Lib.hid h1; have HL3 := Lib.hid h3
    have g1 : ¬ (5 : Int) < (m.length : Int) := by omega
    have g3 : ¬ (8 : Int) < (m.length : Int) := by omega
    have g1' := decide_eq_false g1; have g3' := decide_eq_false g3
    have g4 : (8 : Int) < (T.length : Int) := by omega
    clear h1 h3
    go_wp2_with fail
    go_ret
    exact ⟨⟨_, rfl, fun h => by cases h⟩, hb⟩
  · have HL1 := Lib.hid h1; have HL3 := Lib.hid h3
    have HL2 := Lib.hid h2
    have g1 : (5 : Int) < (m.length : Int) := by omega
    have g2 : ¬ (m.length : Int) ≤ 6 := by omega
    have g3 : ¬ (8 : Int) < (m.length : Int) := by omega
    have g2' := decide_eq_false g2; have g3' := decide_eq_false g3
    have g4 : (8 : Int) < (T.length : Int) := by omega
    clear h1 h3
    go_wp2_with fail
    go_ret
    exact ⟨⟨_, rfl, fun h => by cases h⟩, hb⟩
  · have HL1 := Lib.hid h1; have HL3 := Lib.hid h3
    have g1 : ¬ (5 : Int) < (m.length : Int) := by omega
    have g3 : ¬ (8 : Int) < (m.length : Int) := by omega
    have g1' := decide_eq_false g1; have g3' := decide_eq_false g3
    have g4 : ¬ (8 : Int) < (T.length : Int) := by omega
    have g4' := decide_eq_false g4
    clear h1 h3
    go_wp2_with fail
    obtain ⟨w0, hw0⟩ : ∃ w0, w0 = w.alloc (.cells #[.slice ma m.length mc, .slice da T.length dc] 78) := ⟨_, rfl⟩
    rw [← hw0] at bx hb HT ⊢
    clear hw0
    have k1 : w0.cell? ⟨w.heap.size, 1, none⟩ = some (.slice da T.length dc) := bx.cell 1
    have lx := bx.lt
    have HB := Lib.hid hb
    clear bx hb
    go_loop [3] (fun i => ∃ k : Nat, k ≤ T.length ∧ i = .int .i64 k ∧ Hid (∀ r ∈ T.take k, r.l.length ≤ 8)) (fun i => T.length - (intOf i).toNat)
    case atStart => exact ⟨0, Nat.zero_le _, rfl, Lib.hid (fun r hr => by simp at hr)⟩
    case round =>
      obtain ⟨k, hk, rfl, HR⟩ := hrel
      by_cases hlt : k < T.length
      · obtain ⟨ad, ra, rl, rc, rfl, had, s0, hrow, hrr⟩ := HT.out.pick hlt
        have hkT : (k : Int) < (T.length : Int) := by omega
        have hrz : rl.length ≤ maxLen := by have := HSZ.out _ (List.getElem_mem hlt); rw [hrr] at this; exact this
        have HTK := Lib.hid (show T.take (k + 1) = T.take k ++ [⟨ra, rl, rc⟩] by rw [List.take_succ_eq_append_getElem hlt, hrr])
        unfold maxLen at hrz
        clear hrow hrr
        by_cases h8 : 8 < rl.length
        · have h8' : (8 : Int) < (rl.length : Int) := by omega
          clear h8
          go_wp2_with fail
          go_ret
          exact ⟨⟨_, rfl, fun h => by cases h⟩, HB.out⟩
        · have h8' : decide ((8 : Int) < (rl.length : Int)) = false := decide_eq_false (by omega)
          have H8 := Lib.hid h8
          clear h8
          go_wp2_with fail
          go_round
          case rel => exact ⟨k + 1, by omega, by go_num, Lib.hid (fun r hr => by
            rw [HTK.out] at hr
            rcases List.mem_append.1 hr with h | h
            · exact HR.out r h
            · rw [List.mem_singleton.1 h]; have := H8.out; show rl.length ≤ 8; omega)⟩
          case measure => simp [intOf]; omega
      · have HEND := Lib.hid (show FP from HFP.out.2 ⟨by have := HL1.out; omega, fun h => by have := HL1.out; omega, HL3.out, fun r hr => HR.out r (by rw [List.take_of_length_le (by omega)]; exact hr)⟩)
        go_wp2
        go_ret
        exact ⟨⟨_, rfl, fun _ => HEND.out⟩, HB.out⟩
  · have HL1 := Lib.hid h1; have HL3 := Lib.hid h3
    have HL2 := Lib.hid h2
    have g1 : (5 : Int) < (m.length : Int) := by omega
    have g2 : ¬ (m.length : Int) ≤ 6 := by omega
    have g3 : ¬ (8 : Int) < (m.length : Int) := by omega
    have g2' := decide_eq_false g2; have g3' := decide_eq_false g3
    have g4 : ¬ (8 : Int) < (T.length : Int) := by omega
    have g4' := decide_eq_false g4
    clear h1 h3
    go_wp2_with fail
    obtain ⟨w0, hw0⟩ : ∃ w0, w0 = w.alloc (.cells #[.slice ma m.length mc, .slice da T.length dc] 78) := ⟨_, rfl⟩
    rw [← hw0] at bx hb HT ⊢
    clear hw0
    have k1 : w0.cell? ⟨w.heap.size, 1, none⟩ = some (.slice da T.length dc) := bx.cell 1
    have lx := bx.lt
    have HB := Lib.hid hb
    clear bx hb
    go_loop [3] (fun i => ∃ k : Nat, k ≤ T.length ∧ i = .int .i64 k ∧ Hid (∀ r ∈ T.take k, r.l.length ≤ 8)) (fun i => T.length - (intOf i).toNat)
    case atStart => exact ⟨0, Nat.zero_le _, rfl, Lib.hid (fun r hr => by simp at hr)⟩
    case round =>
      obtain ⟨k, hk, rfl, HR⟩ := hrel
      by_cases hlt : k < T.length
      · obtain ⟨ad, ra, rl, rc, rfl, had, s0, hrow, hrr⟩ := HT.out.pick hlt
        have hkT : (k : Int) < (T.length : Int) := by omega
        have hrz : rl.length ≤ maxLen := by have := HSZ.out _ (List.getElem_mem hlt); rw [hrr] at this; exact this
        have HTK := Lib.hid (show T.take (k + 1) = T.take k ++ [⟨ra, rl, rc⟩] by rw [List.take_succ_eq_append_getElem hlt, hrr])
        unfold maxLen at hrz
        clear hrow hrr
        by_cases h8 : 8 < rl.length
        · have h8' : (8 : Int) < (rl.length : Int) := by omega
          clear h8
          go_wp2_with fail
          go_ret
          exact ⟨⟨_, rfl, fun h => by cases h⟩, HB.out⟩
        · have h8' : decide ((8 : Int) < (rl.length : Int)) = false := decide_eq_false (by omega)
          have H8 := Lib.hid h8
          clear h8
          go_wp2_with fail
          go_round
          case rel => exact ⟨k + 1, by omega, by go_num, Lib.hid (fun r hr => by
            rw [HTK.out] at hr
            rcases List.mem_append.1 hr with h | h
            · exact HR.out r h
            · rw [List.mem_singleton.1 h]; have := H8.out; show rl.length ≤ 8; omega)⟩
          case measure => simp [intOf]; omega
      · have HEND := Lib.hid (show FP from HFP.out.2 ⟨by have := HL1.out; exact HL2.out, fun h => by have := HL1.out; omega, HL3.out, fun r hr => HR.out r (by rw [List.take_of_length_le (by omega)]; exact hr)⟩)
        go_wp2
        go_ret
        exact ⟨⟨_, rfl, fun _ => HEND.out⟩, HB.out⟩
end Go.Proofs.Ytpplcbpnojggcaa

namespace Go.Proofs.Ytpplcbpnojggcaa
open Go.ChangeShapes Go.WideShapes Go.Deep Go.Joins Go.RowKit

theorem cellsInts9 : Try.prog.cellsOf 75 = 1 := by kernel_rfl
theorem cellsLists9 : Try.prog.cellsOf 76 = 1 := by kernel_rfl
theorem cellsColours9 : Try.prog.cellsOf 78 = 2 := by kernel_rfl
instance : Inhabited PR := ⟨⟨none, [], 0⟩⟩
set_option maxRecDepth 100000
section
variable {H : Type} {enc : TypeId × Value → H} {w : World}
/-- What the rows of a table keep. -/
def TabOk (T : List PR) : Prop := ∀ x ∈ T, (x.a = none → x.c = 0) ∧ x.l.length ≤ x.c ∧ x.c ≤ maxLen ∧ ∀ y ∈ x.l, OkI y
theorem open_lists {n : Nat} {v : Value} {x : DataW H × List MemPlace} (h : DataW.trod enc Try.prog w 0 (fun _ => true) true n 76 [v] = some x) :
    ∃ (a : Option Addr) (c : Nat) (T : List PR), v = .slice a T.length c ∧ T.length ≤ c ∧ c ≤ maxLen ∧ TabAt w a T ∧ (a = none → c = 0) ∧ TabOk T := by
  rcases open_slice1 Try.underlying76 cellsInts9 h with ⟨e, _⟩ | ⟨a, len, cap, m, k, V, D, Pl, e, _, hl, hm, hmm, _, hi⟩
  · simp only [List.cons.injEq, and_true] at e
    exact ⟨none, 0, [], e, Nat.le_refl _, Nat.zero_le _, ⟨fun k hk => absurd hk (Nat.not_lt_zero _), fun y hy => by cases hy⟩, fun _ => rfl, fun y hy => by cases hy⟩
  · simp only [List.cons.injEq, and_true] at e
    have hmc : m = cap := by simpa using hmm
    subst hmc
    have hex : ∀ i, i < m → ∃ y : PR, w.cell? (a.add i) = some (.slice y.a y.l.length y.c) ∧ RowsAt 1 intL w y.a y.l ∧ ((y.a = none → y.c = 0) ∧ y.l.length ≤ y.c ∧ y.c ≤ maxLen ∧ ∀ z ∈ y.l, OkI z) := fun i him => by
      obtain ⟨hc', ht'⟩ := hi i him
      obtain ⟨a2, c2, l2, e2, hl2, hm2, hi2, hn2, ho2⟩ := open_nums ht'
      exact ⟨⟨a2, l2, c2⟩, by rw [hc', e2], hi2, hn2, hl2, hm2, ho2⟩
    obtain ⟨X, hX⟩ := choose_lt hex
    refine ⟨some a, m, (List.range len).map X, by simpa using e, by simpa using hl, hm, ⟨fun k hk => ?_, fun y hy => ?_⟩, fun e => (by cases e), fun y hy => ?_⟩
    · have hk' : k < len := by simpa using hk
      rw [range_get len X hk]
      have h1 := (hX k (by omega)).1
      refine ⟨a, rfl, by have := cell_lt h1; rwa [add_block] at this, fun j hj => ?_⟩
      have hj0 : j = 0 := by omega
      subst hj0
      rw [Nat.mul_one]; exact h1
    · obtain ⟨i, hi', rfl⟩ := List.mem_map.1 hy
      exact (hX i (by have := List.mem_range.1 hi'; omega)).2.1
    · obtain ⟨i, hi', rfl⟩ := List.mem_map.1 hy
      exact (hX i (by have := List.mem_range.1 hi'; omega)).2.2
/-- What colours keep. -/
structure ColsIn (x : Cols) : Prop where
  mlen : x.m.length ≤ x.mc
  mcap : x.mc ≤ maxLen
  mnil : x.ma = none → x.mc = 0
  mok : ∀ y ∈ x.m, OkI y
  tlen : x.T.length ≤ x.dc
  tcap : x.dc ≤ maxLen
  tnil : x.da = none → x.dc = 0
  tok : TabOk x.T
theorem open_colours {r : Reach} {b0 : Nat} {v : Value} {d : DataW H} {p : List MemPlace} (hv : Value.okWide Try.prog w r b0 78 v) (h : DataW.Trod enc Try.prog w 0 (fun _ => true) true 78 v d p) :
    ∃ X : Cols, v = X.v ∧ ColsAt w X ∧ ColsIn X := by
  obtain ⟨cs, rfl, hsz⟩ := okWide_struct Try.underlying78 hv
  obtain ⟨k⟩ := cs
  match k, hsz.trans cellsColours9 with
  | [c0, c1], _ =>
    obtain ⟨fuel, hf⟩ := h
    obtain ⟨y0, y1, n, _, _, h0, h1⟩ := trod_struct2 Try.underlying78 (by simpa [Value.cells] using hf)
    obtain ⟨a0, n0, l0, rfl, p1, p2, p3, p4, p5⟩ := open_nums (n := n) (v := c0) (x := y0) (by simpa [cellsInts9] using h0)
    obtain ⟨a1, n1, T, rfl, q1, q2, q3, q4, q5⟩ := open_lists (n := n) (v := c1) (x := y1) (by simpa [cellsInts9, cellsLists9] using h1)
    exact ⟨⟨a0, l0, n0, a1, T, n1⟩, rfl, ⟨p3, q3⟩, ⟨p1, p2, p4, p5, q1, q2, q4, q5⟩⟩
end
end Go.Proofs.Ytpplcbpnojggcaa

namespace Go.Proofs.Ytpplcbpnojggcaa
open Go.RowKit Go.Maps Go.Shelf

set_option maxRecDepth 100000 in
set_option maxHeartbeats 8000000 in
theorem bestOrder_walk (x : Cols) (w : World) (hx : ColsAt w x) (hin : ColsIn x) : Calls Try.prog 9 #[x.v] w (AggPost (.bool true) w) := by
  have hmm := Nat.le_trans hin.mlen hin.mcap
  have hTT := Nat.le_trans hin.tlen hin.tcap
  have hsz : ∀ r ∈ x.T, r.l.length ≤ maxLen := fun r hr => Nat.le_trans (hin.tok r hr).2.1 (hin.tok r hr).2.2.1
  have HFW0 := Lib.hid (fun W h => few_any x W h hmm hTT hsz)
  have HCC0 := Lib.hid (fun W h => refCheckColours_any x W h hmm hTT hsz)
  have HCP0 := Lib.hid (fun (hf : fewP x) W h => copyColours_any x W h (Nat.le_trans hf.1 (by decide)) (Nat.le_trans hf.2.2.1 (by decide)) hin.mnil (fun r hr => Nat.le_trans (hf.2.2.2 r hr) (by decide)) (fun r hr => (hin.tok r hr).1))
  have HBN0 := Lib.hid (fun (y : Cols) (hs : SameC x y) (c : Nat) W h (hE : x.m.length ≤ 6 → OrdsEnd x.m.length c) (hB : colsErr y = 0 → BoundOk y (bndOf y c)) => bestOrderN_any y c W h (by rw [hs.m]; exact hmm) (by rw [hs.len]; exact hTT) (by rw [hs.m]; exact hE) hB)
  have HPT0 : Hid (∀ (bd : Int) (y : Cols) (T T' : List Nd), SameC x y → SameN T T' → colsErr x = 0 → ctR x bd T = (0, 0) → ∀ a4 c4 W, NodesAt W a4 T' → ColsAt W y → Calls Try.prog 55 #[y.v, .int .i64 bd, .slice a4 T'.length c4] W (TwoPost (0, 0) W)) := Lib.hid (fun bd y T T' hs ht h0 hct a4 c4 W h h2 => by
    have h9 := checkColourTree_any y bd T' a4 c4 W h h2 (by rw [hs.m]; exact hmm) (by rw [hs.len]; exact hTT)
    have e : cctF y bd T' = (0, 0) := by unfold cctF; rw [hs.err, if_neg (fun e => e h0), ctR_same hs ht, hct]
    rw [e] at h9; exact h9)
  have HRT0 := Lib.hid (fun (hok : ColsOk x) (bd : Int) (T : List Nd) (ta : Option Addr) (tc : Nat) (hz : ∀ z ∈ T, z.nx.length ≤ 6 ∧ (z.a = none → z.c = 0)) W h h2 => refCheckColourTree_any x bd T ta tc W hok (fun z hz2 => Nat.le_trans (hz z hz2).1 (by decide)) h h2)
  have HCT : Hid (∀ (T : List Nd) (ta : Option Addr) (tc : Nat), (∀ z ∈ T, z.nx.length ≤ 6 ∧ (z.a = none → z.c = 0)) → T.length ≤ 1957 → ∀ W, NodesAt W ta T → Calls Try.prog 56 #[.slice ta T.length tc] W (CTPost T W)) := Lib.hid (fun T ta tc hz hl W h => copyTree_any T ta tc W h (by omega) (fun z hz2 => Nat.le_trans (hz z hz2).1 (by decide)) (fun z hz2 => (hz z hz2).2))
  have HRB0 := Lib.hid (fun (hok : ColsOk x) (h5 : x.m.length ≤ 5) W h => refBestOrder_any x W h hok h5)
  have HX0 := Lib.hid (hx.below ((Below.refl w.heap.size w).alloc (Nat.le_refl _) (.cells #[.slice x.ma x.m.length x.mc, .slice x.da x.T.length x.dc] 78)))
  have BX0 := Lib.hid (BoxAt.new w #[.slice x.ma x.m.length x.mc, .slice x.da x.T.length x.dc] 78)
  have HB0 := Lib.hid ((Below.refl w.heap.size w).alloc (Nat.le_refl _) (.cells #[.slice x.ma x.m.length x.mc, .slice x.da x.T.length x.dc] 78))
  obtain ⟨FP, hFP⟩ : ∃ FP, FP = fewP x := ⟨_, rfl⟩
  have HFX := Lib.hid (show FP → fewP x from fun h => by rw [hFP] at h; exact h)
  rw [← hFP] at HFW0
  clear hmm hTT hsz hx hin hFP
  show Calls _ _ #[.agg #[.slice x.ma x.m.length x.mc, .slice x.da x.T.length x.dc]] _ _
  have HFW : Hid (∀ W, ColsAt W x → Calls Try.prog 44 #[.agg #[.slice x.ma x.m.length x.mc, .slice x.da x.T.length x.dc]] W (FewPost FP W)) := HFW0
  have HCC1 : Hid (∀ W, ColsAt W x → Calls Try.prog 48 #[.agg #[.slice x.ma x.m.length x.mc, .slice x.da x.T.length x.dc]] W (CheckPost (colsErr x) W)) := HCC0
  have HCP1 : Hid (∀ (hf : fewP x) W, ColsAt W x → Calls Try.prog 46 #[.agg #[.slice x.ma x.m.length x.mc, .slice x.da x.T.length x.dc]] W (CCPost x W)) := HCP0
  have HRT1 : Hid (∀ (hok : ColsOk x) (bd : Int) (T : List Nd) (ta : Option Addr) (tc : Nat) (hz : ∀ z ∈ T, z.nx.length ≤ 6 ∧ (z.a = none → z.c = 0)) W, NodesAt W ta T → ColsAt W x → Calls Try.prog 54 #[.agg #[.slice x.ma x.m.length x.mc, .slice x.da x.T.length x.dc], .int .i64 bd, .slice ta T.length tc] W (TwoPost (ctR x bd T) W)) := HRT0
  have HRB1 : Hid (∀ (hok : ColsOk x) (h5 : x.m.length ≤ 5) W, ColsAt W x → Calls Try.prog 53 #[.agg #[.slice x.ma x.m.length x.mc, .slice x.da x.T.length x.dc]] W (RbPost (rbF (minsE x) (refOrds x.m.length x.m.length [])) W)) := HRB0
  clear HFW0 HCC0 HCP0 HRT0 HRB0
  have k0 : (w.alloc (.cells #[.slice x.ma x.m.length x.mc, .slice x.da x.T.length x.dc] 78)).cell? ⟨w.heap.size, 0, none⟩ = some (.slice x.ma x.m.length x.mc) := BX0.out.cell 0
  go_enter Try.func9, Try.ntmps9
  clear k0
  go_wp2_with (first
    | (go_at_call 17; refine (awake_any _).mono ?_; rintro e w1 ⟨rfl, hb1⟩; have HB1 := Lib.hid (HB0.out.trans (hb1.mono HB0.out.size)); have BX1 := Lib.hid (BX0.out.below hb1); have HX1 := Lib.hid (HX0.out.below hb1); have k0 : w1.cell? ⟨w.heap.size, 0, none⟩ = some (.slice x.ma x.m.length x.mc) := BX1.out.cell 0; have k1 : w1.cell? ⟨w.heap.size, 1, none⟩ = some (.slice x.da x.T.length x.dc) := BX1.out.cell 1; clear hb1)
    | (go_at_call 44; refine (HFW.out _ HX1.out).mono ?_; rintro e w2 ⟨⟨bb, rfl, hbb⟩, hb2⟩; have HB2 := Lib.hid (HB1.out.trans (hb2.mono HB1.out.size)); have BX2 := Lib.hid (BX1.out.below hb2); have HX2 := Lib.hid (HX1.out.below hb2); have k0 : w2.cell? ⟨w.heap.size, 0, none⟩ = some (.slice x.ma x.m.length x.mc) := BX2.out.cell 0; have k1 : w2.cell? ⟨w.heap.size, 1, none⟩ = some (.slice x.da x.T.length x.dc) := BX2.out.cell 1; clear hb2; cases bb))
  · go_ret
    exact ⟨rfl, HB2.out⟩
  have HF9 := Lib.hid (HFX.out (by first | exact hbb | exact hbb rfl | simpa using hbb))
  have HCP := Lib.hid (fun W h => HCP1.out HF9.out W h)
  have ST1 : True := trivial
  clear hbb HFX HFW HCP1
  by_cases h0 : colsErr x = 0
  · have HOK := Lib.hid (cols_right h0)
    have h5 : x.m.length ≤ 5 := HF9.out.2.1 HOK.out.le
    obtain ⟨c, F, le, er, fd, b1, b2, b3, b4, b5⟩ := best_both HOK.out h5
    have HPB0 : Hid (∀ bd : Int, bndOf x c = bd → 0 ≤ bd → bd ≤ 1000000 → BoundOk x bd → ∀ (y : Cols) (hs : SameC x y) W, ColsAt W y → Calls Try.prog 52 #[y.v] W (fun e W' => ∃ (va : Option Addr) (vc : Nat) (na : Option Addr) (nc : Nat) (T' : List Nd), e = .returned (.tuple #[.slice va F.length vc, .int .i64 le, .slice na T'.length nc, .int .i64 er]) ∧ RowsAt 1 intL W' va F ∧ NodesAt W' na T' ∧ (∀ z ∈ T', z.nx.length ≤ 6 ∧ (z.a = none → z.c = 0)) ∧ 1 ≤ T'.length ∧ T'.length ≤ 1957 ∧ ctR x bd T' = (0, 0) ∧ Below W.heap.size W W')) := Lib.hid (fun bd hbd g1 g2 hbo y hs W h => by
      have e1 : bestOf y c = bestOf x c := by unfold bestOf; rw [hs.m, show minsE y = minsE x from funext hs.mins]
      have e2 : bndOf y c = bd := by rw [← hbd]; unfold bndOf; rw [e1]
      have e3 : BoundOk y (bndOf y c) := by rw [e2]; intro O p1 p2 p3 p4; rw [hs.m] at p2 p3; rw [hs.mins] at p4 ⊢; exact hbo O p1 p2 p3 p4
      refine (HBN0.out y hs c W h (fun _ => b1) (fun _ => e3)).mono fun e W' hp => ?_
      rcases hp with ⟨p1, -⟩ | ⟨-, v, na, nc, T', p2, p3, p4, p5, p6, p7, p8, p9⟩
      · rw [hs.err] at p1; exact absurd h0 p1
      · rw [e1, b2] at p2 p3
        rw [e2, hs.m] at p8
        obtain ⟨va, vc, ev, hv, -⟩ := p3.rows int_l
        rw [ev] at p2
        have p8' : (chk x bd T' x.m.length 0 []).2 = 0 := by rw [← chk_same hs (⟨rfl, fun _ => rfl, fun _ => rfl⟩ : SameN T' T') bd]; exact p8
        exact ⟨va, vc, na, nc, T', p2, hv, p4, p5, p6, p7, ct_right g1 g2 p6 p7 p8', p9⟩)
    have HRB : Hid (∀ W, ColsAt W x → Calls Try.prog 53 #[.agg #[.slice x.ma x.m.length x.mc, .slice x.da x.T.length x.dc]] W (fun e W' => ∃ a q, e = .returned (.tuple #[.slice a F.length q, .int .i64 le, .bool fd]) ∧ RowsAt 1 intL W' a F ∧ Below W.heap.size W W')) := Lib.hid (fun W h => (HRB1.out HOK.out h5 W h).mono fun e W' hp => by
      obtain ⟨a, n, q, p1, p2, p3, p4⟩ := hp
      rw [b3] at p1 p2 p3
      subst p1
      exact ⟨a, q, p2, p3, p4⟩)
    have HRT : Hid (∀ (bd : Int) (T : List Nd) (ta : Option Addr) (tc : Nat) (hz : ∀ z ∈ T, z.nx.length ≤ 6 ∧ (z.a = none → z.c = 0)), ctR x bd T = (0, 0) → ∀ W, NodesAt W ta T → ColsAt W x → Calls Try.prog 54 #[.agg #[.slice x.ma x.m.length x.mc, .slice x.da x.T.length x.dc], .int .i64 bd, .slice ta T.length tc] W (TwoPost (0, 0) W)) := Lib.hid (fun bd T ta tc hz hct W h h2 => by
      have h9 := HRT1.out HOK.out bd T ta tc hz W h h2
      rw [hct] at h9; exact h9)
    have HPT1 := Lib.hid (fun (bd : Int) y T T' hs ht hct a4 c4 W h1 h2 => HPT0.out bd y T T' hs ht h0 hct a4 c4 W h1 h2)
    have HIN := Lib.hid (fun va vc ra rq W (h1 : RowsAt 1 intL W va F) (h2 : RowsAt 1 intL W ra F) => (ints_any va F vc ra F rq W h1 h2 (Nat.le_trans b4 (by decide)) (Nat.le_trans b4 (by decide))))
    have HCC : Hid (∀ W, ColsAt W x → Calls Try.prog 48 #[.agg #[.slice x.ma x.m.length x.mc, .slice x.da x.T.length x.dc]] W (CheckPost 0 W)) := Lib.hid (fun W h => by have h9 := HCC1.out W h; rw [h0] at h9; exact h9)
    have HBE := Lib.hid b2
    clear HRT1 HRB1 HCC1 HPT0 HBN0 b1 b2 b3 b4 h5 h0
    rcases b5 with ⟨rfl, rfl, rfl, rfl, hbo⟩ | ⟨rfl, rfl, hl0, hl1, hbo⟩
    · have HPB := Lib.hid (HPB0.out 1000000 (by unfold bndOf; rw [HBE.out]; rfl) (by decide) (by decide) hbo)
      have HRT := Lib.hid (HRT.out 1000000)
      have HPT := Lib.hid (HPT1.out 1000000)
      clear hbo HPB0 HPT1 HIN
      go_wp2_with (first
        | (go_at_call 46; have ST9 := ST1; clear ST9 ST1; refine (HCP.out _ HX2.out).mono ?_; rintro e w3 ⟨y, rfl, hs3, hc3, hb3⟩; have HS3 := Lib.hid hs3; have HC3 := Lib.hid hc3; have HB3 := Lib.hid (HB2.out.trans (hb3.mono HB2.out.size)); have BX3 := Lib.hid (BX2.out.below hb3); have HX3 := Lib.hid (HX2.out.below hb3); have k0 : w3.cell? ⟨w.heap.size, 0, none⟩ = some (.slice x.ma x.m.length x.mc) := BX3.out.cell 0; have k1 : w3.cell? ⟨w.heap.size, 1, none⟩ = some (.slice x.da x.T.length x.dc) := BX3.out.cell 1; clear hb3 hs3 hc3)
        | (go_at_call 52; refine (HPB.out y HS3.out _ HC3.out).mono ?_; rintro e w4 ⟨va, vc, na, nc, T', rfl, hv4, hn4, hz4, h14, h24, hct4, hb4⟩; have HV4 := Lib.hid hv4; have HN4 := Lib.hid hn4; have HZ4 := Lib.hid hz4; have H24 := Lib.hid h24; have HCT4 := Lib.hid hct4; have HB4 := Lib.hid (HB3.out.trans (hb4.mono HB3.out.size)); have BX4 := Lib.hid (BX3.out.below hb4); have HX4 := Lib.hid (HX3.out.below hb4); have k0 : w4.cell? ⟨w.heap.size, 0, none⟩ = some (.slice x.ma x.m.length x.mc) := BX4.out.cell 0; have k1 : w4.cell? ⟨w.heap.size, 1, none⟩ = some (.slice x.da x.T.length x.dc) := BX4.out.cell 1; clear hb4 hv4 hn4 hz4 h14 h24 hct4)
        | (go_at_call 48; refine (HCC.out _ HX4.out).mono ?_; rintro e w5 ⟨rfl, hb5⟩; have hb45 := hb5; have HB5 := Lib.hid (HB4.out.trans (hb5.mono HB4.out.size)); have BX5 := Lib.hid (BX4.out.below hb5); have HX5 := Lib.hid (HX4.out.below hb5); have k0 : w5.cell? ⟨w.heap.size, 0, none⟩ = some (.slice x.ma x.m.length x.mc) := BX5.out.cell 0; have k1 : w5.cell? ⟨w.heap.size, 1, none⟩ = some (.slice x.da x.T.length x.dc) := BX5.out.cell 1; have HB45 := Lib.hid hb45; clear hb5 hb45)
        | (go_at_call 53; refine (HRB.out _ HX5.out).mono ?_; rintro e w6 ⟨ra, rq, rfl, hr6, hb6⟩; have HR6 := Lib.hid hr6; have HB6 := Lib.hid (HB5.out.trans (hb6.mono HB5.out.size)); have BX6 := Lib.hid (BX5.out.below hb6); have HX6 := Lib.hid (HX5.out.below hb6); have k0 : w6.cell? ⟨w.heap.size, 0, none⟩ = some (.slice x.ma x.m.length x.mc) := BX6.out.cell 0; have k1 : w6.cell? ⟨w.heap.size, 1, none⟩ = some (.slice x.da x.T.length x.dc) := BX6.out.cell 1; have HB46 := Lib.hid (HB45.out.trans (hb6.mono HB45.out.size)); clear hb6 hr6)
        | (go_at_call 54; refine (HRT.out T' na nc HZ4.out HCT4.out _ (HN4.out.below HB46.out) HX6.out).mono ?_; rintro e w7 ⟨rfl, hb7⟩; have HB7 := Lib.hid (HB6.out.trans (hb7.mono HB6.out.size)); have BX7 := Lib.hid (BX6.out.below hb7); have HX7 := Lib.hid (HX6.out.below hb7); have k0 : w7.cell? ⟨w.heap.size, 0, none⟩ = some (.slice x.ma x.m.length x.mc) := BX7.out.cell 0; have k1 : w7.cell? ⟨w.heap.size, 1, none⟩ = some (.slice x.da x.T.length x.dc) := BX7.out.cell 1; have HB47 := Lib.hid (HB46.out.trans (hb7.mono HB46.out.size)); have HR7 := Lib.hid (HR6.out.below hb7); clear hb7)
        | (go_at_call 46; refine (HCP.out _ HX7.out).mono ?_; rintro e w8 ⟨z, rfl, hs8, hc8, hb8⟩; have HS8 := Lib.hid hs8; have HC8 := Lib.hid hc8; have HB8 := Lib.hid (HB7.out.trans (hb8.mono HB7.out.size)); have BX8 := Lib.hid (BX7.out.below hb8); have HX8 := Lib.hid (HX7.out.below hb8); have k0 : w8.cell? ⟨w.heap.size, 0, none⟩ = some (.slice x.ma x.m.length x.mc) := BX8.out.cell 0; have k1 : w8.cell? ⟨w.heap.size, 1, none⟩ = some (.slice x.da x.T.length x.dc) := BX8.out.cell 1; have HB48 := Lib.hid (HB47.out.trans (hb8.mono HB47.out.size)); have HR8 := Lib.hid (HR7.out.below hb8); clear hb8 hs8 hc8)
        | (go_at_call 56; refine (HCT.out T' na nc HZ4.out H24.out _ (HN4.out.below HB48.out)).mono ?_; rintro e w9 ⟨a9, c9, T9, rfl, hs9, hn9, hb9⟩; have HS9 := Lib.hid hs9; have HN9 := Lib.hid hn9; have HC9 := Lib.hid (HC8.out.below hb9); have HB9 := Lib.hid (HB8.out.trans (hb9.mono HB8.out.size)); have BX9 := Lib.hid (BX8.out.below hb9); have HX9 := Lib.hid (HX8.out.below hb9); have k0 : w9.cell? ⟨w.heap.size, 0, none⟩ = some (.slice x.ma x.m.length x.mc) := BX9.out.cell 0; have k1 : w9.cell? ⟨w.heap.size, 1, none⟩ = some (.slice x.da x.T.length x.dc) := BX9.out.cell 1; have HB49 := Lib.hid (HB48.out.trans (hb9.mono HB48.out.size)); have HR9 := Lib.hid (HR8.out.below hb9); clear hb9 hs9 hn9)
        | (go_at_call 55; refine (HPT.out z T' T9 HS8.out HS9.out HCT4.out a9 c9 _ HN9.out HC9.out).mono ?_; rintro e w10 ⟨rfl, hb10⟩; have HB10 := Lib.hid (HB9.out.trans (hb10.mono HB9.out.size)); have BX10 := Lib.hid (BX9.out.below hb10); have HX10 := Lib.hid (HX9.out.below hb10); have k0 : w10.cell? ⟨w.heap.size, 0, none⟩ = some (.slice x.ma x.m.length x.mc) := BX10.out.cell 0; have k1 : w10.cell? ⟨w.heap.size, 1, none⟩ = some (.slice x.da x.T.length x.dc) := BX10.out.cell 1; have HR10 := Lib.hid (HR9.out.below hb10); have HV10 := Lib.hid ((HV4.out.below HB49.out).below hb10); clear hb10))
      go_ret
      exact ⟨rfl, HB10.out⟩
    · have HPB := Lib.hid (HPB0.out le (by unfold bndOf; rw [HBE.out]; rfl) hl0 hl1 hbo)
      have HRT := Lib.hid (HRT.out le)
      have HPT := Lib.hid (HPT1.out le)
      clear hbo HPB0 HPT1 hl0 hl1
      go_wp2_with (first
        | (go_at_call 46; have ST9 := ST1; clear ST9 ST1; refine (HCP.out _ HX2.out).mono ?_; rintro e w3 ⟨y, rfl, hs3, hc3, hb3⟩; have HS3 := Lib.hid hs3; have HC3 := Lib.hid hc3; have HB3 := Lib.hid (HB2.out.trans (hb3.mono HB2.out.size)); have BX3 := Lib.hid (BX2.out.below hb3); have HX3 := Lib.hid (HX2.out.below hb3); have k0 : w3.cell? ⟨w.heap.size, 0, none⟩ = some (.slice x.ma x.m.length x.mc) := BX3.out.cell 0; have k1 : w3.cell? ⟨w.heap.size, 1, none⟩ = some (.slice x.da x.T.length x.dc) := BX3.out.cell 1; clear hb3 hs3 hc3)
        | (go_at_call 52; refine (HPB.out y HS3.out _ HC3.out).mono ?_; rintro e w4 ⟨va, vc, na, nc, T', rfl, hv4, hn4, hz4, h14, h24, hct4, hb4⟩; have HV4 := Lib.hid hv4; have HN4 := Lib.hid hn4; have HZ4 := Lib.hid hz4; have H24 := Lib.hid h24; have HCT4 := Lib.hid hct4; have HB4 := Lib.hid (HB3.out.trans (hb4.mono HB3.out.size)); have BX4 := Lib.hid (BX3.out.below hb4); have HX4 := Lib.hid (HX3.out.below hb4); have k0 : w4.cell? ⟨w.heap.size, 0, none⟩ = some (.slice x.ma x.m.length x.mc) := BX4.out.cell 0; have k1 : w4.cell? ⟨w.heap.size, 1, none⟩ = some (.slice x.da x.T.length x.dc) := BX4.out.cell 1; clear hb4 hv4 hn4 hz4 h14 h24 hct4)
        | (go_at_call 48; refine (HCC.out _ HX4.out).mono ?_; rintro e w5 ⟨rfl, hb5⟩; have hb45 := hb5; have HB5 := Lib.hid (HB4.out.trans (hb5.mono HB4.out.size)); have BX5 := Lib.hid (BX4.out.below hb5); have HX5 := Lib.hid (HX4.out.below hb5); have k0 : w5.cell? ⟨w.heap.size, 0, none⟩ = some (.slice x.ma x.m.length x.mc) := BX5.out.cell 0; have k1 : w5.cell? ⟨w.heap.size, 1, none⟩ = some (.slice x.da x.T.length x.dc) := BX5.out.cell 1; have HB45 := Lib.hid hb45; clear hb5 hb45)
        | (go_at_call 53; refine (HRB.out _ HX5.out).mono ?_; rintro e w6 ⟨ra, rq, rfl, hr6, hb6⟩; have HR6 := Lib.hid hr6; have HB6 := Lib.hid (HB5.out.trans (hb6.mono HB5.out.size)); have BX6 := Lib.hid (BX5.out.below hb6); have HX6 := Lib.hid (HX5.out.below hb6); have k0 : w6.cell? ⟨w.heap.size, 0, none⟩ = some (.slice x.ma x.m.length x.mc) := BX6.out.cell 0; have k1 : w6.cell? ⟨w.heap.size, 1, none⟩ = some (.slice x.da x.T.length x.dc) := BX6.out.cell 1; have HB46 := Lib.hid (HB45.out.trans (hb6.mono HB45.out.size)); clear hb6 hr6)
        | (go_at_call 54; refine (HRT.out T' na nc HZ4.out HCT4.out _ (HN4.out.below HB46.out) HX6.out).mono ?_; rintro e w7 ⟨rfl, hb7⟩; have HB7 := Lib.hid (HB6.out.trans (hb7.mono HB6.out.size)); have BX7 := Lib.hid (BX6.out.below hb7); have HX7 := Lib.hid (HX6.out.below hb7); have k0 : w7.cell? ⟨w.heap.size, 0, none⟩ = some (.slice x.ma x.m.length x.mc) := BX7.out.cell 0; have k1 : w7.cell? ⟨w.heap.size, 1, none⟩ = some (.slice x.da x.T.length x.dc) := BX7.out.cell 1; have HB47 := Lib.hid (HB46.out.trans (hb7.mono HB46.out.size)); have HR7 := Lib.hid (HR6.out.below hb7); clear hb7)
        | (go_at_call 46; refine (HCP.out _ HX7.out).mono ?_; rintro e w8 ⟨z, rfl, hs8, hc8, hb8⟩; have HS8 := Lib.hid hs8; have HC8 := Lib.hid hc8; have HB8 := Lib.hid (HB7.out.trans (hb8.mono HB7.out.size)); have BX8 := Lib.hid (BX7.out.below hb8); have HX8 := Lib.hid (HX7.out.below hb8); have k0 : w8.cell? ⟨w.heap.size, 0, none⟩ = some (.slice x.ma x.m.length x.mc) := BX8.out.cell 0; have k1 : w8.cell? ⟨w.heap.size, 1, none⟩ = some (.slice x.da x.T.length x.dc) := BX8.out.cell 1; have HB48 := Lib.hid (HB47.out.trans (hb8.mono HB47.out.size)); have HR8 := Lib.hid (HR7.out.below hb8); clear hb8 hs8 hc8)
        | (go_at_call 56; refine (HCT.out T' na nc HZ4.out H24.out _ (HN4.out.below HB48.out)).mono ?_; rintro e w9 ⟨a9, c9, T9, rfl, hs9, hn9, hb9⟩; have HS9 := Lib.hid hs9; have HN9 := Lib.hid hn9; have HC9 := Lib.hid (HC8.out.below hb9); have HB9 := Lib.hid (HB8.out.trans (hb9.mono HB8.out.size)); have BX9 := Lib.hid (BX8.out.below hb9); have HX9 := Lib.hid (HX8.out.below hb9); have k0 : w9.cell? ⟨w.heap.size, 0, none⟩ = some (.slice x.ma x.m.length x.mc) := BX9.out.cell 0; have k1 : w9.cell? ⟨w.heap.size, 1, none⟩ = some (.slice x.da x.T.length x.dc) := BX9.out.cell 1; have HB49 := Lib.hid (HB48.out.trans (hb9.mono HB48.out.size)); have HR9 := Lib.hid (HR8.out.below hb9); clear hb9 hs9 hn9)
        | (go_at_call 55; refine (HPT.out z T' T9 HS8.out HS9.out HCT4.out a9 c9 _ HN9.out HC9.out).mono ?_; rintro e w10 ⟨rfl, hb10⟩; have HB10 := Lib.hid (HB9.out.trans (hb10.mono HB9.out.size)); have BX10 := Lib.hid (BX9.out.below hb10); have HX10 := Lib.hid (HX9.out.below hb10); have k0 : w10.cell? ⟨w.heap.size, 0, none⟩ = some (.slice x.ma x.m.length x.mc) := BX10.out.cell 0; have k1 : w10.cell? ⟨w.heap.size, 1, none⟩ = some (.slice x.da x.T.length x.dc) := BX10.out.cell 1; have HR10 := Lib.hid (HR9.out.below hb10); have HV10 := Lib.hid ((HV4.out.below HB49.out).below hb10); clear hb10)
        | (go_at_call 57; refine (HIN.out va vc ra rq _ HV10.out HR10.out).mono ?_; rintro e w11 ⟨rfl, hd11⟩; have HB11 := Lib.hid (hd11.below HB10.out); clear hd11))
      go_ret
      exact ⟨rfl, HB11.out⟩
  · have HPB : Hid (∀ (y : Cols) (hs : SameC x y) W, ColsAt W y → Calls Try.prog 52 #[y.v] W (fun e W' => e = .returned (.tuple #[.slice none 0 0, .int .i64 0, .slice none 0 0, .int .i64 (colsErr x)]) ∧ Below W.heap.size W W')) := Lib.hid (fun y hs W h => by
      have hE : ∃ c, x.m.length ≤ 6 → OrdsEnd x.m.length c := by
        by_cases h6 : x.m.length ≤ 6
        · obtain ⟨c, hc, -⟩ := ords_all (HF9.out.2.1 h6)
          exact ⟨c, fun _ => hc⟩
        · exact ⟨0, fun h => absurd h h6⟩
      obtain ⟨c, hE⟩ := hE
      refine (HBN0.out y hs c W h hE (fun e => absurd (by rw [← hs.err]; exact e) h0)).mono fun e W' hp => ?_
      rcases hp with ⟨-, p2, p3⟩ | ⟨p1, -⟩
      · rw [hs.err] at p2; exact ⟨p2, p3⟩
      · rw [hs.err] at p1; exact absurd p1 h0)
    have HCC := HCC1
    have h0' : (colsErr x != 0) = true := by simpa using h0
    obtain ⟨e0, he0⟩ : ∃ e0, e0 = colsErr x := ⟨_, rfl⟩
    rw [← he0] at HPB HCC h0'
    clear h0 he0 HCC1 HRT1 HRB1 HPT0 HBN0
    go_wp2_with (first
      | (go_at_call 46; have ST9 := ST1; clear ST9 ST1; refine (HCP.out _ HX2.out).mono ?_; rintro e w3 ⟨y, rfl, hs3, hc3, hb3⟩; have HS3 := Lib.hid hs3; have HC3 := Lib.hid hc3; have HB3 := Lib.hid (HB2.out.trans (hb3.mono HB2.out.size)); have BX3 := Lib.hid (BX2.out.below hb3); have HX3 := Lib.hid (HX2.out.below hb3); have k0 : w3.cell? ⟨w.heap.size, 0, none⟩ = some (.slice x.ma x.m.length x.mc) := BX3.out.cell 0; have k1 : w3.cell? ⟨w.heap.size, 1, none⟩ = some (.slice x.da x.T.length x.dc) := BX3.out.cell 1; clear hb3 hs3 hc3)
      | (go_at_call 52; refine (HPB.out y HS3.out _ HC3.out).mono ?_; rintro e w4 ⟨rfl, hb4⟩; have HB4 := Lib.hid (HB3.out.trans (hb4.mono HB3.out.size)); have BX4 := Lib.hid (BX3.out.below hb4); have HX4 := Lib.hid (HX3.out.below hb4); have k0 : w4.cell? ⟨w.heap.size, 0, none⟩ = some (.slice x.ma x.m.length x.mc) := BX4.out.cell 0; have k1 : w4.cell? ⟨w.heap.size, 1, none⟩ = some (.slice x.da x.T.length x.dc) := BX4.out.cell 1; clear hb4)
      | (go_at_call 48; refine (HCC.out _ HX4.out).mono ?_; rintro e w5 ⟨rfl, hb5⟩; have hb45 := hb5; have HB5 := Lib.hid (HB4.out.trans (hb5.mono HB4.out.size)); have BX5 := Lib.hid (BX4.out.below hb5); have HX5 := Lib.hid (HX4.out.below hb5); have k0 : w5.cell? ⟨w.heap.size, 0, none⟩ = some (.slice x.ma x.m.length x.mc) := BX5.out.cell 0; have k1 : w5.cell? ⟨w.heap.size, 1, none⟩ = some (.slice x.da x.T.length x.dc) := BX5.out.cell 1; have HB45 := Lib.hid hb45; clear hb5 hb45))
    go_ret
    exact ⟨rfl, HB5.out⟩
end Go.Proofs.Ytpplcbpnojggcaa
