/-
  Package press: what an order of colours takes.
-/
import Derived.Test.YtdgegebplebeoaaGreatDoorEZ
import Derived.Test.YtdgegebplebeoaaGreatDoorEH
namespace Go.Proofs.YtdgegebplebeoaaGreatDoor
open Go.RowKit Go.Maps Go.Shelf

def noPR : PR := ⟨none, [], 0⟩
def dryI (x : Cols) (e c : Nat) : Int := (x.T.getD e noPR).l.getD c 0
def begK (x : Cols) (O E : List Int) (c : Nat) (e0 : Int) : Nat → Int
  | 0 => e0
  | k + 1 => max (begK x O E c e0 k) (E.getD k 0 + dryI x (O.getD k 0).toNat c)
def clashK (x : Cols) (O : List Int) (c : Nat) : Nat → Bool
  | 0 => false
  | k + 1 => clashK x O c k || (dryI x (O.getD k 0).toNat c == -1)
def ordK (x : Cols) (O : List Int) : Nat → List Int × Int
  | 0 => (List.replicate O.length 0, 0)
  | k + 1 => ((ordK x O k).1.set k (begK x O (ordK x O k).1 (O.getD k 0).toNat (ordK x O k).2 k + x.m.getD (O.getD k 0).toNat 0), begK x O (ordK x O k).1 (O.getD k 0).toNat (ordK x O k).2 k + x.m.getD (O.getD k 0).toNat 0)
def clashO (x : Cols) (O : List Int) : Nat → Bool
  | 0 => false
  | k + 1 => clashO x O k || clashK x O (O.getD k 0).toNat k
def minsE (x : Cols) (O : List Int) : Int × Int := if clashO x O O.length then (0, 13) else ((ordK x O O.length).2, 0)
/-- Right colours. -/
structure ColsOk (x : Cols) : Prop where
  le : x.m.length ≤ 6
  mins : ∀ y ∈ x.m, 0 ≤ y ∧ y ≤ 10000
  len : x.T.length = x.m.length
  rows : ∀ r ∈ x.T, r.l.length = x.m.length ∧ ∀ y ∈ r.l, -1 ≤ y ∧ y ≤ 10000
theorem cols_right {x : Cols} (h : colsErr x = 0) : ColsOk x := by
  obtain ⟨h1, h2, h3, h4⟩ := cols_ok h
  exact ⟨h1, h2, h3, h4⟩
theorem getD_bd {L : List Int} {lo hi : Int} (h : ∀ y ∈ L, lo ≤ y ∧ y ≤ hi) (h0 : lo ≤ 0 ∧ 0 ≤ hi) (k : Nat) : lo ≤ L.getD k 0 ∧ L.getD k 0 ≤ hi := by
  rcases Nat.lt_or_ge k L.length with hk | hk
  · rw [getD_eqI hk]; exact h _ (List.getElem_mem hk)
  · rw [List.getD_eq_getElem?_getD, List.getElem?_eq_none hk]; exact h0
theorem dry_bd {x : Cols} (h : ColsOk x) (e c : Nat) : -1 ≤ dryI x e c ∧ dryI x e c ≤ 10000 := by
  unfold dryI
  rcases Nat.lt_or_ge e x.T.length with he | he
  · have : x.T.getD e noPR = x.T[e] := by rw [List.getD_eq_getElem?_getD, List.getElem?_eq_getElem he]; rfl
    rw [this]
    exact getD_bd (h.rows _ (List.getElem_mem he)).2 (by omega) c
  · have : x.T.getD e noPR = noPR := by rw [List.getD_eq_getElem?_getD, List.getElem?_eq_none he]; rfl
    rw [this]
    show -1 ≤ ([] : List Int).getD c 0 ∧ ([] : List Int).getD c 0 ≤ 10000
    simp
theorem dry_at {x : Cols} {e c : Nat} (he : e < x.T.length) (hc : c < x.T[e].l.length) : dryI x e c = x.T[e].l[c] := by
  unfold dryI
  have : x.T.getD e noPR = x.T[e] := by rw [List.getD_eq_getElem?_getD, List.getElem?_eq_getElem he]; rfl
  rw [this, getD_eqI hc]
theorem beg_bd {x : Cols} (h : ColsOk x) (O E : List Int) (c : Nat) (e0 B : Int) (h0 : 0 ≤ e0 ∧ e0 ≤ B) (hE : ∀ y ∈ E, 0 ≤ y ∧ y ≤ B) : ∀ k, 0 ≤ begK x O E c e0 k ∧ begK x O E c e0 k ≤ B + 10000
  | 0 => by unfold begK; omega
  | k + 1 => by
    have h1 := beg_bd h O E c e0 B h0 hE k
    have h2 := dry_bd h (O.getD k 0).toNat c
    have h3 := getD_bd hE (by omega) k
    unfold begK
    omega
theorem ord_len (x : Cols) (O : List Int) : ∀ k, (ordK x O k).1.length = O.length
  | 0 => by simp [ordK]
  | k + 1 => by unfold ordK; simp [ord_len x O k]
theorem ord_bd {x : Cols} (h : ColsOk x) (O : List Int) : ∀ k, (∀ y ∈ (ordK x O k).1, 0 ≤ y ∧ y ≤ 20000 * k) ∧ 0 ≤ (ordK x O k).2 ∧ (ordK x O k).2 ≤ 20000 * k
  | 0 => ⟨fun y hy => by rw [List.eq_of_mem_replicate hy]; omega, by simp [ordK]⟩
  | k + 1 => by
    obtain ⟨h1, h2⟩ := ord_bd h O k
    have h3 := beg_bd h O (ordK x O k).1 (O.getD k 0).toNat (ordK x O k).2 (20000 * k) h2 h1 k
    have h4 := getD_bd h.mins (by omega) (O.getD k 0).toNat
    unfold ordK
    refine ⟨fun y hy => ?_, ?_⟩
    · rcases List.mem_or_eq_of_mem_set hy with hy | hy
      · have := h1 y hy; omega
      · rw [hy]; omega
    · dsimp only; omega
theorem clashO_mono {x : Cols} {O : List Int} {k : Nat} (h : clashO x O k = true) : ∀ n, k ≤ n → clashO x O n = true
  | 0, hn => by obtain rfl : k = 0 := by omega
                exact h
  | n + 1, hn => by
    rcases Nat.lt_or_ge k (n + 1) with hk | hk
    · unfold clashO; rw [clashO_mono h n (by omega)]; rfl
    · obtain rfl : k = n + 1 := by omega
      exact h
theorem clashK_mono {x : Cols} {O : List Int} {c k : Nat} (h : clashK x O c k = true) : ∀ n, k ≤ n → clashK x O c n = true
  | 0, hn => by obtain rfl : k = 0 := by omega
                exact h
  | n + 1, hn => by
    rcases Nat.lt_or_ge k (n + 1) with hk | hk
    · unfold clashK; rw [clashK_mono h n (by omega)]; rfl
    · obtain rfl : k = n + 1 := by omega
      exact h
theorem TabAt.pick {w : World} {a : Option Addr} {T : List PR} (h : TabAt w a T) {k : Nat} (hk : k < T.length) : ∃ ad ra rl rc, a = some ad ∧ ad.block < w.heap.size ∧ w.cell? (ad.add k) = some (.slice ra rl.length rc) ∧ RowsAt 1 intL w ra rl ∧ T[k] = ⟨ra, rl, rc⟩ := by
  obtain ⟨ad, e, hlt, hs⟩ := h.row hk
  exact ⟨ad, T[k].a, T[k].l, T[k].c, e, hlt, hs, h.ints _ (List.getElem_mem hk), rfl⟩
theorem dry_row {x : Cols} (hok : ColsOk x) {T : List PR} {e c : Nat} {ra : Option Addr} {rl : List Int} {rc : Nat} (hx : x.T = T) (he : e < T.length) (hr : T[e] = ⟨ra, rl, rc⟩) (hc : c < x.m.length) :
    ∃ d, (∃ h : c < rl.length, rl[c] = d) ∧ dryI x e c = d ∧ -1 ≤ d ∧ d ≤ 10000 := by
  subst hx
  have h1 := (hok.rows _ (List.getElem_mem he)).1
  have h2 : c < x.T[e].l.length := by omega
  have h3 := dry_at he h2
  have h4 := dry_bd hok e c
  have h5 : c < rl.length := by rw [hr] at h2; exact h2
  refine ⟨rl[c], ⟨h5, rfl⟩, ?_, ?_⟩
  · rw [h3]; simp only [hr]
  · have h6 : x.T[e].l[c] = rl[c] := by simp only [hr]
    rw [← h6, ← h3]; exact h4
def TwoPost (p : Int × Int) (w : World) (e : Ending) (w' : World) : Prop := e = .returned (.tuple #[.int .i64 p.1, .int .i64 p.2]) ∧ Below w.heap.size w w'
set_option maxRecDepth 100000 in
set_option maxHeartbeats 8000000 in
theorem minutesOf_any (x : Cols) (O : List Int) (a : Option Addr) (oc : Nat) (w : World) (hx : ColsAt w x) (hok : ColsOk x) (hO : RowsAt 1 intL w a O) (hc : O.length ≤ oc) (hol : O.length ≤ 6) (hin : ∀ y ∈ O, 0 ≤ y ∧ y < x.m.length) :
    Calls Tryz.prog 45 #[x.v, .slice a O.length oc] w (TwoPost (minsE x O) w) := by
  have HOK := Lib.hid hok; have HIN := Lib.hid hin
  obtain ⟨ma, m, mc, da, T, dc⟩ := x
  show Calls _ _ #[.agg #[.slice ma m.length mc, .slice da T.length dc], .slice a O.length oc] _ _
  obtain ⟨x, hxe⟩ : ∃ x : Cols, x = ⟨ma, m, mc, da, T, dc⟩ := ⟨_, rfl⟩
  have HXE := Lib.hid hxe
  rw [← hxe] at HOK HIN hx ⊢
  have HX := Lib.hid hx
  clear hok hin hxe hx
  have hmk := fun W => make_int O.length (by omega) W
  have bx := (BoxAt.new w #[.slice ma m.length mc, .slice da T.length dc] 55).alloc (.cells (madeCells #[.int .i64 0] O.length) 3)
  have im := IBox.made (w.alloc (.cells #[.slice ma m.length mc, .slice da T.length dc] 55)) O.length
  rw [show (w.alloc (.cells #[.slice ma m.length mc, .slice da T.length dc] 55)).heap.size = w.heap.size + 1 by simp] at im
  have hB0 := ((Below.refl w.heap.size w).alloc (Nat.le_refl _) (.cells #[.slice ma m.length mc, .slice da T.length dc] 55)).alloc (by simp) (.cells (madeCells #[.int .i64 0] O.length) 3)
  go_enter Tryz.func45, Tryz.ntmps45
  go_wp2_with fail
  obtain ⟨w0, hw0⟩ : ∃ w0, w0 = ((w.alloc (.cells #[.slice ma m.length mc, .slice da T.length dc] 55)).alloc (.cells (madeCells #[.int .i64 0] O.length) 3)) := ⟨_, rfl⟩
  rw [← hw0] at bx im hB0 ⊢
  clear hw0 hmk
  go_loopw [7, 19] (fun e i wr => ∃ k : Nat, k ≤ O.length ∧ i = .int .i64 k ∧ e = .int .i64 (ordK x O k).2 ∧ Hid (clashO x O k = false) ∧ BoxAt wr w.heap.size #[.slice ma m.length mc, .slice da T.length dc] 55 ∧ IBox wr (w.heap.size + 1) (ordK x O k).1 ∧ Below w.heap.size w wr) (fun _ i _ => O.length - (intOf i).toNat)
  case atStart => exact ⟨0, Nat.zero_le _, rfl, rfl, Lib.hid rfl, bx, im, hB0⟩
  case round =>
    obtain ⟨k, hk, rfl, rfl, HCL, bx, im, hB⟩ := hrel
    by_cases hlt : k < O.length
    · obtain ⟨ad, rfl, had, s0⟩ := (hO.below hB).int hlt
      have hCUT := cut_low (P := Tryz.prog) 49 ad O.length oc k intsUnder 1 intSize (by omega)
      have hci := HIN.out _ (List.getElem_mem hlt)
      have HGK := Lib.hid (getD_eqI (d := 0) hlt)
      obtain ⟨y, ey⟩ : ∃ y, y = O[k] := ⟨_, rfl⟩
      rw [← ey] at s0 hci HGK
      obtain ⟨cN, rfl⟩ : ∃ cN : Nat, y = cN := ⟨y.toNat, by omega⟩
      have HXW := HX.out.below hB
      have hcm : cN < m.length := by have := hci.2; rw [HXE.out] at this; exact Int.ofNat_lt.1 this
      rw [HXE.out] at HXW
      obtain ⟨mad, hma, hmad, s1⟩ := HXW.mins.int hcm
      have hma : ma = some mad := hma
      replace s1 : wr.cell? (mad.add cN) = some (.int .i64 m[cN]) := s1
      subst hma
      have hmb := HOK.out.mins m[cN] (by rw [HXE.out]; exact List.getElem_mem hcm)
      have HMC := Lib.hid (show x.m.getD (O.getD k 0).toNat 0 = m[cN] by rw [HGK.out, HXE.out]; show m.getD ((cN : Int)).toNat 0 = _; rw [show ((cN : Int)).toNat = cN by omega, getD_eqI hcm])
      have HST := Lib.hid (show ordK x O (k + 1) = ((ordK x O k).1.set k (begK x O (ordK x O k).1 (O.getD k 0).toNat (ordK x O k).2 k + x.m.getD (O.getD k 0).toNat 0), begK x O (ordK x O k).1 (O.getD k 0).toNat (ordK x O k).2 k + x.m.getD (O.getD k 0).toNat 0) from rfl)
      rw [HMC.out, HGK.out, show ((cN : Int)).toNat = cN by omega] at HST
      have HCS := Lib.hid (show clashO x O (k + 1) = (clashO x O k || clashK x O (O.getD k 0).toNat k) from rfl)
      rw [HGK.out, show ((cN : Int)).toNat = cN by omega, HCL.out, Bool.false_or] at HCS
      have hbd := ord_bd HOK.out O k
      have hlen := ord_len x O k
      obtain ⟨E, hE⟩ : ∃ E, E = (ordK x O k).1 := ⟨_, rfl⟩
      obtain ⟨e0, he0⟩ : ∃ e0, e0 = (ordK x O k).2 := ⟨_, rfl⟩
      rw [← hE, ← he0] at HST hbd
      rw [← hE] at hlen im
      rw [← he0]
      obtain ⟨mv, hmv⟩ : ∃ mv, mv = m[cN] := ⟨_, rfl⟩
      rw [← hmv] at s1 hmb HST
      have HBG := Lib.hid (fun j => beg_bd HOK.out O E cN e0 (20000 * k) hbd.2 hbd.1 j)
      have HEB := Lib.hid hbd.1
      have b0 : wr.cell? ⟨w.heap.size, 0, none⟩ = some (.slice (some mad) m.length mc) := bx.cell 0
      have b1 : wr.cell? ⟨w.heap.size, 1, none⟩ = some (.slice da T.length dc) := bx.cell 1
      have hcm' : (cN : Int) < (m.length : Int) := by omega
      have HTW := Lib.hid HXW.tab
      have HTL := Lib.hid (show T.length = m.length by have := HOK.out.len; rw [HXE.out] at this; exact this)
      have HOW := Lib.hid (hO.below hB)
      clear ey hci HXW hE he0 hmv hbd HMC HGK
      have HBX := Lib.hid bx
      clear bx
      go_wp2
      go_loop [10, 29] (fun b i => ∃ j : Nat, j ≤ k ∧ i = .int .i64 j ∧ b = .int .i64 (begK x O E cN e0 j) ∧ Hid (clashK x O cN j = false)) (fun _ i => k - (intOf i).toNat)
      case atStart => exact ⟨0, Nat.zero_le _, rfl, rfl, Lib.hid rfl⟩
      case round =>
        obtain ⟨j, hj, rfl, rfl, HCK⟩ := hrel
        by_cases hjk : j < k
        · have hjl : j < O.length := by omega
          obtain ⟨ad2, ea2, had2, s2⟩ := HOW.out.int hjl
          injection ea2 with ea2
          subst ea2
          have hei := HIN.out _ (List.getElem_mem hjl)
          have HGJ := Lib.hid (getD_eqI (d := 0) hjl)
          obtain ⟨y, ey⟩ : ∃ y, y = O[j] := ⟨_, rfl⟩
          rw [← ey] at s2 hei HGJ
          obtain ⟨eN, rfl⟩ : ∃ eN : Nat, y = eN := ⟨y.toNat, by omega⟩
          have heT : eN < T.length := by have := hei.2; rw [HXE.out] at this; have := Int.ofNat_lt.1 this; show eN < T.length; rw [HTL.out]; exact this
          obtain ⟨dad, ra, rl, rc, hda, hdad, s3, hrow, hrr⟩ := HTW.out.pick heT
          have hda : da = some dad := hda
          subst hda
          obtain ⟨d, ⟨hcr, ed⟩, hdr, hdb⟩ := dry_row HOK.out (T := T) (e := eN) (c := cN) (by rw [HXE.out]) heT hrr (by rw [HXE.out]; exact hcm)
          obtain ⟨rad, hra, hrad, s4⟩ := hrow.int hcr
          subst hra
          rw [ed] at s4
          have HDR := Lib.hid hdr
          have hcr' : (cN : Int) < (rl.length : Int) := by omega
          have heT' : (eN : Int) < (T.length : Int) := by omega
          have HCJ := Lib.hid (show clashK x O cN (j + 1) = (clashK x O cN j || (dryI x (O.getD j 0).toNat cN == -1)) from rfl)
          rw [HGJ.out, show ((eN : Int)).toNat = eN by omega, HDR.out, HCK.out, Bool.false_or] at HCJ
          clear ed hrow ey hei hrr hdr
          by_cases hd : d = -1
          · have hd' : (d == -1) = true := by simpa using hd
            have HE := Lib.hid (show minsE x O = (0, 13) by
              unfold minsE
              rw [if_pos (clashO_mono (k := k + 1) (by rw [HCS.out]; exact clashK_mono (k := j + 1) (by rw [HCJ.out]; exact hd') k (by omega)) _ (by omega))])
            clear hd
            go_wp2
            go_ret2
            exact ⟨two_to HE.out, hB⟩
          · have hd' : (d == -1) = false := by simpa using hd
            have hjE : j < E.length := by omega
            have cE := im.cell hjE
            have hgb := HEB.out _ (List.getElem_mem hjE)
            have HBS := Lib.hid (show begK x O E cN e0 (j + 1) = max (begK x O E cN e0 j) (E.getD j 0 + dryI x (O.getD j 0).toNat cN) from rfl)
            rw [HGJ.out, show ((eN : Int)).toNat = eN by omega, HDR.out, getD_eqI hjE] at HBS
            obtain ⟨g, hg⟩ : ∃ g, g = E[j] := ⟨_, rfl⟩
            rw [← hg] at cE hgb HBS
            have hbj := HBG.out j
            obtain ⟨bj, hbje⟩ : ∃ bj, bj = begK x O E cN e0 j := ⟨_, rfl⟩
            rw [← hbje] at HBS hbj ⊢
            have hw1 : IntKind.i64.wrap (g + d) = g + d := IntWalk.i64_in _ (by omega)
            have him := im.lt
            have hjO' : (j : Int) < (O.length : Int) := by omega
            clear hd hg hbje
            go_wp2
            go_round
            case rel => exact ⟨j + 1, by omega, by go_num, by rw [HBS.out], Lib.hid (by rw [HCJ.out]; exact hd')⟩
            case measure => simp [intOf]; omega
        · obtain rfl : j = k := by omega
          have him := im.lt
          have fz := im.free j
          have hjE : j < E.length := by omega
          have cE := im.cell hjE
          have hbj := HBG.out j
          obtain ⟨g, hg⟩ : ∃ g, g = E[j] := ⟨_, rfl⟩
          rw [← hg] at cE
          obtain ⟨bj, hbje⟩ : ∃ bj, bj = begK x O E cN e0 j := ⟨_, rfl⟩
          rw [← hbje] at HST hbj ⊢
          have hw1 : IntKind.i64.wrap (bj + mv) = bj + mv := IntWalk.i64_in _ (by omega)
          have HIM := Lib.hid (im.set j (bj + mv))
          have HBB := Lib.hid (hB.setCell (p := ⟨w.heap.size + 1, j, none⟩) (by show w.heap.size ≤ w.heap.size + 1; omega) (.int .i64 (bj + mv)))
          have HBXS := Lib.hid (HBX.out.set_other (p := ⟨w.heap.size + 1, j, none⟩) (by show w.heap.size ≠ w.heap.size + 1; omega) (.int .i64 (bj + mv)))
          have hjO' : (j : Int) < (O.length : Int) := by omega
          clear hg hbje
          go_wp2
          go_roundw
          case rel => exact ⟨j + 1, by omega, by go_num, by rw [HST.out], Lib.hid (by rw [HCS.out]; exact HCK.out), HBXS.out, by rw [HST.out]; exact HIM.out, HBB.out⟩
          case measure => simp [intOf]; omega
    · have HE := Lib.hid (show minsE x O = ((ordK x O k).2, 0) by
        obtain rfl : k = O.length := by omega
        unfold minsE
        rw [HCL.out]; rfl)
      go_wp2
      go_ret2
      exact ⟨two_to HE.out, hB⟩
end Go.Proofs.YtdgegebplebeoaaGreatDoor
