/-
  Package press: a run is read off its text by the reference: the walk (for PressTexts).
-/
import Derived.Test.YtdgegebplebeoaaGreatDoorXb
import Derived.Test.YtdgegebplebeoaaGreatDoorXa
import Derived.Test.YtdgegebplebeoaaGreatDoorEI

namespace Go.Proofs.YtdgegebplebeoaaGreatDoor
open Go.RowKit Go.Maps Go.Shelf

/-- What a text of a run is read as. -/
def RunPost (M : Run × Int) (w : World) (e : Ending) (w' : World) : Prop := ∃ (a : Option Addr) (c : Nat), e = .returned (.tuple #[runA M.1 a c, .int .i64 M.2]) ∧ RowsG 1 tx w' a M.1.cols ∧ M.1.cols.length ≤ c ∧ (a = none → c = 0) ∧ Below w.heap.size w w'
theorem res_run2 {fn : Func} {p q : Tmp} {tmps : Array Value} {Y : World} {d : Nat} {T : TypeId} {y x0 x1 x2 x3 x4 x5 x6 : Value} (hf : fn.results = #[.cell p 24, .tmp q]) (hp : tmps.getD p undef = .pointer (some ⟨d, 0, none⟩)) (hq : tmps.getD q undef = y) (h : BoxAt Y d #[x0, x1, x2, x3, x4, x5, x6] T) : (results fn tmps).run Tryz.prog Y = .ok (.tuple #[.agg #[x0, x1, x2, x3, x4, x5, x6], y]) Y := by
  have hl : (loadVar 24 ⟨d, 0, none⟩).run Tryz.prog Y = .ok (.agg #[x0, x1, x2, x3, x4, x5, x6]) Y := run_loadVar_row (P := Tryz.prog) Y d T 24 _ (0, 0) _ h Tryz.underlying24 rfl info_run
  have hp' : tmps[p]?.getD undef = .pointer (some ⟨d, 0, none⟩) := by simpa using hp
  have hq' : tmps[q]?.getD undef = y := by simpa using hq
  simp only [results, hf]
  simp [hp', hq', asAddr, hl]
theorem RowsG.cutc {w : World} {ad : Addr} {L : List ByteArray} (h : RowsG 1 tx w (some ad) L) {c k : Nat} (hc : L.length ≤ c) : RowsG 1 tx w (some (if c = k then ad else ad.add (k * 1))) (L.drop k) := by
  by_cases e : c = k
  · rw [if_pos e, List.drop_of_length_le (by omega)]
    intro j hj; exact absurd hj (by simp)
  · rw [if_neg e]
    intro j hj
    have hj' : k + j < L.length := by rw [List.length_drop] at hj; omega
    obtain ⟨ad', e, hlt, hs⟩ := h (k + j) hj'
    cases e
    refine ⟨_, rfl, by rw [add_block]; exact hlt, fun i hi => ?_⟩
    rw [List.getElem_drop]
    rw [show (ad.add (k * 1)).add (j * 1) = ad.add ((k + j) * 1) by
      rw [Nat.add_mul]
      unfold Addr.add
      by_cases h1 : k * 1 = 0
      · by_cases h2 : j * 1 = 0
        · rw [if_pos h2, if_pos h1, if_pos (by omega)]
        · rw [if_neg h2, if_pos h1, if_neg (by omega), h1, Nat.zero_add]
      · by_cases h2 : j * 1 = 0
        · rw [if_pos h2, if_neg h1, if_neg (by omega), h2, Nat.add_zero]
        · rw [if_neg h2, if_neg h1, if_neg (by omega), Nat.add_assoc]]
    exact hs i hi
theorem OwnG.rowsC {E : TypeId} {w : World} {B : Nat} {v : Value} {L : List ByteArray} (h : OwnG 1 E tx w B v L) (hne : 0 < L.length) : ∃ g c, v = .slice (some ⟨g, 0, none⟩) L.length c ∧ RowsG 1 tx w (some ⟨g, 0, none⟩) L ∧ L.length ≤ c ∧ B ≤ g := by
  obtain ⟨a, c0, e0, hr, -, -⟩ := h.rows tx_l
  rcases (show World.ownsRow _ _ _ _ _ _ _ from h).2 with ⟨-, h0⟩ | ⟨g, cap, cur, h1, h3, -, h2, -⟩
  · omega
  · rw [h1] at e0
    injection e0 with e1 e2 e3
    subst e1
    exact ⟨g, cap, h1, hr, h2, h3⟩
def Box5 (w : World) (b : Nat) (M : List Int) : Prop := BoxAt w b (vals M).toArray 75
theorem Box5.cell {w : World} {b : Nat} {M : List Int} (h : Box5 w b M) {k : Nat} (hk : k < M.length) : w.cell? ⟨b, k, none⟩ = some (.int .i64 M[k]) := by
  rw [BoxAt.cell h k, List.getElem?_toArray, vals_at hk]
theorem Box5.set {w : World} {b : Nat} {M : List Int} (h : Box5 w b M) (k : Nat) (v : Int) : Box5 (w.setCell ⟨b, k, none⟩ (.int .i64 v)) b (M.set k v) := by
  have h1 := BoxAt.set h k (.int .i64 v)
  have h2 : (vals M).toArray.setIfInBounds k (.int .i64 v) = (vals (M.set k v)).toArray := by
    simp [vals, List.map_set]
  rw [h2] at h1
  exact h1
theorem le_sum : ∀ {l : List Nat} {x : Nat}, x ∈ l → x ≤ l.sum
  | [], _, h => absurd h List.not_mem_nil
  | a :: r, x, h => by
    rw [List.sum_cons]
    rcases List.mem_cons.1 h with rfl | h
    · omega
    · have := le_sum h; omega
theorem split_size (m : UInt8) (l : List UInt8) : ∀ x ∈ splitOn m l, x.length ≤ l.length := by
  intro x hx
  have h1 := splitOn_len m l
  have h2 : x.length ≤ (splitOn m l).flatten.length := by
    obtain ⟨k, hk, rfl⟩ := List.getElem_of_mem hx
    rw [List.length_flatten]
    exact le_sum (List.mem_map.2 ⟨_, hx, rfl⟩)
  have h3 : 1 ≤ (splitOn m l).length := List.length_pos_iff.2 (splitOn_ne m l)
  omega
/-- The words of a text in memory. -/
structure Wds (ws : List (List UInt8)) (L : List ByteArray) : Prop where
  len : L.length = ws.length
  at_ : ∀ k (h : k < L.length), L[k].data.toList = ws.getD k []
  size : ∀ k (h : k < L.length), L[k].size ≤ 1000
  cnt : L.length ≤ 1001
theorem Wds.mk' {s : ByteArray} (hs : s.size ≤ 1000) : Wds (splitOn 32 s.data.toList) ((splitOn 32 s.data.toList).map bs) := by
  refine ⟨List.length_map _, fun k h => ?_, fun k h => ?_, by
    have hle : Lib.count s.data.toList [32] ≤ s.size := by rw [Lib.count_one]; exact Nat.le_trans List.count_le_length (by simp)
    rw [List.length_map, splitOn_count]; omega⟩
  · have h' : k < (splitOn 32 s.data.toList).length := by simpa using h
    rw [List.getElem_map, bs_data, List.getD_eq_getElem?_getD, List.getElem?_eq_getElem h']; rfl
  · have h' : k < (splitOn 32 s.data.toList).length := by simpa using h
    rw [List.getElem_map, bs_size]
    have h1 := split_size 32 _ _ (List.getElem_mem h')
    have e2 : s.data.toList.length = s.size := Array.length_toList
    omega
set_option maxRecDepth 100000 in
set_option maxHeartbeats 4000000 in
theorem refParseRun_any (s : ByteArray) (w : World) (hs : s.size ≤ 1000) :
    Calls Tryz.prog 9 #[.string s] w (RunPost (rdRun s.data.toList) w) := by
  have HW := Lib.hid (Wds.mk' hs)
  obtain ⟨M, hM⟩ : ∃ M, M = rdRun s.data.toList := ⟨_, rfl⟩
  obtain ⟨ws, hws⟩ : ∃ ws, ws = splitOn 32 s.data.toList := ⟨_, rfl⟩
  have HFEW := Lib.hid (fun (h : ws.length < 6) => show M = (noRun, 7) by rw [hM]; rw [hws] at h; exact rd_few h)
  have HNO := Lib.hid (fun (h : ¬ ws.length < 6) (i : Nat) (hi : i < 5) (hn : numI (ws.getD (i + 1) []) 7 = none) => show M = (noRun, 7) by rw [hM]; rw [hws] at h hn; exact rd_no h hi hn)
  have HERR := Lib.hid (fun (h : ¬ ws.length < 6) (N : List Int) (hN : N.length = 5) (hn : ∀ i, i < 5 → numI (ws.getD (i + 1) []) 7 = some (N.getD i 0)) (he : runErr (runOf ws N) ≠ 0) => show M = (noRun, runErr (runOf ws N)) by rw [hM]; rw [hws] at h hn he ⊢; exact rd_err h hN hn he)
  have HOKK := Lib.hid (fun (h : ¬ ws.length < 6) (N : List Int) (hN : N.length = 5) (hn : ∀ i, i < 5 → numI (ws.getD (i + 1) []) 7 = some (N.getD i 0)) (he : runErr (runOf ws N) = 0) => show M = (runOf ws N, 0) by rw [hM]; rw [hws] at h hn he ⊢; exact rd_ok h hN hn he)
  have HCUT := Lib.hid (fun W => show Calls Tryz.prog 28 #[.string s, .int .u8 32] W (fun e w' => Below W.heap.size W w' ∧ ∃ v, e = .returned v ∧ OwnG 1 9 tx w' W.heap.size v (ws.map bs)) by rw [hws]; exact cut_any s 32 W hs)
  rw [← hws] at HW
  obtain ⟨L, hL⟩ : ∃ L, L = ws.map bs := ⟨_, rfl⟩
  have HRUN := Lib.hid (fun (h : 0 < L.length) (N : List Int) => show (runOf ws N).job = L[0] ∧ (runOf ws N).cols = L.drop 6 by
    subst hL
    refine ⟨?_, ?_⟩
    · show bs (ws.getD 0 []) = _
      have h' : 0 < ws.length := by simpa using h
      rw [List.getElem_map, List.getD_eq_getElem?_getD, List.getElem?_eq_getElem h']; rfl
    · show (ws.drop 6).map bs = _
      rw [List.map_drop])
  have HL0 := Lib.hid (show 0 < L.length by
    rw [hL, List.length_map, hws]
    cases h : splitOn 32 s.data.toList with
    | nil => exact absurd h (splitOn_ne 32 _)
    | cons a r => simp)
  rw [← hL] at HCUT HW
  rw [← hM]
  clear hM hws hL hs
  have b0 := (BoxAt.new w #[.string ⟨#[]⟩, .int .i64 0, .int .i64 0, .int .i64 0, .slice none 0 0, .int .i64 0, .int .i64 0] 24).alloc (.cells #[.string ⟨#[]⟩, .int .i64 0, .int .i64 0, .int .i64 0, .slice none 0 0, .int .i64 0, .int .i64 0] 24)
  have b1 := BoxAt.new (w.alloc (.cells #[.string ⟨#[]⟩, .int .i64 0, .int .i64 0, .int .i64 0, .slice none 0 0, .int .i64 0, .int .i64 0] 24)) #[.string ⟨#[]⟩, .int .i64 0, .int .i64 0, .int .i64 0, .slice none 0 0, .int .i64 0, .int .i64 0] 24
  rw [World.size_alloc] at b1
  have hB0 := ((Below.refl w.heap.size w).alloc (Nat.le_refl _) (.cells #[.string ⟨#[]⟩, .int .i64 0, .int .i64 0, .int .i64 0, .slice none 0 0, .int .i64 0, .int .i64 0] 24)).alloc (by simp) (.cells #[.string ⟨#[]⟩, .int .i64 0, .int .i64 0, .int .i64 0, .slice none 0 0, .int .i64 0, .int .i64 0] 24)
  have HX0 := Lib.hid b0; have HY0 := Lib.hid b1; have HB0 := Lib.hid hB0
  clear b0 b1 hB0
  by_cases h6 : L.length < 6
  · have hM6 := HFEW.out (by have := HW.out.len; omega)
    have h6' : (L.length : Int) < 6 := by omega
    have HM6 := Lib.hid hM6
    clear hM6 h6
    go_enter Tryz.func9, Tryz.ntmps9
    go_wp2_with (first | (go_at_call 28; refine (HCUT.out _).mono ?_; rintro e w1 ⟨hb1, v, rfl, hO1⟩; have HX1 := Lib.hid (HX0.out.below hb1); have HY1 := Lib.hid (HY0.out.below hb1); have HB1 := Lib.hid (HB0.out.trans (hb1.mono HB0.out.size)); obtain ⟨g1, c1, rfl, hr1, hcap1, hlo1⟩ := hO1.rowsC HL0.out; have HR1 := Lib.hid hr1; have HC1 := Lib.hid hcap1; have HG1 := Lib.hid hlo1; clear hb1 hr1 hcap1 hlo1 hO1; have k0 := HY1.out.cell 0; have k1 := HY1.out.cell 1; have k2 := HY1.out.cell 2; have k3 := HY1.out.cell 3; have k4 := HY1.out.cell 4; have k5 := HY1.out.cell 5; have k6 := HY1.out.cell 6; have l2 := HY1.out.lt; have y0 := HX1.out.free 0; have y1 := HX1.out.free 1; have y2 := HX1.out.free 2; have y3 := HX1.out.free 3; have y4 := HX1.out.free 4; have y5 := HX1.out.free 5; have y6 := HX1.out.free 6; have m0 := HX1.out.cell 0; have m1 := HX1.out.cell 1; have m2 := HX1.out.cell 2; have m3 := HX1.out.cell 3; have m4 := HX1.out.cell 4; have m5 := HX1.out.cell 5; have m6 := HX1.out.cell 6; have l1 := HX1.out.lt; simp only [List.getElem?_toArray, List.getElem?_cons_zero, List.getElem?_cons_succ] at k0 k1 k2 k3 k4 k5 k6 m0 m1 m2 m3 m4 m5 m6))
    refine bodyPost_ret (res_run2 rfl rfl rfl (box7 HX1.out _ _ _ _ _ _ _)) rfl ⟨none, 0, by rw [HM6.out]; rfl, by rw [HM6.out]; intro j hj; exact absurd hj (by simp [noRun]), by rw [HM6.out]; exact Nat.le_refl _, fun _ => rfl, below7 HB1.out (Nat.le_refl _) _ _ _ _ _ _ _⟩
  go_enter Tryz.func9, Tryz.ntmps9
  go_wp2_with (first | (go_at_call 28; refine (HCUT.out _).mono ?_; rintro e w1 ⟨hb1, v, rfl, hO1⟩; have HX1 := Lib.hid (HX0.out.below hb1); have HY1 := Lib.hid (HY0.out.below hb1); have HB1 := Lib.hid (HB0.out.trans (hb1.mono HB0.out.size)); obtain ⟨g1, c1, rfl, hr1, hcap1, hlo1⟩ := hO1.rowsC HL0.out; have HR1 := Lib.hid hr1; have HC1 := Lib.hid hcap1; have HG1 := Lib.hid hlo1; clear hb1 hr1 hcap1 hlo1 hO1; have k0 := HY1.out.cell 0; have k1 := HY1.out.cell 1; have k2 := HY1.out.cell 2; have k3 := HY1.out.cell 3; have k4 := HY1.out.cell 4; have k5 := HY1.out.cell 5; have k6 := HY1.out.cell 6; have l2 := HY1.out.lt; have y0 := HX1.out.free 0; have y1 := HX1.out.free 1; have y2 := HX1.out.free 2; have y3 := HX1.out.free 3; have y4 := HX1.out.free 4; have y5 := HX1.out.free 5; have y6 := HX1.out.free 6; have m0 := HX1.out.cell 0; have m1 := HX1.out.cell 1; have m2 := HX1.out.cell 2; have m3 := HX1.out.cell 3; have m4 := HX1.out.cell 4; have m5 := HX1.out.cell 5; have m6 := HX1.out.cell 6; have l1 := HX1.out.lt; simp only [List.getElem?_toArray, List.getElem?_cons_zero, List.getElem?_cons_succ] at k0 k1 k2 k3 k4 k5 k6 m0 m1 m2 m3 m4 m5 m6))
  obtain ⟨d, hd⟩ : ∃ d, d = w1.heap.size := ⟨_, rfl⟩
  have hdw : w.heap.size + 1 < d := by rw [hd]; exact HY1.out.lt
  have hgd : g1 < d := by
    obtain ⟨ad, e, h, -⟩ := HR1.out.txt HL0.out
    injection e with e; subst e; rw [hd]; exact h
  have HZ5 : Hid (Box5 (w1.alloc (.cells #[.int .i64 0, .int .i64 0, .int .i64 0, .int .i64 0, .int .i64 0] 75)) d [0, 0, 0, 0, 0]) := Lib.hid (by rw [hd]; exact BoxAt.new w1 _ _)
  have HX2 := Lib.hid (HX1.out.alloc (.cells #[.int .i64 0, .int .i64 0, .int .i64 0, .int .i64 0, .int .i64 0] 75))
  have HY2 := Lib.hid (HY1.out.alloc (.cells #[.int .i64 0, .int .i64 0, .int .i64 0, .int .i64 0, .int .i64 0] 75))
  have HR2 := Lib.hid (HR1.out.alloc (.cells #[.int .i64 0, .int .i64 0, .int .i64 0, .int .i64 0, .int .i64 0] 75))
  have HB2 := Lib.hid (HB1.out.alloc HB1.out.size (.cells #[.int .i64 0, .int .i64 0, .int .i64 0, .int .i64 0, .int .i64 0] 75))
  have HG1' : Hid (w.heap.size + 1 < g1) := Lib.hid (by have h1 := HG1.out; simp at h1; omega)
  rw [← hd]
  obtain ⟨w2, hw2⟩ : ∃ w2, w2 = w1.alloc (.cells #[.int .i64 0, .int .i64 0, .int .i64 0, .int .i64 0, .int .i64 0] 75) := ⟨_, rfl⟩
  rw [← hw2] at HZ5 HX2 HY2 HR2 HB2 ⊢
  have hd2 : d < w2.heap.size := by rw [hw2, hd]; simp
  have HDW := Lib.hid hdw; have HGD := Lib.hid hgd
  clear hw2 hd HX1 HY1 HR1 HB1 HG1 k0 k1 k2 k3 k4 k5 k6 m0 m1 m2 m3 m4 m5 m6 y0 y1 y2 y3 y4 y5 y6 l1 l2 hdw hgd
  go_loopw [7] (fun i wr => ∃ (k : Nat) (V : List Int), k ≤ 5 ∧ V.length = 5 ∧ i = .int .i64 k ∧ Hid (∀ j, j < k → numI (ws.getD (j + 1) []) 7 = some (V.getD j 0)) ∧ Hid (BoxAt wr w.heap.size #[.string ⟨#[]⟩, .int .i64 0, .int .i64 0, .int .i64 0, .slice none 0 0, .int .i64 0, .int .i64 0] 24) ∧ Hid (BoxAt wr (w.heap.size + 1) #[.string ⟨#[]⟩, .int .i64 0, .int .i64 0, .int .i64 0, .slice none 0 0, .int .i64 0, .int .i64 0] 24) ∧ Hid (Box5 wr d V) ∧ Hid (RowsG 1 tx wr (some ⟨g1, 0, none⟩) L) ∧ Hid (Below w.heap.size w wr)) (fun i _ => 5 - (intOf i).toNat)
  case atStart => exact ⟨0, [0, 0, 0, 0, 0], by omega, rfl, rfl, Lib.hid (fun j h => by omega), HX2, HY2, HZ5, HR2, HB2⟩
  case round =>
    obtain ⟨k, V, hk, hV, rfl, HV, HX, HY, HQ, HR, HB⟩ := hrel
    clear HX2 HY2 HZ5 HR2 HB2 hd2
    have l5 : d < wr.heap.size := BoxAt.lt HQ.out
    have l1 := HX.out.lt; have l2 := HY.out.lt
    by_cases hlt : k < 5
    · have hki : (k : Int) < 5 := by omega
      have hkL : k + 1 < L.length := by omega
      have hkLi : (k : Int) + 1 < (L.length : Int) := by omega
      obtain ⟨ad, e9, had, s0⟩ := HR.out.txt hkL
      injection e9 with e9
      subst e9
      have hdat := HW.out.at_ (k + 1) hkL
      have hsz := HW.out.size (k + 1) hkL
      obtain ⟨x, ex⟩ : ∃ x, x = L[k + 1] := ⟨_, rfl⟩
      rw [← ex, add0] at s0
      rw [← ex] at hdat hsz
      have HNB := Lib.hid (fun W => number_any x 7 W (by decide) (by omega))
      rw [hdat] at HNB
      obtain ⟨o, ho⟩ : ∃ o, o = numI (ws.getD (k + 1) []) 7 := ⟨_, rfl⟩
      have HO := Lib.hid ho
      rw [← ho] at HNB
      clear ex ho hdat hsz
      cases o with
      | none =>
        have HM7 := Lib.hid (HNO.out (by have := HW.out.len; omega) k hlt HO.out.symm)
        have k0 := HY.out.cell 0; have k1 := HY.out.cell 1; have k2 := HY.out.cell 2; have k3 := HY.out.cell 3; have k4 := HY.out.cell 4; have k5 := HY.out.cell 5; have k6 := HY.out.cell 6; have y0 := HX.out.free 0; have y1 := HX.out.free 1; have y2 := HX.out.free 2; have y3 := HX.out.free 3; have y4 := HX.out.free 4; have y5 := HX.out.free 5; have y6 := HX.out.free 6; have m0 := HX.out.cell 0; have m1 := HX.out.cell 1; have m2 := HX.out.cell 2; have m3 := HX.out.cell 3; have m4 := HX.out.cell 4; have m5 := HX.out.cell 5; have m6 := HX.out.cell 6; simp only [List.getElem?_toArray, List.getElem?_cons_zero, List.getElem?_cons_succ] at k0 k1 k2 k3 k4 k5 k6 m0 m1 m2 m3 m4 m5 m6
        go_wp2_with (first | (go_at_call 29; refine (HNB.out _).mono ?_; rintro e w3 ⟨rfl, rfl⟩))
        refine bodyPost_ret (res_run2 rfl rfl rfl (box7 HX.out _ _ _ _ _ _ _)) rfl ⟨none, 0, by rw [HM7.out]; rfl, by rw [HM7.out]; intro j hj; exact absurd hj (by simp [noRun]), by rw [HM7.out]; exact Nat.le_refl _, fun _ => rfl, below7 HB.out (Nat.le_refl _) _ _ _ _ _ _ _⟩
      | some v =>
        have c5 : wr.cell? ⟨d, k, none⟩ = some (.int .i64 V[k]) := HQ.out.cell (by omega)
        have f5 := BoxAt.free HQ.out k
        go_wp2_with (first | (go_at_call 29; refine (HNB.out _).mono ?_; rintro e w3 ⟨rfl, rfl⟩))
        go_roundw
        case rel => exact ⟨k + 1, V.set k v, by omega, by rw [List.length_set]; exact hV, by go_num, Lib.hid (fun j hj => by
          by_cases e : j = k
          · subst e; rw [← HO.out, List.getD_eq_getElem?_getD, List.getElem?_set_self (by omega)]; rfl
          · rw [HV.out j (by omega), List.getD_eq_getElem?_getD, List.getD_eq_getElem?_getD, List.getElem?_set_ne (Ne.symm e)]), Lib.hid (HX.out.set_other (by have := HDW.out; show w.heap.size ≠ d; omega) _), Lib.hid (HY.out.set_other (by have := HDW.out; show w.heap.size + 1 ≠ d; omega) _), Lib.hid (HQ.out.set k v), Lib.hid (HR.out.set (p := ⟨d, k, none⟩) (fun ad e => by injection e with e; subst e; have := HGD.out; show g1 ≠ d; omega) _), Lib.hid (HB.out.setCell (p := ⟨d, k, none⟩) (by have := HDW.out; show w.heap.size ≤ d; omega) _)⟩
        case measure => simp [intOf]; omega
    · obtain rfl : k = 5 := by omega
      obtain ⟨v0, v1, v2, v3, v4, rfl⟩ : ∃ v0 v1 v2 v3 v4, V = [v0, v1, v2, v3, v4] := by
        match V, hV with
        | [a, b, c, d, e], _ => exact ⟨a, b, c, d, e, rfl⟩
      have c0 : wr.cell? ⟨d, 0, none⟩ = some (.int .i64 v0) := HQ.out.cell (k := 0) (by simp)
      have c1' : wr.cell? ⟨d, 1, none⟩ = some (.int .i64 v1) := HQ.out.cell (k := 1) (by simp)
      have c2 : wr.cell? ⟨d, 2, none⟩ = some (.int .i64 v2) := HQ.out.cell (k := 2) (by simp)
      have c3 : wr.cell? ⟨d, 3, none⟩ = some (.int .i64 v3) := HQ.out.cell (k := 3) (by simp)
      have c4 : wr.cell? ⟨d, 4, none⟩ = some (.int .i64 v4) := HQ.out.cell (k := 4) (by simp)
      obtain ⟨hjob, hcols⟩ := HRUN.out HL0.out [v0, v1, v2, v3, v4]
      obtain ⟨ad, e9, had, s0⟩ := HR.out.txt HL0.out
      injection e9 with e9
      subst e9
      rw [add0] at s0
      have hsz := HW.out.size 0 HL0.out
      rw [← hjob] at s0 hsz
      have hlen6 : 6 ≤ L.length := by omega
      obtain ⟨AD, hAD⟩ : ∃ AD, AD = (if c1 = 6 then (⟨g1, 0, none⟩ : Addr) else (⟨g1, 0, none⟩ : Addr).add (6 * 1)) := ⟨_, rfl⟩
      have hcut : ∀ W, (Instr.sliceAt 22 (.slice (some ⟨g1, 0, none⟩) L.length c1) (some (.int .i64 6)) none none).run Tryz.prog W = .ok (.slice (some AD) (L.length - 6) (c1 - 6)) W := fun W => by rw [hAD]; exact cut_high (P := Tryz.prog) 22 ⟨g1, 0, none⟩ L.length c1 6 strsUnder 1 strSize (by omega) W
      have hRX : RowsG 1 tx wr (some AD) (L.drop 6) := by rw [hAD]; exact HR.out.cutc HC1.out
      have hcsz : ∀ y ∈ L.drop 6, y.size ≤ 1000 := fun y hy => by
        obtain ⟨j, hj, rfl⟩ := List.getElem_of_mem hy
        rw [List.getElem_drop]
        exact HW.out.size _ _
      have hn6 : L.length - 6 = (L.drop 6).length := (List.length_drop ..).symm
      have HABL := Lib.hid (show AD.block = g1 by rw [hAD]; split <;> rfl)
      obtain ⟨n6, hn6'⟩ : ∃ n6, n6 = L.length - 6 := ⟨_, rfl⟩
      rw [← hn6', ← hcols] at hn6
      rw [← hcols] at hRX hcsz
      rw [← hn6'] at hcut
      obtain ⟨X, hX⟩ : ∃ X, X = runOf ws [v0, v1, v2, v3, v4] := ⟨_, rfl⟩
      have hXd : X.day = v0 ∧ X.wanted = v1 ∧ X.given = v2 ∧ X.ready = v3 ∧ X.hour = v4 := by rw [hX]; exact ⟨rfl, rfl, rfl, rfl, rfl⟩
      have HERR2 := Lib.hid (fun he => HERR.out (by have := HW.out.len; omega) [v0, v1, v2, v3, v4] rfl HV.out he)
      have HOK2 := Lib.hid (fun he => HOKK.out (by have := HW.out.len; omega) [v0, v1, v2, v3, v4] rfl HV.out he)
      rw [← hX] at HERR2 HOK2 hRX hcsz hn6 s0 hsz
      obtain ⟨job, day, wanted, given, cols, ready, hour⟩ := X
      dsimp only at hXd hRX hcsz hn6 s0 hsz
      obtain ⟨rfl, rfl, rfl, rfl, rfl⟩ := hXd
      have hcp : n6 ≤ c1 - 6 := by have := HC1.out; omega
      obtain ⟨c6, hc6⟩ : ∃ c6, c6 = c1 - 6 := ⟨_, rfl⟩
      rw [← hc6] at hcp hcut
      have HCP := Lib.hid hcp; have HN6 := Lib.hid hn6
      have hN1000 : L.length ≤ 2000 := by have := HW.out.cnt; omega
      have HCK := Lib.hid (fun W (h : RowsG 1 tx W (some AD) cols) => show Calls Tryz.prog 12 #[.agg #[.string job, .int .i64 day, .int .i64 wanted, .int .i64 given, .slice (some AD) n6 c6, .int .i64 ready, .int .i64 hour]] W (CheckPost (runErr ⟨job, day, wanted, given, cols, ready, hour⟩) W) by
        rw [HN6.out]
        exact refCheckRun_any ⟨job, day, wanted, given, cols, ready, hour⟩ (some AD) c6 W (by unfold maxLen; show job.size ≤ _; omega) h (by rw [← HN6.out]; exact HCP.out) (by rw [← HN6.out]; omega) (fun y hy => by have := hcsz y hy; unfold maxLen; omega))
      obtain ⟨er, her⟩ : ∃ er, er = runErr ⟨job, day, wanted, given, cols, ready, hour⟩ := ⟨_, rfl⟩
      rw [← her] at HCK HERR2 HOK2
      have HRX := Lib.hid hRX
      have bz := (BoxAt.new wr #[.string job, .int .i64 day, .int .i64 wanted, .int .i64 given, .slice (some AD) n6 c6, .int .i64 ready, .int .i64 hour] 24)
      have hkn : 0 < L.length := HL0.out
      have hkz : L.length ≠ 0 := by omega
      have hkl : (0 : Int) < (L.length : Int) := by omega
      clear hn6' hc6 hcp hcsz hRX hjob hcols hX her hlt hk hV HV hAD HFEW HNO HERR HOKK HRUN HCUT hN1000 hn6
      go_wp2_with fail
      go_region_held3 (fun w' => w'.cell? ⟨d, 0, none⟩ = some (.int .i64 day) ∧ w'.cell? ⟨d, 1, none⟩ = some (.int .i64 wanted) ∧ w'.cell? ⟨d, 2, none⟩ = some (.int .i64 given) ∧ w'.cell? ⟨d, 3, none⟩ = some (.int .i64 ready) ∧ w'.cell? ⟨d, 4, none⟩ = some (.int .i64 hour) ∧ w'.cell? ⟨g1, 0, none⟩ = some (.string job)) (go_keep) (fail)
      have h0 : Below w.heap.size w (wr.alloc (.cells #[.string job, .int .i64 day, .int .i64 wanted, .int .i64 given, .slice (some AD) n6 c6, .int .i64 ready, .int .i64 hour] 24)).drew := (HB.out.alloc HB.out.size _).drew
      have HB2 := Lib.hid h0
      have HX2 : Hid (BoxAt (wr.alloc (.cells #[.string job, .int .i64 day, .int .i64 wanted, .int .i64 given, .slice (some AD) n6 c6, .int .i64 ready, .int .i64 hour] 24)).drew _ _ _) := Lib.hid (HX.out.alloc _).drew
      have HY2 : Hid (BoxAt (wr.alloc (.cells #[.string job, .int .i64 day, .int .i64 wanted, .int .i64 given, .slice (some AD) n6 c6, .int .i64 ready, .int .i64 hour] 24)).drew _ _ _) := Lib.hid (HY.out.alloc _).drew
      have HZ2 : Hid (BoxAt (wr.alloc (.cells #[.string job, .int .i64 day, .int .i64 wanted, .int .i64 given, .slice (some AD) n6 c6, .int .i64 ready, .int .i64 hour] 24)).drew _ _ _) := Lib.hid bz.drew
      have HR2 : Hid (RowsG 1 tx (wr.alloc (.cells #[.string job, .int .i64 day, .int .i64 wanted, .int .i64 given, .slice (some AD) n6 c6, .int .i64 ready, .int .i64 hour] 24)).drew (some AD) cols) := Lib.hid (HRX.out.alloc _)
      have HXD := Lib.hid HX.out.lt
      clear h0 bz
      by_cases he : er = 0
      · have HMZ := Lib.hid (HOK2.out he)
        subst he
        go_wp2_with (go_at_call 12; refine (HCK.out _ HR2.out).mono ?_; rintro e w3 ⟨rfl, hb3⟩; have HX3 := Lib.hid (HX2.out.below hb3); have HY3 := Lib.hid (HY2.out.below hb3); have HZ3 := Lib.hid (HZ2.out.below hb3); have HR3 := Lib.hid (HR2.out.below hb3); have HB3 := Lib.hid (HB2.out.trans (hb3.mono HB2.out.size)); have k0 := HY3.out.cell 0; have k1 := HY3.out.cell 1; have k2 := HY3.out.cell 2; have k3 := HY3.out.cell 3; have k4 := HY3.out.cell 4; have k5 := HY3.out.cell 5; have k6 := HY3.out.cell 6; have y0 := HX3.out.free 0; have y1 := HX3.out.free 1; have y2 := HX3.out.free 2; have y3 := HX3.out.free 3; have y4 := HX3.out.free 4; have y5 := HX3.out.free 5; have y6 := HX3.out.free 6; have m0 := HX3.out.cell 0; have m1 := HX3.out.cell 1; have m2 := HX3.out.cell 2; have m3 := HX3.out.cell 3; have m4 := HX3.out.cell 4; have m5 := HX3.out.cell 5; have m6 := HX3.out.cell 6; have l3 := HX3.out.lt; have l4 := HY3.out.lt; have l5 := HZ3.out.lt; have n0 := HZ3.out.cell 0; have n1 := HZ3.out.cell 1; have n2 := HZ3.out.cell 2; have n3 := HZ3.out.cell 3; have n4 := HZ3.out.cell 4; have n5 := HZ3.out.cell 5; have n6c := HZ3.out.cell 6; simp only [List.getElem?_toArray, List.getElem?_cons_zero, List.getElem?_cons_succ] at k0 k1 k2 k3 k4 k5 k6 m0 m1 m2 m3 m4 m5 m6 n0 n1 n2 n3 n4 n5 n6c; clear hb3)
        have hne : ∀ ad, some AD = some ad → ad.block ≠ w.heap.size := fun ad e => by
          injection e with e
          have h1 := HABL.out; have h2 := HG1'.out
          rw [← e, h1]; omega
        exact bodyPost_ret (res_run2 rfl rfl rfl (box7 HX3.out _ _ _ _ _ _ _)) rfl ⟨some AD, c6, by rw [HMZ.out, HN6.out]; rfl, by rw [HMZ.out]; exact rowsG7 HR3.out hne _ _ _ _ _ _ _, by rw [HMZ.out, ← HN6.out]; exact HCP.out, nofun, below7 HB3.out (Nat.le_refl _) _ _ _ _ _ _ _⟩
      · have HMZ := Lib.hid (HERR2.out he)
        have heb : (er != 0) = true := by simpa using he
        go_wp2_with (go_at_call 12; refine (HCK.out _ HR2.out).mono ?_; rintro e w3 ⟨rfl, hb3⟩; have HX3 := Lib.hid (HX2.out.below hb3); have HY3 := Lib.hid (HY2.out.below hb3); have HZ3 := Lib.hid (HZ2.out.below hb3); have HR3 := Lib.hid (HR2.out.below hb3); have HB3 := Lib.hid (HB2.out.trans (hb3.mono HB2.out.size)); have k0 := HY3.out.cell 0; have k1 := HY3.out.cell 1; have k2 := HY3.out.cell 2; have k3 := HY3.out.cell 3; have k4 := HY3.out.cell 4; have k5 := HY3.out.cell 5; have k6 := HY3.out.cell 6; have y0 := HX3.out.free 0; have y1 := HX3.out.free 1; have y2 := HX3.out.free 2; have y3 := HX3.out.free 3; have y4 := HX3.out.free 4; have y5 := HX3.out.free 5; have y6 := HX3.out.free 6; have m0 := HX3.out.cell 0; have m1 := HX3.out.cell 1; have m2 := HX3.out.cell 2; have m3 := HX3.out.cell 3; have m4 := HX3.out.cell 4; have m5 := HX3.out.cell 5; have m6 := HX3.out.cell 6; have l3 := HX3.out.lt; have l4 := HY3.out.lt; have l5 := HZ3.out.lt; have n0 := HZ3.out.cell 0; have n1 := HZ3.out.cell 1; have n2 := HZ3.out.cell 2; have n3 := HZ3.out.cell 3; have n4 := HZ3.out.cell 4; have n5 := HZ3.out.cell 5; have n6c := HZ3.out.cell 6; simp only [List.getElem?_toArray, List.getElem?_cons_zero, List.getElem?_cons_succ] at k0 k1 k2 k3 k4 k5 k6 m0 m1 m2 m3 m4 m5 m6 n0 n1 n2 n3 n4 n5 n6c; clear hb3)
        exact bodyPost_ret (res_run2 rfl rfl rfl (box7 HX3.out _ _ _ _ _ _ _)) rfl ⟨none, 0, by rw [HMZ.out]; rfl, by rw [HMZ.out]; intro j hj; exact absurd hj (by simp [noRun]), by rw [HMZ.out]; exact Nat.le_refl _, fun _ => rfl, below7 HB3.out (Nat.le_refl _) _ _ _ _ _ _ _⟩
end Go.Proofs.YtdgegebplebeoaaGreatDoor

namespace Go.Proofs.YtdgegebplebeoaaGreatDoor
open Go.RowKit Go.Lib

theorem splitK_size (m : UInt8) : ∀ (k : Nat) (l : List UInt8), ∀ x ∈ splitK [m] 0 k l, x.length ≤ l.length
  | 0, l, x, hx => by
    have : splitK [m] 0 0 l = [l] := rfl
    rw [this] at hx
    rw [List.mem_singleton.1 hx]; exact Nat.le_refl _
  | k + 1, l, x, hx => by
    rw [splitK] at hx
    split at hx
    · rw [List.mem_singleton.1 hx]; exact Nat.le_refl _
    · rcases List.mem_cons.1 hx with rfl | hx
      · rw [List.length_take]; omega
      · have := splitK_size m k _ x hx
        rw [List.length_drop] at this; omega
theorem splitK_cnt (m : UInt8) (l : List UInt8) (k : Nat) : (splitK [m] 0 k l).length ≤ k + 1 := by
  rcases Nat.lt_or_ge k (count l [m]) with h | h
  · rw [splitK_len m l k (by omega)]; exact Nat.le_refl _
  · rw [splitK_over m l k h, splitOn_count]; omega
/-- What SplitN's words are to the words of the text. -/
structure PW (ws : List (List UInt8)) (P : List ByteArray) : Prop where
  few : P.length < 6 ↔ ws.length < 6
  at_ : ∀ j (h : j < P.length), j < 6 → P[j].data.toList = ws.getD j []
  size : ∀ k (h : k < P.length), P[k].size ≤ 1000
  cnt : P.length ≤ 13
  run : ∀ (h : 6 ≤ P.length) (N : List Int) (X : Run), X.job = P[0] → X.day = N.getD 0 0 → X.wanted = N.getD 1 0 → X.given = N.getD 2 0 → X.ready = N.getD 3 0 → X.hour = N.getD 4 0 → X.cols = P.drop 6 → runErr X = runErr (runOf ws N) ∧ (runErr X = 0 → X = runOf ws N)
theorem data_inj {x y : ByteArray} (h : x.data.toList = y.data.toList) : x = y := by rw [← data_bs x, h, data_bs]
theorem pw_any {s : ByteArray} (hs : s.size ≤ 1000) : PW (splitOn 32 s.data.toList) (splitB ⟨#[32]⟩ 0 (min 13 (s.size + 1) - 1) s) := by
  obtain ⟨hS1, hS2⟩ := splitB_some 32 s (N := 13) (by decide)
  have hS3 := fun k (hk : k < 6) h => splitB_take 32 s (N := 13) (k := k) (by omega) h
  have hd := splitB_data ⟨#[32]⟩ 0 (min 13 (s.size + 1) - 1) s
  obtain ⟨P, hP⟩ : ∃ P, P = splitB ⟨#[32]⟩ 0 (min 13 (s.size + 1) - 1) s := ⟨_, rfl⟩
  obtain ⟨ws, hws⟩ : ∃ ws, ws = splitOn 32 s.data.toList := ⟨_, rfl⟩
  rw [← hP] at hS1 hS2 hS3 hd
  rw [← hws] at hS1 hS2 hS3
  rw [← hP, ← hws]
  have hlen : P.length = (splitK [32] 0 (min 13 (s.size + 1) - 1) s.data.toList).length := by
    rw [← List.length_map (f := fun x : ByteArray => x.data.toList), hd]
  have hcnt : P.length ≤ 13 := by
    rw [hlen]
    have := splitK_cnt 32 s.data.toList (min 13 (s.size + 1) - 1)
    omega
  have hsz : ∀ k (h : k < P.length), P[k].size ≤ 1000 := fun k h => by
    have h1 : P[k].data.toList ∈ P.map (·.data.toList) := List.mem_map.2 ⟨_, List.getElem_mem h, rfl⟩
    rw [hd] at h1
    have h2 := splitK_size 32 _ _ _ h1
    have e1 : P[k].data.toList.length = P[k].size := Array.length_toList
    have e2 : s.data.toList.length = s.size := Array.length_toList
    omega
  by_cases h13 : 13 ≤ ws.length
  · have hP13 : 13 ≤ P.length := hS1.2 h13
    have hat : ∀ j (h : j < P.length), j < 6 → P[j].data.toList = ws.getD j [] := fun j h hj => by
      have h1 := hS3 j hj h13
      rw [List.getElem?_map, List.getElem?_eq_getElem h, List.getElem?_eq_getElem (by omega)] at h1
      rw [List.getD_eq_getElem?_getD, List.getElem?_eq_getElem (by omega)]
      exact Option.some.inj h1
    refine ⟨by omega, hat, hsz, hcnt, fun h N X h0 h1 h2 h3 h4 h5 h6 => ?_⟩
    have e0 : X.job = (runOf ws N).job := data_inj (by rw [h0, hat 0 (by omega) (by decide)]; rfl)
    have hm := runErr_many (x := X) (y := runOf ws N) e0 h1 h2 h3 (by rw [h6, List.length_drop]; omega) (by show 6 < ((ws.drop 6).map bs).length; rw [List.length_map, List.length_drop]; omega)
    exact ⟨hm.1, fun h => absurd h hm.2⟩
  · have hw := hS2 (by omega)
    have hPw : P = ws.map bs := by
      rw [← hw, List.map_map, show (bs ∘ fun s : ByteArray => s.data.toList) = id from funext fun s => data_bs s, List.map_id]
    have hPl : P.length = ws.length := by rw [hPw, List.length_map]
    have hat : ∀ j (h : j < P.length), j < 6 → P[j].data.toList = ws.getD j [] := fun j h hj => by
      have h1 : (P.map (·.data.toList))[j]? = ws[j]? := by rw [hw]
      rw [List.getElem?_map, List.getElem?_eq_getElem h, List.getElem?_eq_getElem (by omega)] at h1
      rw [List.getD_eq_getElem?_getD, List.getElem?_eq_getElem (by omega)]
      exact Option.some.inj h1
    refine ⟨by omega, hat, hsz, hcnt, fun h N X h0 h1 h2 h3 h4 h5 h6 => ?_⟩
    have e0 : X.job = (runOf ws N).job := data_inj (by rw [h0, hat 0 (by omega) (by decide)]; rfl)
    have e6 : X.cols = (runOf ws N).cols := by rw [h6, hPw, ← List.map_drop]; rfl
    have e : X = runOf ws N := by
      obtain ⟨a, b, c, d, e, f, g⟩ := X
      dsimp only at e0 h1 h2 h3 h4 h5 e6
      rw [e0, h1, h2, h3, h4, h5, e6]; rfl
    exact ⟨by rw [e], fun _ => e⟩
end Go.Proofs.YtdgegebplebeoaaGreatDoor

namespace Go.Proofs.YtdgegebplebeoaaGreatDoor
open Go.RowKit Go.Maps Go.Shelf

/-- The pointers to the numbers of a run. -/
def ptrs (b : Nat) : Array Value := #[.pointer (some ⟨b, 1, none⟩), .pointer (some ⟨b, 2, none⟩), .pointer (some ⟨b, 3, none⟩), .pointer (some ⟨b, 5, none⟩), .pointer (some ⟨b, 6, none⟩)]
def PtrPost (b : Nat) (w : World) (e : Ending) (w' : World) : Prop := e = .returned (.slice (some ⟨w.heap.size, 0, none⟩) 5 5) ∧ BoxAt w' w.heap.size (ptrs b) 66 ∧ Below w.heap.size w w'
set_option maxRecDepth 100000 in
set_option maxHeartbeats 2000000 in
theorem numbersOf_any (b : Nat) (w : World) : Calls Tryz.prog 21 #[.pointer (some ⟨b, 0, none⟩)] w (PtrPost b w) := by
  go_enter Tryz.func21, Tryz.ntmps21
  go_wp2_with fail
  go_region
  all_goals go_wp2
  all_goals go_ret
  all_goals first | exact ⟨rfl, BoxAt.new w.drew _ _, (Below.refl _ w).drew.alloc (Nat.le_refl _) _⟩ | exact ⟨rfl, BoxAt.new w _ _, ((Below.refl _ w).alloc (Nat.le_refl _) _).drew⟩ | exact ⟨rfl, BoxAt.new w _ _, (Below.refl _ w).alloc (Nat.le_refl _) _⟩
theorem box_apart {w : World} {B E T size n b : Nat} {v : Value} {xs : List Value} {cs : Array Value} (h : w.ownsRow B E size v n xs) (hb : BoxAt w b cs T) (hE : E ≠ T) : v.ownBlock ≠ some b := fun e => by
  rcases h.2 with ⟨e1, -⟩ | ⟨g, cap, cur, e1, -, e3, -⟩
  · rw [e1] at e; cases e
  · rw [e1] at e
    have e : g = b := by simpa [Value.ownBlock] using e
    subst e
    unfold BoxAt at hb
    rw [e3] at hb
    injection hb with hb
    injection hb with _ hb
    exact hE hb
theorem own_made1 (w : World) (B : Nat) (s : ByteArray) (hB : B ≤ w.heap.size) : OwnG 1 9 tx (w.alloc (.cells #[.string s] 9)) B (.slice (some ⟨w.heap.size, 0, none⟩) 1 1) [s] :=
  ⟨by simp [tx], .inr ⟨w.heap.size, 1, #[.string s], rfl, hB, heap_alloc_new w _, Nat.le_refl _, by unfold maxLen; decide, rfl, rfl⟩⟩
/-- Words as texts. -/
def wdT (L : List (List UInt8)) : List ByteArray := L.map bs
theorem wdT_next {x : Run} {k : Nat} (hk : k < 5) : wdT (wdN x (k + 1)) = wdT (wdN x k) ++ [bs (Lib.itoa ((numsOf x).getD k 0))] := by
  have hl : (numsOf x).length = 5 := rfl
  have e : wdN x (k + 1) = wdN x k ++ [Lib.itoa ((numsOf x).getD k 0)] := by
    unfold wdN
    rw [List.take_succ_eq_append_getElem (by omega), List.map_append, getD_eqI (by omega)]; rfl
  unfold wdT; rw [e, List.map_append]; rfl
theorem wdT_all (x : Run) : wdT (wdN x 5) ++ x.cols = wdT (wordsR x) := by
  show wdT (wdN x 5) ++ x.cols = (wdN x 5 ++ x.cols.map (·.data.toList)).map bs
  rw [List.map_append, List.map_map, show (bs ∘ fun s : ByteArray => s.data.toList) = id from funext fun s => data_bs s, List.map_id]; rfl
theorem wdT_len (x : Run) {k : Nat} (hk : k ≤ 5) : (wdT (wdN x k)).length = k + 1 := by
  unfold wdT wdN
  have hl : (numsOf x).length = 5 := rfl
  rw [List.length_map, List.length_cons, List.length_map, List.length_take, hl]; omega
theorem wdT_data (L : List (List UInt8)) : (wdT L).map (·.data.toList) = L := by
  unfold wdT; rw [List.map_map, show ((fun s : ByteArray => s.data.toList) ∘ bs) = id from funext fun s => bs_data s, List.map_id]
set_option maxRecDepth 100000 in
set_option maxHeartbeats 4000000 in
theorem formatRun_any (x : Run) (ca : Option Addr) (c : Nat) (w : World) (hj : x.job.size ≤ 30) (hr : RowsG 1 tx w ca x.cols) (hl : x.cols.length ≤ 8) (hcn : ca = none → c = 0) (hs : ∀ s ∈ x.cols, s.size ≤ 30) (hok : ∀ y ∈ numsOf x, OkI y) (hP : WF w) :
    Calls Tryz.prog 6 #[.agg #[.string x.job, .int .i64 x.day, .int .i64 x.wanted, .int .i64 x.given, .slice ca x.cols.length c, .int .i64 x.ready, .int .i64 x.hour]] w (StrPost w (fmtR x)) := by
  have HTN := Lib.hid (fun k (hk : k < 5) => wdT_next (x := x) hk)
  have HTL := Lib.hid (fun k (hk : k ≤ 5) => wdT_len x hk)
  have HTA := Lib.hid (wdT_all x)
  have HT0 := Lib.hid (show wdT (wdN x 0) = [x.job] by unfold wdT wdN; simp [data_bs])
  have HFM := Lib.hid (show Lib.join ((wdT (wordsR x)).map (·.data.toList)) [32] = fmtR x by rw [wdT_data]; rfl)
  have HFL := Lib.hid (show (fmtR x).length ≤ 1000 by
    have h1 := wdC_len hj hok hs x.cols.length (Nat.le_refl _)
    rw [wdC_end] at h1; omega)
  have HNU := Lib.hid (show numsOf x = [x.day, x.wanted, x.given, x.ready, x.hour] from rfl)
  have HOK := Lib.hid hok
  obtain ⟨R, hR⟩ : ∃ R, R = fmtR x := ⟨_, rfl⟩
  obtain ⟨tk, htk⟩ : ∃ tk : Nat → List ByteArray, tk = fun k => wdT (wdN x k) := ⟨_, rfl⟩
  obtain ⟨WA, hWA⟩ : ∃ WA, WA = wdT (wordsR x) := ⟨_, rfl⟩
  obtain ⟨N, hN⟩ : ∃ N, N = numsOf x := ⟨_, rfl⟩
  have TN1 : Hid (∀ k, k < 5 → tk (k + 1) = tk k ++ [bs (Lib.itoa (N.getD k 0))]) := Lib.hid (fun k hk => by rw [htk, hN]; exact HTN.out k hk)
  have TL1 : Hid (∀ k, k ≤ 5 → (tk k).length = k + 1) := Lib.hid (fun k hk => by rw [htk]; exact HTL.out k hk)
  have TA1 : Hid (tk 5 ++ x.cols = WA) := Lib.hid (by rw [htk, hWA]; exact HTA.out)
  have T01 : Hid (tk 0 = [x.job]) := Lib.hid (by rw [htk]; exact HT0.out)
  rw [← hWA, ← hR] at HFM
  rw [← hR] at HFL
  rw [← hN] at HOK HNU
  rw [← hR]
  clear hR htk hWA hN hok hs HTN HTL HTA HT0
  obtain ⟨job, day, wanted, given, cols, ready, hour⟩ := x
  dsimp only at TA1 T01 HNU hj hr hl ⊢
  have HC8 := Lib.hid hl; have HCN := Lib.hid hcn
  have b0 := (BoxAt.new w #[.string job, .int .i64 day, .int .i64 wanted, .int .i64 given, .slice ca cols.length c, .int .i64 ready, .int .i64 hour] 24).alloc (.cells #[.string job] 9)
  have hB0 := ((Below.refl w.heap.size w).alloc (Nat.le_refl _) (.cells #[.string job, .int .i64 day, .int .i64 wanted, .int .i64 given, .slice ca cols.length c, .int .i64 ready, .int .i64 hour] 24)).alloc (by simp) (.cells #[.string job] 9)
  have o0 := own_made1 (w.alloc (.cells #[.string job, .int .i64 day, .int .i64 wanted, .int .i64 given, .slice ca cols.length c, .int .i64 ready, .int .i64 hour] 24)) w.heap.size job (by simp)
  rw [World.size_alloc] at o0
  have HX0 := Lib.hid b0; have HB0 := Lib.hid hB0; have HO0 := Lib.hid o0; have HRW := Lib.hid hr; have HP0 := Lib.hid hP
  clear b0 hB0 o0 hr hP hj
  go_enter Tryz.func6, Tryz.ntmps6
  go_wp2_with (first | (go_at_call 21; refine (numbersOf_any _ _).mono ?_; rintro e w1 ⟨rfl, hbx, hb1⟩; have HX1 := Lib.hid (HX0.out.below hb1); have HO1 := Lib.hid (HO0.out.below hb1); have HB1 := Lib.hid (HB0.out.trans (hb1.mono HB0.out.size)); have HPT := Lib.hid hbx; clear hb1 hbx))
  obtain ⟨pb, hpb⟩ : ∃ pb, pb = ((w.alloc (.cells #[.string job, .int .i64 day, .int .i64 wanted, .int .i64 given, .slice ca cols.length c, .int .i64 ready, .int .i64 hour] 24)).alloc (.cells #[.string job] 9)).heap.size := ⟨_, rfl⟩
  have hpz : pb = w.heap.size + 1 + 1 := by rw [hpb]; simp
  rw [← hpb] at HPT
  rw [hpz] at HPT
  clear hpb hpz
  go_loopw [3, 11] (fun v i wr => ∃ (k : Nat), k ≤ 5 ∧ i = .int .i64 k ∧ OwnG 1 9 tx wr w.heap.size v (tk k) ∧ Hid (BoxAt wr w.heap.size #[.string job, .int .i64 day, .int .i64 wanted, .int .i64 given, .slice ca cols.length c, .int .i64 ready, .int .i64 hour] 24) ∧ Hid (BoxAt wr (w.heap.size + 1 + 1) (ptrs w.heap.size) 66) ∧ Hid (Below w.heap.size w wr)) (fun _ i _ => 5 - (intOf i).toNat)
  case atStart => exact ⟨0, by omega, rfl, by rw [T01.out]; exact HO1.out, HX1, HPT, HB1⟩
  case round =>
    obtain ⟨k, hk, rfl, hown, HX, HQ, HB⟩ := hrel
    obtain ⟨va, vc, ev, -⟩ := hown.rows tx_l
    have HKL := Lib.hid (TL1.out k hk)
    rw [HKL.out] at ev
    subst ev
    by_cases hlt : k < 5
    · have hki : (k : Int) < 5 := by omega
      obtain ⟨p, y, hp, hyc, hyN, hyo⟩ : ∃ (p : Nat) (y : Int), wr.cell? ⟨w.heap.size + 1 + 1, k, none⟩ = some (.pointer (some ⟨w.heap.size, p, none⟩)) ∧ wr.cell? ⟨w.heap.size, p, none⟩ = some (.int .i64 y) ∧ N.getD k 0 = y ∧ OkI y := by
        have h0 := HQ.out.cell k
        have h9 : k = 0 ∨ k = 1 ∨ k = 2 ∨ k = 3 ∨ k = 4 := by omega
        rcases h9 with rfl | rfl | rfl | rfl | rfl
        · exact ⟨1, day, h0, HX.out.cell 1, by rw [HNU.out]; rfl, HOK.out _ (by rw [HNU.out]; simp)⟩
        · exact ⟨2, wanted, h0, HX.out.cell 2, by rw [HNU.out]; rfl, HOK.out _ (by rw [HNU.out]; simp)⟩
        · exact ⟨3, given, h0, HX.out.cell 3, by rw [HNU.out]; rfl, HOK.out _ (by rw [HNU.out]; simp)⟩
        · exact ⟨5, ready, h0, HX.out.cell 5, by rw [HNU.out]; rfl, HOK.out _ (by rw [HNU.out]; simp)⟩
        · exact ⟨6, hour, h0, HX.out.cell 6, by rw [HNU.out]; rfl, HOK.out _ (by rw [HNU.out]; simp)⟩
      have HNX := Lib.hid (show tk (k + 1) = tk k ++ [bs (Lib.itoa y)] by rw [TN1.out k hlt, hyN])
      have HIT := Lib.hid (fun W h => itoaB_any y hyo W h)
      have HPW := Lib.hid (HP0.out.below HB.out)
      have HO := Lib.hid hown
      clear hown hyN hyo
      go_wp2_with (first
        | (go_at_call 22; refine (HIT.out _ HPW.out).mono ?_; rintro e w2 ⟨rfl, hb2⟩; have HO2 := Lib.hid (HO.out.below hb2); have HX2 := Lib.hid (HX.out.below hb2); have HQ2 := Lib.hid (HQ.out.below hb2); have HB2 := Lib.hid (HB.out.trans (hb2.mono HB.out.size)); clear hb2)
        | (at_builtin; refine wpList_appG1 tTx tx_l tx_one w2 (bs (Lib.itoa y)) _ rfl rfl _ _ rfl w.heap.size _ (tk k) rfl HO2.out rfl (by rw [HKL.out]; omega) HB2.out.size ?_; intro v3 w3 hO3 hg3 hb3 hor3))
      have HX3 := Lib.hid (HX2.out.grown hg3 (fun e => box_apart HO2.out HX2.out (by decide) e.symm))
      have HQ3 := Lib.hid (HQ2.out.grown hg3 (fun e => box_apart HO2.out HQ2.out (by decide) e.symm))
      go_roundw
      case rel => exact ⟨k + 1, by omega, by go_num, by rw [HNX.out]; exact hO3, HX3, HQ3, Lib.hid (HB2.out.trans hb3)⟩
      case measure => simp [intOf]; omega
    · obtain rfl : k = 5 := by omega
      have k4 : wr.cell? ⟨w.heap.size, 4, none⟩ = some (.slice ca cols.length c) := HX.out.cell 4
      have HRW2 := Lib.hid (HRW.out.below HB.out)
      have HO := Lib.hid hown
      have hWL : WA.length = cols.length + 6 := by rw [← TA1.out, List.length_append, HKL.out]; omega
      have HJN := Lib.hid (fun (bk c2 : Nat) W (h : ∀ (j : Nat) z, WA[j]? = some z → W.cell? ⟨bk, 0 + j, none⟩ = some (.string z)) (h2 : bk < W.heap.size) (h3 : WA.length ≤ c2) => Tryz.strings_Join bk 0 c2 WA ⟨#[32]⟩ W h h2 (by omega) h3 (by
        show (Lib.join (WA.map (·.data.toList)) [32]).length ≤ _
        rw [HFM.out]; have := HFL.out; omega))
      have HWL := Lib.hid hWL
      clear hlt hk hown hWL
      go_wp2_with (at_builtin; refine wpList_appG tTx tx_l tx_one _ rfl _ _ rfl w.heap.size _ (tk 5) rfl HO.out ca cols cols.length c rfl rfl HRW2.out HCN.out (by rw [HKL.out]; decide) (Nat.le_trans HC8.out (by decide)) HB.out.size ?_; intro v2 w2 hO2 hg2 hb2 ho2)
      rw [TA1.out] at hO2
      obtain ⟨bk, c2, e2, hc2⟩ : ∃ bk c2, v2 = .slice (some ⟨bk, 0, none⟩) WA.length c2 ∧ WA.length ≤ c2 := by
        rcases (show World.ownsRow _ _ _ _ _ _ _ from hO2).2 with ⟨-, h0⟩ | ⟨g, cap, cur, h1, -, -, h2, -⟩
        · rw [HWL.out] at h0; omega
        · exact ⟨g, cap, h1, h2⟩
      obtain ⟨a9, c9, e9, hr9, -⟩ := hO2.rows tx_l
      rw [e2] at e9
      injection e9 with e9
      subst e9
      subst e2
      have HR2 := Lib.hid hr9; have HB2 := Lib.hid (HB.out.trans hb2)
      have HJ9 := Lib.hid (HJN.out bk c2 w2 (fun j z hz => by
        obtain ⟨hj2, e5⟩ := List.getElem?_eq_some_iff.1 hz
        obtain ⟨ad, e6, -, t6⟩ := hr9.txt hj2
        injection e6 with e6
        subst e6
        rw [e5, add0] at t6; rw [Nat.zero_add]; exact t6) (by
        obtain ⟨ad, e6, h6, -⟩ := hr9.txt (k := 0) (by rw [HWL.out]; omega)
        injection e6 with e6
        subst e6; exact h6) hc2)
      clear hO2 hg2 hb2 ho2 hr9
      refine HJ9.out.mono ?_
      rintro e w4 ⟨rfl, hb4⟩
      have HB4 := Lib.hid (HB2.out.trans (hb4.mono HB2.out.size))
      clear hb4
      go_wp2_with fail
      go_ret
      exact ⟨by
        show Ending.returned (.string (bs (Lib.join (WA.map (·.data.toList)) [32]))) = _
        rw [HFM.out], HB4.out⟩
end Go.Proofs.YtdgegebplebeoaaGreatDoor

namespace Go.Proofs.YtdgegebplebeoaaGreatDoor
open Go.RowKit Go.Maps Go.Shelf

/-- A run under way: its numbers so far. -/
def runBox (V : List Int) : Array Value := #[.string ⟨#[]⟩, .int .i64 (V.getD 0 0), .int .i64 (V.getD 1 0), .int .i64 (V.getD 2 0), .slice none 0 0, .int .i64 (V.getD 3 0), .int .i64 (V.getD 4 0)]
theorem run_ptr (b : Nat) {V : List Int} (hV : V.length = 5) {k : Nat} (hk : k < 5) : ∃ p, (ptrs b)[k]? = some (.pointer (some ⟨b, p, none⟩)) ∧ (∃ o, (runBox V)[p]? = some o) ∧ ∀ x, (runBox V).setIfInBounds p (.int .i64 x) = runBox (V.set k x) := by
  match V, hV with
  | [a, b, c, d, e], _ =>
    have h9 : k = 0 ∨ k = 1 ∨ k = 2 ∨ k = 3 ∨ k = 4 := by omega
    rcases h9 with rfl | rfl | rfl | rfl | rfl
    · exact ⟨1, rfl, ⟨_, rfl⟩, fun _ => rfl⟩
    · exact ⟨2, rfl, ⟨_, rfl⟩, fun _ => rfl⟩
    · exact ⟨3, rfl, ⟨_, rfl⟩, fun _ => rfl⟩
    · exact ⟨5, rfl, ⟨_, rfl⟩, fun _ => rfl⟩
    · exact ⟨6, rfl, ⟨_, rfl⟩, fun _ => rfl⟩
theorem RowsG.of_txt {w : World} {b : Nat} {P : List ByteArray} (h : ∀ k (hk : k < P.length), w.cell? ⟨b, k, none⟩ = some (.string P[k])) (hb : b < w.heap.size) : RowsG 1 tx w (some ⟨b, 0, none⟩) P := fun k hk => ⟨_, rfl, hb, fun j hj => by
  obtain rfl : j = 0 := by omega
  rw [Nat.mul_one, add0]; exact h k hk⟩
theorem word_cell {P : List ByteArray} {N k : Nat} (hk : k < P.length) : (Lib.cellsOf P N)[k]? = some (.string P[k]) := by
  unfold Lib.cellsOf
  rw [List.getElem?_toArray, List.getElem?_append_left (by rw [List.length_map]; exact hk), List.getElem?_map, List.getElem?_eq_getElem hk]; rfl
set_option maxRecDepth 100000 in
set_option maxHeartbeats 4000000 in
theorem parseRun_any (s : ByteArray) (w : World) (hs : s.size ≤ 1000) (hP : WF w) :
    Calls Tryz.prog 8 #[.string s] w (RunPost (rdRun s.data.toList) w) := by
  have HPW0 := Lib.hid (pw_any hs)
  have HSP0 := Lib.hid (fun (m : Int) (W : World) (hm : W.cell? ⟨1, 0, none⟩ = some (.int .i64 m)) => Tryz.strings_SplitN s ⟨#[32]⟩ 13 m W (by omega) hm (by decide) (by decide) (by decide))
  have hN1 : Lib.splitB ⟨#[32]⟩ 0 (min 13 (s.size + 1) - 1) s = Lib.splitB ⟨#[32]⟩ 0 (min 13 (s.size + 1) - 1) s := rfl
  have hPN0 : (Lib.splitB ⟨#[32]⟩ 0 (min 13 (s.size + 1) - 1) s).length ≤ min 13 (s.size + 1) := by
    have hd := Lib.splitB_data ⟨#[32]⟩ 0 (min 13 (s.size + 1) - 1) s
    have hlen : (Lib.splitB ⟨#[32]⟩ 0 (min 13 (s.size + 1) - 1) s).length = (Lib.splitK [32] 0 (min 13 (s.size + 1) - 1) s.data.toList).length := by
      rw [← List.length_map (f := fun x : ByteArray => x.data.toList), hd]
    have := splitK_cnt 32 s.data.toList (min 13 (s.size + 1) - 1)
    omega
  obtain ⟨M, hM⟩ : ∃ M, M = rdRun s.data.toList := ⟨_, rfl⟩
  obtain ⟨ws, hws⟩ : ∃ ws, ws = splitOn 32 s.data.toList := ⟨_, rfl⟩
  have HFEW := Lib.hid (fun (h : ws.length < 6) => show M = (noRun, 7) by rw [hM]; rw [hws] at h; exact rd_few h)
  have HNO := Lib.hid (fun (h : ¬ ws.length < 6) (i : Nat) (hi : i < 5) (hn : numI (ws.getD (i + 1) []) 7 = none) => show M = (noRun, 7) by rw [hM]; rw [hws] at h hn; exact rd_no h hi hn)
  have HERR := Lib.hid (fun (h : ¬ ws.length < 6) (N : List Int) (hN : N.length = 5) (hn : ∀ i, i < 5 → numI (ws.getD (i + 1) []) 7 = some (N.getD i 0)) (he : runErr (runOf ws N) ≠ 0) => show M = (noRun, runErr (runOf ws N)) by rw [hM]; rw [hws] at h hn he ⊢; exact rd_err h hN hn he)
  have HOKK := Lib.hid (fun (h : ¬ ws.length < 6) (N : List Int) (hN : N.length = 5) (hn : ∀ i, i < 5 → numI (ws.getD (i + 1) []) 7 = some (N.getD i 0)) (he : runErr (runOf ws N) = 0) => show M = (runOf ws N, 0) by rw [hM]; rw [hws] at h hn he ⊢; exact rd_ok h hN hn he)
  obtain ⟨P, hPP⟩ : ∃ P, P = Lib.splitB ⟨#[32]⟩ 0 (min 13 (s.size + 1) - 1) s := ⟨_, rfl⟩
  obtain ⟨N, hN⟩ : ∃ N, N = min 13 (s.size + 1) := ⟨_, rfl⟩
  have HSP : Hid (∀ (W : World), WF W → Calls Tryz.prog 25 #[.string s, .string ⟨#[32]⟩, .int .i64 13] W fun e w' => e = .returned (.slice (some ⟨W.heap.size, 0, none⟩) P.length N) ∧ w' = W.alloc (.cells (Lib.cellsOf P N) 9)) := Lib.hid (fun W h => by
    obtain ⟨m, hm⟩ := h.m
    rw [hPP, hN]
    exact HSP0.out m W hm)
  have HPW : Hid (PW ws P) := Lib.hid (by rw [hPP, hws]; exact HPW0.out)
  have hPN : P.length ≤ N := by rw [hPP, hN]; exact hPN0
  obtain ⟨pl, hpl⟩ : ∃ pl, pl = P.length := ⟨_, rfl⟩
  have HPL := Lib.hid hpl; have HPN := Lib.hid hPN
  rw [← hpl] at HSP
  rw [← hM]
  clear hM hws hs HSP0 HPW0 hN1 hPN0 hPP hN hPN hpl
  have b0 := (BoxAt.new w #[.string ⟨#[]⟩, .int .i64 0, .int .i64 0, .int .i64 0, .slice none 0 0, .int .i64 0, .int .i64 0] 24).alloc (.cells #[.string ⟨#[]⟩, .int .i64 0, .int .i64 0, .int .i64 0, .slice none 0 0, .int .i64 0, .int .i64 0] 24)
  have b1 := BoxAt.new (w.alloc (.cells #[.string ⟨#[]⟩, .int .i64 0, .int .i64 0, .int .i64 0, .slice none 0 0, .int .i64 0, .int .i64 0] 24)) #[.string ⟨#[]⟩, .int .i64 0, .int .i64 0, .int .i64 0, .slice none 0 0, .int .i64 0, .int .i64 0] 24
  rw [World.size_alloc] at b1
  have hB0 := ((Below.refl w.heap.size w).alloc (Nat.le_refl _) (.cells #[.string ⟨#[]⟩, .int .i64 0, .int .i64 0, .int .i64 0, .slice none 0 0, .int .i64 0, .int .i64 0] 24)).alloc (by simp) (.cells #[.string ⟨#[]⟩, .int .i64 0, .int .i64 0, .int .i64 0, .slice none 0 0, .int .i64 0, .int .i64 0] 24)
  have HX0 := Lib.hid b0; have HY0 := Lib.hid b1; have HB0 := Lib.hid hB0; have HP := Lib.hid hP
  clear b0 b1 hB0 hP
  by_cases h6 : pl < 6
  · have hM6 := HFEW.out (HPW.out.few.1 (by have := HPL.out; omega))
    have h6' : (pl : Int) < 6 := by omega
    have HM6 := Lib.hid hM6
    clear hM6 h6
    go_enter Tryz.func8, Tryz.ntmps8
    go_wp2_with (first
      | (go_at_call 21; refine (numbersOf_any _ _).mono ?_; rintro e w1 ⟨rfl, hbx, hb1⟩; have HX1 := Lib.hid (HX0.out.below hb1); have HY1 := Lib.hid (HY0.out.below hb1); have HB1 := Lib.hid (HB0.out.trans (hb1.mono HB0.out.size)); have HQ1 := Lib.hid hbx; have HW1 := Lib.hid (HP.out.below HB1.out); clear hb1 hbx)
      | (go_at_call 25; refine (HSP.out _ HW1.out).mono ?_; rintro e w2 ⟨rfl, hw2⟩; have HX2 := Lib.hid (show BoxAt w2 w.heap.size _ _ by rw [hw2]; exact HX1.out.alloc _); have HY2 := Lib.hid (show BoxAt w2 (w.heap.size + 1) _ _ by rw [hw2]; exact HY1.out.alloc _); have HQ2 := Lib.hid (show BoxAt w2 _ _ _ by rw [hw2]; exact HQ1.out.alloc _); have HG2 := Lib.hid (show BoxAt w2 w1.heap.size (Lib.cellsOf P N) 9 by rw [hw2]; exact BoxAt.new _ _ _); have HB2 := Lib.hid (show Below w.heap.size w w2 by rw [hw2]; exact HB1.out.alloc HB1.out.size _); have HW2 := Lib.hid (HP.out.below HB2.out); have y0 := HX2.out.free 0; have y1 := HX2.out.free 1; have y2 := HX2.out.free 2; have y3 := HX2.out.free 3; have y4 := HX2.out.free 4; have y5 := HX2.out.free 5; have y6 := HX2.out.free 6; have m0 := HX2.out.cell 0; have m1 := HX2.out.cell 1; have m2 := HX2.out.cell 2; have m3 := HX2.out.cell 3; have m4 := HX2.out.cell 4; have m5 := HX2.out.cell 5; have m6 := HX2.out.cell 6; have l1 := HX2.out.lt; simp only [List.getElem?_toArray, List.getElem?_cons_zero, List.getElem?_cons_succ] at m0 m1 m2 m3 m4 m5 m6; clear hw2))
    refine bodyPost_ret (res_run2 rfl rfl rfl (box7 HX2.out _ _ _ _ _ _ _)) rfl ⟨none, 0, by rw [HM6.out]; rfl, by rw [HM6.out]; intro j hj; exact absurd hj (by simp [noRun]), by rw [HM6.out]; exact Nat.le_refl _, fun _ => rfl, below7 HB2.out (Nat.le_refl _) _ _ _ _ _ _ _⟩
  have h6' : ¬ (pl : Int) < 6 := by omega
  go_enter Tryz.func8, Tryz.ntmps8
  go_wp2_with (first
      | (go_at_call 21; refine (numbersOf_any _ _).mono ?_; rintro e w1 ⟨rfl, hbx, hb1⟩; have HX1 := Lib.hid (HX0.out.below hb1); have HY1 := Lib.hid (HY0.out.below hb1); have HB1 := Lib.hid (HB0.out.trans (hb1.mono HB0.out.size)); have HQ1 := Lib.hid hbx; have HW1 := Lib.hid (HP.out.below HB1.out); clear hb1 hbx)
      | (go_at_call 25; refine (HSP.out _ HW1.out).mono ?_; rintro e w2 ⟨rfl, hw2⟩; have HX2 := Lib.hid (show BoxAt w2 w.heap.size _ _ by rw [hw2]; exact HX1.out.alloc _); have HY2 := Lib.hid (show BoxAt w2 (w.heap.size + 1) _ _ by rw [hw2]; exact HY1.out.alloc _); have HQ2 := Lib.hid (show BoxAt w2 _ _ _ by rw [hw2]; exact HQ1.out.alloc _); have HG2 := Lib.hid (show BoxAt w2 w1.heap.size (Lib.cellsOf P N) 9 by rw [hw2]; exact BoxAt.new _ _ _); have HB2 := Lib.hid (show Below w.heap.size w w2 by rw [hw2]; exact HB1.out.alloc HB1.out.size _); have HW2 := Lib.hid (HP.out.below HB2.out); have y0 := HX2.out.free 0; have y1 := HX2.out.free 1; have y2 := HX2.out.free 2; have y3 := HX2.out.free 3; have y4 := HX2.out.free 4; have y5 := HX2.out.free 5; have y6 := HX2.out.free 6; have m0 := HX2.out.cell 0; have m1 := HX2.out.cell 1; have m2 := HX2.out.cell 2; have m3 := HX2.out.cell 3; have m4 := HX2.out.cell 4; have m5 := HX2.out.cell 5; have m6 := HX2.out.cell 6; have l1 := HX2.out.lt; simp only [List.getElem?_toArray, List.getElem?_cons_zero, List.getElem?_cons_succ] at m0 m1 m2 m3 m4 m5 m6; clear hw2))
  obtain ⟨g, hg⟩ : ∃ g, g = w1.heap.size := ⟨_, rfl⟩
  obtain ⟨pb, hpb⟩ : ∃ pb, pb = ((w.alloc (.cells #[.string ⟨#[]⟩, .int .i64 0, .int .i64 0, .int .i64 0, .slice none 0 0, .int .i64 0, .int .i64 0] 24)).alloc (.cells #[.string ⟨#[]⟩, .int .i64 0, .int .i64 0, .int .i64 0, .slice none 0 0, .int .i64 0, .int .i64 0] 24)).heap.size := ⟨_, rfl⟩
  have hpz : pb = w.heap.size + 1 + 1 := by rw [hpb]; simp
  have hgl : w.heap.size + 1 + 1 < g := by rw [hg, ← hpz, hpb]; exact HQ1.out.lt
  rw [← hpb] at HQ2
  rw [← hg] at HG2
  try rw [← hg]
  rw [hpz] at HQ2
  have HGL := Lib.hid hgl
  clear hg hpb hpz HX1 HY1 HB1 HQ1 HW1 hgl HX0 HY0 HB0
  clear m0 y0 m1 y1 m2 y2 m3 y3 m4 y4 m5 y5 m6 y6 l1
  go_loopw [28] (fun i wr => ∃ (k : Nat) (V : List Int), k ≤ 5 ∧ V.length = 5 ∧ i = .int .i64 k ∧ Hid (∀ j, j < k → numI (ws.getD (j + 1) []) 7 = some (V.getD j 0)) ∧ Hid (BoxAt wr w.heap.size #[.string ⟨#[]⟩, .int .i64 0, .int .i64 0, .int .i64 0, .slice none 0 0, .int .i64 0, .int .i64 0] 24) ∧ Hid (BoxAt wr (w.heap.size + 1) (runBox V) 24) ∧ Hid (BoxAt wr (w.heap.size + 1 + 1) (ptrs (w.heap.size + 1)) 66) ∧ Hid (BoxAt wr g (Lib.cellsOf P N) 9) ∧ Hid (Below w.heap.size w wr)) (fun i _ => 5 - (intOf i).toNat)
  case atStart => exact ⟨0, [0, 0, 0, 0, 0], by omega, rfl, rfl, Lib.hid (fun j h => by omega), HX2, HY2, HQ2, HG2, HB2⟩
  case round =>
    obtain ⟨k, V, hk, hV, rfl, HV, HX, HY, HQ, HG, HB⟩ := hrel
    clear HX2 HY2 HQ2 HG2 HB2 HW2
    have HWR := Lib.hid (HP.out.below HB.out)
    have l1 := HX.out.lt; have l2 := HY.out.lt; have l3 := HQ.out.lt; have l4 := HG.out.lt
    by_cases hlt : k < 5
    · have hki : (k : Int) < 5 := by omega
      obtain ⟨p, hp1, ⟨old, hp2⟩, hp3⟩ := run_ptr (w.heap.size + 1) hV hlt
      have q1 : wr.cell? ⟨w.heap.size + 1 + 1, k, none⟩ = some (.pointer (some ⟨w.heap.size + 1, p, none⟩)) := by rw [HQ.out.cell k]; exact hp1
      have hkL : k + 1 < P.length := by have := HPL.out; omega
      have hkl : 1 + (k : Int) < (pl : Int) := by have := HPL.out; omega
      have hkl2 : (k : Int) + 1 < (pl : Int) := by have := HPL.out; omega
      have s0 : wr.cell? ⟨g, 1 + k, none⟩ = some (.string P[k + 1]) := by rw [Nat.add_comm 1 k, HG.out.cell (k + 1)]; exact word_cell hkL
      have hdat := HPW.out.at_ (k + 1) hkL (by omega)
      have hsz := HPW.out.size (k + 1) hkL
      obtain ⟨x, ex⟩ : ∃ x, x = P[k + 1] := ⟨_, rfl⟩
      rw [← ex] at s0 hdat hsz
      have HNB := Lib.hid (fun W h => numberOf_any x W (by omega) h)
      rw [hdat] at HNB
      obtain ⟨o, ho⟩ : ∃ o, o = numI (ws.getD (k + 1) []) 7 := ⟨_, rfl⟩
      have HO := Lib.hid ho
      rw [← ho] at HNB
      have HP3 := Lib.hid hp3; have HP2 := Lib.hid hp2
      clear ex ho hdat hsz hp1 hp2 hp3
      cases o with
      | none =>
        have HM7 := Lib.hid (HNO.out (fun h => h6 (by have := HPL.out; have := HPW.out.few.2 h; omega)) k hlt HO.out.symm)
        go_wp2_with (first | (go_at_call 26; refine (HNB.out _ HWR.out).mono ?_; rintro e w3 ⟨n, rfl, hn, hb3⟩; have HX3 := Lib.hid (HX.out.below hb3); have HY3 := Lib.hid (HY.out.below hb3); have HB3 := Lib.hid (HB.out.trans (hb3.mono HB.out.size)); have z1 : w3.cell? ⟨w.heap.size + 1, p, none⟩ = some old := (HY3.out.cell p).trans HP2.out; have z2 := HY3.out.free p; have y0 := HX3.out.free 0; have y1 := HX3.out.free 1; have y2 := HX3.out.free 2; have y3 := HX3.out.free 3; have y4 := HX3.out.free 4; have y5 := HX3.out.free 5; have y6 := HX3.out.free 6; have m0 := HX3.out.cell 0; have m1 := HX3.out.cell 1; have m2 := HX3.out.cell 2; have m3 := HX3.out.cell 3; have m4 := HX3.out.cell 4; have m5 := HX3.out.cell 5; have m6 := HX3.out.cell 6; have l5 := HX3.out.lt; have l6 := HY3.out.lt; simp only [List.getElem?_toArray, List.getElem?_cons_zero, List.getElem?_cons_succ] at m0 m1 m2 m3 m4 m5 m6; clear hb3))
        have HX4 := Lib.hid (HX3.out.set_other (p := ⟨w.heap.size + 1, p, none⟩) (by show w.heap.size ≠ w.heap.size + 1; omega) (.int .i64 n))
        have HB4 := Lib.hid (HB3.out.setCell (p := ⟨w.heap.size + 1, p, none⟩) (by show w.heap.size ≤ w.heap.size + 1; omega) (.int .i64 n))
        refine bodyPost_ret (res_run2 rfl rfl rfl (box7 HX4.out _ _ _ _ _ _ _)) rfl ⟨none, 0, by rw [HM7.out]; rfl, by rw [HM7.out]; intro j hj; exact absurd hj (by simp [noRun]), by rw [HM7.out]; exact Nat.le_refl _, fun _ => rfl, below7 HB4.out (Nat.le_refl _) _ _ _ _ _ _ _⟩
      | some v =>
        go_wp2_with (first | (go_at_call 26; refine (HNB.out _ HWR.out).mono ?_; rintro e w3 ⟨n, rfl, hn, hb3⟩; obtain rfl := hn v rfl; have HX3 := Lib.hid (HX.out.below hb3); have HY3 := Lib.hid (HY.out.below hb3); have HQ3 := Lib.hid (HQ.out.below hb3); have HG3 := Lib.hid (HG.out.below hb3); have HB3 := Lib.hid (HB.out.trans (hb3.mono HB.out.size)); have z1 : w3.cell? ⟨w.heap.size + 1, p, none⟩ = some old := (HY3.out.cell p).trans HP2.out; have z2 := HY3.out.free p; have l9 := HY3.out.lt; clear hb3))
        go_roundw
        case rel => exact ⟨k + 1, V.set k n, by omega, by rw [List.length_set]; exact hV, by go_num, Lib.hid (fun j hj => by
          by_cases e : j = k
          · subst e; rw [← HO.out, List.getD_eq_getElem?_getD, List.getElem?_set_self (by omega)]; rfl
          · rw [HV.out j (by omega), List.getD_eq_getElem?_getD, List.getD_eq_getElem?_getD, List.getElem?_set_ne (Ne.symm e)]), Lib.hid (HX3.out.set_other (by show w.heap.size ≠ w.heap.size + 1; omega) _), Lib.hid (by rw [← HP3.out n]; exact HY3.out.set p _), Lib.hid (HQ3.out.set_other (by show w.heap.size + 1 + 1 ≠ w.heap.size + 1; omega) _), Lib.hid (HG3.out.set_other (by have := HGL.out; show g ≠ w.heap.size + 1; omega) _), Lib.hid (HB3.out.setCell (p := ⟨w.heap.size + 1, p, none⟩) (by show w.heap.size ≤ w.heap.size + 1; omega) _)⟩
        case measure => simp [intOf]; omega
    · obtain rfl : k = 5 := by omega
      obtain ⟨v0, v1, v2, v3, v4, rfl⟩ : ∃ v0 v1 v2 v3 v4, V = [v0, v1, v2, v3, v4] := by
        match V, hV with
        | [a, b, c, d, e], _ => exact ⟨a, b, c, d, e, rfl⟩
      have hRP : RowsG 1 tx wr (some ⟨g, 0, none⟩) P := RowsG.of_txt (fun k hk => by rw [HG.out.cell k]; exact word_cell hk) HG.out.lt
      have h6P : 6 ≤ P.length := by have := HPL.out; omega
      have hP0 : 0 < P.length := by omega
      have s0 : wr.cell? ⟨g, 0, none⟩ = some (.string P[0]) := by rw [HG.out.cell 0]; exact word_cell hP0
      have hsz := HPW.out.size 0 hP0
      obtain ⟨AD, hAD⟩ : ∃ AD, AD = (if N = 6 then (⟨g, 0, none⟩ : Addr) else (⟨g, 0, none⟩ : Addr).add (6 * 1)) := ⟨_, rfl⟩
      have hcut : ∀ W, (Instr.sliceAt 22 (.slice (some ⟨g, 0, none⟩) pl N) (some (.int .i64 6)) none none).run Tryz.prog W = .ok (.slice (some AD) (pl - 6) (N - 6)) W := fun W => by rw [hAD]; exact cut_high (P := Tryz.prog) 22 ⟨g, 0, none⟩ pl N 6 strsUnder 1 strSize (by have := HPL.out; omega) W
      have hRX : RowsG 1 tx wr (some AD) (P.drop 6) := by rw [hAD]; exact hRP.cutc HPN.out
      have HABL := Lib.hid (show AD.block = g by rw [hAD]; split <;> rfl)
      have hcsz : ∀ y ∈ P.drop 6, y.size ≤ 1000 := fun y hy => by
        obtain ⟨j, hj, rfl⟩ := List.getElem_of_mem hy
        rw [List.getElem_drop]
        exact HPW.out.size _ _
      have hn6 : pl - 6 = (P.drop 6).length := by rw [List.length_drop, HPL.out]
      obtain ⟨n6, hn6'⟩ : ∃ n6, n6 = pl - 6 := ⟨_, rfl⟩
      rw [← hn6'] at hn6 hcut
      have hcp : n6 ≤ N - 6 := by have := HPN.out; have := HPL.out; omega
      obtain ⟨c6, hc6⟩ : ∃ c6, c6 = N - 6 := ⟨_, rfl⟩
      rw [← hc6] at hcp hcut
      have hRUN := HPW.out.run h6P [v0, v1, v2, v3, v4] ⟨P[0], v0, v1, v2, P.drop 6, v3, v4⟩ rfl rfl rfl rfl rfl rfl rfl
      have h6w : ¬ ws.length < 6 := fun h => by have := HPW.out.few.2 h; omega
      obtain ⟨job, hjob⟩ : ∃ job, job = P[0] := ⟨_, rfl⟩
      obtain ⟨cols, hcols⟩ : ∃ cols, cols = P.drop 6 := ⟨_, rfl⟩
      rw [← hjob] at s0 hsz hRUN
      rw [← hcols] at hRX hcsz hn6 hRUN
      have HERR2 := Lib.hid (fun (he : runErr ⟨job, v0, v1, v2, cols, v3, v4⟩ ≠ 0) => show M = (noRun, runErr ⟨job, v0, v1, v2, cols, v3, v4⟩) by
        rw [hRUN.1] at he ⊢
        exact HERR.out h6w [v0, v1, v2, v3, v4] rfl HV.out he)
      have HOK2 := Lib.hid (fun (he : runErr ⟨job, v0, v1, v2, cols, v3, v4⟩ = 0) => show M = (⟨job, v0, v1, v2, cols, v3, v4⟩, 0) by
        have h2 := hRUN.2 he
        rw [hRUN.1] at he
        rw [h2]
        exact HOKK.out h6w [v0, v1, v2, v3, v4] rfl HV.out he)
      have hn13 : n6 ≤ 13 := by have := HPL.out; have := HPW.out.cnt; omega
      have HCP := Lib.hid hcp; have HN6 := Lib.hid hn6
      have HCK := Lib.hid (fun W (h : RowsG 1 tx W (some AD) cols) => show Calls Tryz.prog 27 #[.agg #[.string job, .int .i64 v0, .int .i64 v1, .int .i64 v2, .slice (some AD) n6 c6, .int .i64 v3, .int .i64 v4]] W (CheckPost (runErr ⟨job, v0, v1, v2, cols, v3, v4⟩) W) by
        rw [HN6.out]
        exact checkRun_any ⟨job, v0, v1, v2, cols, v3, v4⟩ (some AD) c6 W (by unfold maxLen; show job.size ≤ _; omega) h (by rw [← HN6.out]; unfold maxLen; omega) (fun y hy => by have := hcsz y hy; unfold maxLen; omega))
      obtain ⟨er, her⟩ : ∃ er, er = runErr ⟨job, v0, v1, v2, cols, v3, v4⟩ := ⟨_, rfl⟩
      rw [← her] at HCK HERR2 HOK2
      have HRX := Lib.hid hRX
      have hkn : 0 < pl := by omega
      have hkl : (0 : Int) < (pl : Int) := by omega
      have hY5 : BoxAt wr (w.heap.size + 1) #[.string ⟨#[]⟩, .int .i64 v0, .int .i64 v1, .int .i64 v2, .slice none 0 0, .int .i64 v3, .int .i64 v4] 24 := HY.out
      have r0 := hY5.cell 0; have r4 := hY5.cell 4; have f0 := hY5.free 0; have f4 := hY5.free 4
      simp only [List.getElem?_toArray, List.getElem?_cons_zero, List.getElem?_cons_succ] at r0 r4
      have HY5 := Lib.hid hY5
      clear hn6' hc6 hcp hcsz hRX hjob hcols her hlt hk hV HV hAD HFEW HNO HERR HOKK HPW HSP hn6 hRUN hsz h6P hRP hP0 hn13 h6w hY5
      go_wp2_with fail
      go_region
      obtain ⟨wz, hwz⟩ : ∃ wz, wz = ((wr.setCell ⟨w.heap.size + 1, 0, none⟩ (.string job)).setCell ⟨w.heap.size + 1, 4, none⟩ (.slice (some AD) n6 c6)).drew := ⟨_, rfl⟩
      have HY6 : Hid (BoxAt wz (w.heap.size + 1) #[.string job, .int .i64 v0, .int .i64 v1, .int .i64 v2, .slice (some AD) n6 c6, .int .i64 v3, .int .i64 v4] 24) := Lib.hid (by
        rw [hwz]
        have h1 := (HY5.out.set 0 (.string job)).set 4 (.slice (some AD) n6 c6)
        exact h1)
      have HX6 : Hid (BoxAt wz w.heap.size #[.string ⟨#[]⟩, .int .i64 0, .int .i64 0, .int .i64 0, .slice none 0 0, .int .i64 0, .int .i64 0] 24) := Lib.hid (by
        rw [hwz]
        exact ((HX.out.set_other (p := ⟨w.heap.size + 1, 0, none⟩) (by show w.heap.size ≠ w.heap.size + 1; omega) (.string job)).set_other (p := ⟨w.heap.size + 1, 4, none⟩) (by show w.heap.size ≠ w.heap.size + 1; omega) (.slice (some AD) n6 c6)))
      have HB6 : Hid (Below w.heap.size w wz) := Lib.hid (by
        rw [hwz]
        exact ((HB.out.setCell (p := ⟨w.heap.size + 1, 0, none⟩) (by show w.heap.size ≤ w.heap.size + 1; omega) (.string job)).setCell (p := ⟨w.heap.size + 1, 4, none⟩) (by show w.heap.size ≤ w.heap.size + 1; omega) (.slice (some AD) n6 c6)).drew)
      have HR6 : Hid (RowsG 1 tx wz (some AD) cols) := Lib.hid (by
        rw [hwz]
        exact ((HRX.out.set (p := ⟨w.heap.size + 1, 0, none⟩) (fun ad e => by injection e with e; have h1 := HABL.out; have h2 := HGL.out; show ad.block ≠ w.heap.size + 1; rw [← e, h1]; omega) (.string job)).set (p := ⟨w.heap.size + 1, 4, none⟩) (fun ad e => by injection e with e; have h1 := HABL.out; have h2 := HGL.out; show ad.block ≠ w.heap.size + 1; rw [← e, h1]; omega) (.slice (some AD) n6 c6)))
      rw [← hwz]
      have p0 := HY6.out.cell 0; have p1 := HY6.out.cell 1; have p2 := HY6.out.cell 2; have p3 := HY6.out.cell 3; have p4 := HY6.out.cell 4; have p5 := HY6.out.cell 5; have p6 := HY6.out.cell 6; have l6 := HY6.out.lt
      simp only [List.getElem?_toArray, List.getElem?_cons_zero, List.getElem?_cons_succ] at p0 p1 p2 p3 p4 p5 p6
      clear hwz r0 r4 f0 f4 HY HY5 HX HQ HG HB HRX HWR l1 l2 l3 l4 s0
      by_cases he : er = 0
      · have HMZ := Lib.hid (HOK2.out he)
        subst he
        go_wp2_with (first | (go_at_call 27; refine (HCK.out _ HR6.out).mono ?_; rintro e w3 ⟨rfl, hb3⟩; have HX3 := Lib.hid (HX6.out.below hb3); have HY3 := Lib.hid (HY6.out.below hb3); have HR3 := Lib.hid (HR6.out.below hb3); have HB3 := Lib.hid (HB6.out.trans (hb3.mono HB6.out.size)); have y0 := HX3.out.free 0; have y1 := HX3.out.free 1; have y2 := HX3.out.free 2; have y3 := HX3.out.free 3; have y4 := HX3.out.free 4; have y5 := HX3.out.free 5; have y6 := HX3.out.free 6; have m0 := HX3.out.cell 0; have m1 := HX3.out.cell 1; have m2 := HX3.out.cell 2; have m3 := HX3.out.cell 3; have m4 := HX3.out.cell 4; have m5 := HX3.out.cell 5; have m6 := HX3.out.cell 6; have l5 := HX3.out.lt; have l6 := HY3.out.lt; simp only [List.getElem?_toArray, List.getElem?_cons_zero, List.getElem?_cons_succ] at m0 m1 m2 m3 m4 m5 m6; have n0 := HY3.out.cell 0; have n1 := HY3.out.cell 1; have n2 := HY3.out.cell 2; have n3 := HY3.out.cell 3; have n4 := HY3.out.cell 4; have n5 := HY3.out.cell 5; have n6z := HY3.out.cell 6; simp only [List.getElem?_toArray, List.getElem?_cons_zero, List.getElem?_cons_succ] at n0 n1 n2 n3 n4 n5 n6z; clear hb3))
        have hne : ∀ ad, some AD = some ad → ad.block ≠ w.heap.size := fun ad e => by
          injection e with e
          have h1 := HABL.out; have h2 := HGL.out
          rw [← e, h1]; omega
        exact bodyPost_ret (res_run2 rfl rfl rfl (box7 HX3.out _ _ _ _ _ _ _)) rfl ⟨some AD, c6, by rw [HMZ.out, HN6.out]; rfl, by rw [HMZ.out]; exact rowsG7 HR3.out hne _ _ _ _ _ _ _, by rw [HMZ.out]; show cols.length ≤ _; rw [← HN6.out]; exact HCP.out, nofun, below7 HB3.out (Nat.le_refl _) _ _ _ _ _ _ _⟩
      · have HMZ := Lib.hid (HERR2.out he)
        have heb : (er != 0) = true := by simpa using he
        go_wp2_with (first | (go_at_call 27; refine (HCK.out _ HR6.out).mono ?_; rintro e w3 ⟨rfl, hb3⟩; have HX3 := Lib.hid (HX6.out.below hb3); have HY3 := Lib.hid (HY6.out.below hb3); have HR3 := Lib.hid (HR6.out.below hb3); have HB3 := Lib.hid (HB6.out.trans (hb3.mono HB6.out.size)); have y0 := HX3.out.free 0; have y1 := HX3.out.free 1; have y2 := HX3.out.free 2; have y3 := HX3.out.free 3; have y4 := HX3.out.free 4; have y5 := HX3.out.free 5; have y6 := HX3.out.free 6; have m0 := HX3.out.cell 0; have m1 := HX3.out.cell 1; have m2 := HX3.out.cell 2; have m3 := HX3.out.cell 3; have m4 := HX3.out.cell 4; have m5 := HX3.out.cell 5; have m6 := HX3.out.cell 6; have l5 := HX3.out.lt; have l6 := HY3.out.lt; simp only [List.getElem?_toArray, List.getElem?_cons_zero, List.getElem?_cons_succ] at m0 m1 m2 m3 m4 m5 m6; clear hb3))
        refine bodyPost_ret (res_run2 rfl rfl rfl (box7 HX3.out _ _ _ _ _ _ _)) rfl ⟨none, 0, by rw [HMZ.out]; rfl, by rw [HMZ.out]; intro j hj; exact absurd hj (by simp [noRun]), by rw [HMZ.out]; exact Nat.le_refl _, fun _ => rfl, below7 HB3.out (Nat.le_refl _) _ _ _ _ _ _ _⟩
end Go.Proofs.YtdgegebplebeoaaGreatDoor

namespace Go.Proofs.YtdgegebplebeoaaGreatDoor
open Go.RowKit Go.Maps Go.Shelf

set_option maxRecDepth 100000 in
set_option maxHeartbeats 1000000 in
theorem refFormatRun_any (x : Run) (a : Option Addr) (c : Nat) (w : World) (hj : x.job.size ≤ 30) (hr : RowsG 1 tx w a x.cols) (hl : x.cols.length ≤ 8) (hs : ∀ s ∈ x.cols, s.size ≤ 30) (hok : ∀ y ∈ numsOf x, OkI y) :
    Calls Tryz.prog 10 #[.agg #[.string x.job, .int .i64 x.day, .int .i64 x.wanted, .int .i64 x.given, .slice a x.cols.length c, .int .i64 x.ready, .int .i64 x.hour]] w (StrPost w (fmtR x)) := by
  have HWN := Lib.hid (fun k (hk : k < 5) => wdN_next (x := x) hk)
  have HWC := Lib.hid (fun k (hk : k < x.cols.length) => wdC_next hk)
  have HLN := Lib.hid (wdN_len hj hok)
  have HLC := Lib.hid (wdC_len hj hok hs)
  have HCE := Lib.hid (wdC_end x)
  have HCZ := Lib.hid (show Lib.join (wdC x 0) [32] = Lib.join (wdN x 5) [32] by rw [wdC_zero])
  have HNZ := Lib.hid (show x.job.data.toList = Lib.join (wdN x 0) [32] from (join_one _ _).symm)
  have HOK := Lib.hid hok
  have HS := Lib.hid hs
  have HNU := Lib.hid (show numsOf x = [x.day, x.wanted, x.given, x.ready, x.hour] from rfl)
  obtain ⟨R, hR⟩ : ∃ R, R = fmtR x := ⟨_, rfl⟩
  obtain ⟨wn, hwn⟩ : ∃ wn : Nat → List UInt8, wn = fun k => Lib.join (wdN x k) [32] := ⟨_, rfl⟩
  obtain ⟨wc, hwc⟩ : ∃ wc : Nat → List UInt8, wc = fun k => Lib.join (wdC x k) [32] := ⟨_, rfl⟩
  obtain ⟨N, hN⟩ : ∃ N, N = numsOf x := ⟨_, rfl⟩
  have WN1 : Hid (∀ k, k < 5 → wn (k + 1) = wn k ++ [32] ++ Lib.itoa (N.getD k 0)) := Lib.hid (fun k hk => by rw [hwn, hN]; exact HWN.out k hk)
  have WC1 : Hid (∀ k (hk : k < x.cols.length), wc (k + 1) = wc k ++ [32] ++ x.cols[k].data.toList) := Lib.hid (fun k hk => by rw [hwc]; exact HWC.out k hk)
  have LN1 : Hid (∀ k, k ≤ 5 → (wn k).length ≤ 30 + 22 * k) := Lib.hid (fun k hk => by rw [hwn]; exact HLN.out k hk)
  have LC1 : Hid (∀ k, k ≤ x.cols.length → (wc k).length ≤ 140 + 31 * k) := Lib.hid (fun k hk => by rw [hwc]; exact HLC.out k hk)
  have CE1 : Hid (wc x.cols.length = R) := Lib.hid (by rw [hwc, hR]; exact HCE.out)
  have CZ1 : Hid (wc 0 = wn 5) := Lib.hid (by rw [hwc, hwn]; exact HCZ.out)
  have NZ1 : Hid (x.job.data.toList = wn 0) := Lib.hid (by rw [hwn]; exact HNZ.out)
  rw [← hN] at HOK HNU
  rw [← hR]
  clear hR hwn hwc hN hok hs HWN HWC HLN HLC HCE HCZ HNZ
  obtain ⟨job, day, wanted, given, cols, ready, hour⟩ := x
  dsimp only at WC1 LC1 CE1 NZ1 HNU HS hj hr hl ⊢
  have b0 := (BoxAt.new w #[.string job, .int .i64 day, .int .i64 wanted, .int .i64 given, .slice a cols.length c, .int .i64 ready, .int .i64 hour] 24).alloc (.cells #[.int .i64 day, .int .i64 wanted, .int .i64 given, .int .i64 ready, .int .i64 hour] 75)
  have b1 := BoxAt.new (w.alloc (.cells #[.string job, .int .i64 day, .int .i64 wanted, .int .i64 given, .slice a cols.length c, .int .i64 ready, .int .i64 hour] 24)) #[.int .i64 day, .int .i64 wanted, .int .i64 given, .int .i64 ready, .int .i64 hour] 75
  rw [World.size_alloc] at b1
  have hB0 := ((Below.refl w.heap.size w).alloc (Nat.le_refl _) (.cells #[.string job, .int .i64 day, .int .i64 wanted, .int .i64 given, .slice a cols.length c, .int .i64 ready, .int .i64 hour] 24)).alloc (by simp) (.cells #[.int .i64 day, .int .i64 wanted, .int .i64 given, .int .i64 ready, .int .i64 hour] 75)
  have HRW := Lib.hid hr
  have HX1 := Lib.hid b0; have HY1 := Lib.hid b1; have HB1 := Lib.hid hB0
  clear b0 b1 hB0 hr
  go_enter Tryz.func10, Tryz.ntmps10
  go_wp2_with fail
  go_loopw [3, 5] (fun s i wr => ∃ (k : Nat) (u : List UInt8), k ≤ 5 ∧ i = .int .i64 k ∧ s = .string (bs u) ∧ Hid (u = wn k) ∧ Hid (BoxAt wr w.heap.size #[.string job, .int .i64 day, .int .i64 wanted, .int .i64 given, .slice a cols.length c, .int .i64 ready, .int .i64 hour] 24) ∧ Hid (BoxAt wr (w.heap.size + 1) #[.int .i64 day, .int .i64 wanted, .int .i64 given, .int .i64 ready, .int .i64 hour] 75) ∧ Hid (Below w.heap.size w wr)) (fun _ i _ => 5 - (intOf i).toNat)
  case atStart => exact ⟨0, job.data.toList, by omega, rfl, by rw [data_bs], NZ1, HX1, HY1, HB1⟩
  case round =>
    obtain ⟨k, u, hk, rfl, rfl, HU, HX, HY, HB⟩ := hrel
    by_cases hlt : k < 5
    · have hki : (k : Int) < 5 := by omega
      obtain ⟨y, ey⟩ : ∃ y, y = N.getD k 0 := ⟨_, rfl⟩
      have hyc : wr.cell? ⟨w.heap.size + 1, k, none⟩ = some (.int .i64 y) := by
        rw [HY.out.cell k, ey, HNU.out]
        have h9 : k = 0 ∨ k = 1 ∨ k = 2 ∨ k = 3 ∨ k = 4 := by omega
        rcases h9 with rfl | rfl | rfl | rfl | rfl <;> rfl
      have hyo : OkI y := HOK.out y (by
        rw [ey, HNU.out]
        have h9 : k = 0 ∨ k = 1 ∨ k = 2 ∨ k = 3 ∨ k = 4 := by omega
        rcases h9 with rfl | rfl | rfl | rfl | rfl <;> simp)
      have HNX := Lib.hid (show wn (k + 1) = (u ++ [32]) ++ Lib.itoa y by rw [WN1.out k hlt, HU.out, ey])
      have hul : u.length ≤ 200 := by have h1 := LN1.out k hk; rw [← HU.out] at h1; omega
      have hil := itoa_len21 hyo
      obtain ⟨v, ev⟩ : ∃ v, v = u ++ [32] := ⟨_, rfl⟩
      have hvl : v.length ≤ 201 := by rw [ev, List.length_append]; simp only [List.length_cons, List.length_nil]; omega
      obtain ⟨z, ez⟩ : ∃ z, z = v ++ Lib.itoa y := ⟨_, rfl⟩
      have hadd1 : ∀ W, (Op.stringOp .add (bs u) ⟨#[32]⟩).run Tryz.prog W = .ok (.string (bs v)) W := fun W => by rw [ev]; exact bs_add u [32] (by simp only [List.length_cons, List.length_nil]; omega) W
      have hadd2 : ∀ W, (Op.stringOp .add (bs v) (bs (Lib.itoa y))).run Tryz.prog W = .ok (.string (bs z)) W := fun W => by rw [ez]; exact bs_add _ _ (by omega) W
      rw [← ev, ← ez] at HNX
      have HDC := Lib.hid (fun W => decimal_any y hyo W)
      clear hul hil hyo ey ev ez hvl
      go_wp2_with (first | (go_at_call 30; refine (HDC.out _).mono ?_; rintro e w2 ⟨rfl, hb2⟩; have HX2 := Lib.hid (HX.out.below hb2); have HY2 := Lib.hid (HY.out.below hb2); have HB2 := Lib.hid (HB.out.trans (hb2.mono HB.out.size)); clear hb2))
      go_roundw
      case rel => exact ⟨k + 1, z, by omega, by go_num, rfl, Lib.hid HNX.out.symm, HX2, HY2, HB2⟩
      case measure => simp [intOf]; omega
    · obtain rfl : k = 5 := by omega
      have HU5 := Lib.hid (show u = wc 0 by rw [HU.out, CZ1.out])
      have k4 : wr.cell? ⟨w.heap.size, 4, none⟩ = some (.slice a cols.length c) := HX.out.cell 4
      have HRW2 := Lib.hid (HRW.out.below HB.out)
      clear hlt hk HU
      go_wp2_with fail
      go_loop [3, 6] (fun s i => ∃ (k : Nat) (u : List UInt8), k ≤ cols.length ∧ i = .int .i64 k ∧ s = .string (bs u) ∧ Hid (u = wc k)) (fun _ i => cols.length - (intOf i).toNat)
      case atStart => exact ⟨0, u, Nat.zero_le _, rfl, rfl, HU5⟩
      case round =>
        obtain ⟨k, u, hk, rfl, rfl, HU⟩ := hrel
        by_cases hlt : k < cols.length
        · have hki : (k : Int) < (cols.length : Int) := by omega
          obtain ⟨ad, rfl, had, t0⟩ := HRW2.out.txt hlt
          have hsz := HS.out _ (List.getElem_mem hlt)
          have HNX := Lib.hid (show wc (k + 1) = (u ++ [32]) ++ cols[k].data.toList by rw [WC1.out k hlt, HU.out])
          obtain ⟨y, ey⟩ : ∃ y, y = cols[k] := ⟨_, rfl⟩
          rw [← ey] at t0 hsz HNX
          have hyl : y.data.toList.length = y.size := Array.length_toList
          have hul : u.length ≤ 400 := by have h1 := LC1.out k hk; rw [← HU.out] at h1; omega
          obtain ⟨z, ez⟩ : ∃ z, z = y.data.toList := ⟨_, rfl⟩
          have hyb : y = bs z := by rw [ez, data_bs]
          rw [← ez] at HNX hyl
          subst hyb
          obtain ⟨v, ev⟩ : ∃ v, v = u ++ [32] := ⟨_, rfl⟩
          have hvl : v.length ≤ 401 := by rw [ev, List.length_append]; simp only [List.length_cons, List.length_nil]; omega
          obtain ⟨q, eq⟩ : ∃ q, q = v ++ z := ⟨_, rfl⟩
          have hzl : z.length ≤ 30 := by rw [bs_size] at hsz; exact hsz
          have hadd1 : ∀ W, (Op.stringOp .add (bs u) ⟨#[32]⟩).run Tryz.prog W = .ok (.string (bs v)) W := fun W => by rw [ev]; exact bs_add u [32] (by simp only [List.length_cons, List.length_nil]; omega) W
          have hadd2 : ∀ W, (Op.stringOp .add (bs v) (bs z)).run Tryz.prog W = .ok (.string (bs q)) W := fun W => by rw [eq]; exact bs_add _ _ (by omega) W
          rw [← ev, ← eq] at HNX
          clear hul hsz ey ez hyl ev eq hvl hzl
          go_wp2
          go_round
          case rel => exact ⟨k + 1, q, by omega, by go_num, rfl, Lib.hid HNX.out.symm⟩
          case measure => simp [intOf]; omega
        · obtain rfl : k = cols.length := by omega
          have HUE := Lib.hid (show u = R by rw [HU.out, CE1.out])
          go_wp2
          go_ret
          exact ⟨by rw [← HUE.out]; rfl, HB.out⟩
end Go.Proofs.YtdgegebplebeoaaGreatDoor

namespace Go.Proofs.YtdgegebplebeoaaGreatDoor
open Go.RowKit Go.Maps

def ShortPost2 (x : Run) (w : World) (e : Ending) (w' : World) : Prop := (∃ b : Bool, e = .returned (.bool b) ∧ (b = true → x.job.size ≤ 30 ∧ x.cols.length ≤ 8 ∧ ∀ s ∈ x.cols, s.size ≤ 30)) ∧ Below w.heap.size w w'
set_option maxRecDepth 100000 in
set_option maxHeartbeats 2000000 in
theorem shortR2_any (x : Run) (a : Option Addr) (c : Nat) (w : World) (hj : x.job.size ≤ maxLen) (hr : RowsG 1 tx w a x.cols) (hl : x.cols.length ≤ maxLen) (hc : ∀ s ∈ x.cols, s.size ≤ maxLen) :
    Calls Tryz.prog 5 #[.agg #[.string x.job, .int .i64 x.day, .int .i64 x.wanted, .int .i64 x.given, .slice a x.cols.length c, .int .i64 x.ready, .int .i64 x.hour]] w (ShortPost2 x w) := by
  obtain ⟨job, day, wanted, given, cols, ready, hour⟩ := x
  have hj : job.size ≤ maxLen := hj
  have hl : cols.length ≤ maxLen := hl
  unfold maxLen at hj hl
  have HC : Hid (∀ s ∈ cols, s.size ≤ maxLen) := Lib.hid hc
  have HR : Hid (RowsG 1 tx w a cols) := Lib.hid hr
  clear hc hr
  dsimp only
  have bx := BoxAt.new w #[.string job, .int .i64 day, .int .i64 wanted, .int .i64 given, .slice a cols.length c, .int .i64 ready, .int .i64 hour] 24
  have hb := (Below.refl w.heap.size w).alloc (Nat.le_refl _) (.cells #[.string job, .int .i64 day, .int .i64 wanted, .int .i64 given, .slice a cols.length c, .int .i64 ready, .int .i64 hour] 24)
  by_cases h1 : 30 < job.size
  · have h1' : decide ((job.size : Int) > 30) = true := decide_eq_true (by omega)
    go_enter Tryz.func5, Tryz.ntmps5
    go_wp2
    go_ret
    exact ⟨⟨false, rfl, fun h => by cases h⟩, hb⟩
  have h1' : decide ((job.size : Int) > 30) = false := decide_eq_false (by omega)
  by_cases h2 : 8 < cols.length
  · have h2' : decide ((cols.length : Int) > 8) = true := decide_eq_true (by omega)
    clear h1
    go_enter Tryz.func5, Tryz.ntmps5
    go_wp2
    go_ret
    exact ⟨⟨false, rfl, fun h => by cases h⟩, hb⟩
  have h2' : decide ((cols.length : Int) > 8) = false := decide_eq_false (by omega)
  have hl8 : cols.length ≤ 8 := by omega
  have HJ8 := Lib.hid (show job.size ≤ 30 by omega)
  clear h1 h2
  have HBX := Lib.hid bx
  go_enter Tryz.func5, Tryz.ntmps5
  go_wp2
  go_loopw [3] (fun i wr => ∃ k : Nat, k ≤ cols.length ∧ i = .int .i64 k ∧ Hid (∀ (j : Nat) (h : j < cols.length), j < k → cols[j].size ≤ 30) ∧ wr = w.alloc (.cells #[.string job, .int .i64 day, .int .i64 wanted, .int .i64 given, .slice a cols.length c, .int .i64 ready, .int .i64 hour] 24)) (fun i _ => cols.length - (intOf i).toNat)
  case atStart => exact ⟨0, Nat.zero_le _, rfl, Lib.hid (fun j _ h => by omega), rfl⟩
  case round =>
    obtain ⟨k, hk, rfl, HS8, hw⟩ := hrel
    have c4 : wr.cell? ⟨w.heap.size, 4, none⟩ = some (.slice a cols.length c) := by rw [hw]; exact HBX.out.cell 4
    have hwl : w.heap.size < wr.heap.size := by rw [hw]; exact HBX.out.lt
    have HW := Lib.hid hw
    by_cases hlt : k < cols.length
    · have hlt' : (k : Int) < (cols.length : Int) := by omega
      have hrw : RowsG 1 tx wr a cols := by rw [hw]; exact HR.out.alloc _
      obtain ⟨ad, rfl, had, s0⟩ := hrw.txt hlt
      have hsz := HC.out _ (List.getElem_mem hlt)
      unfold maxLen at hsz
      obtain ⟨s, es⟩ : ∃ s, s = cols[k] := ⟨_, rfl⟩
      have HES := Lib.hid es
      rw [← es] at s0 hsz
      clear es hrw hw bx hb
      by_cases h3 : 30 < s.size
      · have h3' : decide ((s.size : Int) > 30) = true := decide_eq_true (by omega)
        clear h3
        go_wp2
        go_ret
        exact ⟨⟨false, rfl, fun h => by cases h⟩, by rw [HW.out]; exact (Below.refl _ _).alloc (Nat.le_refl _) _⟩
      · have h3' : decide ((s.size : Int) > 30) = false := decide_eq_false (by omega)
        have HN3 := Lib.hid (show ∀ (j : Nat) (h : j < cols.length), j < k + 1 → cols[j].size ≤ 30 from fun j h hjk => by
          by_cases h4 : j = k
          · subst h4; rw [← HES.out]; omega
          · exact HS8.out j h (by omega))
        clear h3
        go_wp2
        go_roundw
        case rel => exact ⟨k + 1, by omega, by go_num, HN3, HW.out⟩
        case measure => simp [intOf]; omega
    · obtain rfl : k = cols.length := by omega
      clear hw bx hb
      go_wp2
      go_ret
      exact ⟨⟨true, rfl, fun _ => ⟨HJ8.out, hl8, fun s hs => by
        obtain ⟨j, hj, rfl⟩ := List.getElem_of_mem hs
        exact HS8.out j hj hj⟩⟩, by rw [HW.out]; exact (Below.refl _ _).alloc (Nat.le_refl _) _⟩
end Go.Proofs.YtdgegebplebeoaaGreatDoor
