/-
  Package text: Parse of the reference: the walk.
-/
import Derived.Test.YtomblajlpanmjaaGreatDoorQOP
import Derived.Test.YtomblajlpanmjaaGreatDoorZ7
namespace Go.Proofs.YtomblajlpanmjaaGreatDoor
open Go.RowKit Go.Maps Go.Shelf

/-- The texts of a list in memory, each. -/
def LnsAt (W : World) (g : Nat) (L : List ByteArray) : Prop := g < W.heap.size ∧ ∀ k (h : k < L.length), W.cell? ⟨g, k, none⟩ = some (.string L[k])
theorem LnsAt.below {W W' : World} {g : Nat} {L : List ByteArray} (h : LnsAt W g L) (hb : Below W.heap.size W W') : LnsAt W' g L :=
  ⟨Nat.lt_of_lt_of_le h.1 hb.size, fun k hk => (hb.cell (p := ⟨g, k, none⟩) h.1).trans (h.2 k hk)⟩
theorem LnsAt.alloc {W : World} {g : Nat} {L : List ByteArray} (h : LnsAt W g L) (o : Obj) : LnsAt (W.alloc o) g L := h.below ((Below.refl _ _).alloc (Nat.le_refl _) o)
theorem LnsAt.of_row {W : World} {B : Nat} {v : Value} {L : List ByteArray} (h : TRow W B v L) (hn : 0 < L.length) : ∃ g c, v = .slice (some ⟨g, 0, none⟩) L.length c ∧ B ≤ g ∧ LnsAt W g L := by
  have h' : W.ownsRow B 9 1 v L.length (txs L) := h
  rcases h'.2 with ⟨e1, e2⟩ | ⟨g, cap, cur, e1, e2, e3, e4⟩
  · omega
  · refine ⟨g, cap, e1, e2, (h'.lt g (by rw [e1]; rfl)).2, fun k hk => ?_⟩
    have h2 := h'.cells (g := g) (by rw [e1]; rfl) k (.string L[k]) (by unfold txs; rw [List.getElem?_map, List.getElem?_eq_getElem hk]; rfl)
    have e5 : (⟨g, 0, none⟩ : Addr).add k = ⟨g, k, none⟩ := by
      unfold Addr.add
      by_cases h0 : k = 0
      · rw [if_pos h0, h0]
      · rw [if_neg h0]; show (⟨g, 0 + k, none⟩ : Addr) = _; rw [Nat.zero_add]
    rw [← e5]; exact h2
theorem bs_dataQ (l : List UInt8) : (bs l).data.toList = l := rfl
theorem bs_sizeQ (l : List UInt8) : (bs l).size = l.length := by unfold bs; simp [ByteArray.size]
theorem piece_len {m : UInt8} {l x : List UInt8} (h : x ∈ splitOn m l) : x.length ≤ l.length := by
  have h1 := splitOn_len m l
  have h2 : x.length ≤ (splitOn m l).flatten.length := (List.sublist_flatten_of_mem h).length_le
  have h3 : 1 ≤ (splitOn m l).length := List.length_pos_iff.2 (splitOn_ne m l)
  omega
theorem wdP_nil {k : Nat} {r : List (List UInt8)} : wdP k ([] :: r) = wdP (k + 1) r := rfl
theorem wdP_cons {k : Nat} {x : List UInt8} {r : List (List UInt8)} (h : x ≠ []) : wdP k (x :: r) = (k, x) :: wdP (k + x.length + 1) r := by
  show (if x = [] then _ else _) = _; rw [if_neg h]
theorem rdWs_go {n : Int} {st : CRd} {k : Nat} {t : List UInt8} {r : List (Nat × List UInt8)} (h : (rdW st ⟨t.toArray⟩ n ((k : Int) + 1)).1 = 0) : rdWs n st ((k, t) :: r) = rdWs n (rdW st ⟨t.toArray⟩ n ((k : Int) + 1)).2 r := by
  show (if _ ≠ (0 : Int) then _ else _) = _; rw [if_neg (fun e => e h)]
theorem rdWs_end {n : Int} {st : CRd} {k : Nat} {t : List UInt8} {r : List (Nat × List UInt8)} (h : (rdW st ⟨t.toArray⟩ n ((k : Int) + 1)).1 ≠ 0) : rdWs n st ((k, t) :: r) = .inl ((n, (k : Int) + 1), (rdW st ⟨t.toArray⟩ n ((k : Int) + 1)).1) := by
  show (if _ ≠ (0 : Int) then _ else _) = _; rw [if_pos h]
theorem rf_step {ls : List (List UInt8)} {k : Nat} {st : CRd} (hk : k < ls.length) : rfRest k st (ls.drop k) = (match rfLn st ((k : Int) + 1) ls[k] (ls.drop (k + 1)).isEmpty with | .inl e => ([], e.1, e.2) | .inr s => rfRest (k + 1) s (ls.drop (k + 1))) := by
  rw [List.drop_eq_getElem_cons hk]; rfl
theorem rf_end {ls : List (List UInt8)} {k : Nat} {st : CRd} (hk : ¬ k < ls.length) : rfRest k st (ls.drop k) = (st.ps, (0, 0), 0) := by
  rw [List.drop_of_length_le (by omega)]; rfl
theorem CPPost.none {w W : World} {p : List CP × (Int × Int) × Int} {x y z : Int} (h : p = ([], (x, y), z)) (hb : Below w.heap.size w W) : CPPost w p (.returned (.tuple #[.slice none 0 0, .agg #[.int .i64 x, .int .i64 y], .int .i64 z])) W := by
  subst h; exact ⟨_, rfl, pown_nil _ _ _, hb⟩
theorem LnsAt.moved {W W' : World} {g : Nat} {L : List ByteArray} (h : LnsAt W g L) (h1 : W'.heap[g]? = W.heap[g]?) : LnsAt W' g L := by
  have h2 : W.heap[g]? = some (W.heap[g]'h.1) := Array.getElem?_eq_getElem h.1
  refine ⟨(Array.getElem?_eq_some_iff.1 (h1.trans h2)).1, fun k hk => ?_⟩
  rw [← h.2 k hk]
  unfold World.cell?
  rw [show W'.heap[(⟨g, k, none⟩ : Addr).block]? = W.heap[(⟨g, k, none⟩ : Addr).block]? from h1]
theorem LnsAt.put {W : World} {g : Nat} {L : List ByteArray} (h : LnsAt W g L) {p : Addr} (hp : g ≠ p.block) (x : Value) : LnsAt (W.setCell p x) g L := h.moved (Below.heap_setCell _ _ _ _ hp)
theorem mark_done {W : World} {b : Nat} {x y : Int} (h : BoxAt W b #[.int .i64 0, .int .i64 0] 49) : BoxAt (((W.setCell ⟨b, 0, none⟩ (.int .i64 x)).setCell ⟨b, 1, none⟩ (.int .i64 y)).drew) b #[.int .i64 x, .int .i64 y] 49 := ((h.set 0 (.int .i64 x)).set 1 (.int .i64 y)).drew
theorem below_done {w W : World} {x y : Value} (h : Below w.heap.size w W) : Below w.heap.size w (((W.setCell ⟨w.heap.size, 0, none⟩ x).setCell ⟨w.heap.size, 1, none⟩ y).drew) := ((h.setCell (p := ⟨w.heap.size, 0, none⟩) (Nat.le_refl _) _).setCell (p := ⟨w.heap.size, 1, none⟩) (Nat.le_refl _) _).drew
theorem below_lt {B : Nat} {w W : World} (h : Below B w W) {g : Nat} {L : List ByteArray} (hg : g < B) (hl : LnsAt w g L) : LnsAt W g L := hl.moved (h.block g hg)
theorem box_lt {B : Nat} {w W : World} (h : Below B w W) {b : Nat} {cs : Array Value} {T : TypeId} (hb : b < B) (hx : BoxAt w b cs T) : BoxAt W b cs T := (h.block b hb).trans hx
theorem wd_word {wd : ByteArray} (h : allB prB wd.data.toList = true) (h1 : wd.size ≠ 0) : isWordB wd = decide (wd.size ≤ 30) := by
  rw [isWord_good wd h, Bool.eq_iff_iff]
  simp [inB]
  omega
theorem mark_kind1 {wd : ByteArray} (h : (wd.toList == [35]) = true) : kindOfW wd = 2 ∧ markB wd = true := by unfold kindOfW markB; rw [h]; exact ⟨rfl, rfl⟩
theorem mark_kind2 {wd : ByteArray} (h : (wd.toList == [35]) = false) (h2 : (wd.toList == [94]) = true) : kindOfW wd = 3 ∧ markB wd = true := by unfold kindOfW markB; rw [h, h2]; exact ⟨rfl, rfl⟩
theorem mark_kind3 {wd : ByteArray} (h : (wd.toList == [35]) = false) (h2 : (wd.toList == [94]) = false) : kindOfW wd = 1 ∧ markB wd = false := by unfold kindOfW markB; rw [h, h2]; exact ⟨rfl, rfl⟩
set_option maxRecDepth 100000 in
set_option maxHeartbeats 2000000 in
theorem refParse_any (s : ByteArray) (w : World) (hs : s.size ≤ 1000 ∨ 60000 < s.size) :
    Calls Tryz.prog 26 #[.string s] w (CPPost w (copyP s.data.toList)) := by
  have hsl : s.data.toList.length = s.size := Array.length_toList
  have b0 := BoxAt.new w #[.int .i64 0, .int .i64 0] 49
  have hB0 := (Below.refl w.heap.size w).alloc (Nat.le_refl _) (.cells #[.int .i64 0, .int .i64 0] 49)
  by_cases h6 : 60000 < s.size
  · have hE := Lib.hid (show copyP s.data.toList = ([], (0, 0), 8) by unfold copyP; rw [if_pos (by rw [hsl]; exact h6)])
    have hI : (60000 : Int) < (s.size : Int) := by omega
    have z0 := b0.free 0; have z1 := b0.free 1; have m0 := b0.cell 0; have m1 := b0.cell 1; have lt0 := b0.lt
    simp only [List.getElem?_toArray, List.getElem?_cons_zero, List.getElem?_cons_succ] at m0 m1
    have HB0 := Lib.hid b0
    clear hs
    go_enter Tryz.func26, Tryz.ntmps26
    go_wp2_with fail
    exact bodyPost_ret (res_mark rfl rfl rfl rfl (HB0.out)) rfl (CPPost.none hE.out hB0)
  have hI : ¬ (60000 : Int) < (s.size : Int) := by omega
  have hs9 : s.size ≤ 1000 := by omega
  obtain ⟨p, hp⟩ : ∃ p, p = copyP s.data.toList := ⟨_, rfl⟩
  obtain ⟨ls, hls⟩ : ∃ ls, ls = splitOn 10 s.data.toList := ⟨_, rfl⟩
  have HPE := Lib.hid (show p = match badAt 0 ls with | some m => ([], m, 3) | none => rfRest 0 ⟨[], 0, [], 0, 0⟩ ls by rw [hp, hls, copyP_ref, if_neg (by omega)]; rfl)
  have hcnt : ls.length ≤ 1001 := by
    have h1 := splitOn_len 10 s.data.toList
    rw [← hls] at h1; omega
  have hne : 0 < ls.length := by rw [hls]; exact List.length_pos_iff.2 (splitOn_ne 10 _)
  have hlz : ∀ x ∈ ls, x.length ≤ 1000 := fun x hx => by rw [hls] at hx; have := piece_len hx; omega
  have HCUT := Lib.hid (fun W => show Calls Tryz.prog 64 #[.string s, .int .u8 10] W (fun e w' => Below W.heap.size W w' ∧ ∃ v, e = .returned v ∧ TRow w' W.heap.size v (ls.map bs)) by rw [hls]; exact cut_any s 10 W hs9)
  rw [← hp]
  obtain ⟨LL, hLL⟩ : ∃ LL, LL = ls.map bs := ⟨_, rfl⟩
  have hLn : LL.length = ls.length := by rw [hLL, List.length_map]
  have HLA := Lib.hid (show ∀ k (h : k < LL.length) (h2 : k < ls.length), LL[k].data.toList = ls[k] from fun k h h2 => by subst hLL; rw [List.getElem_map]; exact bs_dataQ _)
  obtain ⟨n, hn⟩ : ∃ n, n = LL.length := ⟨_, rfl⟩
  have HN := Lib.hid hn; have HLN := Lib.hid hLn; have HLZ := Lib.hid hlz; have HNE := Lib.hid hne; have HCN := Lib.hid hcnt
  rw [← hLL] at HCUT
  have hn0 : 0 < LL.length := by omega
  have HX0 := Lib.hid b0; have HB0 := Lib.hid hB0
  clear hp hls hLL hLn hs hsl b0 hB0 hlz hne hcnt hs9
  go_enter Tryz.func26, Tryz.ntmps26
  go_wp2_with (first | (go_at_call 64; refine (HCUT.out _).mono ?_; rintro e w1 ⟨hb1, v1, rfl, hO1⟩; obtain ⟨g1, c1, rfl, hg1, hL1⟩ := LnsAt.of_row hO1 hn0; have HX1 := Lib.hid (HX0.out.below hb1); have HB1 := Lib.hid (HB0.out.trans (hb1.mono HB0.out.size)); have HL1 := Lib.hid hL1; have HG1 := Lib.hid hg1; clear hb1 hO1 hL1 hg1))
  rw [← HN.out]
  have hn2 := HN.out
  have z0 := HX1.out.free 0; have z1 := HX1.out.free 1; have m0 := HX1.out.cell 0; have m1 := HX1.out.cell 1; have lt0 := HX1.out.lt
  simp only [List.getElem?_toArray, List.getElem?_cons_zero, List.getElem?_cons_succ] at m0 m1
  go_loop [6] (fun i => ∃ k : Nat, k ≤ n ∧ i = .int .i64 k ∧ Hid (badAt 0 ls = badAt k (ls.drop k))) (fun i => n - (intOf i).toNat)
  case atStart => exact ⟨0, Nat.zero_le _, rfl, Lib.hid (by rw [List.drop_zero])⟩
  case round =>
    obtain ⟨k, hk, rfl, HB⟩ := hrel
    by_cases hlt : k < n
    · have hkI : (k : Int) < (n : Int) := by omega
      have hkb : (k : Int) ≤ 1001 := by have := HCN.out; have := HLN.out; omega
      have hkL : k < LL.length := by omega
      have hkl : k < ls.length := by have := HLN.out; omega
      have c0 := HL1.out.2 k hkL
      have hgl := HL1.out.1
      have hdL := HLA.out k hkL hkl
      obtain ⟨d, hd⟩ : ∃ d, d = LL[k] := ⟨_, rfl⟩
      rw [← hd] at c0 hdL
      have hdz : d.size ≤ 1000 := by
        have h1 := HLZ.out _ (List.getElem_mem hkl)
        rw [← hdL] at h1; rw [← show d.data.toList.length = d.size from Array.length_toList]; exact h1
      have HDL := Lib.hid hdL
      clear hd hdL
      go_wp2_with fail
      go_loop [7] (fun j => ∃ m : Nat, m ≤ d.size ∧ j = .int .i64 m ∧ Hid (strangeL d.data.toList 0 = strangeL (d.data.toList.drop m) m)) (fun j => d.size - (intOf j).toNat)
      case atStart => exact ⟨0, Nat.zero_le _, rfl, Lib.hid (by rw [List.drop_zero])⟩
      case round =>
        obtain ⟨m, hm, rfl, HS⟩ := hrel
        by_cases hml : m < d.size
        · have hmI : (m : Int) < (d.size : Int) := by omega
          by_cases h32 : d[m].toNat = 32
          · have e32 : ((d[m].toNat : Int) != 32) = false := by rw [h32]; rfl
            have HS2 := Lib.hid (show strangeL d.data.toList 0 = strangeL (d.data.toList.drop (m + 1)) (m + 1) by rw [HS.out]; exact strange_go hml (by unfold lineB; rw [h32]; rfl))
            clear h32
            go_wp2_with fail
            go_round
            case rel => exact ⟨m + 1, by omega, by go_num, HS2⟩
            case measure => simp [intOf]; omega
          · have e32 : ((d[m].toNat : Int) != 32) = true := by rw [bne_iff_ne]; omega
            have HRB := Lib.hid (fun W => refByte_any (d[m].toNat : Int) W)
            cases hpr : prB (d[m].toNat : Int) with
            | true =>
              have HS2 := Lib.hid (show strangeL d.data.toList 0 = strangeL (d.data.toList.drop (m + 1)) (m + 1) by
                rw [HS.out]
                refine strange_go hml ?_
                unfold prB at hpr; unfold lineB
                have := of_decide_eq_true hpr
                exact decide_eq_true (by omega))
              rw [hpr] at HRB
              clear h32 hpr
              go_wp2_with (first | (go_at_call 76; refine (HRB.out _).mono ?_; rintro e w' ⟨rfl, rfl⟩))
              go_round
              case rel => exact ⟨m + 1, by omega, by go_num, HS2⟩
              case measure => simp [intOf]; omega
            | false =>
              have HE := Lib.hid (show p = ([], ((k : Int) + 1, (m : Int) + 1), 3) by
                have h1 : strangeL d.data.toList 0 = ((m : Int), true) := by
                  rw [HS.out]
                  refine strange_at hml ?_
                  unfold prB at hpr; unfold lineB
                  have := of_decide_eq_false hpr
                  exact decide_eq_false (by omega)
                rw [HPE.out, HB.out, badAt_at hkl (by rw [← HDL.out, h1]), ← HDL.out, h1])
              rw [hpr] at HRB
              clear h32 hpr
              go_wp2_with (first | (go_at_call 76; refine (HRB.out _).mono ?_; rintro e w' ⟨rfl, rfl⟩))
              exact bodyPost_ret (res_mark rfl rfl rfl rfl (show BoxAt _ w.heap.size #[.int .i64 ((k : Int) + 1), .int .i64 ((m : Int) + 1)] 49 from (HX1.out.set 0 (.int .i64 ((k : Int) + 1))).set 1 (.int .i64 ((m : Int) + 1)))) rfl (CPPost.none HE.out ((HB1.out.setCell (p := ⟨w.heap.size, 0, none⟩) (Nat.le_refl _) _).setCell (p := ⟨w.heap.size, 1, none⟩) (Nat.le_refl _) _))
        · obtain rfl : m = d.size := by omega
          have HB2 := Lib.hid (show badAt 0 ls = badAt (k + 1) (ls.drop (k + 1)) by
            rw [HB.out]
            refine badAt_go hkl ?_
            rw [← HDL.out, HS.out, strange_end hml])
          clear hml
          go_wp2_with fail
          go_round
          case rel => (repeat apply Exists.intro); exact ⟨⟨k + 1, by omega, by go_num, HB2⟩, rfl, rfl, rfl⟩
          case measure => simp [intOf]; omega
    · obtain rfl : n = k := by omega
      have HBN := Lib.hid (show badAt 0 ls = none by rw [HB.out]; exact badAt_end (by have := HLN.out; omega))
      have HRS := Lib.hid (show p = rfRest 0 ⟨[], 0, [], 0, 0⟩ ls by rw [HPE.out, HBN.out])
      have HBB := Lib.hid (bad_none HBN.out)
      obtain ⟨bp, hbp⟩ : ∃ bp, bp = w1.heap.size := ⟨_, rfl⟩
      obtain ⟨wa, hwa⟩ : ∃ wa, wa = (w1.alloc (.cells #[.int .i64 0, .slice none 0 0] 72)).alloc (.cells #[.int .i64 0, .int .i64 0] 49) := ⟨_, rfl⟩
      have HRF : Hid (RfAt wa (bp + 2) bp (bp + 1) ⟨[], 0, [], 0, 0⟩ (.slice none 0 0) (.slice none 0 0)) := Lib.hid (by
        have b1 : BoxAt wa (bp + 1) #[.int .i64 0, .int .i64 0] 49 := by
          have h := BoxAt.new (w1.alloc (.cells #[.int .i64 0, .slice none 0 0] 72)) #[.int .i64 0, .int .i64 0] 49
          rw [World.size_alloc, ← hbp] at h; rw [hwa]; exact h
        have b2 : BoxAt wa bp #[.int .i64 0, .slice none 0 0] 72 := by rw [hwa, hbp]; exact (BoxAt.new w1 _ _).alloc _
        exact ⟨b2, b1, pown_nil _ _ _, World.ownsRow_nil _ _ _ _, fun _ => ⟨rfl, rfl⟩, by omega, by omega, by omega⟩)
      have HWa : Hid (Below bp w1 wa) := Lib.hid (by rw [hwa, hbp]; exact ((Below.refl w1.heap.size w1).alloc (Nat.le_refl _) _).alloc (by simp) _)
      have hg1p : g1 < bp := by rw [hbp]; exact HL1.out.1
      have hwp : w.heap.size < bp := by rw [hbp]; exact lt0
      have HGP := Lib.hid hg1p; have HWP := Lib.hid hwp
      have HLW := Lib.hid (fun W (h : Below bp w1 W) => below_lt h hg1p HL1.out)
      have HXW := Lib.hid (fun W (h : Below bp w1 W) => box_lt h hwp HX1.out)
      have HBW := Lib.hid (fun W (h : Below bp w1 W) => show Below w.heap.size w W from HB1.out.trans (h.mono (by omega)))
      have hsz : wa.heap.size = bp + 2 := by rw [hwa, hbp]; simp
      have hn1001 : n ≤ 1001 := by have := HCN.out; have := HLN.out; omega
      clear HB hlt hk m0 m1 z0 z1 lt0
      go_wp2_with fail
      try rw [← hbp]
      rw [← hwa]
      clear hwa hbp hg1p hwp
      go_loopw [8, 11] (fun v i wr => ∃ (k : Nat) (st : CRd) (u : Value), k ≤ n ∧ i = .int .i64 k ∧ Hid (RfAt wr (bp + 2) bp (bp + 1) st v u) ∧ Hid (RdOk st) ∧ Hid (p = rfRest k st (ls.drop k)) ∧ Hid (Below bp w1 wr) ∧ bp + 2 ≤ wr.heap.size) (fun _ i _ => n - (intOf i).toNat)
      case atStart => exact ⟨0, _, _, Nat.zero_le _, rfl, HRF, Lib.hid ⟨by simp, fun h => absurd rfl h, by simp⟩, Lib.hid (by rw [List.drop_zero]; exact HRS.out), HWa, by omega⟩
      case round =>
        obtain ⟨k, st, u, hk, rfl, HRA, HOK, HP, HW, hB2⟩ := hrel
        clear HRF HWa hsz
        obtain ⟨A8, c8, rfl, -, -⟩ : ∃ A c, u8 = .slice A st.ps.length c ∧ True ∧ True := by
          obtain ⟨xs, h1, -⟩ := HRA.out.parts
          obtain ⟨A, c, e, -, -⟩ := own_shapeQ h1
          exact ⟨A, c, e, trivial, trivial⟩
        by_cases hlt : k < n
        · have hkI : (k : Int) < (n : Int) := by omega
          have hkb : (k : Int) ≤ 1001 := by omega
          have hkL : k < LL.length := by omega
          have hkl : k < ls.length := by have := HLN.out; omega
          have hLr := HLW.out wr HW.out
          have c0 := hLr.2 k hkL
          have hgl := hLr.1
          have hdL := HLA.out k hkL hkl
          obtain ⟨d, hd⟩ : ∃ d, d = LL[k] := ⟨_, rfl⟩
          rw [← hd] at c0 hdL
          have hdz : d.size ≤ 1000 := by
            have h1 := HLZ.out _ (List.getElem_mem hkl)
            rw [← hdL] at h1; rw [← show d.data.toList.length = d.size from Array.length_toList]; exact h1
          have hST := HBB.out _ (List.getElem_mem hkl)
          rw [← hdL] at hST
          have HSTEP := Lib.hid (rf_step (st := st) hkl)
          rw [← hdL] at HSTEP
          obtain ⟨ws, hws⟩ : ∃ ws, ws = splitOn 32 d.data.toList := ⟨_, rfl⟩
          obtain ⟨WL, hWL⟩ : ∃ WL, WL = wordsL d.data.toList := ⟨_, rfl⟩
          have HWL := Lib.hid hWL
          have HWL0 := Lib.hid (show WL = wdP 0 ws by rw [hWL, hws]; rfl)
          have HRET := Lib.hid (fun e (h : rdWs ((k : Int) + 1) st WL = .inl e) => show p = ([], e.1, e.2) by
            rw [HP.out, HSTEP.out]
            unfold rfLn
            rw [← hWL, h])
          have HGO := Lib.hid (fun s2 (h : rdWs ((k : Int) + 1) st WL = .inr s2) => show p = (match (if s2.kd ≠ 0 ∧ (WL = [] ∨ (ls.drop (k + 1)).isEmpty = true) then (if s2.ws.length = 0 then Sum.inl ((s2.ln, s2.cl), (6 : Int)) else Sum.inr (endP s2).2.2) else Sum.inr s2) with | .inl e => ([], e.1, e.2) | .inr s => rfRest (k + 1) s (ls.drop (k + 1))) by
            rw [HP.out, HSTEP.out]
            unfold rfLn
            rw [← hWL, h])
          have hwpr : ∀ x ∈ ws, allB prB x = true := fun x hx => by rw [hws] at hx; exact piece_pr hST hx
          have hwsz : ∀ x ∈ ws, x.length ≤ 1000 := fun x hx => by
            rw [hws] at hx
            have h1 := piece_len hx
            rw [show d.data.toList.length = d.size from Array.length_toList] at h1; omega
          have hwc : ws.length ≤ 1001 := by
            have h1 := splitOn_len 32 d.data.toList
            rw [← hws, show d.data.toList.length = d.size from Array.length_toList] at h1; omega
          have hw0 : 0 < ws.length := by rw [hws]; exact List.length_pos_iff.2 (splitOn_ne 32 _)
          obtain ⟨PP, hPP⟩ : ∃ PP, PP = ws.map bs := ⟨_, rfl⟩
          have hPl : PP.length = ws.length := by rw [hPP, List.length_map]
          have HPA := Lib.hid (show ∀ m (h : m < PP.length) (h2 : m < ws.length), PP[m] = bs ws[m] from fun m h h2 => by subst hPP; rw [List.getElem_map])
          have HCT := Lib.hid (fun W => show Calls Tryz.prog 64 #[.string d, .int .u8 32] W (fun e w' => Below W.heap.size W w' ∧ ∃ v, e = .returned v ∧ TRow w' W.heap.size v PP) by rw [hPP, hws]; exact cut_any d 32 W hdz)
          have hp0 : 0 < PP.length := by omega
          obtain ⟨n2, hn2'⟩ : ∃ n2, n2 = PP.length := ⟨_, rfl⟩
          have HN2 := Lib.hid hn2'; have HPL := Lib.hid hPl; have HWPR := Lib.hid hwpr; have HWSZ := Lib.hid hwsz
          have hn2b : n2 ≤ 1001 := by omega
          clear hws hWL hPP hPl hwpr hwsz hwc hw0 hd hST hdL hn2'
          go_wp2_with (first | (go_at_call 64; refine (HCT.out _).mono ?_; rintro e w2 ⟨hb2, v2, rfl, hO2⟩; obtain ⟨g2, c2, rfl, hg2, hL2⟩ := LnsAt.of_row hO2 hp0; have HRB := Lib.hid (HRA.out.below hb2); have HWB := Lib.hid (HW.out.trans (hb2.mono (by omega))); have HL2 := Lib.hid hL2; have hs2 := hb2.size; clear hb2 hO2 hL2))
          rw [← HN2.out]
          have hug : u.ownBlock ≠ some g2 := fun e => by have := (HRA.out.words.lt g2 e).2; omega
          have hg2b : bp + 2 ≤ g2 := by omega
          have hB3 : bp + 2 ≤ w2.heap.size := by omega
          clear c0 hgl hLr HRA HW hB2 hs2 hg2
          go_loopw [13, 14, 15] (fun col so j wi => ∃ (m cN : Nat) (sb : Bool) (s2 : CRd) (u2 : Value), m ≤ n2 ∧ j = .int .i64 m ∧ col = .int .i64 ((cN : Int) + 1) ∧ so = .bool sb ∧ cN ≤ 1001 * m ∧ Hid (RfAt wi (bp + 2) bp (bp + 1) s2 (.slice A8 st.ps.length c8) u2) ∧ Hid (RdOk s2) ∧ s2.ps = st.ps ∧ Hid (rdWs ((k : Int) + 1) st WL = rdWs ((k : Int) + 1) s2 (wdP cN (ws.drop m))) ∧ Hid (WL = [] ↔ (sb = false ∧ wdP cN (ws.drop m) = [])) ∧ Hid (LnsAt wi g2 PP) ∧ u2.ownBlock ≠ some g2 ∧ Hid (Below bp w1 wi) ∧ bp + 2 ≤ wi.heap.size) (fun _ _ j _ => n2 - (intOf j).toNat)
          case atStart => exact ⟨0, 0, false, st, u, Nat.zero_le _, rfl, rfl, rfl, by omega, HRB, HOK, rfl, Lib.hid (by rw [List.drop_zero, HWL0.out]), Lib.hid (by rw [List.drop_zero, HWL0.out]; simp), HL2, hug, HWB, hB3⟩
          case round =>
            obtain ⟨m, cN, sb, s2, u2, hm, rfl, rfl, rfl, hcN, HR, HK2, hps2, HWS, HSO, HLI, hu2, HWi, hBi⟩ := hrel
            clear HRB HWB HL2 hug hB3
            obtain ⟨ps, kd, ws2, l0, k0⟩ := s2
            dsimp only at hps2
            subst hps2
            obtain ⟨Aw, cw, rfl, hAw, -⟩ := own_shapeQ HR.out.words
            have hps60 : st.ps.length ≤ 60 := HK2.out.ps
            have hws100 : ws2.length ≤ 100 := HK2.out.ws
            change Nat at cw
            have q0 := HR.out.part.cell 0; have q1 := HR.out.part.cell 1; have y0 := HR.out.part.free 0; have y1 := HR.out.part.free 1
            have r0 := HR.out.mark.cell 0; have r1 := HR.out.mark.cell 1; have x0 := HR.out.mark.free 0; have x1 := HR.out.mark.free 1
            have HXi := Lib.hid (HXW.out wr HWi.out)
            have m0 := HXi.out.cell 0; have m1 := HXi.out.cell 1; have z0 := HXi.out.free 0; have z1 := HXi.out.free 1
            simp only [List.getElem?_toArray, List.getElem?_cons_zero, List.getElem?_cons_succ] at q0 q1 r0 r1 m0 m1
            have lp := HR.out.part.lt; have lm := HR.out.mark.lt; have lx := HXi.out.lt
            have hwq := HWP.out
            by_cases hlm : m < n2
            · have hmI : (m : Int) < (n2 : Int) := by omega
              have hmP : m < PP.length := by have := HN2.out; omega
              have hmw : m < ws.length := by have := HPL.out; omega
              have w0 := HLI.out.2 m hmP
              have hgl := HLI.out.1
              obtain ⟨wd, hwd⟩ : ∃ wd, wd = PP[m] := ⟨_, rfl⟩
              rw [← hwd] at w0
              have hwb : wd = bs ws[m] := by rw [hwd]; exact HPA.out m hmP hmw
              have hdat : wd.data.toList = ws[m] := by rw [hwb]; rfl
              have hwl : wd.size ≤ 1000 := by rw [hwb, bs_sizeQ]; exact HWSZ.out _ (List.getElem_mem hmw)
              have hpr : allB prB wd.data.toList = true := by rw [hdat]; exact HWPR.out _ (List.getElem_mem hmw)
              have hdrop : ws.drop m = ws[m] :: ws.drop (m + 1) := List.drop_eq_getElem_cons hmw
              have hcb : (cN : Int) ≤ 1002001 := by omega
              have hlen : ws[m].length = wd.size := by rw [← hdat]; exact Array.length_toList
              have HMK := Lib.hid (fun W => refMark_any wd W)
              have HR3 : Hid (RfAt (wr.alloc (.cells #[.int .i64 ((k : Int) + 1), .int .i64 ((cN : Int) + 1)] 49)) (bp + 2) bp (bp + 1) ⟨st.ps, kd, ws2, l0, k0⟩ (.slice A8 st.ps.length c8) (.slice Aw ws2.length cw)) := Lib.hid (HR.out.alloc _)
              have HL3 : Hid (LnsAt (wr.alloc (.cells #[.int .i64 ((k : Int) + 1), .int .i64 ((cN : Int) + 1)] 49)) g2 PP) := Lib.hid (HLI.out.alloc _)
              have HW3 : Hid (Below bp w1 (wr.alloc (.cells #[.int .i64 ((k : Int) + 1), .int .i64 ((cN : Int) + 1)] 49))) := Lib.hid (HWi.out.alloc (by omega) _)
              have HX3 : Hid (BoxAt (wr.alloc (.cells #[.int .i64 ((k : Int) + 1), .int .i64 ((cN : Int) + 1)] 49)) w.heap.size #[.int .i64 0, .int .i64 0] 49) := Lib.hid (HXi.out.alloc _)
              have HB3 : Hid (Below w.heap.size w (wr.alloc (.cells #[.int .i64 ((k : Int) + 1), .int .i64 ((cN : Int) + 1)] 49))) := Lib.hid (HBW.out _ HW3.out)
              have t1 : ¬ wr.heap.size = bp := by omega
              have t2 : ¬ wr.heap.size = bp + 1 := by omega
              have t3 : ¬ bp = wr.heap.size := by omega
              have t4 : ¬ bp + 1 = wr.heap.size := by omega
              have t5 : ¬ w.heap.size = bp := by omega
              have t6 : ¬ w.heap.size = bp + 1 := by omega
              have t7 : ¬ w.heap.size = wr.heap.size := by omega
              have t8 : g2 ≠ bp := by omega
              have t9 : g2 ≠ bp + 1 := by omega
              by_cases h0 : wd.size = 0
              · have e0 : (wd.toList == ([] : List UInt8)) = true := by rw [Lib.toList_data, beq_iff_eq]; exact List.length_eq_zero_iff.1 (by rw [show wd.data.toList.length = wd.size from Array.length_toList]; exact h0)
                have hnil : ws[m] = [] := List.length_eq_zero_iff.1 (by rw [hlen]; exact h0)
                have HWS2 := Lib.hid (show rdWs ((k : Int) + 1) st WL = rdWs ((k : Int) + 1) ⟨st.ps, kd, ws2, l0, k0⟩ (wdP (cN + 1) (ws.drop (m + 1))) by rw [HWS.out, hdrop, hnil, wdP_nil])
                have HSO2 := Lib.hid (show WL = [] ↔ (sb = false ∧ wdP (cN + 1) (ws.drop (m + 1)) = []) by
                  have h := HSO.out
                  rw [hdrop, hnil, wdP_nil] at h; exact h)
                clear hdrop hdat hwb hwd hpr hlen hnil
                go_wp2_with fail
                go_roundw
                case rel => exact ⟨m + 1, cN + 1, sb, ⟨st.ps, kd, ws2, l0, k0⟩, _, by omega, by go_num, by go_num, rfl, by omega, (by with_reducible exact HR3), (by with_reducible exact HK2), rfl, (by with_reducible exact HWS2), (by with_reducible exact HSO2), (by with_reducible exact HL3), hu2, (by with_reducible exact HW3), (by simp; omega)⟩
                case measure => simp [intOf]; omega
              have e0 : (wd.toList == ([] : List UInt8)) = false := by
                rw [Lib.toList_data, beq_eq_false_iff_ne]
                intro e
                exact h0 (by rw [← show wd.data.toList.length = wd.size from Array.length_toList, e]; rfl)
              have hne0 : ws[m] ≠ [] := fun e => h0 (by rw [← hlen, e]; rfl)
              have hiw : isWordB wd = decide (wd.size ≤ 30) := wd_word hpr h0
              have HGOW := Lib.hid (fun s3 (h : rdW ⟨st.ps, kd, ws2, l0, k0⟩ wd ((k : Int) + 1) ((cN : Int) + 1) = (0, s3)) => show rdWs ((k : Int) + 1) st WL = rdWs ((k : Int) + 1) s3 (wdP (cN + wd.size + 1) (ws.drop (m + 1))) by
                rw [HWS.out, hdrop, wdP_cons hne0, rdWs_go (by rw [show (⟨ws[m].toArray⟩ : ByteArray) = wd from hwb.symm, h]), show (⟨ws[m].toArray⟩ : ByteArray) = wd from hwb.symm, h, hlen])
              have HERW := Lib.hid (fun (er : Int) s3 (h1 : er ≠ 0) (h : rdW ⟨st.ps, kd, ws2, l0, k0⟩ wd ((k : Int) + 1) ((cN : Int) + 1) = (er, s3)) => show p = ([], ((k : Int) + 1, (cN : Int) + 1), er) by
                refine HRET.out (((k : Int) + 1, (cN : Int) + 1), er) ?_
                rw [HWS.out, hdrop, wdP_cons hne0, rdWs_end (by rw [show (⟨ws[m].toArray⟩ : ByteArray) = wd from hwb.symm, h]; exact h1), show (⟨ws[m].toArray⟩ : ByteArray) = wd from hwb.symm, h])
              have HSOW := Lib.hid (show WL = [] ↔ ((true : Bool) = false ∧ wdP (cN + wd.size + 1) (ws.drop (m + 1)) = []) by
                constructor
                · intro h
                  have h2 := (HSO.out.1 h).2
                  rw [hdrop, wdP_cons hne0] at h2; cases h2
                · intro h; cases h.1)
              have HOKW := Lib.hid (fun s3 (h : rdW ⟨st.ps, kd, ws2, l0, k0⟩ wd ((k : Int) + 1) ((cN : Int) + 1) = (0, s3)) => show RdOk s3 by
                have h2 := rdW_ok (wd := wd) (n := (k : Int) + 1) (k := (cN : Int) + 1) HK2.out (by rw [h])
                rw [h] at h2; exact h2)
              have hb30 : ((wd.size : Int) > 30) ↔ ¬ wd.size ≤ 30 := by omega
              obtain ⟨i0, hi0, hz0, hz1, hz2⟩ := info_parts infoS
              clear hdrop hdat hwb hwd hpr hlen hne0 HWS HSO HRET HGO
              by_cases hk0 : kd = 0
              · subst hk0
                obtain ⟨hu, hw2⟩ := HR.out.zero rfl
                have hw2 : ws2 = [] := hw2
                subst hw2
                injection hu with hu1 hu2 hu3
                subst hu1; subst hu3
                by_cases hp60 : st.ps.length = 60
                · have HE := Lib.hid (HERW.out 8 ⟨st.ps, 0, [], l0, k0⟩ (by decide) (by unfold rdW; rw [if_pos ⟨rfl, hp60⟩]))
                  have hpI : ((st.ps.length : Int) == 60) = true := by rw [beq_iff_eq]; omega
                  clear hp60
                  go_wp2_with fail
                  obtain ⟨wx, hwx⟩ : ∃ wx, wx = (wr.alloc (.cells #[.int .i64 ((k : Int) + 1), .int .i64 ((cN : Int) + 1)] 49)) := ⟨_, rfl⟩
                  have hQx : BoxAt wx wr.heap.size #[.int .i64 ((k : Int) + 1), .int .i64 ((cN : Int) + 1)] 49 := by rw [hwx]; exact BoxAt.new wr _ _
                  have hXx : BoxAt wx w.heap.size #[.int .i64 0, .int .i64 0] 49 := by rw [hwx]; exact HX3.out
                  have hBx : Below w.heap.size w wx := by rw [hwx]; exact HB3.out
                  rw [← hwx]
                  have a0 := hQx.cell 0; have a1 := hQx.cell 1; have b0 := hXx.cell 0; have b1 := hXx.cell 1; have f0 := hXx.free 0; have f1 := hXx.free 1; have la := hQx.lt; have lb := hXx.lt
                  simp only [List.getElem?_toArray, List.getElem?_cons_zero, List.getElem?_cons_succ] at a0 a1 b0 b1
                  clear hwx q0 q1 y0 y1 r0 r1 x0 x1 m0 m1 z0 z1 w0
                  go_region
                  all_goals go_wp2_with fail
                  all_goals refine bodyPost_ret (res_mark rfl rfl rfl rfl (mark_done hXx)) rfl (CPPost.none HE.out (below_done hBx))
                have hpI : ((st.ps.length : Int) == 60) = false := by rw [beq_eq_false_iff_ne]; omega
                cases h35 : (wd.toList == ([35] : List UInt8)) with
                | true =>
                  obtain ⟨hkw, hmk⟩ := mark_kind1 h35
                  have h94 : (wd.toList == ([94] : List UInt8)) = false := by
                    rw [beq_eq_false_iff_ne]; rw [beq_iff_eq] at h35; rw [h35]; decide
                  have HRD := Lib.hid (show rdW ⟨st.ps, 0, [], l0, k0⟩ wd ((k : Int) + 1) ((cN : Int) + 1) = (0, ⟨st.ps, 2, [], (k : Int) + 1, (cN : Int) + 1⟩) by unfold rdW; rw [if_neg (fun h => hp60 h.2), if_pos ⟨rfl, hmk⟩, hkw])
                  have HR4 := Lib.hid ((((HR.out.begin rfl 1 (by decide)).kind 2 (by decide)).setMark ((k : Int) + 1) ((cN : Int) + 1)).alloc (.cells #[.int .i64 ((k : Int) + 1), .int .i64 ((cN : Int) + 1)] 49))
                  rw [hmk] at HMK
                  clear hp60 hkw hmk
                  go_wp2_with (first | (go_at_call 71; refine (HMK.out _).mono ?_; rintro e w7 ⟨rfl, rfl⟩))
                  go_roundw
                  case rel => exact ⟨m + 1, cN + wd.size + 1, true, ⟨st.ps, 2, [], (k : Int) + 1, (cN : Int) + 1⟩, _, by omega, by go_num, by go_num, rfl, by omega, (by with_reducible exact HR4), (by with_reducible exact Lib.hid (HOKW.out _ HRD.out)), rfl, (by with_reducible exact Lib.hid (HGOW.out _ HRD.out)), (by with_reducible exact HSOW), (by with_reducible exact Lib.hid ((((((HLI.out.put (p := ⟨bp, 0, none⟩) t8 _).put (p := ⟨bp, 1, none⟩) t8 _).put (p := ⟨bp, 0, none⟩) t8 _).put (p := ⟨bp + 1, 0, none⟩) t9 _).put (p := ⟨bp + 1, 1, none⟩) t9 _).alloc _)), (fun e => by cases e), (by with_reducible exact Lib.hid ((((((HWi.out.setCell (p := ⟨bp, 0, none⟩) (Nat.le_refl _) _).setCell (p := ⟨bp, 1, none⟩) (Nat.le_refl _) _).setCell (p := ⟨bp, 0, none⟩) (Nat.le_refl _) _).setCell (p := ⟨bp + 1, 0, none⟩) (Nat.le_succ _) _).setCell (p := ⟨bp + 1, 1, none⟩) (Nat.le_succ _) _).alloc (by simp; omega) _)), (by simp; omega)⟩
                  case measure => simp [intOf]; omega
                | false =>
                  cases h94 : (wd.toList == ([94] : List UInt8)) with
                  | true =>
                    obtain ⟨hkw, hmk⟩ := mark_kind2 h35 h94
                    have HRD := Lib.hid (show rdW ⟨st.ps, 0, [], l0, k0⟩ wd ((k : Int) + 1) ((cN : Int) + 1) = (0, ⟨st.ps, 3, [], (k : Int) + 1, (cN : Int) + 1⟩) by unfold rdW; rw [if_neg (fun h => hp60 h.2), if_pos ⟨rfl, hmk⟩, hkw])
                    have HR4 := Lib.hid ((((HR.out.begin rfl 1 (by decide)).kind 3 (by decide)).setMark ((k : Int) + 1) ((cN : Int) + 1)).alloc (.cells #[.int .i64 ((k : Int) + 1), .int .i64 ((cN : Int) + 1)] 49))
                    rw [hmk] at HMK
                    clear hp60 hkw hmk
                    go_wp2_with (first | (go_at_call 71; refine (HMK.out _).mono ?_; rintro e w7 ⟨rfl, rfl⟩))
                    go_roundw
                    case rel => exact ⟨m + 1, cN + wd.size + 1, true, ⟨st.ps, 3, [], (k : Int) + 1, (cN : Int) + 1⟩, _, by omega, by go_num, by go_num, rfl, by omega, (by with_reducible exact HR4), (by with_reducible exact Lib.hid (HOKW.out _ HRD.out)), rfl, (by with_reducible exact Lib.hid (HGOW.out _ HRD.out)), (by with_reducible exact HSOW), (by with_reducible exact Lib.hid ((((((HLI.out.put (p := ⟨bp, 0, none⟩) t8 _).put (p := ⟨bp, 1, none⟩) t8 _).put (p := ⟨bp, 0, none⟩) t8 _).put (p := ⟨bp + 1, 0, none⟩) t9 _).put (p := ⟨bp + 1, 1, none⟩) t9 _).alloc _)), (fun e => by cases e), (by with_reducible exact Lib.hid ((((((HWi.out.setCell (p := ⟨bp, 0, none⟩) (Nat.le_refl _) _).setCell (p := ⟨bp, 1, none⟩) (Nat.le_refl _) _).setCell (p := ⟨bp, 0, none⟩) (Nat.le_refl _) _).setCell (p := ⟨bp + 1, 0, none⟩) (Nat.le_succ _) _).setCell (p := ⟨bp + 1, 1, none⟩) (Nat.le_succ _) _).alloc (by simp; omega) _)), (by simp; omega)⟩
                    case measure => simp [intOf]; omega
                  | false =>
                    obtain ⟨hkw, hmk⟩ := mark_kind3 h35 h94
                    rw [hmk] at HMK
                    have HRW := Lib.hid ((HR.out.begin rfl 1 (by decide)).alloc (.cells #[.int .i64 ((k : Int) + 1), .int .i64 ((cN : Int) + 1)] 49))
                    by_cases hz : wd.size ≤ 30
                    · have HRD := Lib.hid (show rdW ⟨st.ps, 0, [], l0, k0⟩ wd ((k : Int) + 1) ((cN : Int) + 1) = (0, ⟨st.ps, 1, [wd], l0, k0⟩) by simp [rdW, hp60, hmk, hkw, hiw, hz])
                      have hzI : ¬ (wd.size : Int) > 30 := by omega
                      clear hp60 hkw hmk hz
                      have hno : ∀ {q : Nat}, (Value.slice none 0 0).ownBlock = some q → False := fun e => by cases e
                      have hOw : (((wr.setCell ⟨bp, 0, none⟩ (.int .i64 1)).setCell ⟨bp, 1, none⟩ (.slice none 0 0)).alloc (.cells #[.int .i64 ((k : Int) + 1), .int .i64 ((cN : Int) + 1)] 49)).ownsRow (bp + 2) 9 1 (.slice none 0 0) 0 (txs ([] : List ByteArray)) := HRW.out.words
                      have hszA : (((wr.setCell ⟨bp, 0, none⟩ (.int .i64 1)).setCell ⟨bp, 1, none⟩ (.slice none 0 0)).alloc (.cells #[.int .i64 ((k : Int) + 1), .int .i64 ((cN : Int) + 1)] 49)).heap.size = wr.heap.size + 1 := by simp
                      have hnw : ∀ (j : Nat) (u : Value), [Value.string wd][j]? = some u → ((((wr.setCell ⟨bp, 0, none⟩ (.int .i64 1)).setCell ⟨bp, 1, none⟩ (.slice none 0 0)).alloc (.cells #[.int .i64 ((k : Int) + 1), .int .i64 ((cN : Int) + 1)] 49)).alloc (.cells #[.string wd] 9)).cell? ((⟨wr.heap.size + 1, 0, none⟩ : Addr).add j) = some u := by
                        have h := World.news_of_block (cs := #[.string wd]) (t := 9) (fr := (0, 0)) (heap_alloc_new (((wr.setCell ⟨bp, 0, none⟩ (.int .i64 1)).setCell ⟨bp, 1, none⟩ (.slice none 0 0)).alloc (.cells #[.int .i64 ((k : Int) + 1), .int .i64 ((cN : Int) + 1)] 49)) (.cells #[.string wd] 9))
                        rw [hszA] at h; exact h
                      have h63 : 0 + 1 ≤ maxLen := by unfold maxLen; omega
                      have hby : (0 + 1) * 16 ≤ 140737488355328 := by omega
                      have hbase : bp + 2 ≤ ((((wr.setCell ⟨bp, 0, none⟩ (.int .i64 1)).setCell ⟨bp, 1, none⟩ (.slice none 0 0)).alloc (.cells #[.int .i64 ((k : Int) + 1), .int .i64 ((cN : Int) + 1)] 49)).alloc (.cells #[.string wd] 9)).heap.size := by simp; omega
                      go_wp2_with (first | (go_at_call 71; refine (HMK.out _).mono ?_; rintro e w7 ⟨rfl, rfl⟩) | (at_builtin; refine wpList_append_lies _ rfl _ _ 22 rfl (bp + 2) 9 i0 _ 1 16 Tryz.underlying22 hi0 hz0 hz1 hz2 rfl (by decide) _ 0 _ rfl (hOw.alloc _) ⟨wr.heap.size + 1, 0, none⟩ 1 1 [.string wd] rfl rfl hnw (by simp [Value.oneCell']) (by decide) h63 hby hbase _ rfl ?_; intro gg cap5 w5 hown5 hgrow hat hlt5; have b5 := HRW.out.part5 hgrow; have y5 := b5.free 1; have x5 := b5.cell 1; have l5 := b5.lt; simp only [List.getElem?_toArray, List.getElem?_cons_zero, List.getElem?_cons_succ] at x5))
                      have hat2 : (.slice none 0 0 : Value).ownBlock = some gg ∨ gg = (((wr.setCell ⟨bp, 0, none⟩ (.int .i64 1)).setCell ⟨bp, 1, none⟩ (.slice none 0 0)).alloc (.cells #[.int .i64 ((k : Int) + 1), .int .i64 ((cN : Int) + 1)] 49)).heap.size + 1 := by
                        rcases hat with h | h
                        · exact Or.inl h
                        · right; rw [h]; simp
                      have hgs := hgrow.size
                      have HR6 : Hid (RfAt (w5.setCell ⟨bp, 1, none⟩ (.slice (some ⟨gg, 0, none⟩) (0 + 1) cap5)) (bp + 2) bp (bp + 1) ⟨st.ps, 1, ([] : List ByteArray) ++ [wd], l0, k0⟩ (.slice A8 st.ps.length c8) (.slice (some ⟨gg, 0, none⟩) (0 + 1) cap5)) := Lib.hid (RfAt.more (n := 0) rfl HRW.out (show (1 : Int) ≠ 0 by decide) hown5 hgrow hat2)
                      have HLA6 : LnsAt ((((wr.setCell ⟨bp, 0, none⟩ (.int .i64 1)).setCell ⟨bp, 1, none⟩ (.slice none 0 0)).alloc (.cells #[.int .i64 ((k : Int) + 1), .int .i64 ((cN : Int) + 1)] 49)).alloc (.cells #[.string wd] 9)) g2 PP := (((HLI.out.put (p := ⟨bp, 0, none⟩) t8 _).put (p := ⟨bp, 1, none⟩) t8 _).alloc (.cells #[.int .i64 ((k : Int) + 1), .int .i64 ((cN : Int) + 1)] 49)).alloc _
                      have HL6 : Hid (LnsAt (w5.setCell ⟨bp, 1, none⟩ (.slice (some ⟨gg, 0, none⟩) (0 + 1) cap5)) g2 PP) := Lib.hid ((HLA6.moved (hgrow.block g2 HLA6.1 (fun e => hno e.symm))).put (p := ⟨bp, 1, none⟩) t8 _)
                      have HW6 : Hid (Below bp w1 (w5.setCell ⟨bp, 1, none⟩ (.slice (some ⟨gg, 0, none⟩) (0 + 1) cap5))) := Lib.hid ((((((HWi.out.setCell (p := ⟨bp, 0, none⟩) (Nat.le_refl _) _).setCell (p := ⟨bp, 1, none⟩) (Nat.le_refl _) _).alloc (by simp; omega) (.cells #[.int .i64 ((k : Int) + 1), .int .i64 ((cN : Int) + 1)] 49)).alloc (by simp; omega) _).grown hgrow (by simp; omega) (fun q hq => by have := (hOw.lt q hq).1; omega)).setCell (p := ⟨bp, 1, none⟩) (Nat.le_refl _) _)
                      have hu6 : (Value.slice (some ⟨gg, 0, none⟩) (0 + 1) cap5).ownBlock ≠ some g2 := fun e => by
                        have e : gg = g2 := by simpa [Value.ownBlock] using e
                        subst e
                        rcases hat2 with h | h
                        · exact hno h
                        · rw [hszA] at h; omega
                      have hb6 : bp + 2 ≤ (w5.setCell ⟨bp, 1, none⟩ (.slice (some ⟨gg, 0, none⟩) (0 + 1) cap5)).heap.size := by
                        rw [World.size_setCell]
                        simp at hgs
                        omega
                      go_roundw
                      case rel => exact ⟨m + 1, cN + wd.size + 1, true, ⟨st.ps, 1, ([] : List ByteArray) ++ [wd], l0, k0⟩, .slice (some ⟨gg, 0, none⟩) (0 + 1) cap5, by omega, by go_num, by go_num, rfl, by omega, HR6, Lib.hid (HOKW.out _ HRD.out), rfl, Lib.hid (HGOW.out _ HRD.out), HSOW, HL6, hu6, HW6, hb6⟩
                      case measure => simp [intOf]; omega
                    · have HE := Lib.hid (HERW.out 3 ⟨st.ps, 1, [], l0, k0⟩ (by decide) (by simp [rdW, hp60, hmk, hkw, hiw, hz]))
                      have hzI : (wd.size : Int) > 30 := by omega
                      clear hp60 hkw hmk hz
                      go_wp2_with (first | (go_at_call 71; refine (HMK.out _).mono ?_; rintro e w7 ⟨rfl, rfl⟩))
                      obtain ⟨wx, hwx⟩ : ∃ wx, wx = (((wr.setCell ⟨bp, 0, none⟩ (.int .i64 1)).setCell ⟨bp, 1, none⟩ (.slice none 0 0)).alloc (.cells #[.int .i64 ((k : Int) + 1), .int .i64 ((cN : Int) + 1)] 49)) := ⟨_, rfl⟩
                      have hQx : BoxAt wx wr.heap.size #[.int .i64 ((k : Int) + 1), .int .i64 ((cN : Int) + 1)] 49 := by rw [hwx]; exact (by have h := BoxAt.new ((wr.setCell ⟨bp, 0, none⟩ (.int .i64 1)).setCell ⟨bp, 1, none⟩ (.slice none 0 0)) #[.int .i64 ((k : Int) + 1), .int .i64 ((cN : Int) + 1)] 49; simp only [World.size_setCell] at h; exact h)
                      have hXx : BoxAt wx w.heap.size #[.int .i64 0, .int .i64 0] 49 := by rw [hwx]; exact ((HXi.out.set_other (p := ⟨bp, 0, none⟩) t5 _).set_other (p := ⟨bp, 1, none⟩) t5 _).alloc _
                      have hBx : Below w.heap.size w wx := by rw [hwx]; exact (((HBW.out _ HWi.out).setCell (p := ⟨bp, 0, none⟩) (by show w.heap.size ≤ bp; omega) _).setCell (p := ⟨bp, 1, none⟩) (by show w.heap.size ≤ bp; omega) _).alloc (by simp; omega) _
                      rw [← hwx]
                      have a0 := hQx.cell 0; have a1 := hQx.cell 1; have b0 := hXx.cell 0; have b1 := hXx.cell 1; have f0 := hXx.free 0; have f1 := hXx.free 1; have la := hQx.lt; have lb := hXx.lt
                      simp only [List.getElem?_toArray, List.getElem?_cons_zero, List.getElem?_cons_succ] at a0 a1 b0 b1
                      clear hwx q0 q1 y0 y1 r0 r1 x0 x1 m0 m1 z0 z1 w0
                      go_region
                      all_goals go_wp2_with fail
                      all_goals refine bodyPost_ret (res_mark rfl rfl rfl rfl (mark_done hXx)) rfl (CPPost.none HE.out (below_done hBx))
              have hkI : (kd == 0) = false := by rw [beq_eq_false_iff_ne]; exact hk0
              by_cases hz : wd.size ≤ 30
              · have hzI : ¬ (wd.size : Int) > 30 := by omega
                by_cases hl0 : ws2.length = 0
                · have hlI : ((ws2.length : Int) == 0) = true := by rw [beq_iff_eq]; omega
                  cases hmk : markB wd with
                  | true =>
                    have HE := Lib.hid (HERW.out 3 ⟨st.ps, kd, ws2, l0, k0⟩ (by decide) (by simp [rdW, hk0, hiw, hz, hmk, hl0]))
                    rw [hmk] at HMK
                    clear hl0
                    go_wp2_with (first | (go_at_call 71; refine (HMK.out _).mono ?_; rintro e w7 ⟨rfl, rfl⟩))
                    obtain ⟨wx, hwx⟩ : ∃ wx, wx = (wr.alloc (.cells #[.int .i64 ((k : Int) + 1), .int .i64 ((cN : Int) + 1)] 49)) := ⟨_, rfl⟩
                    have hQx : BoxAt wx wr.heap.size #[.int .i64 ((k : Int) + 1), .int .i64 ((cN : Int) + 1)] 49 := by rw [hwx]; exact BoxAt.new wr _ _
                    have hXx : BoxAt wx w.heap.size #[.int .i64 0, .int .i64 0] 49 := by rw [hwx]; exact HX3.out
                    have hBx : Below w.heap.size w wx := by rw [hwx]; exact HB3.out
                    rw [← hwx]
                    have a0 := hQx.cell 0; have a1 := hQx.cell 1; have b0 := hXx.cell 0; have b1 := hXx.cell 1; have f0 := hXx.free 0; have f1 := hXx.free 1; have la := hQx.lt; have lb := hXx.lt
                    simp only [List.getElem?_toArray, List.getElem?_cons_zero, List.getElem?_cons_succ] at a0 a1 b0 b1
                    clear hwx q0 q1 y0 y1 r0 r1 x0 x1 m0 m1 z0 z1 w0
                    go_region
                    all_goals go_wp2_with fail
                    all_goals refine bodyPost_ret (res_mark rfl rfl rfl rfl (mark_done hXx)) rfl (CPPost.none HE.out (below_done hBx))
                  | false =>
                    have h100 : ((ws2.length : Int) == 100) = false := by rw [beq_eq_false_iff_ne]; omega
                    have HRD := Lib.hid (show rdW ⟨st.ps, kd, ws2, l0, k0⟩ wd ((k : Int) + 1) ((cN : Int) + 1) = (0, ⟨st.ps, kd, ws2 ++ [wd], l0, k0⟩) by simp [rdW, hk0, hiw, hz, hmk, hl0])
                    rw [hmk] at HMK
                    have HRW := HR3
                    clear hl0
                    have hOw : (wr.alloc (.cells #[.int .i64 ((k : Int) + 1), .int .i64 ((cN : Int) + 1)] 49)).ownsRow (bp + 2) 9 1 (.slice Aw ws2.length cw) ws2.length (txs ws2) := HRW.out.words
                    have hszA : (wr.alloc (.cells #[.int .i64 ((k : Int) + 1), .int .i64 ((cN : Int) + 1)] 49)).heap.size = wr.heap.size + 1 := by simp
                    have hnw : ∀ (j : Nat) (u : Value), [Value.string wd][j]? = some u → ((wr.alloc (.cells #[.int .i64 ((k : Int) + 1), .int .i64 ((cN : Int) + 1)] 49)).alloc (.cells #[.string wd] 9)).cell? ((⟨wr.heap.size + 1, 0, none⟩ : Addr).add j) = some u := by
                      have h := World.news_of_block (cs := #[.string wd]) (t := 9) (fr := (0, 0)) (heap_alloc_new (wr.alloc (.cells #[.int .i64 ((k : Int) + 1), .int .i64 ((cN : Int) + 1)] 49)) (.cells #[.string wd] 9))
                      rw [hszA] at h; exact h
                    have h63 : ws2.length + 1 ≤ maxLen := by unfold maxLen; omega
                    have hby : (ws2.length + 1) * 16 ≤ 140737488355328 := by omega
                    have hbase : bp + 2 ≤ ((wr.alloc (.cells #[.int .i64 ((k : Int) + 1), .int .i64 ((cN : Int) + 1)] 49)).alloc (.cells #[.string wd] 9)).heap.size := by simp; omega
                    go_wp2_with (first | (go_at_call 71; refine (HMK.out _).mono ?_; rintro e w7 ⟨rfl, rfl⟩) | (at_builtin; refine wpList_append_lies _ rfl _ _ 22 rfl (bp + 2) 9 i0 _ 1 16 Tryz.underlying22 hi0 hz0 hz1 hz2 rfl (by decide) _ ws2.length _ rfl (hOw.alloc _) ⟨wr.heap.size + 1, 0, none⟩ 1 1 [.string wd] rfl rfl hnw (by simp [Value.oneCell']) (by decide) h63 hby hbase _ rfl ?_; intro gg cap5 w5 hown5 hgrow hat hlt5; have b5 := HRW.out.part5 hgrow; have y5 := b5.free 1; have x5 := b5.cell 1; have l5 := b5.lt; simp only [List.getElem?_toArray, List.getElem?_cons_zero, List.getElem?_cons_succ] at x5))
                    have hat2 : (.slice Aw ws2.length cw : Value).ownBlock = some gg ∨ gg = (wr.alloc (.cells #[.int .i64 ((k : Int) + 1), .int .i64 ((cN : Int) + 1)] 49)).heap.size + 1 := by
                      rcases hat with h | h
                      · exact Or.inl h
                      · right; rw [h]; simp
                    have hgs := hgrow.size
                    have HR6 : Hid (RfAt (w5.setCell ⟨bp, 1, none⟩ (.slice (some ⟨gg, 0, none⟩) (ws2.length + 1) cap5)) (bp + 2) bp (bp + 1) ⟨st.ps, kd, ws2 ++ [wd], l0, k0⟩ (.slice A8 st.ps.length c8) (.slice (some ⟨gg, 0, none⟩) (ws2.length + 1) cap5)) := Lib.hid (RfAt.more (n := ws2.length) rfl HRW.out hk0 hown5 hgrow hat2)
                    have HLA6 : LnsAt ((wr.alloc (.cells #[.int .i64 ((k : Int) + 1), .int .i64 ((cN : Int) + 1)] 49)).alloc (.cells #[.string wd] 9)) g2 PP := (HL3.out).alloc _
                    have HL6 : Hid (LnsAt (w5.setCell ⟨bp, 1, none⟩ (.slice (some ⟨gg, 0, none⟩) (ws2.length + 1) cap5)) g2 PP) := Lib.hid ((HLA6.moved (hgrow.block g2 HLA6.1 (fun e => hu2 e.symm))).put (p := ⟨bp, 1, none⟩) t8 _)
                    have HW6 : Hid (Below bp w1 (w5.setCell ⟨bp, 1, none⟩ (.slice (some ⟨gg, 0, none⟩) (ws2.length + 1) cap5))) := Lib.hid ((((HW3.out).alloc (by simp; omega) _).grown hgrow (by simp; omega) (fun q hq => by have := (hOw.lt q hq).1; omega)).setCell (p := ⟨bp, 1, none⟩) (Nat.le_refl _) _)
                    have hu6 : (Value.slice (some ⟨gg, 0, none⟩) (ws2.length + 1) cap5).ownBlock ≠ some g2 := fun e => by
                      have e : gg = g2 := by simpa [Value.ownBlock] using e
                      subst e
                      rcases hat2 with h | h
                      · exact hu2 h
                      · rw [hszA] at h; omega
                    have hb6 : bp + 2 ≤ (w5.setCell ⟨bp, 1, none⟩ (.slice (some ⟨gg, 0, none⟩) (ws2.length + 1) cap5)).heap.size := by
                      rw [World.size_setCell]
                      simp at hgs
                      omega
                    go_roundw
                    case rel => exact ⟨m + 1, cN + wd.size + 1, true, ⟨st.ps, kd, ws2 ++ [wd], l0, k0⟩, .slice (some ⟨gg, 0, none⟩) (ws2.length + 1) cap5, by omega, by go_num, by go_num, rfl, by omega, HR6, Lib.hid (HOKW.out _ HRD.out), rfl, Lib.hid (HGOW.out _ HRD.out), HSOW, HL6, hu6, HW6, hb6⟩
                    case measure => simp [intOf]; omega
                · have hlI : ((ws2.length : Int) == 0) = false := by rw [beq_eq_false_iff_ne]; omega
                  have hl9 : ws2 ≠ [] := fun e => hl0 (by rw [e]; rfl)
                  by_cases h9 : ws2.length = 100
                  · have h100 : ((ws2.length : Int) == 100) = true := by rw [beq_iff_eq]; omega
                    have HE := Lib.hid (HERW.out 8 ⟨st.ps, kd, ws2, l0, k0⟩ (by decide) (by simp [rdW, hk0, hiw, hz, h9]))
                    clear hl0 h9
                    go_wp2_with fail
                    obtain ⟨wx, hwx⟩ : ∃ wx, wx = (wr.alloc (.cells #[.int .i64 ((k : Int) + 1), .int .i64 ((cN : Int) + 1)] 49)) := ⟨_, rfl⟩
                    have hQx : BoxAt wx wr.heap.size #[.int .i64 ((k : Int) + 1), .int .i64 ((cN : Int) + 1)] 49 := by rw [hwx]; exact BoxAt.new wr _ _
                    have hXx : BoxAt wx w.heap.size #[.int .i64 0, .int .i64 0] 49 := by rw [hwx]; exact HX3.out
                    have hBx : Below w.heap.size w wx := by rw [hwx]; exact HB3.out
                    rw [← hwx]
                    have a0 := hQx.cell 0; have a1 := hQx.cell 1; have b0 := hXx.cell 0; have b1 := hXx.cell 1; have f0 := hXx.free 0; have f1 := hXx.free 1; have la := hQx.lt; have lb := hXx.lt
                    simp only [List.getElem?_toArray, List.getElem?_cons_zero, List.getElem?_cons_succ] at a0 a1 b0 b1
                    clear hwx q0 q1 y0 y1 r0 r1 x0 x1 m0 m1 z0 z1 w0
                    go_region
                    all_goals go_wp2_with fail
                    all_goals refine bodyPost_ret (res_mark rfl rfl rfl rfl (mark_done hXx)) rfl (CPPost.none HE.out (below_done hBx))
                  · have h100 : ((ws2.length : Int) == 100) = false := by rw [beq_eq_false_iff_ne]; omega
                    have HRD := Lib.hid (show rdW ⟨st.ps, kd, ws2, l0, k0⟩ wd ((k : Int) + 1) ((cN : Int) + 1) = (0, ⟨st.ps, kd, ws2 ++ [wd], l0, k0⟩) by simp [rdW, hk0, hiw, hz, h9, hl9])
                    have HRW := HR3
                    clear hl0 h9
                    have hOw : (wr.alloc (.cells #[.int .i64 ((k : Int) + 1), .int .i64 ((cN : Int) + 1)] 49)).ownsRow (bp + 2) 9 1 (.slice Aw ws2.length cw) ws2.length (txs ws2) := HRW.out.words
                    have hszA : (wr.alloc (.cells #[.int .i64 ((k : Int) + 1), .int .i64 ((cN : Int) + 1)] 49)).heap.size = wr.heap.size + 1 := by simp
                    have hnw : ∀ (j : Nat) (u : Value), [Value.string wd][j]? = some u → ((wr.alloc (.cells #[.int .i64 ((k : Int) + 1), .int .i64 ((cN : Int) + 1)] 49)).alloc (.cells #[.string wd] 9)).cell? ((⟨wr.heap.size + 1, 0, none⟩ : Addr).add j) = some u := by
                      have h := World.news_of_block (cs := #[.string wd]) (t := 9) (fr := (0, 0)) (heap_alloc_new (wr.alloc (.cells #[.int .i64 ((k : Int) + 1), .int .i64 ((cN : Int) + 1)] 49)) (.cells #[.string wd] 9))
                      rw [hszA] at h; exact h
                    have h63 : ws2.length + 1 ≤ maxLen := by unfold maxLen; omega
                    have hby : (ws2.length + 1) * 16 ≤ 140737488355328 := by omega
                    have hbase : bp + 2 ≤ ((wr.alloc (.cells #[.int .i64 ((k : Int) + 1), .int .i64 ((cN : Int) + 1)] 49)).alloc (.cells #[.string wd] 9)).heap.size := by simp; omega
                    go_wp2_with (first | (go_at_call 71; refine (HMK.out _).mono ?_; rintro e w7 ⟨rfl, rfl⟩) | (at_builtin; refine wpList_append_lies _ rfl _ _ 22 rfl (bp + 2) 9 i0 _ 1 16 Tryz.underlying22 hi0 hz0 hz1 hz2 rfl (by decide) _ ws2.length _ rfl (hOw.alloc _) ⟨wr.heap.size + 1, 0, none⟩ 1 1 [.string wd] rfl rfl hnw (by simp [Value.oneCell']) (by decide) h63 hby hbase _ rfl ?_; intro gg cap5 w5 hown5 hgrow hat hlt5; have b5 := HRW.out.part5 hgrow; have y5 := b5.free 1; have x5 := b5.cell 1; have l5 := b5.lt; simp only [List.getElem?_toArray, List.getElem?_cons_zero, List.getElem?_cons_succ] at x5))
                    have hat2 : (.slice Aw ws2.length cw : Value).ownBlock = some gg ∨ gg = (wr.alloc (.cells #[.int .i64 ((k : Int) + 1), .int .i64 ((cN : Int) + 1)] 49)).heap.size + 1 := by
                      rcases hat with h | h
                      · exact Or.inl h
                      · right; rw [h]; simp
                    have hgs := hgrow.size
                    have HR6 : Hid (RfAt (w5.setCell ⟨bp, 1, none⟩ (.slice (some ⟨gg, 0, none⟩) (ws2.length + 1) cap5)) (bp + 2) bp (bp + 1) ⟨st.ps, kd, ws2 ++ [wd], l0, k0⟩ (.slice A8 st.ps.length c8) (.slice (some ⟨gg, 0, none⟩) (ws2.length + 1) cap5)) := Lib.hid (RfAt.more (n := ws2.length) rfl HRW.out hk0 hown5 hgrow hat2)
                    have HLA6 : LnsAt ((wr.alloc (.cells #[.int .i64 ((k : Int) + 1), .int .i64 ((cN : Int) + 1)] 49)).alloc (.cells #[.string wd] 9)) g2 PP := (HL3.out).alloc _
                    have HL6 : Hid (LnsAt (w5.setCell ⟨bp, 1, none⟩ (.slice (some ⟨gg, 0, none⟩) (ws2.length + 1) cap5)) g2 PP) := Lib.hid ((HLA6.moved (hgrow.block g2 HLA6.1 (fun e => hu2 e.symm))).put (p := ⟨bp, 1, none⟩) t8 _)
                    have HW6 : Hid (Below bp w1 (w5.setCell ⟨bp, 1, none⟩ (.slice (some ⟨gg, 0, none⟩) (ws2.length + 1) cap5))) := Lib.hid ((((HW3.out).alloc (by simp; omega) _).grown hgrow (by simp; omega) (fun q hq => by have := (hOw.lt q hq).1; omega)).setCell (p := ⟨bp, 1, none⟩) (Nat.le_refl _) _)
                    have hu6 : (Value.slice (some ⟨gg, 0, none⟩) (ws2.length + 1) cap5).ownBlock ≠ some g2 := fun e => by
                      have e : gg = g2 := by simpa [Value.ownBlock] using e
                      subst e
                      rcases hat2 with h | h
                      · exact hu2 h
                      · rw [hszA] at h; omega
                    have hb6 : bp + 2 ≤ (w5.setCell ⟨bp, 1, none⟩ (.slice (some ⟨gg, 0, none⟩) (ws2.length + 1) cap5)).heap.size := by
                      rw [World.size_setCell]
                      simp at hgs
                      omega
                    go_roundw
                    case rel => exact ⟨m + 1, cN + wd.size + 1, true, ⟨st.ps, kd, ws2 ++ [wd], l0, k0⟩, .slice (some ⟨gg, 0, none⟩) (ws2.length + 1) cap5, by omega, by go_num, by go_num, rfl, by omega, HR6, Lib.hid (HOKW.out _ HRD.out), rfl, Lib.hid (HGOW.out _ HRD.out), HSOW, HL6, hu6, HW6, hb6⟩
                    case measure => simp [intOf]; omega
              · have HE := Lib.hid (HERW.out 3 ⟨st.ps, kd, ws2, l0, k0⟩ (by decide) (by simp [rdW, hk0, hiw, hz]))
                have hzI : (wd.size : Int) > 30 := by omega
                go_wp2_with fail
                obtain ⟨wx, hwx⟩ : ∃ wx, wx = (wr.alloc (.cells #[.int .i64 ((k : Int) + 1), .int .i64 ((cN : Int) + 1)] 49)) := ⟨_, rfl⟩
                have hQx : BoxAt wx wr.heap.size #[.int .i64 ((k : Int) + 1), .int .i64 ((cN : Int) + 1)] 49 := by rw [hwx]; exact BoxAt.new wr _ _
                have hXx : BoxAt wx w.heap.size #[.int .i64 0, .int .i64 0] 49 := by rw [hwx]; exact HX3.out
                have hBx : Below w.heap.size w wx := by rw [hwx]; exact HB3.out
                rw [← hwx]
                have a0 := hQx.cell 0; have a1 := hQx.cell 1; have b0 := hXx.cell 0; have b1 := hXx.cell 1; have f0 := hXx.free 0; have f1 := hXx.free 1; have la := hQx.lt; have lb := hXx.lt
                simp only [List.getElem?_toArray, List.getElem?_cons_zero, List.getElem?_cons_succ] at a0 a1 b0 b1
                clear hwx q0 q1 y0 y1 r0 r1 x0 x1 m0 m1 z0 z1 w0
                go_region
                all_goals go_wp2_with fail
                all_goals refine bodyPost_ret (res_mark rfl rfl rfl rfl (mark_done hXx)) rfl (CPPost.none HE.out (below_done hBx))
            · obtain rfl : n2 = m := by omega
              have hwe : ws.drop n2 = [] := List.drop_of_length_le (by have := HPL.out; have := HN2.out; omega)
              have HEND := Lib.hid (show rdWs ((k : Int) + 1) st WL = .inr ⟨st.ps, kd, ws2, l0, k0⟩ by rw [HWS.out, hwe]; rfl)
              have hsb : WL = [] ↔ sb = false := by
                have h := HSO.out
                rw [hwe] at h
                rw [h]
                exact ⟨fun h => h.1, fun h => ⟨h, rfl⟩⟩
              have HG1 := Lib.hid (HGO.out _ HEND.out)
              have hemp : (ls.drop (k + 1)).isEmpty = true ↔ k + 1 = n := by
                rw [List.isEmpty_iff, List.drop_eq_nil_iff]
                have := HLN.out; have := HN.out
                omega
              have hkn1 : (n : Int) ≤ 1001 := by omega
              have t5 : ¬ w.heap.size = bp := by omega
              have t6 : ¬ w.heap.size = bp + 1 := by omega
              clear hwe HWS HSO HEND HGO HRET
              by_cases hk0 : kd = 0
              · have hkI : (kd != 0) = false := by simpa using hk0
                have HP2 := Lib.hid (show p = rfRest (k + 1) ⟨st.ps, kd, ws2, l0, k0⟩ (ls.drop (k + 1)) by rw [HG1.out, if_neg (fun h => h.1 hk0)])
                clear hk0 hsb hemp
                go_wp2_with fail
                go_roundw
                case rel => exact ⟨k + 1, ⟨st.ps, kd, ws2, l0, k0⟩, .slice Aw ws2.length cw, by omega, by go_num, HR, HK2, HP2, HWi, hBi⟩
                case measure => simp [intOf]; omega
              have hkI : (kd != 0) = true := by simpa using hk0
              cases sb with
              | false =>
                have hcond : kd ≠ 0 ∧ (WL = [] ∨ (ls.drop (k + 1)).isEmpty = true) := ⟨hk0, Or.inl (hsb.2 rfl)⟩
                clear hsb hemp
                by_cases hl0 : ws2.length = 0
                · have hlI : ((ws2.length : Int) == 0) = true := by rw [beq_iff_eq]; omega
                  have HE := Lib.hid (show p = ([], (l0, k0), 6) by rw [HG1.out, if_pos hcond, if_pos hl0])
                  clear hl0 hcond
                  go_wp2_with fail
                  go_region
                  all_goals go_wp2_with fail
                  all_goals refine bodyPost_ret (res_mark rfl rfl rfl rfl (mark_done HXi.out)) rfl (CPPost.none HE.out (below_done (HBW.out _ HWi.out)))
                · have hlI : ((ws2.length : Int) == 0) = false := by rw [beq_eq_false_iff_ne]; omega
                  have HP2 := Lib.hid (show p = rfRest (k + 1) ⟨st.ps ++ [⟨kd, none, 0, ws2⟩], 0, [], l0, k0⟩ (ls.drop (k + 1)) by rw [HG1.out, if_pos hcond, if_neg hl0, endP_more hk0 hl0])
                  have HK3 := Lib.hid (show RdOk ⟨st.ps ++ [⟨kd, none, 0, ws2⟩], 0, [], l0, k0⟩ by have h := endP_ok HK2.out; rw [endP_more hk0 hl0] at h; exact h)
                  clear hl0 hcond
                  obtain ⟨xs, hpo, hpx⟩ := HR.out.parts
                  obtain ⟨i1, hi1, hy0, hy1, hy2⟩ := info_parts infoCP2
                  have h63 : st.ps.length + 1 ≤ maxLen := by unfold maxLen; omega
                  have hby : (st.ps.length + 1) * 32 ≤ 140737488355328 := by omega
                  have hbase : bp + 2 ≤ (wr.alloc (.cells #[.int .i64 kd, .slice Aw ws2.length cw] 72)).heap.size := by simp; omega
                  go_wp2_with (at_builtin; refine wpList_append_lies _ rfl _ _ 42 rfl (bp + 2) 72 i1 _ 2 32 Tryz.underlying42 hi1 hy0 hy1 hy2 rfl (by decide) _ st.ps.length _ rfl (hpo.alloc _) ⟨wr.heap.size, 0, none⟩ 1 1 [.int .i64 kd, .slice Aw ws2.length cw] rfl rfl (World.news_of_block (cs := #[.int .i64 kd, .slice Aw ws2.length cw]) (t := 72) (fr := (0, 0)) (heap_alloc_new wr _)) (by simp [Value.oneCell']) (by decide) h63 hby hbase _ rfl ?_; intro gg cap5 w5 hown5 hgrow hat hlt5; have b5 := HR.out.part6 hpo hgrow; have g0 := b5.free 0; have g1x := b5.free 1; have e0 := b5.cell 0; have e1 := b5.cell 1; have l5 := b5.lt; simp only [List.getElem?_toArray, List.getElem?_cons_zero, List.getElem?_cons_succ] at e0 e1)
                  have hgs := hgrow.size
                  have HR6 : Hid (RfAt ((w5.setCell ⟨bp, 0, none⟩ (.int .i64 0)).setCell ⟨bp, 1, none⟩ (.slice none 0 0)) (bp + 2) bp (bp + 1) ⟨st.ps ++ [⟨kd, none, 0, ws2⟩], 0, [], l0, k0⟩ (.slice (some ⟨gg, 0, none⟩) (st.ps.length + 1) cap5) (.slice none 0 0)) := Lib.hid (RfAt.ended (n := st.ps.length) (st := ⟨st.ps, kd, ws2, l0, k0⟩) rfl HR.out hpo hpx hown5 hgrow)
                  have HW6 : Hid (Below bp w1 ((w5.setCell ⟨bp, 0, none⟩ (.int .i64 0)).setCell ⟨bp, 1, none⟩ (.slice none 0 0))) := Lib.hid ((((HWi.out.alloc (by omega) _).grown hgrow (by simp; omega) (fun q hq => by have := (hpo.lt q hq).1; omega)).setCell (p := ⟨bp, 0, none⟩) (Nat.le_refl _) _).setCell (p := ⟨bp, 1, none⟩) (Nat.le_refl _) _)
                  have hb6 : bp + 2 ≤ ((w5.setCell ⟨bp, 0, none⟩ (.int .i64 0)).setCell ⟨bp, 1, none⟩ (.slice none 0 0)).heap.size := by
                    rw [World.size_setCell, World.size_setCell]
                    simp at hgs
                    omega
                  go_roundw
                  case rel => exact ⟨k + 1, ⟨st.ps ++ [⟨kd, none, 0, ws2⟩], 0, [], l0, k0⟩, .slice none 0 0, by omega, by go_num, HR6, HK3, HP2, HW6, hb6⟩
                  case measure => simp [intOf]; omega
              | true =>
                by_cases hlast : k + 1 = n
                · have hlI2 : ((k : Int) == (n : Int) - 1) = true := by rw [beq_iff_eq]; omega
                  have hcond : kd ≠ 0 ∧ (WL = [] ∨ (ls.drop (k + 1)).isEmpty = true) := ⟨hk0, Or.inr (hemp.2 hlast)⟩
                  clear hsb hemp
                  by_cases hl0 : ws2.length = 0
                  · have hlI : ((ws2.length : Int) == 0) = true := by rw [beq_iff_eq]; omega
                    have HE := Lib.hid (show p = ([], (l0, k0), 6) by rw [HG1.out, if_pos hcond, if_pos hl0])
                    clear hl0 hcond
                    go_wp2_with fail
                    go_region
                    all_goals go_wp2_with fail
                    all_goals refine bodyPost_ret (res_mark rfl rfl rfl rfl (mark_done HXi.out)) rfl (CPPost.none HE.out (below_done (HBW.out _ HWi.out)))
                  · have hlI : ((ws2.length : Int) == 0) = false := by rw [beq_eq_false_iff_ne]; omega
                    have HP2 := Lib.hid (show p = rfRest (k + 1) ⟨st.ps ++ [⟨kd, none, 0, ws2⟩], 0, [], l0, k0⟩ (ls.drop (k + 1)) by rw [HG1.out, if_pos hcond, if_neg hl0, endP_more hk0 hl0])
                    have HK3 := Lib.hid (show RdOk ⟨st.ps ++ [⟨kd, none, 0, ws2⟩], 0, [], l0, k0⟩ by have h := endP_ok HK2.out; rw [endP_more hk0 hl0] at h; exact h)
                    clear hl0 hcond
                    obtain ⟨xs, hpo, hpx⟩ := HR.out.parts
                    obtain ⟨i1, hi1, hy0, hy1, hy2⟩ := info_parts infoCP2
                    have h63 : st.ps.length + 1 ≤ maxLen := by unfold maxLen; omega
                    have hby : (st.ps.length + 1) * 32 ≤ 140737488355328 := by omega
                    have hbase : bp + 2 ≤ (wr.alloc (.cells #[.int .i64 kd, .slice Aw ws2.length cw] 72)).heap.size := by simp; omega
                    go_wp2_with (at_builtin; refine wpList_append_lies _ rfl _ _ 42 rfl (bp + 2) 72 i1 _ 2 32 Tryz.underlying42 hi1 hy0 hy1 hy2 rfl (by decide) _ st.ps.length _ rfl (hpo.alloc _) ⟨wr.heap.size, 0, none⟩ 1 1 [.int .i64 kd, .slice Aw ws2.length cw] rfl rfl (World.news_of_block (cs := #[.int .i64 kd, .slice Aw ws2.length cw]) (t := 72) (fr := (0, 0)) (heap_alloc_new wr _)) (by simp [Value.oneCell']) (by decide) h63 hby hbase _ rfl ?_; intro gg cap5 w5 hown5 hgrow hat hlt5; have b5 := HR.out.part6 hpo hgrow; have g0 := b5.free 0; have g1x := b5.free 1; have e0 := b5.cell 0; have e1 := b5.cell 1; have l5 := b5.lt; simp only [List.getElem?_toArray, List.getElem?_cons_zero, List.getElem?_cons_succ] at e0 e1)
                    have hgs := hgrow.size
                    have HR6 : Hid (RfAt ((w5.setCell ⟨bp, 0, none⟩ (.int .i64 0)).setCell ⟨bp, 1, none⟩ (.slice none 0 0)) (bp + 2) bp (bp + 1) ⟨st.ps ++ [⟨kd, none, 0, ws2⟩], 0, [], l0, k0⟩ (.slice (some ⟨gg, 0, none⟩) (st.ps.length + 1) cap5) (.slice none 0 0)) := Lib.hid (RfAt.ended (n := st.ps.length) (st := ⟨st.ps, kd, ws2, l0, k0⟩) rfl HR.out hpo hpx hown5 hgrow)
                    have HW6 : Hid (Below bp w1 ((w5.setCell ⟨bp, 0, none⟩ (.int .i64 0)).setCell ⟨bp, 1, none⟩ (.slice none 0 0))) := Lib.hid ((((HWi.out.alloc (by omega) _).grown hgrow (by simp; omega) (fun q hq => by have := (hpo.lt q hq).1; omega)).setCell (p := ⟨bp, 0, none⟩) (Nat.le_refl _) _).setCell (p := ⟨bp, 1, none⟩) (Nat.le_refl _) _)
                    have hb6 : bp + 2 ≤ ((w5.setCell ⟨bp, 0, none⟩ (.int .i64 0)).setCell ⟨bp, 1, none⟩ (.slice none 0 0)).heap.size := by
                      rw [World.size_setCell, World.size_setCell]
                      simp at hgs
                      omega
                    go_roundw
                    case rel => exact ⟨k + 1, ⟨st.ps ++ [⟨kd, none, 0, ws2⟩], 0, [], l0, k0⟩, .slice none 0 0, by omega, by go_num, HR6, HK3, HP2, HW6, hb6⟩
                    case measure => simp [intOf]; omega
                · have hlI2 : ((k : Int) == (n : Int) - 1) = false := by rw [beq_eq_false_iff_ne]; omega
                  have HP2 := Lib.hid (show p = rfRest (k + 1) ⟨st.ps, kd, ws2, l0, k0⟩ (ls.drop (k + 1)) by
                    rw [HG1.out, if_neg (fun h => by
                      rcases h.2 with h2 | h2
                      · have := hsb.1 h2; cases this
                      · exact hlast (hemp.1 h2))])
                  clear hsb hemp hlast
                  go_wp2_with fail
                  go_roundw
                  case rel => exact ⟨k + 1, ⟨st.ps, kd, ws2, l0, k0⟩, .slice Aw ws2.length cw, by omega, by go_num, HR, HK2, HP2, HWi, hBi⟩
                  case measure => simp [intOf]; omega
        · obtain rfl : n = k := by omega
          have HEA := Lib.hid (show p = (st.ps, (0, 0), 0) by rw [HP.out]; exact rf_end (by have := HLN.out; have := HN.out; omega))
          have hXr := HXW.out wr HW.out
          have m0 := hXr.cell 0; have m1 := hXr.cell 1; have z0 := hXr.free 0; have z1 := hXr.free 1; have lx := hXr.lt
          simp only [List.getElem?_toArray, List.getElem?_cons_zero, List.getElem?_cons_succ] at m0 m1
          have hwq := HWP.out
          have HX9 := Lib.hid hXr
          clear hXr
          go_wp2_with fail
          have HR9 := (HRA.out.other (p := ⟨w.heap.size, 0, none⟩) (by show w.heap.size < bp + 2; omega) (by show bp ≠ w.heap.size; omega) (by show bp + 1 ≠ w.heap.size; omega) (.int .i64 0)).other (p := ⟨w.heap.size, 1, none⟩) (by show w.heap.size < bp + 2; omega) (by show bp ≠ w.heap.size; omega) (by show bp + 1 ≠ w.heap.size; omega) (.int .i64 0)
          exact bodyPost_ret (res_mark rfl rfl rfl rfl (show BoxAt _ w.heap.size #[.int .i64 0, .int .i64 0] 49 from (HX9.out.set 0 (.int .i64 0)).set 1 (.int .i64 0))) rfl ⟨.slice A8 st.ps.length c8, by rw [HEA.out]; rfl, by rw [HEA.out]; exact HR9.parts.lowB (by omega), ((HBW.out _ HW.out).setCell (p := ⟨w.heap.size, 0, none⟩) (Nat.le_refl _) _).setCell (p := ⟨w.heap.size, 1, none⟩) (Nat.le_refl _) _⟩
end Go.Proofs.YtomblajlpanmjaaGreatDoor
