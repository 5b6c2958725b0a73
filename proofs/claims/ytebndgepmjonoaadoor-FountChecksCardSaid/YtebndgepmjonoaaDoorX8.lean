/-
  The reference's bill for a need.
-/
import Derived.Test.YtebndgepmjonoaaDoorZX
import Derived.Test.YtebndgepmjonoaaDoorZR
import Derived.Deep.LoopGhost
namespace Go.Proofs.YtebndgepmjonoaaDoor
open Go.RowKit Go.Maps

theorem infoB : (Tryd.prog.info? 4).map (fun i => (i.zero, i.size, i.bytes)) = some (some (.bool false), 1, 1) := by kernel_rfl
/-- Block g is just the row of the marks M. -/
def BoolRow (w : World) (g : Nat) (M : List Bool) : Prop := w.heap[g]? = some (.cells (M.map Value.bool).toArray 4 (0, 0))
theorem BoolRow.cell {w : World} {g : Nat} {M : List Bool} (h : BoolRow w g M) {j : Nat} (hj : j < M.length) : w.cell? ⟨g, j, none⟩ = some (.bool (M.getD j false)) := by
  rw [cell_of_row w g j _ _ (0, 0) h]
  simp [List.getD_eq_getElem?_getD, hj]
theorem BoolRow.frozen {w : World} {g : Nat} {M : List Bool} (h : BoolRow w g M) (j : Nat) : w.frozen? ⟨g, j, none⟩ = false := by
  unfold BoolRow at h; simp [World.frozen?, h]
theorem BoolRow.drewN {w : World} {g : Nat} {M : List Bool} (h : BoolRow w g M) (n : Nat) : BoolRow (w.drewN n) g M := h
theorem BoolRow.set_ {w : World} {g : Nat} {M : List Bool} (h : BoolRow w g M) (j : Nat) (v : Bool) : BoolRow (w.setCell ⟨g, j, none⟩ (.bool v)) g (M.set j v) := by
  unfold BoolRow at h ⊢
  have e : ((M.set j v).map Value.bool).toArray = (M.map Value.bool).toArray.setIfInBounds j (.bool v) := by
    rw [List.map_set]; simp
  rw [e]
  simp [World.setCell, Array.getElem?_modify, h]
theorem BoolRow.far {w : World} {g : Nat} {M : List Bool} (h : BoolRow w g M) {p : Addr} (hp : g ≠ p.block) (u : Value) : BoolRow (w.setCell p u) g M := (Below.heap_setCell w p u g hp).trans h
theorem BoolRow.made (w : World) (n : Nat) : BoolRow (w.alloc (.cells (madeCells #[.bool false] n) 4)) w.heap.size (List.replicate n false) := by
  unfold BoolRow
  rw [heap_alloc_new]
  congr 2
  apply Array.ext
  · simp [size_madeCells]
  · intro i h1 h2
    simp [madeCells, Nat.mod_one]
theorem RowT.far {T : List Value} {w : World} {g : Nat} {L : List Int} (h : RowT T w g L) {p : Addr} (hp : g ≠ p.block) (u : Value) : RowT T (w.setCell p u) g L := (Below.heap_setCell w p u g hp).trans h
theorem RowT.ints' {T : List Value} {w : World} {g : Nat} {L : List Int} (h : RowT T w g L) : IntsAt w (some ⟨g, 0, none⟩) L := by
  intro k hk
  refine ⟨_, rfl, ?_, ?_⟩
  · have := cell_lt' (h.cell hk); exact this
  · rw [add0]; exact h.cell hk
theorem RowT.of_own {w : World} {base g n cap : Nat} {L : List Int} (h : w.ownsRow base 3 1 (.slice (some ⟨g, 0, none⟩) n cap) n (vals L)) : ∃ T, RowT T w g L := by
  rcases h.2 with ⟨e, _⟩ | ⟨g', cap', cur, e, _, hh, _, _, _, h4⟩
  · cases e
  · obtain rfl : g = g' := by injection e with e1 _ _; injection e1 with e2; injection e2
    rw [Nat.mul_one] at h4
    refine ⟨cur.toList.drop n, ?_⟩
    unfold RowT
    rw [hh, ← h4, List.take_append_drop]
theorem bestB_skip {V : List Int} {M : List Bool} {k : Nat} (h : M.getD k false = true) : bestB V M (k + 1) = bestB V M k := by
  show (match bestB V M k with | none => _ | some b => _) = _
  cases bestB V M k with
  | none => exact if_pos h
  | some b => exact if_neg (fun e => by rw [h] at e; cases e.1)
theorem bestB_first {V : List Int} {M : List Bool} {k : Nat} (h : M.getD k false = false) (hb : bestB V M k = none) : bestB V M (k + 1) = some k := by
  show (match bestB V M k with | none => _ | some b => _) = _
  rw [hb]
  exact if_neg (by rw [h]; simp)
theorem bestB_up {V : List Int} {M : List Bool} {k b : Nat} (h : M.getD k false = false) (hb : bestB V M k = some b) (hlt : V.getD b 0 < V.getD k 0) : bestB V M (k + 1) = some k := by
  show (match bestB V M k with | none => _ | some b => _) = _
  rw [hb]
  exact if_pos ⟨h, hlt⟩
theorem bestB_stay {V : List Int} {M : List Bool} {k b : Nat} (hb : bestB V M k = some b) (hlt : ¬ V.getD b 0 < V.getD k 0) : bestB V M (k + 1) = some b := by
  show (match bestB V M k with | none => _ | some b => _) = _
  rw [hb]
  exact if_neg (fun e => hlt e.2)
def bestI (o : Option Nat) : Int := match o with | some b => (b : Int) | none => -1
def rbE (l : List Int) (t : Int) : Int := if t < 0 ∨ 1000000 < t then 2 else if sumOf l = 0 then 11 else 0
def RBillPost (w : World) (l : List Int) (t : Int) (e : Ending) (w' : World) : Prop :=
  Below w.heap.size w w' ∧ ((rbE l t ≠ 0 ∧ e = .returned (.tuple #[.slice none 0 0, .int .i64 (rbE l t)])) ∨
    (rbE l t = 0 ∧ ∃ g cap, e = .returned (.tuple #[.slice (some ⟨g, 0, none⟩) l.length cap, .int .i64 0]) ∧ IntsAt w' (some ⟨g, 0, none⟩) (billOf l (sumOf l) t)))
theorem quot_bd {l : List Int} {n : Nat} {t : Int} (h : OkC n l) (ht : 0 ≤ t ∧ t ≤ 1000000) {k : Nat} (hk : k < l.length) : 0 ≤ t * l.getD k 0 ∧ t * l.getD k 0 ≤ 1000000000000 := by
  have hv := h.2 k (by have := h.1; omega)
  have a1 : 0 ≤ t * l.getD k 0 := Int.mul_nonneg ht.1 hv.1
  have a2 : t * l.getD k 0 ≤ 1000000 * 1000000 := Int.mul_le_mul ht.2 hv.2 hv.1 (by omega)
  omega

set_option maxRecDepth 100000 in
set_option maxHeartbeats 8000000 in
theorem refBillFor_any (b : Option Addr) (l : List Int) (d n : Nat) (t : Int) (w : World) (hX : IntsAt w b l) (hok : OkC n l) (hn : n ≤ 120) (hn0 : 0 < n) :
    Calls Tryd.prog 23 #[.slice b l.length d, .int .i64 t] w (RBillPost w l t) := by
  rcases inB_cases t 0 1000000 with ⟨hi, ht0, ht1⟩ | ⟨hi, ht⟩
  · have hE0 : rbE l t = if sumOf l = 0 then 11 else 0 := by unfold rbE; rw [if_neg (by omega)]
    by_cases hs0 : sumOf l = 0
    · have HE := Lib.hid (hE0.trans (if_pos hs0))
      go_enter Tryd.func23, Tryd.ntmps23
      go_wp2_with (go_at_call 38; refine (within_any _ _ _ _).mono ?_; rintro e w' ⟨rfl, rfl⟩)
      refine (total_any b l d n _ hn hX hok).mono ?_
      rintro e w1 ⟨rfl, hD⟩
      rw [hs0]
      have hB := hD.below (Below.refl w.heap.size w)
      clear hE0 hs0
      go_wp2
      go_ret2
      exact ⟨hB, .inl ⟨by rw [HE.out]; decide, by rw [HE.out]; rfl⟩⟩
    · have HE := Lib.hid (hE0.trans (if_neg hs0))
      have hsp := sumOf_pos hok hs0
      have hlp : 0 < l.length := by have := hok.1; omega
      have HOK := Lib.hid hok
      have HLN := Lib.hid hok.1
      have HS0 := Lib.hid hs0
      have hmis := missing_bd (need := l) (sum := sumOf l) (total := t) hsp rfl hlp
      obtain ⟨m0, hm0⟩ : ∃ m : Nat, missingOf l (sumOf l) t = (m : Int) := ⟨_, (Int.toNat_of_nonneg hmis.1).symm⟩
      have HM0 := Lib.hid hm0
      have hm0n : m0 < l.length := by omega
      have HSUM := Lib.hid (fun (m : Nat) (hm : m ≤ l.length) => part_sum (l := l) (t := t) hlp hm)
      have HBD := Lib.hid (fun (m : Nat) (hm : (m : Int) ≤ missingOf l (sumOf l) t) => part_bd hok hn0 hs0 ⟨ht0, ht1⟩ hm)
      have HNX := Lib.hid (fun (m : Nat) (hm : m < l.length) (M : List Bool) (hM : Chosen l t m M) => chosen_next hlp hm hM)
      have HPN := Lib.hid (fun (m b : Nat) (hm : m < l.length) (hb : (orderOf (tab l.length (remF l (sumOf l) t))).getD m 0 = (b : Int)) => part_next (t := t) hlp hm hb)
      have HMD := Lib.hid (show missingOf l (sumOf l) t = t - sumTo (quoF l (sumOf l) t) l.length from rfl)
      have HALL := Lib.hid (show partB l (sumOf l) t m0 = billOf l (sumOf l) t by rw [← part_all, hm0, Int.toNat_natCast])
      have HQ := Lib.hid (fun (k : Nat) (hk : k < l.length) => quot_bd hok ⟨ht0, ht1⟩ hk)
      obtain ⟨i0, hi0, hz0, hz1, hz2⟩ := info_parts info3
      have hmk := fun W => run_make_row' (P := Tryd.prog) 80 4 (.bool false) 1 Tryd.underlying80 infoB rfl .i64 .i64 l.length (by have := hok.1; omega) (by have := hok.1; omega) W
      have hl120 : l.length ≤ 120 := by have := hok.1; omega
      clear hE0 hm0 hmis hs0
      go_enter Tryd.func23, Tryd.ntmps23
      go_wp2_with (go_at_call 38; refine (within_any _ _ _ _).mono ?_; rintro e w' ⟨rfl, rfl⟩)
      refine (total_any b l d n _ hn hX hok).mono ?_
      rintro e w1 ⟨rfl, hD⟩
      have hB1 := hD.below (Below.refl w.heap.size w)
      have HSE := Lib.hid (rfl : sumOf l = sumOf l)
      clear hok hD
      have hsum0 : (sumOf l == 0) = false := by simp; omega
      go_wp2_with fail
      go_loopw [7, 8] (fun v i wr => ∃ k : Nat, k ≤ l.length ∧ i = .int .i64 k ∧ wr.ownsRow w.heap.size 3 1 v k (vals (tab k (quoF l (sumOf l) t))) ∧ Below w.heap.size w wr) (fun _ i _ => l.length - (intOf i).toNat)
      case atStart => exact ⟨0, Nat.zero_le _, rfl, World.ownsRow_nil _ _ _ _, hB1⟩
      case round =>
        obtain ⟨k, hk, rfl, hown, hB⟩ := hrel
        clear hB1
        by_cases hlt : k < l.length
        · obtain ⟨p1, rfl, hp1, hc1⟩ := (hX.below hB).at_ hlt
          have hq := HQ.out k hlt
          have hvt := Lib.hid (vals_tab k (quoF l (sumOf l) t))
          have hqd := Lib.hid (show quoF l (sumOf l) t k = t * l.getD k 0 / sumOf l from rfl)
          generalize l.getD k 0 = x at hc1 hq hqd
          have hkl : (k : Int) < (l.length : Int) := by omega
          have hbw := hB.size
          have owna := hown.alloc (.cells #[.int .i64 (t * x / sumOf l)] 3)
          have HNW := Lib.hid (World.news_of_block (cs := #[.int .i64 (t * x / sumOf l)]) (t := 3) (fr := (0, 0)) (heap_alloc_new wr _))
          have HO1 : Hid (∀ u ∈ [Value.int .i64 (t * x / sumOf l)], u.oneCell' = true) := Lib.hid (by intro u hu; rw [List.mem_singleton.1 hu]; rfl)
          have H63 : Hid (k + 1 ≤ maxLen) := Lib.hid (by unfold maxLen; omega)
          have HBY : Hid ((k + 1) * 8 ≤ 140737488355328) := Lib.hid (by omega)
          have hbase : w.heap.size ≤ (wr.alloc (.cells #[.int .i64 (t * x / sumOf l)] 3)).heap.size := by simp; omega
          have a1 := hq.1
          have a2 := hq.2
          have hsp1 : 0 < sumOf l := hsp
          have hwx : IntKind.i64.wrap (t * x) = t * x := IntWalk.i64_in _ (by omega)
          go_wp2_with (at_builtin; refine wpList_append_own _ rfl _ _ 31 rfl w.heap.size 3 i0 (.int .i64 0) 1 8 Tryd.underlying31 hi0 hz0 hz1 hz2 rfl (by decide) _ k (vals (tab k (quoF l (sumOf l) t))) rfl owna ⟨wr.heap.size, 0, none⟩ 1 1 [.int .i64 (t * x / sumOf l)] rfl rfl (by simpa using HNW.out) HO1.out H63.out HBY.out hbase ?_; intro v' w10 hown10 hgrow10 hnil10)
          have hB10 : Below w.heap.size w w10 := (hB.alloc hbw _).grown hgrow10 hbase (fun q hq => (owna.lt q hq).1)
          have hown11 : w10.ownsRow w.heap.size 3 1 v' (k + 1) (vals (tab (k + 1) (quoF l (sumOf l) t))) := by rw [hvt.out, hqd.out]; exact hown10
          go_roundw
          case rel => exact ⟨k + 1, by omega, by go_num, hown11, hB10⟩
          case measure => simp [intOf]; omega
        · have hk2 : k = l.length := by omega
          subst hk2
          obtain ⟨A', cap', ev, hnz⟩ := own_shape hown
          subst ev
          obtain ⟨g, eg⟩ := hnz hlp
          subst eg
          obtain ⟨T, hrow0⟩ := RowT.of_own hown
          have hgb : w.heap.size ≤ g := (hown.lt g rfl).1
          have hglt : g < wr.heap.size := (hown.lt g rfl).2
          have hrow1 : RowT T (wr.alloc (.cells (madeCells #[.bool false] l.length) 4)) g (partB l (sumOf l) t 0) := (((Below.refl _ wr).alloc (Nat.le_refl _) _).block g hglt).trans hrow0
          have hmade := BoolRow.made wr l.length
          have hB2 := hB.alloc hB.size (.cells (madeCells #[.bool false] l.length) 4)
          have hgm0 := hB.size
          clear hown hrow0 hB
          go_wp2_with fail
          obtain ⟨wo, rfl⟩ : ∃ wo : World, wo = wr := ⟨_, rfl⟩
          go_loopg [10] (m0 + 1) (fun gk v10 wr => ∃ (m : Nat) (M : List Bool), m ≤ m0 ∧ gk = m0 + 1 - m ∧ Hid (Chosen l t m M) ∧ RowT T wr g (partB l (sumOf l) t m) ∧ BoolRow wr wo.heap.size M ∧ Below w.heap.size w wr)
          case atStart => exact ⟨0, List.replicate l.length false, Nat.zero_le _, rfl, Lib.hid chosen_start, hrow1, hmade, hB2⟩
          case round =>
            obtain ⟨m, M, hmm0, hgk, HC, hrow, hmore, hB⟩ := hrel
            clear hrow1 hmade hB2
            have hpok := HBD.out m (by rw [HM0.out]; omega)
            have hsm := HSUM.out m (by omega)
            have hmd := HMD.out
            rw [HM0.out] at hmd
            have htot := total_any (some ⟨g, 0, none⟩) (partB l (sumOf l) t m) cap' n wr hn hrow.ints' hpok
            rw [part_len] at htot
            have HTOT := Lib.hid htot
            have HPOK := Lib.hid hpok
            clear htot hpok
            go_wp2_with fail
            refine HTOT.out.mono ?_
            rintro e w5 ⟨rfl, hD5⟩
            have hrow5 : RowT T w5 g (partB l (sumOf l) t m) := by obtain ⟨q, rfl⟩ := hD5; exact hrow
            have hmore5 : BoolRow w5 wo.heap.size M := by obtain ⟨q, rfl⟩ := hD5; exact hmore
            have hB5 := hD5.below hB
            clear hrow hmore hB hD5
            obtain ⟨s5, es5⟩ : ∃ s, s = sumOf (partB l (sumOf l) t m) := ⟨_, rfl⟩
            have hs5 : s5 = t - m0 + m := by omega
            rw [← es5]
            clear hsm hmd es5
            by_cases hmm : m < m0
            · have hlt5 : s5 < t := by omega
              obtain ⟨bb, hb1, hb2, hb3, hb4, hb5⟩ := HNX.out m (by omega) M HC.out
              have hMl := HC.out.1
              have hX5 := hX.below hB5
              clear hs5
              go_wp2_with fail
              go_loopw [10, 11] (fun v i wr => ∃ k : Nat, k ≤ l.length ∧ i = .int .i64 k ∧ v = .int .i64 (bestI (bestB (tab l.length (remF l (sumOf l) t)) M k)) ∧ Drew w5 wr) (fun _ i _ => l.length - (intOf i).toNat)
              case atStart => exact ⟨0, Nat.zero_le _, rfl, rfl, Drew.refl _⟩
              case round =>
                obtain ⟨k, hk, rfl, rfl, hD⟩ := hrel
                by_cases hlt : k < l.length
                · obtain ⟨p1, rfl, hp1, hc1⟩ := (hD.ints hX5).at_ hlt
                  have hcm := hD.cell (hmore5.cell (j := k) (by rw [hMl]; exact hlt))
                  have hkl : (k : Int) < (l.length : Int) := by omega
                  have hq := HQ.out k hlt
                  have hvk := Lib.hid (show (tab l.length (remF l (sumOf l) t)).getD k 0 = t * l.getD k 0 % sumOf l from tab_at hlt)
                  cases hMk : M.getD k false
                  · rw [hMk] at hcm
                    cases hbk : bestB (tab l.length (remF l (sumOf l) t)) M k with
                    | none =>
                      have hnx := Lib.hid (bestB_first hMk hbk)
                      rw [show bestI none = -1 from rfl]
                      clear hMk hbk
                      go_wp2_with fail
                      go_quiet (fail)
                      go_wp2
                      go_roundw
                      case rel => exact ⟨k + 1, by omega, by go_num, by rw [hnx.out]; rfl, hD.drewN _⟩
                      case measure => simp [intOf]; omega
                    | some b =>
                      have hbk2 := (bestB_spec (V := tab l.length (remF l (sumOf l) t)) (M := M) k).2 b hbk
                      have hbl : b < l.length := by omega
                      obtain ⟨_, e2, hp2, hc2⟩ := (hD.ints hX5).at_ hbl
                      cases e2
                      have hqb := HQ.out b hbl
                      have hvb := Lib.hid (show (tab l.length (remF l (sumOf l) t)).getD b 0 = t * l.getD b 0 % sumOf l from tab_at hbl)
                      rw [show bestI (some b) = (b : Int) from rfl]
                      have hup := Lib.hid (fun h => bestB_up hMk hbk h)
                      have hstay := Lib.hid (fun h => bestB_stay hbk h)
                      rw [hvk.out, hvb.out] at hup hstay
                      generalize l.getD k 0 = x at hc1 hq hup hstay
                      generalize l.getD b 0 = y at hc2 hqb hup hstay
                      have hbl' : (b : Int) < (l.length : Int) := by omega
                      have hb0 : decide ((b : Int) < 0) = false := decide_eq_false (by omega)
                      have hwx : IntKind.i64.wrap (t * x) = t * x := IntWalk.i64_in _ (by omega)
                      have hwy : IntKind.i64.wrap (t * y) = t * y := IntWalk.i64_in _ (by omega)
                      have a1 := hq.1
                      have a2 := hqb.1
                      have hsp1 : 0 < sumOf l := hsp
                      clear hMk hbk hbk2 hq hqb
                      by_cases hvv : t * y % sumOf l < t * x % sumOf l
                      · have hd : decide (t * y % sumOf l < t * x % sumOf l) = true := decide_eq_true hvv
                        have hnx := Lib.hid (hup.out hvv)
                        clear hvv hup hstay
                        go_wp2_with fail
                        go_quiet (fail)
                        go_wp2
                        go_roundw
                        case rel => exact ⟨k + 1, by omega, by go_num, by rw [hnx.out]; rfl, hD.drewN _⟩
                        case measure => simp [intOf]; omega
                      · have hd : decide (t * y % sumOf l < t * x % sumOf l) = false := decide_eq_false hvv
                        have hnx := Lib.hid (hstay.out hvv)
                        clear hvv hup hstay
                        go_wp2_with fail
                        go_quiet (fail)
                        go_wp2
                        go_roundw
                        case rel => exact ⟨k + 1, by omega, by go_num, by rw [hnx.out]; rfl, hD.drewN _⟩
                        case measure => simp [intOf]; omega
                  · rw [hMk] at hcm
                    have hnx := Lib.hid (bestB_skip (V := tab l.length (remF l (sumOf l) t)) hMk)
                    clear hMk
                    go_wp2_with fail
                    go_quiet (fail)
                    go_wp2
                    go_roundw
                    case rel => exact ⟨k + 1, by omega, by go_num, by rw [hnx.out], hD.drewN _⟩
                    case measure => simp [intOf]; omega
                · have hk2 : k = l.length := by omega
                  subst hk2
                  rw [hb1, show bestI (some bb) = (bb : Int) from rfl]
                  have hrow6 : RowT T wr g (partB l (sumOf l) t m) := by obtain ⟨q, rfl⟩ := hD; exact hrow5
                  have hmore6 : BoolRow wr wo.heap.size M := by obtain ⟨q, rfl⟩ := hD; exact hmore5
                  have hB6 := hD.below hB5
                  have hbl' : (bb : Int) < (l.length : Int) := by omega
                  have hcm := hmore6.cell (j := bb) (by rw [hMl]; exact hb2)
                  have hfm := hmore6.frozen bb
                  have hrow7 : RowT T (wr.setCell ⟨wo.heap.size, bb, none⟩ (.bool true)) g (partB l (sumOf l) t m) := hrow6.far (p := ⟨wo.heap.size, bb, none⟩) (by show g ≠ wo.heap.size; omega) (.bool true)
                  have hco := hrow7.cell (j := bb) (by rw [part_len]; exact hb2)
                  have hfo := hrow7.frozen bb
                  have hpn := Lib.hid (HPN.out m bb (by omega) hb4)
                  have hub := HPOK.out.2 bb (by have := HLN.out; omega)
                  have hset := fun v => hrow7.set_ (j := bb) (by rw [part_len]; exact hb2) v
                  have hmset := hmore6.set_ bb true
                  have hBs := hB6.setCell (p := ⟨wo.heap.size, bb, none⟩) hgm0 (.bool true)
                  generalize (partB l (sumOf l) t m).getD bb 0 = u at hco hpn hub
                  clear hrow5 hmore5 hB5 hX5 hD hrow6 hmore6 hB6 hb1 hb3 hrow7
                  go_wp2
                  go_roundg (m0 + 1 - (m + 1))
                  case measure => omega
                  case rel => exact ⟨m + 1, M.set bb true, by omega, rfl, Lib.hid hb5, by rw [hpn.out]; exact hset _, hmset.far (by show wo.heap.size ≠ g; omega) _, hBs.setCell (by exact hgb) _⟩
            · have hmm2 : m = m0 := by omega
              subst hmm2
              have hge5 : t ≤ s5 := by omega
              rw [HALL.out] at hrow5
              have hXr := hrow5.ints'
              clear hrow5 hmore5
              go_wp2
              go_ret2
              exact ⟨hB5, .inr ⟨HE.out, g, cap', rfl, hXr⟩⟩
  · have HE := Lib.hid (show rbE l t = 2 by unfold rbE; rw [if_pos (by omega)])
    go_enter Tryd.func23, Tryd.ntmps23
    go_wp2_with (go_at_call 38; refine (within_any _ _ _ _).mono ?_; rintro e w' ⟨rfl, rfl⟩)
    go_ret2
    exact ⟨Below.refl _ _, .inl ⟨by rw [HE.out]; decide, by rw [HE.out]; rfl⟩⟩
end Go.Proofs.YtebndgepmjonoaaDoor
