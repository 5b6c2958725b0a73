/-
  The reference's lists: their width, text, need.
-/
import Derived.Test.YtjkcomafgkabeaaDoorN8
namespace Go.Proofs.YtjkcomafgkabeaaDoor
open Go.RowKit Go.Maps

set_option maxRecDepth 100000 in
set_option maxHeartbeats 2000000 in
theorem refIsSpace_any (f : FT) (a : Option Addr) (c x : Nat) (w : World) (hF : SortsAt w a f.sorts) (hx : x < f.sorts.length) {bl : Bool} (hbl : decide ((f.sorts.getD x noTS).kind = 3) = bl) :
    Calls Tryd.prog 76 #[.agg #[.string f.name, .int .i64 f.body, .slice a f.sorts.length c], .int .i64 x] w fun e w' => e = .returned (.bool bl) ∧ Below w.heap.size w w' := by
  subst hbl
  have hB := (Below.refl w.heap.size w).alloc (Nat.le_refl _) (boxF f a c)
  obtain ⟨ad, rfl, hadl, s0, s1, s2, s3⟩ := (hF.alloc (boxF f a c)).at_ hx
  generalize f.sorts.getD x noTS = y at s0 s1 s2 s3
  unfold boxF at s0 s1 s2 s3
  have hxl : (x : Int) < (f.sorts.length : Int) := by omega
  by_cases h3 : y.kind = 3
  · rw [h3] at s2
    have HE := Lib.hid (show decide (y.kind = 3) = true from decide_eq_true h3)
    clear h3
    go_enter Tryd.func76, Tryd.ntmps76
    go_wp2
    go_ret
    exact ⟨by rw [HE.out]; rfl, hB⟩
  · have HE := Lib.hid (show decide (y.kind = 3) = (y.kind == 3) by rw [decide_eq_false h3]; symm; simpa using h3)
    clear h3
    go_enter Tryd.func76, Tryd.ntmps76
    go_wp2
    go_ret
    exact ⟨by rw [HE.out]; rfl, hB⟩

set_option maxRecDepth 100000 in
set_option maxHeartbeats 2000000 in
theorem refWidth_any (f : FT) (a : Option Addr) (c : Nat) (b : Option Addr) (l : List Int) (d : Nat) (w : World) (hF : FAt w a f) (hX : IntsAt w b l) (h0 : listErr f l = 0) :
    Calls Tryd.prog 39 #[.agg #[.string f.name, .int .i64 f.body, .slice a f.sorts.length c], .slice b l.length d] w fun e w' => e = .returned (.int .i64 (widthOf f l)) ∧ Below w.heap.size w w' := by
  have hB0 : Below (w.heap.size + 1) (w.alloc (boxF f a c)) (w.alloc (boxF f a c)) := Below.refl _ _
  have E0 := Env.of hF hB0
  have hX0 := hX.alloc (boxF f a c)
  obtain ⟨h1, hln, hok⟩ := listErr_zero h0
  obtain ⟨_, hR, _⟩ := checkF_right h1
  have hn120 := hR.2.2.2.1
  have HOK := Lib.hid hok
  have HR := Lib.hid hR
  clear hok hR h1 h0
  have q2 := E0.c2
  go_enter Tryd.func39, Tryd.ntmps39
  go_wp2_with fail
  go_loopw [5, 6] (fun t i wr => ∃ k : Nat, k ≤ l.length ∧ i = .int .i64 k ∧ t = .int .i64 (sumTo (fun k => (f.sorts.getD (l.getD k 0).toNat noTS).width) k) ∧ Drew (w.alloc (boxF f a c)) wr) (fun _ i _ => l.length - (intOf i).toNat)
  case atStart => exact ⟨0, Nat.zero_le _, rfl, rfl, Drew.refl _⟩
  case round =>
    obtain ⟨k, hk, rfl, rfl, hD⟩ := hrel
    have r2 := hD.cell q2
    by_cases hlt : k < l.length
    · obtain ⟨p1, rfl, hp1, hc1⟩ := (hD.ints hX0).at_ hlt
      obtain ⟨x, hx, hxe⟩ := HOK.out k hlt
      have hst : sumTo (fun k => (f.sorts.getD (l.getD k 0).toNat noTS).width) (k + 1) = sumTo (fun k => (f.sorts.getD (l.getD k 0).toNat noTS).width) k + (f.sorts.getD x noTS).width := by
        show _ + (f.sorts.getD (l.getD k 0).toNat noTS).width = _
        rw [hxe]; rfl
      have HST := Lib.hid hst
      rw [hxe] at hc1
      obtain ⟨ad, rfl, hadl, s0, s1, s2, s3⟩ := (hD.sorts E0.fa.at_).at_ hx
      have hw1 := HR.out.2.2.2.2 x hx
      have hsb := sumTo_bd (f := fun k => (f.sorts.getD (l.getD k 0).toNat noTS).width) (lo := 0) (hi := 100000) (k := k) (fun i hi => by
        obtain ⟨y, hy, hye⟩ := HOK.out i (by omega)
        have := HR.out.2.2.2.2 y hy
        show 0 ≤ (f.sorts.getD (l.getD i 0).toNat noTS).width ∧ _
        rw [hye, Int.toNat_natCast]; omega)
      generalize sumTo (fun k => (f.sorts.getD (l.getD k 0).toNat noTS).width) k = sq at hsb HST
      generalize (f.sorts.getD x noTS).width = wd at s3 hw1 HST
      clear hst hxe s0 s1 s2
      have hk4 : (k : Int) ≤ 10000 := by omega
      have hkl : (k : Int) < (l.length : Int) := by omega
      have hxl : (x : Int) < (f.sorts.length : Int) := by omega
      go_wp2_with fail
      go_quiet (fail)
      go_wp2
      go_roundw
      case rel => exact ⟨k + 1, by omega, by go_num, by rw [HST.out], hD.drewN _⟩
      case measure => simp [intOf]; omega
    · have hk2 : k = l.length := by omega
      subst hk2
      have hlow := hD.below E0.low
      go_wp2
      go_ret
      exact ⟨rfl, hlow⟩

theorem textN_flag {f : FT} {l : List Int} {k x : Nat} (hxe : l.getD k 0 = (x : Int)) : (textN f l (k + 1)).2 = decide ((f.sorts.getD x noTS).kind = 3) := by
  show decide ((f.sorts.getD (l.getD k 0).toNat noTS).kind = 3) = _
  rw [hxe]; rfl
theorem space_text {f : FT} (h : (checkF f).2 = 0) {k : Nat} (hk : k < f.sorts.length) (h3 : (f.sorts.getD k noTS).kind = 3) : (f.sorts.getD k noTS).text.data.toList = [] := by
  obtain ⟨_, _, ha⟩ := checkF_right h
  obtain ⟨_, _, _, _, h5⟩ := sortErr_zero (ha k hk)
  obtain ⟨h6, _⟩ := textErr_zero h5
  rw [h3] at h6
  have h7 := (of_decide_eq_true (show decide _ = true from h6)).2
  have h8 : (f.sorts.getD k noTS).text.data.size = 0 := by
    have : mostOf 3 = 0 := rfl
    have e : (f.sorts.getD k noTS).text.data.size = (f.sorts.getD k noTS).text.size := rfl
    omega
  exact List.eq_nil_of_length_eq_zero (by rw [Array.length_toList]; exact h8)

set_option maxRecDepth 100000 in
set_option maxHeartbeats 8000000 in
theorem refText_any (f : FT) (a : Option Addr) (c : Nat) (b : Option Addr) (l : List Int) (d : Nat) (w : World) (hF : FAt w a f) (hX : IntsAt w b l) (h0 : listErr f l = 0) :
    Calls Tryd.prog 40 #[.agg #[.string f.name, .int .i64 f.body, .slice a f.sorts.length c], .slice b l.length d] w fun e w' => e = .returned (.string (textOf f l)) ∧ Below w.heap.size w w' := by
  have hB0 : Below (w.heap.size + 1) (w.alloc (boxF f a c)) (w.alloc (boxF f a c)) := Below.refl _ _
  have E0 := Env.of hF hB0
  obtain ⟨h1, hln, hok⟩ := listErr_zero h0
  obtain ⟨_, hR, _⟩ := checkF_right h1
  have hn120 := hR.2.2.2.1
  have HOK := Lib.hid hok
  have H1 := Lib.hid h1
  clear hok hR h1 h0
  go_enter Tryd.func40, Tryd.ntmps40
  go_wp2_with fail
  go_loopw [5, 6] (fun s i wr => ∃ (k : Nat) (t : ByteArray), k ≤ l.length ∧ i = .int .i64 k ∧ s = .string t ∧ Hid (t.data.toList = (textN f l k).1) ∧ Env w f a c wr) (fun _ i _ => l.length - (intOf i).toNat)
  case atStart => exact ⟨0, ⟨#[]⟩, Nat.zero_le _, rfl, rfl, Lib.hid rfl, E0⟩
  case round =>
    obtain ⟨k, t, hk, rfl, rfl, HT, E⟩ := hrel
    clear E0
    have q0 := E.c0; have q1 := E.c1; have q2 := E.c2
    by_cases hlt : k < l.length
    · have hXr := hX.below E.low
      obtain ⟨p1, rfl, hpE, hc1⟩ := hXr.at_ hlt
      obtain ⟨x, hx, hxe⟩ := HOK.out k hlt
      rw [hxe] at hc1
      have hbd := textN_bd H1.out HOK.out k hk
      have htb := text_bd H1.out hx
      have htsz : t.size ≤ 5 * k := by
        have e1 : t.data.toList.length = t.size := Array.length_toList
        rw [HT.out] at e1; omega
      have hkl : (k : Int) < (l.length : Int) := by omega
      have hxl : (x : Int) < (f.sorts.length : Int) := by omega
      have hk4 : (k : Int) ≤ 10000 := by omega
      clear hbd
      by_cases h3 : (f.sorts.getD x noTS).kind = 3
      · have HB := Lib.hid (show decide ((f.sorts.getD x noTS).kind = 3) = true from decide_eq_true h3)
        have HST := Lib.hid (show (textN f l (k + 1)).1 = (textN f l k).1 ++ (if (textN f l k).2 = false then [32] else []) by
          show (textN f l k).1 ++ ((if (f.sorts.getD (l.getD k 0).toNat noTS).kind = 3 ∧ (textN f l k).2 = false then [32] else []) ++ (f.sorts.getD (l.getD k 0).toNat noTS).text.data.toList) = _
          rw [hxe, Int.toNat_natCast, space_text H1.out hx h3, List.append_nil]
          by_cases h5 : (textN f l k).2 = false
          · rw [if_pos ⟨h3, h5⟩, if_pos h5]
          · rw [if_neg (fun h => h5 h.2), if_neg h5])
        have HXE := Lib.hid hxe
        clear h3 htb hxe
        obtain ⟨t1, g1, z1, d1⟩ := add_ex t ⟨#[32]⟩ (by show t.size + 1 ≤ _; omega)
        have D1 : Hid (t1.data.toList = t.data.toList ++ [32]) := Lib.hid (by rw [d1])
        clear z1 d1
        by_cases hk0 : k = 0
        · have hk0b : ((k : Int) == 0) = true := by subst hk0; rfl
          have HK0 := Lib.hid hk0
          clear hk0
          go_wp2_with fail
          go_region_held3 (fun w' => w'.cell? ⟨w.heap.size, 0, none⟩ = some (.string f.name) ∧ w'.cell? ⟨w.heap.size, 1, none⟩ = some (.int .i64 f.body) ∧ w'.cell? ⟨w.heap.size, 2, none⟩ = some (.slice a f.sorts.length c) ∧ w'.cell? (p1.add k) = some (.int .i64 x)) (go_keep)
            (first | (go_at_call 76; refine (refIsSpace_any f a c x _ (by exact E.fa.at_) hx (bl := true) HB.out).mono ?_; rintro e w6 ⟨rfl, hb6⟩; have k0 := (hb6.cell (p := ⟨w.heap.size, 0, none⟩) E.lt).trans E.c0; have k1 := (hb6.cell (p := ⟨w.heap.size, 1, none⟩) E.lt).trans E.c1; have k2 := (hb6.cell (p := ⟨w.heap.size, 2, none⟩) E.lt).trans E.c2; have k3 := (hb6.cell (p := p1.add k) (by rw [add_block]; exact hpE)).trans hc1))
          have E6 := (E.drew hF).step hF hb6
          clear E hb6 hc1 q0 q1 q2 k0 k1 k2 k3
          rename_i hH
          clear hH
          have q0 := E6.c0; have q1 := E6.c1; have q2 := E6.c2
          go_wp2_with fail
          go_quiet (fail)
          go_wp2
          go_roundw
          case rel => exact ⟨k + 1, t1, by omega, by go_num, rfl, Lib.hid (by rw [D1.out, HT.out, HST.out, HK0.out]; rfl), E6.drewN hF _⟩
          case measure => simp [intOf]; omega
        · obtain ⟨m, em⟩ : ∃ m, m = k - 1 := ⟨_, rfl⟩
          have hmk : m + 1 = k := by omega
          have hml' : m < l.length := by omega
          obtain ⟨y, hy, hye⟩ := HOK.out m hml'
          obtain ⟨p1', ep, _, hc2⟩ := hXr.at_ hml'
          injection ep with ep
          subst ep
          rw [hye] at hc2
          have HFL := Lib.hid (textN_flag (f := f) hye)
          rw [hmk] at HFL
          have hk0b : ((k : Int) == 0) = false := by simpa using hk0
          have hwm : IntKind.i64.wrap ((k : Int) - 1) = (m : Int) := by rw [IntWalk.i64_in _ (by omega)]; omega
          have hyl : (y : Int) < (f.sorts.length : Int) := by omega
          have hml : (m : Int) < (l.length : Int) := by omega
          clear em hmk hml' hk0
          go_wp2_with fail
          go_region_held3 (fun w' => w'.cell? ⟨w.heap.size, 0, none⟩ = some (.string f.name) ∧ w'.cell? ⟨w.heap.size, 1, none⟩ = some (.int .i64 f.body) ∧ w'.cell? ⟨w.heap.size, 2, none⟩ = some (.slice a f.sorts.length c) ∧ w'.cell? (p1.add k) = some (.int .i64 x)) (go_keep)
            (first | (go_at_call 76; refine (refIsSpace_any f a c x _ (by exact E.fa.at_) hx (bl := true) HB.out).mono ?_; rintro e w6 ⟨rfl, hb6⟩; have k0 := (hb6.cell (p := ⟨w.heap.size, 0, none⟩) E.lt).trans E.c0; have k1 := (hb6.cell (p := ⟨w.heap.size, 1, none⟩) E.lt).trans E.c1; have k2 := (hb6.cell (p := ⟨w.heap.size, 2, none⟩) E.lt).trans E.c2; have k3 := (hb6.cell (p := p1.add k) (by rw [add_block]; exact hpE)).trans hc1))
          have E6 := (E.drew hF).step hF hb6
          have hc3 := (hb6.cell (p := p1.add m) (by rw [add_block]; exact hpE)).trans hc2
          have hpE6 : p1.block < w6.heap.size := Nat.lt_of_lt_of_le hpE hb6.size
          clear E hb6 hc1 q0 q1 q2 k0 k1 k2 k3 hc2
          rename_i hH
          clear hH
          have q0 := E6.c0; have q1 := E6.c1; have q2 := E6.c2
          cases hsp : decide ((f.sorts.getD y noTS).kind = 3)
          · have HB2 := Lib.hid hsp
            clear hsp
            go_wp2_with fail
            go_region_with ((go_at_call 76; refine (refIsSpace_any f a c y _ (by exact E6.fa.at_) hy (bl := false) HB2.out).mono ?_; rintro e w7 ⟨rfl, hb7⟩))
            all_goals (go_wp2; go_roundw)
            all_goals first
              | exact ⟨k + 1, t1, by omega, by go_num, rfl, Lib.hid (by rw [D1.out, HT.out, HST.out, HFL.out, HB2.out]; rfl), (E6.drewN hF _).step hF hb7⟩
              | (simp [intOf]; omega)
          · have HB2 := Lib.hid hsp
            clear hsp
            go_wp2_with fail
            go_region_with ((go_at_call 76; refine (refIsSpace_any f a c y _ (by exact E6.fa.at_) hy (bl := true) HB2.out).mono ?_; rintro e w7 ⟨rfl, hb7⟩))
            all_goals (go_wp2; go_roundw)
            all_goals first
              | exact ⟨k + 1, t, by omega, by go_num, rfl, Lib.hid (by rw [HT.out, HST.out, HFL.out, HB2.out]; exact (List.append_nil _).symm), (E6.drewN hF _).step hF hb7⟩
              | (simp [intOf]; omega)
      · have HB := Lib.hid (show decide ((f.sorts.getD x noTS).kind = 3) = false from decide_eq_false h3)
        have HST := Lib.hid (show (textN f l (k + 1)).1 = (textN f l k).1 ++ (f.sorts.getD x noTS).text.data.toList by
          show (textN f l k).1 ++ ((if (f.sorts.getD (l.getD k 0).toNat noTS).kind = 3 ∧ (textN f l k).2 = false then [32] else []) ++ (f.sorts.getD (l.getD k 0).toNat noTS).text.data.toList) = _
          rw [hxe, Int.toNat_natCast, if_neg (fun h => h3 h.1), List.nil_append])
        clear h3 hxe
        go_wp2_with fail
        go_region_held3 (fun w' => w'.cell? ⟨w.heap.size, 0, none⟩ = some (.string f.name) ∧ w'.cell? ⟨w.heap.size, 1, none⟩ = some (.int .i64 f.body) ∧ w'.cell? ⟨w.heap.size, 2, none⟩ = some (.slice a f.sorts.length c) ∧ w'.cell? (p1.add k) = some (.int .i64 x)) (go_keep)
          (first | (go_at_call 76; refine (refIsSpace_any f a c x _ (by exact E.fa.at_) hx (bl := false) HB.out).mono ?_; rintro e w6 ⟨rfl, hb6⟩; have k0 := (hb6.cell (p := ⟨w.heap.size, 0, none⟩) E.lt).trans E.c0; have k1 := (hb6.cell (p := ⟨w.heap.size, 1, none⟩) E.lt).trans E.c1; have k2 := (hb6.cell (p := ⟨w.heap.size, 2, none⟩) E.lt).trans E.c2; have k3 := (hb6.cell (p := p1.add k) (by rw [add_block]; exact hpE)).trans hc1))
        have E6 := (E.drew hF).step hF hb6
        have hc1' := k3
        clear E hb6 hc1 q0 q1 q2 k0 k1 k2 k3
        rename_i hH
        clear hH
        have q0 := E6.c0; have q1 := E6.c1; have q2 := E6.c2
        obtain ⟨ad, rfl, hadl, s0, s1, s2, s3⟩ := E6.fa.at_.at_ hx
        generalize f.sorts.getD x noTS = y at htb HST s0 s1 s2 s3
        obtain ⟨t2, g2, z2, d2⟩ := add_ex t y.text (by omega)
        have D2 : Hid (t2.data.toList = t.data.toList ++ y.text.data.toList) := Lib.hid (by rw [d2])
        clear z2 d2 s0 s2 s3
        go_wp2_with fail
        go_quiet (fail)
        go_wp2
        go_roundw
        case rel => exact ⟨k + 1, t2, by omega, by go_num, rfl, Lib.hid (by rw [D2.out, HT.out, HST.out]), E6.drewN hF _⟩
        case measure => simp [intOf]; omega
    · obtain rfl : k = l.length := by omega
      have HT2 := Lib.hid (show t = textOf f l by
        show t = ⟨(textN f l l.length).1.toArray⟩
        rw [← HT.out])
      have hlow := E.low
      go_wp2
      go_ret
      exact ⟨by rw [HT2.out]; rfl, hlow⟩
end Go.Proofs.YtjkcomafgkabeaaDoor
