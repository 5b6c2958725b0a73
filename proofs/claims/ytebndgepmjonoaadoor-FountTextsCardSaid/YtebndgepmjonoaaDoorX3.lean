/-
  The em; the spaces of a fount.
-/
import Derived.Test.YtebndgepmjonoaaDoorZX
import Derived.Test.YtebndgepmjonoaaDoorZN
import Derived.Deep.AppendLies
namespace Go.Proofs.YtebndgepmjonoaaDoor
open Go.RowKit Go.Maps

def emR (f : FT) : Int := if (checkF f).2 = 0 then f.body * 60 else 0
set_option maxRecDepth 100000 in
theorem emOf_any (b : Int) (h : 1 ≤ b ∧ b ≤ 144) (w : World) : Calls Tryd.prog 33 #[.int .i64 b] w fun e w' => e = .returned (.int .i64 (b * 60)) ∧ w' = w := by
  obtain ⟨h1, h2⟩ := h
  go_enter Tryd.func33, Tryd.ntmps33
  go_wp2
  go_ret
  exact ⟨rfl, rfl⟩
set_option maxRecDepth 100000 in
set_option maxHeartbeats 1000000 in
theorem EmOf_any (f : FT) (a : Option Addr) (c : Nat) (w : World) (hF : FAt w a f) :
    Calls Tryd.prog 10 #[.agg #[.string f.name, .int .i64 f.body, .slice a f.sorts.length c]] w fun e w' => e = .returned (.tuple #[.int .i64 (emR f), .int .i64 (checkF f).2]) ∧ Below w.heap.size w w' := by
  have hB0 : Below (w.heap.size + 1) (w.alloc (boxF f a c)) (w.alloc (boxF f a c)) := Below.refl _ _
  have E0 := Env.of hF hB0
  by_cases h1 : (checkF f).2 = 0
  · obtain ⟨_, hR, _⟩ := checkF_right h1
    have hb : 1 ≤ f.body ∧ f.body ≤ 144 := ⟨hR.1, hR.2.1⟩
    have HE := Lib.hid (show emR f = f.body * 60 by unfold emR; rw [if_pos h1])
    clear hR
    go_enter Tryd.func10, Tryd.ntmps10
    go_wp2_with fail
    refine (checkFount_any f a c _ E0.fa.ok E0.fa.at_ E0.fa.tab).mono ?_
    rintro e w1 ⟨rfl, hb1⟩
    rw [h1]
    have E1 := E0.step hF hb1
    have q0 := E1.c0; have q1 := E1.c1; have q2 := E1.c2
    have hlow := E1.low
    have H1 := Lib.hid h1
    clear hb1 E0 h1
    go_wp2_with (go_at_call 33; refine (emOf_any _ hb _).mono ?_; rintro e w' ⟨rfl, rfl⟩)
    go_ret2
    exact ⟨ret2_int HE.out.symm H1.out.symm, hlow⟩
  · have HE := Lib.hid (show emR f = 0 by unfold emR; rw [if_neg h1])
    have heb : ((checkF f).2 != 0) = true := by simpa using h1
    clear h1
    go_enter Tryd.func10, Tryd.ntmps10
    go_wp2_with fail
    refine (checkFount_any f a c _ E0.fa.ok E0.fa.at_ E0.fa.tab).mono ?_
    rintro e w1 ⟨rfl, hb1⟩
    have E1 := E0.step hF hb1
    have hlow := E1.low
    clear hb1 E0
    go_wp2
    go_ret2
    exact ⟨ret2_int HE.out.symm rfl, hlow⟩
set_option maxRecDepth 100000 in
theorem refEm_any (f : FT) (a : Option Addr) (c : Nat) (w : World) (h : 1 ≤ f.body ∧ f.body ≤ 144) :
    Calls Tryd.prog 13 #[.agg #[.string f.name, .int .i64 f.body, .slice a f.sorts.length c]] w fun e w' => e = .returned (.int .i64 (60 * f.body)) ∧ Below w.heap.size w w' := by
  obtain ⟨h1, h2⟩ := h
  have hB := (Below.refl w.heap.size w).alloc (Nat.le_refl _) (boxF f a c)
  unfold boxF at hB
  go_enter Tryd.func13, Tryd.ntmps13
  go_wp2
  go_ret
  exact ⟨rfl, hB⟩

set_option maxRecDepth 100000 in
theorem spInsSort_nil (B : Nat) (w : World) :
    Calls Tryd.prog 73 #[.slice none 0 0, .int .i64 0, .int .i64 0, .func (.func 35) #[] #[.pointer (some ⟨B, 0, none⟩)]] w fun e w' => e = .returned (.tuple #[]) ∧ w' = w := by
  go_enter Tryd.func73, Tryd.ntmps73
  go_wp2_with fail
  refine wp_loop_rounds 1 ?_
  rw [rounds_succ]
  go_wp2_with fail
  go_end0
  exact ⟨rfl, rfl⟩
set_option maxRecDepth 100000 in
theorem spStableCmp_nil (B : Nat) (w : World) :
    Calls Tryd.prog 59 #[.slice none 0 0, .int .i64 0, .func (.func 35) #[] #[.pointer (some ⟨B, 0, none⟩)]] w fun e w' => e = .returned (.tuple #[]) ∧ w' = w := by
  go_enter Tryd.func59, Tryd.ntmps59
  go_wp2_with fail
  refine wp_loop_rounds 1 ?_
  rw [rounds_succ]
  go_wp2_with fail
  refine (spInsSort_nil B _).mono ?_
  rintro e w1 ⟨rfl, rfl⟩
  go_wp2_with fail
  refine wp_loop_rounds 1 ?_
  rw [rounds_succ]
  go_wp2_with fail
  go_end0
  exact ⟨rfl, rfl⟩
set_option maxRecDepth 100000 in
theorem spSortStable_nil (B : Nat) (w : World) :
    Calls Tryd.prog 34 #[.slice none 0 0, .func (.func 35) #[] #[.pointer (some ⟨B, 0, none⟩)]] w fun e w' => e = .returned (.tuple #[]) ∧ w' = w := by
  go_enter Tryd.func34, Tryd.ntmps34
  go_wp2_with fail
  refine (spStableCmp_nil B _).mono ?_
  rintro e w1 ⟨rfl, rfl⟩
  go_wp2
  go_end0
  exact ⟨rfl, rfl⟩

theorem vals_snoc (L : List Int) (x : Int) : vals (L ++ [x]) = vals L ++ [.int .i64 x] := by unfold vals; rw [List.map_append]; rfl
theorem insAll_len (lt : Int → Int → Bool) : ∀ (m i : Nat) (L : List Int), (insAll lt m i L).length = L.length := by
  intro m
  induction m with
  | zero => intro i L; rfl
  | succ m ih => intro i L; show (insAll lt m (i + 1) (ins lt i L)).length = _; rw [ih, ins_len]
theorem spaces_len (l : List TS) : (spTo l l.length).length = (spacesOf l).length := by rw [← spaces_sorted, insAll_len]
theorem RowT.ints {T : List Value} {w : World} {g : Nat} {L : List Int} (h : RowT T w g L) : IntsAt w (some ⟨g, 0, none⟩) L := by
  intro k hk
  refine ⟨_, rfl, ?_, ?_⟩
  · have := cell_lt' (h.cell hk); exact this
  · rw [add0]; exact h.cell hk
def SpPost (w : World) (f : FT) (e : Ending) (w' : World) : Prop :=
  Below w.heap.size w w' ∧ ∃ A cap, e = .returned (.tuple #[.slice A (spacesOf f.sorts).length cap, .int .i64 0]) ∧ IntsAt w' A (spacesOf f.sorts)
set_option maxRecDepth 100000 in
set_option maxHeartbeats 4000000 in
theorem Spaces_good (f : FT) (a : Option Addr) (c : Nat) (w : World) (hF : FAt w a f) (h0 : (checkF f).2 = 0) (h20 : f.sorts.length < 20) :
    Calls Tryd.prog 11 #[.agg #[.string f.name, .int .i64 f.body, .slice a f.sorts.length c]] w (SpPost w f) := by
  have hB0 : Below (w.heap.size + 1) (w.alloc (boxF f a c)) (w.alloc (boxF f a c)) := Below.refl _ _
  have E0 := Env.of hF hB0
  obtain ⟨i0, hi0, hz0, hz1, hz2⟩ := info_parts info3
  have hpos : 0 < f.sorts.length := by obtain ⟨_, hR, _⟩ := checkF_right h0; have := hR.2.2.1; omega
  go_enter Tryd.func11, Tryd.ntmps11
  go_wp2_with fail
  refine (checkFount_any f a c _ E0.fa.ok E0.fa.at_ E0.fa.tab).mono ?_
  rintro e w1 ⟨rfl, hb1⟩
  rw [h0]
  have E1 := E0.step hF hb1
  have q0 := E1.c0; have q1 := E1.c1; have q2 := E1.c2
  have H0 := Lib.hid h0
  clear hb1 E0 h0
  go_wp2_with fail
  go_loopw [6, 20] (fun v i wr => ∃ k : Nat, k ≤ f.sorts.length ∧ i = .int .i64 k ∧ wr.ownsRow (w.heap.size + 1) 3 1 v (spTo f.sorts k).length (vals (spTo f.sorts k)) ∧ Env w f a c wr) (fun _ i _ => f.sorts.length - (intOf i).toNat)
  case atStart => exact ⟨0, Nat.zero_le _, rfl, World.ownsRow_nil _ _ _ _, E1⟩
  case round =>
    obtain ⟨k, hk, rfl, hown, E⟩ := hrel
    clear q0 q1 q2 E1
    have q0 := E.c0; have q1 := E.c1; have q2 := E.c2; have hlt0 := E.lt
    by_cases hlt : k < f.sorts.length
    · obtain ⟨ad, rfl, had, s0, s1, s2, s3⟩ := E.fa.at_.at_ hlt
      have hkl : (k : Int) < (f.sorts.length : Int) := by omega
      have hst : spTo f.sorts (k + 1) = if (f.sorts.getD k noTS).kind = 3 then spTo f.sorts k ++ [(k : Int)] else spTo f.sorts k := rfl
      have hlen := (spTo_ok f.sorts k).1
      generalize f.sorts.getD k noTS = y at s0 s1 s2 s3 hst
      generalize spTo f.sorts k = L at hown hst hlen
      by_cases h3 : y.kind = 3
      · rw [if_pos h3] at hst
        rw [h3] at s2
        have HST := Lib.hid hst
        have HV := Lib.hid (vals_snoc L k)
        have h63 : L.length + 1 ≤ maxLen := by unfold maxLen; omega
        have hby : (L.length + 1) * 8 ≤ 140737488355328 := by omega
        have hd3 : (y.kind == 3) = true := by simpa using h3
        clear hst h3
        have E2 := E.alloc hF (.cells #[.string y.name, .string y.text, .int .i64 3, .int .i64 y.width] 63)
        have E3 := E2.alloc hF (.cells #[.int .i64 k] 3)
        have owna := (hown.alloc (.cells #[.string y.name, .string y.text, .int .i64 3, .int .i64 y.width] 63)).alloc (.cells #[.int .i64 k] 3)
        have HNW := Lib.hid (World.news_of_block (cs := #[.int .i64 k]) (t := 3) (fr := (0, 0)) (heap_alloc_new (wr.alloc (.cells #[.string y.name, .string y.text, .int .i64 3, .int .i64 y.width] 63)) _))
        have HO1 : Hid (∀ u ∈ [Value.int .i64 k], u.oneCell' = true) := Lib.hid (by intro u hu; rw [List.mem_singleton.1 hu]; rfl)
        have H63 := Lib.hid h63; have HBY := Lib.hid hby
        have hbase : w.heap.size + 1 ≤ ((wr.alloc (.cells #[.string y.name, .string y.text, .int .i64 3, .int .i64 y.width] 63)).alloc (.cells #[.int .i64 k] 3)).heap.size := by simp; omega
        have hbel := E3.bel
        clear h63 hby hd3
        go_wp2_with (at_builtin; refine wpList_append_own _ rfl _ _ 31 rfl (w.heap.size + 1) 3 i0 (.int .i64 0) 1 8 Tryd.underlying31 hi0 hz0 hz1 hz2 rfl (by decide) _ L.length (vals L) rfl owna ⟨wr.heap.size + 1, 0, none⟩ 1 1 [.int .i64 k] rfl rfl (by simpa using HNW.out) HO1.out H63.out HBY.out hbase ?_; intro v' w10 hown10 hgrow10 hnil10)
        have hbel10 : Below (w.heap.size + 1) (w.alloc (boxF f (some ad) c)) w10 := hbel.grown hgrow10 hbase (fun q hq => (owna.lt q hq).1)
        go_roundw
        case rel => exact ⟨k + 1, by omega, by go_num, by rw [HST.out, HV.out, List.length_append]; exact hown10, Env.of hF hbel10⟩
        case measure => simp [intOf]; omega
      · rw [if_neg h3] at hst
        have HST := Lib.hid hst
        have hd3 : (y.kind == 3) = false := by simpa using h3
        have E2 := E.alloc hF (.cells #[.string y.name, .string y.text, .int .i64 y.kind, .int .i64 y.width] 63)
        have owna := hown.alloc (.cells #[.string y.name, .string y.text, .int .i64 y.kind, .int .i64 y.width] 63)
        clear hst h3
        go_wp2
        go_roundw
        case rel => exact ⟨k + 1, by omega, by go_num, by rw [HST.out]; exact owna, E2⟩
        case measure => simp [intOf]; omega
    · have hk2 : k = f.sorts.length := by omega
      subst hk2
      have hlow := E.low
      have hsl := spaces_len f.sorts
      have hso := spTo_ok f.sorts f.sorts.length
      have hss := spaces_sorted f.sorts
      generalize spTo f.sorts f.sorts.length = L at hown hsl hso hss
      rcases hown.2 with ⟨ev, ex⟩ | ⟨g, cap, cur, ev, hg, hh, hr1, hr2, hr4, hr3⟩
      · subst ev
        have hL0 : L.length = 0 := ex
        have hz : (spacesOf f.sorts).length = 0 := by rw [← hsl]; exact hL0
        have HZ := Lib.hid hz
        clear hown hsl hso hss
        go_wp2_with fail
        refine (spSortStable_nil _ _).mono ?_
        rintro e w5 ⟨rfl, rfl⟩
        go_wp2
        go_ret2
        exact ⟨hlow, none, 0, by rw [HZ.out]; rfl, fun j hj => absurd hj (by rw [HZ.out]; exact Nat.not_lt_zero _)⟩
      · subst ev
        rw [Nat.mul_one] at hr3
        have hrow : RowT (cur.toList.drop L.length) wr g L := by
          unfold RowT
          rw [hh, ← hr3, List.take_append_drop]
        have hgn : w.heap.size + 1 ≤ g := hg
        have hsrt : ∀ ad, a = some ad → ad.block ≠ g := fun ad ea => by
          obtain ⟨ad', ea', hlt', _⟩ := hF.at_ 0 hpos
          rw [ea] at ea'
          cases ea'
          omega
        have hE : SpEnv wr g w.heap.size a f.sorts c wr := ⟨⟨rfl, rfl, rfl, Nat.le_refl _, fun _ _ _ => rfl⟩, q2, E.fa.at_⟩
        have HS := Lib.hid (spSortStable_any g L L.length cap w.heap.size a f.sorts c _ wr rfl (by have := hso.1; omega) hrow hE (by show w.heap.size ≠ g; omega) hsrt hso.2)
        have HSS := Lib.hid hss; have HSL := Lib.hid hsl
        clear hrow hE hsrt hso hss hsl hr1 hr2 hr3 hr4 hh hown
        go_wp2_with fail
        refine HS.out.mono ?_
        rintro e w5 ⟨rfl, hr5, hE5⟩
        rw [HSS.out] at hr5
        have hB5 : Below w.heap.size w w5 := hlow.grown hE5.grown hlow.size (fun q hq => by cases hq; omega)
        go_wp2
        go_ret2
        exact ⟨hB5, some ⟨g, 0, none⟩, cap, by rw [← HSL.out]; rfl, hr5.ints⟩
set_option maxRecDepth 100000 in
set_option maxHeartbeats 1000000 in
theorem Spaces_bad (f : FT) (a : Option Addr) (c : Nat) (w : World) (hF : FAt w a f) (h0 : (checkF f).2 ≠ 0) :
    Calls Tryd.prog 11 #[.agg #[.string f.name, .int .i64 f.body, .slice a f.sorts.length c]] w fun e w' => e = .returned (.tuple #[.slice none 0 0, .int .i64 (checkF f).2]) ∧ Below w.heap.size w w' := by
  have hB0 : Below (w.heap.size + 1) (w.alloc (boxF f a c)) (w.alloc (boxF f a c)) := Below.refl _ _
  have E0 := Env.of hF hB0
  have heb : ((checkF f).2 != 0) = true := by simpa using h0
  clear h0
  go_enter Tryd.func11, Tryd.ntmps11
  go_wp2_with fail
  refine (checkFount_any f a c _ E0.fa.ok E0.fa.at_ E0.fa.tab).mono ?_
  rintro e w1 ⟨rfl, hb1⟩
  have E1 := E0.step hF hb1
  have hlow := E1.low
  clear hb1 E0
  go_wp2
  go_ret2
  exact ⟨rfl, hlow⟩
end Go.Proofs.YtebndgepmjonoaaDoor
