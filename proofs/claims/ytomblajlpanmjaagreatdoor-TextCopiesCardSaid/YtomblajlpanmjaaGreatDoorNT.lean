/-
  CopyOf: a copy's parts in memory of their own.
-/
import Derived.Test.YtomblajlpanmjaaGreatDoorZY
import Derived.Test.YtomblajlpanmjaaGreatDoorW7
import Derived.Test.YtomblajlpanmjaaGreatDoorQY
import Derived.Deep.AppendLies
namespace Go.Proofs.YtomblajlpanmjaaGreatDoor
open Go.RowKit Go.Maps Go.Shelf

theorem infoCP : (Tryz.prog.info? 72).map (fun i => (i.zero, i.size, i.bytes)) = some (some (.agg #[.int .i64 0, .slice none 0 0]), 2, 32) := by kernel_rfl
/-- The first n parts of a copy, that are one's own. -/
def COwn (w : World) (B : Nat) (v : Value) (n : Nat) (l : List CP) : Prop :=
  ∃ xs, w.ownsRow B 72 2 v n xs ∧ ∀ j, j < n → ∃ v2, xs[j * 2]? = some (.int .i64 (l.getD j noCP).kd) ∧ xs[j * 2 + 1]? = some v2 ∧ w.ownsRow B 9 1 v2 (l.getD j noCP).l.length (txs (l.getD j noCP).l)
theorem COwn.below {w w' : World} {B n : Nat} {v : Value} {l : List CP} (h : COwn w B v n l) (hb : Below w.heap.size w w') : COwn w' B v n l := by
  obtain ⟨xs, h1, h2⟩ := h
  refine ⟨xs, own_low2 h1 hb, fun j hj => ?_⟩
  obtain ⟨v2, e1, e2, i2⟩ := h2 j hj
  exact ⟨v2, e1, e2, own_low2 i2 hb⟩
theorem own_monoC {w : World} {base base' e n size : Nat} {v : Value} {xs : List Value} (h : w.ownsRow base e size v n xs) (hB : base' ≤ base) : w.ownsRow base' e size v n xs := by
  rcases h.2 with ⟨e1, e2⟩ | ⟨g, cap, cur, e1, e2, e3, e4⟩
  · exact ⟨h.1, Or.inl ⟨e1, e2⟩⟩
  · exact ⟨h.1, Or.inr ⟨g, cap, cur, e1, Nat.le_trans hB e2, e3, e4⟩⟩
set_option maxRecDepth 100000 in
set_option maxHeartbeats 4000000 in
theorem copyOf_any (a : Option Addr) (l : List CP) (c : Nat) (w : World) (hX : PartsAt w a l) (hl : l.length ≤ 1000) (hO : ∀ k, k < l.length → (l.getD k noCP).l.length ≤ 1000 ∧ ((l.getD k noCP).a = none → (l.getD k noCP).c = 0)) :
    Calls Tryz.prog 20 #[.slice a l.length c] w fun e w' => ∃ v, e = .returned v ∧ COwn w' w.heap.size v l.length l ∧ Below w.heap.size w w' := by
  have HX := Lib.hid hX
  clear hX
  obtain ⟨i0, hi0, hz0, hz1, hz2⟩ := info_parts infoCP
  go_enter Tryz.func20, Tryz.ntmps20
  go_wp2_with fail
  go_loopw [3, 4] (fun v3 v4 wr => ∃ k : Nat, k ≤ l.length ∧ v4 = .int .i64 k ∧ COwn wr w.heap.size v3 k l ∧ Below w.heap.size w wr) (fun _ v4 _ => l.length - (intOf v4).toNat)
  case atStart => exact ⟨0, Nat.zero_le _, rfl, ⟨[], World.ownsRow_nil _ _ _ _, fun _ hj => absurd hj (Nat.not_lt_zero _)⟩, Below.refl _ _⟩
  case round =>
    obtain ⟨k, hk, rfl, hown, hB⟩ := hrel
    by_cases hlt : k < l.length
    · have hkl : (k : Int) < (l.length : Int) := by omega
      have hk0 : (0 : Int) ≤ (k : Int) := by omega
      obtain ⟨ad, rfl, hal, ⟨hc0, hc1⟩, hT⟩ := (HX.out.below hB) k hlt
      obtain ⟨ho1, ho2⟩ := hO k hlt
      have HCO := Lib.hid (fun W (h : TextsAt W (l.getD k noCP).a (l.getD k noCP).l) => copyTexts_any (l.getD k noCP).a (l.getD k noCP).l (l.getD k noCP).c W h (by omega) ho2)
      obtain ⟨x, ex⟩ : ∃ x, x = l.getD k noCP := ⟨_, rfl⟩
      rw [← ex] at hc0 hc1 hT ho1 HCO
      have EX := Lib.hid ex
      obtain ⟨xs, hv, hxs⟩ := hown
      have hxl := hv.1
      obtain ⟨A, d, rfl, hdn, hAd⟩ := own_form hv
      have HXS := Lib.hid hxs
      have hBz := hB.size
      clear ex ho2 hxs
      go_wp2_with fail
      go_region_law (first
        | (refine step_append_lies _ (by rfl) _ _ _ (by rfl) w.heap.size 72 i0 _ 2 32 Tryz.underlying42 hi0 hz0 hz1 hz2 rfl (by omega) _ k _ (by rfl) (hv6.alloc _)
            ⟨w6.heap.size, 0, none⟩ 1 1 [.int .i64 x.kd, .slice (some ⟨g6, 0, none⟩) x.l.length cp6] (by rfl) (by rfl) (World.news_of_block (cs := #[.int .i64 x.kd, .slice (some ⟨g6, 0, none⟩) x.l.length cp6]) (t := 72) (fr := (0, 0)) (heap_alloc_new w6 _)) (by simp [Value.oneCell'])
            (by omega) (by unfold maxLen; omega) (by omega) (by simp; omega) (w6.heap.size + 1) (by simp) ?_; intro gg cap5 w5 hown5 hgrow hat hlt5)
        | (go_simp; refine (HCO.out wr.drew (by exact hT)).mono ?_; rintro e w6 ⟨g6, cp6, rfl, ho6, hb6⟩; have hz6 : wr.heap.size ≤ w6.heap.size := hb6.size; have hv6 := own_low hv.drew hb6; have c06 : w6.cell? (ad.add (k * 2)) = some (.int .i64 x.kd) := (hb6.cell (p := ad.add (k * 2)) (by rw [add_block]; exact hal)).trans hc0))
      all_goals
        have hB5 := ((hB.drew.trans (hb6.mono hBz)).alloc (by omega) (.cells #[.int .i64 x.kd, .slice (some ⟨g6, 0, none⟩) x.l.length cp6] 72)).grown hgrow (by simp; omega) (fun q hq => (hv.lt q hq).1)
        have hown9 : COwn w5 w.heap.size (.slice (some ⟨gg, 0, none⟩) (k + 1) cap5) (k + 1) l := by
          refine ⟨_, hown5, fun j hj => ?_⟩
          by_cases hj2 : j < k
          · obtain ⟨v2, e1, e2, i2⟩ := HXS.out j hj2
            have i6 := own_low i2.drew hb6
            refine ⟨v2, ?_, ?_, (i6.alloc _).kept hgrow (own_apart i6 hv6 (by decide))⟩
            · rw [List.getElem?_append_left (by omega)]; exact e1
            · rw [List.getElem?_append_left (by omega)]; exact e2
          · obtain rfl : j = k := by omega
            rw [← EX.out]
            have o6 := own_monoC ho6 hBz
            refine ⟨_, ?_, ?_, (o6.alloc _).kept hgrow (own_apart o6 hv6 (by decide))⟩
            · rw [List.getElem?_append_right (by omega), hxl, Nat.sub_self]; rfl
            · rw [List.getElem?_append_right (by omega), hxl, show j * 2 + 1 - j * 2 = 1 by omega]; rfl
        clear hown5 hgrow hat hlt5 hv6 ho6 hb6 c06
        go_wp2
        go_roundw
        case rel => exact ⟨k + 1, by omega, by go_num, hown9, hB5⟩
        case measure => simp [intOf]; omega
    · obtain rfl : k = l.length := by omega
      have hkl : ¬ (l.length : Int) < (l.length : Int) := by omega
      obtain ⟨xs, hv, -⟩ := id hown
      obtain ⟨A, d, rfl, -, -⟩ := own_form hv
      clear hv
      go_wp2
      go_ret
      exact ⟨_, rfl, hown, hB⟩
end Go.Proofs.YtomblajlpanmjaaGreatDoor
