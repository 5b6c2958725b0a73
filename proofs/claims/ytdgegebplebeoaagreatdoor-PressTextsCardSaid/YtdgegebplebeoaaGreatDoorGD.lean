/-
  Package press: the examples of the document are so, when grow does what is wanted of it.
-/
import Derived.Test.YtdgegebplebeoaaGreatDoorGC
import Derived.Test.YtdgegebplebeoaaGreatDoorEK
namespace Go.Proofs.YtdgegebplebeoaaGreatDoor
open Go.RowKit Go.Maps Go.Shelf

theorem ex_chX : chanceX 3 2 1 10 = 243 := by decide +kernel
theorem ex_chY : chanceY 3 2 1 10 = 250 := by decide +kernel
theorem ex_chE : sheetsErr 3 2 1 10 = 0 := by decide +kernel
theorem inks_m (b : Nat) : (inksC b).m.length ≤ maxLen := by show 3 ≤ maxLen; decide
theorem inks_T (b : Nat) : (inksC b).T.length ≤ maxLen := by show 3 ≤ maxLen; decide
theorem day_len : dayL.length ≤ maxLen := by decide
theorem day_nm : ∀ x ∈ dayL, x.name.size ≤ maxLen := by decide
theorem ex_best (b : Nat) : bestOf (inksC b) 6 = ([0, 2, 1], 90, 0) := inks_best b
set_option maxRecDepth 100000 in
set_option maxHeartbeats 4000000 in
theorem awake9_any (hG : GrowSays) (w : World) : Calls Tryz.prog 4 #[] w (AggPost (.bool true) w) := by
  have HG := Lib.hid hG
  clear hG
  have hep := fun a b c d W => eql_pair a b c d W
  go_enter Tryz.func4, Tryz.ntmps4
  go_wp2_with (first
    | (go_at_call 14; refine (poster_any _).mono ?_; rintro e w1 ⟨pb, rfl, hr1, hb1⟩; have HR1 := Lib.hid hr1; have HB1 := Lib.hid hb1; clear hr1 hb1)
    | (go_at_call 13; refine (estPoster_any pb _ HR1.out).mono ?_; rintro e w2 ⟨rfl, hb2⟩; have HB2 := Lib.hid (HB1.out.trans (hb2.mono HB1.out.size)); clear hb2)
    | (go_at_call 15; refine (chanceOf_any 3 2 1 10 _ (OkI.of (by omega) (by omega)) (OkI.of (by omega) (by omega))).mono ?_; rintro e w3 ⟨rfl, hb3⟩; rw [ex_chX, ex_chY, ex_chE]; have HB3 := Lib.hid (HB2.out.trans (hb3.mono HB2.out.size)); clear hb3)
    | (go_at_call 17; refine (inks_any _).mono ?_; rintro e w4 ⟨b4, rfl, hc4, hb4⟩; have HC4 := Lib.hid hc4; have HX4 := Lib.hid ((BoxAt.new w3 #[.int .i64 243, .int .i64 250] 42).below hb4); have HB4 := Lib.hid ((HB3.out.alloc HB3.out.size (.cells #[.int .i64 243, .int .i64 250] 42)).trans (hb4.mono (Nat.le_trans HB3.out.size (by simp)))); clear hc4 hb4)
    | (go_at_call 16; refine (bestOrder_any HG.out (inksC b4) 6 _ HC4.out (inks_m b4) (inks_T b4) (fun _ => ends3')).mono ?_; rintro e w5 (⟨h, -⟩ | ⟨-, v5, n5, rfl, ho5, hb5⟩); exact absurd (inks_err b4) h; rw [ex_best] at ho5 ⊢; obtain ⟨a5, c5, ev5, hr5, -⟩ := ho5.rows int_l; subst ev5; have HR5 := Lib.hid hr5; have HX5 := Lib.hid (HX4.out.below hb5); have HB5 := Lib.hid (HB4.out.trans (hb5.mono HB4.out.size)); clear ho5 hb5 hr5)
    | (go_at_call 19; refine (day_any _).mono ?_; rintro e w6 ⟨b6, rfl, hd6, hb6⟩; have HD6 := Lib.hid hd6; have HR6 := Lib.hid (HR5.out.below hb6); have HX6 := Lib.hid (HX5.out.below hb6); have HB6 := Lib.hid (HB5.out.trans (hb6.mono HB5.out.size)); clear hd6 hb6)
    | (go_at_call 18; refine (scheduleOf_any dayL (some ⟨b6, 0, none⟩) 2 _ HD6.out day_len day_nm).mono ?_; rintro e w7 (⟨h, -⟩ | ⟨-, v7, cv7, rfl, -, -, hb7⟩); exact absurd day_err h; rw [day_late]; have HR7 := Lib.hid (HR6.out.below hb7); have hx7 := HX6.out.below hb7; have k0 : w7.cell? ⟨w3.heap.size, 0, none⟩ = some (.int .i64 243) := hx7.cell 0; have k1 : w7.cell? ⟨w3.heap.size, 1, none⟩ = some (.int .i64 250) := hx7.cell 1; have kl := hx7.lt; have HB7 := Lib.hid (HB6.out.trans (hb7.mono HB6.out.size)); clear hb7 hx7)
    | (go_at_call 20; refine (ints_any a5 [0, 2, 1] c5 (some ⟨w7.heap.size, 0, none⟩) [0, 2, 1] 3 _ (HR7.out.alloc _) (IBox.rows (BoxAt.new w7 _ _)) (by decide) (by decide)).mono ?_; rintro e w8 ⟨rfl, hd8⟩; have HD8 := Lib.hid hd8; clear hd8))
  go_ret
  refine ⟨rfl, ?_⟩
  obtain ⟨q, e⟩ := HD8.out
  rw [e]
  exact below_drewN (HB7.out.alloc HB7.out.size _) _
end Go.Proofs.YtdgegebplebeoaaGreatDoor
