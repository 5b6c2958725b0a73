/-
  Lines of type as they lie in memory; what begins with a word; the error of a line.
-/
import Derived.Test.YtomblajlpanmjaaGreatDoorVH
namespace Go.Proofs.YtomblajlpanmjaaGreatDoor
open Go.RowKit Go.Maps Go.Shelf

set_option maxRecDepth 100000 in
set_option maxHeartbeats 1000000 in
theorem tHasSort_any (f : FT) (a : Option Addr) (c : Nat) (x : Int) (w : World) :
    Calls Tryz.prog 121 #[.agg #[.string f.name, .int .i64 f.body, .slice a f.sorts.length c], .int .i64 x] w fun e w' => e = .returned (.bool (!idxBad f.sorts.length x)) ∧ Below w.heap.size w w' := by
  have hB := (Below.refl w.heap.size w).alloc (Nat.le_refl _) (.cells #[.string f.name, .int .i64 f.body, .slice a f.sorts.length c] 59)
  by_cases h : x < 0
  · have HE := Lib.hid (show idxBad f.sorts.length x = true from decide_eq_true (Or.inl h))
    go_enter Tryz.func121, Tryz.ntmps121
    go_wp2
    go_ret
    exact ⟨by rw [HE.out]; rfl, hB⟩
  · by_cases h2 : (f.sorts.length : Int) ≤ x
    · have HE := Lib.hid (show idxBad f.sorts.length x = true from decide_eq_true (Or.inr h2))
      go_enter Tryz.func121, Tryz.ntmps121
      go_wp2
      go_ret
      exact ⟨by rw [HE.out]; show Ending.returned (.bool (decide (x < (f.sorts.length : Int)))) = _; rw [decide_eq_false (by omega)]; rfl, hB⟩
    · have HE := Lib.hid (show idxBad f.sorts.length x = false from decide_eq_false (by omega))
      have h3 : 0 ≤ x := by omega
      have h4 : x < f.sorts.length := by omega
      go_enter Tryz.func121, Tryz.ntmps121
      go_wp2
      go_ret
      exact ⟨by rw [HE.out]; rfl, hB⟩

def beginsB (f : FT) (l : List Int) : Bool := decide (0 < l.length) && (!idxBad f.sorts.length (l.getD 0 0) && (f.sorts.getD (l.getD 0 0).toNat noTS).kind != 3)
theorem begins_nil (f : FT) {l : List Int} (h : ¬ 0 < l.length) : beginsB f l = false := by unfold beginsB; rw [decide_eq_false h]; rfl
theorem begins_bad {f : FT} {l : List Int} (h : idxBad f.sorts.length (l.getD 0 0) = true) : beginsB f l = false := by unfold beginsB; rw [h]; simp
theorem begins_kind {f : FT} {l : List Int} (h0 : 0 < l.length) (h : idxBad f.sorts.length (l.getD 0 0) = false) : beginsB f l = ((f.sorts.getD (l.getD 0 0).toNat noTS).kind != 3) := by unfold beginsB; rw [h, decide_eq_true h0]; rfl
set_option maxRecDepth 100000 in
set_option maxHeartbeats 1000000 in
theorem begins_any (f : FT) (a : Option Addr) (c : Nat) (b : Option Addr) (l : List Int) (d : Nat) (w : World) (hF : FAt w a f) (hX : IntsAt w b l) :
    Calls Tryz.prog 122 #[.agg #[.string f.name, .int .i64 f.body, .slice a f.sorts.length c], .slice b l.length d] w fun e w' => e = .returned (.bool (beginsB f l)) ∧ Below w.heap.size w w' := by
  have hB0 : Below (w.heap.size + 1) (w.alloc (boxF f a c)) (w.alloc (boxF f a c)) := Below.refl _ _
  have E0 := Env.of hF hB0
  have hlow := E0.low
  by_cases h0 : 0 < l.length
  · obtain ⟨p1, rfl, hp1, hc1⟩ := (hX.below E0.low).at_ h0
    have ha0 : p1.add 0 = p1 := by simp [Addr.add]
    rw [ha0] at hc1
    have h0' : (0 : Int) < (l.length : Int) := by omega
    cases hb : idxBad f.sorts.length (l.getD 0 0)
    · have HE := Lib.hid (begins_kind h0 hb)
      obtain ⟨x, hx, hxn⟩ : ∃ x : Nat, l.getD 0 0 = x ∧ x < f.sorts.length := by
        unfold idxBad at hb
        have := of_decide_eq_false hb
        exact ⟨(l.getD 0 0).toNat, by omega, by omega⟩
      obtain ⟨ad, rfl, had, hs⟩ := E0.fa.at_.at_ hxn
      rw [hx] at hc1
      have HX := Lib.hid hx
      have HBB := Lib.hid (show idxBad f.sorts.length (x : Int) = false by rw [← hx]; exact hb)
      have hxl : (x : Int) < (f.sorts.length : Int) := by omega
      have hk := hs.2.2.1
      generalize hkd : (f.sorts.getD x noTS).kind = kd at hk
      have HE2 := Lib.hid (show beginsB f l = (kd != 3) by rw [HE.out, hx, Int.toNat_natCast, hkd])
      have q0 := E0.c0; have q1 := E0.c1; have q2 := E0.c2
      clear hb hx hkd HE
      have hd0 : decide ((0 : Int) < (l.length : Int)) = true := decide_eq_true h0'
      unfold boxF at *
      go_enter Tryz.func122, Tryz.ntmps122
      go_wp2_with fail
      have hz := hlow.size
      go_region_held3 (fun w' => w'.cell? ⟨w.heap.size, 0, none⟩ = some (.string f.name) ∧ w'.cell? ⟨w.heap.size, 1, none⟩ = some (.int .i64 f.body) ∧ w'.cell? ⟨w.heap.size, 2, none⟩ = some (.slice (some ad) f.sorts.length c) ∧ w'.cell? p1 = some (.int .i64 x) ∧ w'.cell? ⟨(ad.add (x * 4)).block, (ad.add (x * 4)).off + 2, none⟩ = some (.int .i64 kd)) (go_keep)
        (first | (go_at_call 121; refine (tHasSort_any f (some ad) c x _).mono ?_; rintro e w2 ⟨rfl, hb2⟩; rw [HBB.out]; have k0 := (hb2.cell (p := ⟨w.heap.size, 0, none⟩) E0.lt).trans E0.c0; have k1 := (hb2.cell (p := ⟨w.heap.size, 1, none⟩) E0.lt).trans E0.c1; have k2 := (hb2.cell (p := ⟨w.heap.size, 2, none⟩) E0.lt).trans E0.c2; have k3 := (hb2.cell (p := p1) hp1).trans hc1; have k4 := (hb2.cell (p := ⟨(ad.add (x * 4)).block, (ad.add (x * 4)).off + 2, none⟩) (by rw [add_block]; exact had)).trans hk))
      go_wp2
      go_ret
      exact ⟨ret_bool HE2.out.symm, (hlow.drew).trans (hb2.mono hlow.size)⟩
    · have HE := Lib.hid (begins_bad hb)
      have HB := Lib.hid hb
      have q0 := E0.c0; have q1 := E0.c1; have q2 := E0.c2
      generalize l.getD 0 0 = x at hc1 HB
      clear hb
      have HC := Lib.hid (fun W => (tHasSort_any f a c x W).mono (fun e w' h => (⟨h.1.trans (by rw [HB.out]; rfl), h.2⟩ : e = .returned (.bool false) ∧ Below W.heap.size W w')))
      have hd0 : decide ((0 : Int) < (l.length : Int)) = true := decide_eq_true h0'
      unfold boxF at *
      go_enter Tryz.func122, Tryz.ntmps122
      go_wp2_with fail
      have hz := hlow.size
      refine wp_region_held (S := fun Z => Z.cell? ⟨w.heap.size, 0, none⟩ = some (.string f.name) ∧ Z.cell? ⟨w.heap.size, 1, none⟩ = some (.int .i64 f.body) ∧ Z.cell? ⟨w.heap.size, 2, none⟩ = some (.slice a f.sorts.length c) ∧ Z.cell? p1 = some (.int .i64 x)) (by kernel_rfl) ?_
      have hS := And.intro q0 (And.intro q1 (And.intro q2 hc1))
      refine takeL (i := 0) (v := .slice (some p1) l.length d) rfl (by kernel_rfl) (by kernel_rfl) (by kernel_rfl) (fun _ _ _ h => h) (Or.inl ⟨by rfl, fun V9 h9 => by dsimp only at h9; go_simp⟩) (by assumption) ?_
      try simp only [Act.put, List.setIfInBounds_toArray, List.set_cons_zero, List.set_cons_succ]
      refine takeL (i := 1) (v := .int .i64 l.length) rfl (by kernel_rfl) (by kernel_rfl) (by kernel_rfl) (fun _ _ _ h => h) (Or.inl ⟨by rfl, fun V9 h9 => by dsimp only at h9; go_simp⟩) (by assumption) ?_
      try simp only [Act.put, List.setIfInBounds_toArray, List.set_cons_zero, List.set_cons_succ]
      refine takeL (i := 2) (v := .bool true) rfl (by kernel_rfl) (by kernel_rfl) (by kernel_rfl) (fun _ _ _ h => h) (Or.inl ⟨by rfl, fun V9 h9 => by dsimp only at h9; go_simp⟩) (by assumption) ?_
      try simp only [Act.put, List.setIfInBounds_toArray, List.set_cons_zero, List.set_cons_succ]
      refine takeL (i := 3) (v := .bool true) rfl (by kernel_rfl) (by kernel_rfl) (by kernel_rfl) (fun _ _ _ h => h) (Or.inl ⟨by rfl, fun V9 h9 => by dsimp only at h9; go_simp⟩) (by assumption) ?_
      try simp only [Act.put, List.setIfInBounds_toArray, List.set_cons_zero, List.set_cons_succ]
      refine takeL (i := 4) (v := .agg #[.string f.name, .int .i64 f.body, .slice a f.sorts.length c]) rfl (by kernel_rfl) (by kernel_rfl) (by kernel_rfl) (fun _ _ _ h => h) (Or.inl ⟨by rfl, fun V9 h9 => by dsimp only at h9; go_simp⟩) (by assumption) ?_
      try simp only [Act.put, List.setIfInBounds_toArray, List.set_cons_zero, List.set_cons_succ]
      refine takeL (i := 5) (v := .slice (some p1) l.length d) rfl (by kernel_rfl) (by kernel_rfl) (by kernel_rfl) (fun _ _ _ h => h) (Or.inl ⟨by rfl, fun V9 h9 => by dsimp only at h9; go_simp⟩) (by assumption) ?_
      try simp only [Act.put, List.setIfInBounds_toArray, List.set_cons_zero, List.set_cons_succ]
      refine takeL (i := 6) (v := .pointer (some p1)) rfl (by kernel_rfl) (by kernel_rfl) (by kernel_rfl) (fun _ _ _ h => h) (Or.inl ⟨by rfl, fun V9 h9 => by dsimp only at h9; go_simp⟩) (by assumption) ?_
      try simp only [Act.put, List.setIfInBounds_toArray, List.set_cons_zero, List.set_cons_succ]
      refine takeL (i := 7) (v := .int .i64 x) rfl (by kernel_rfl) (by kernel_rfl) (by kernel_rfl) (fun _ _ _ h => h) (Or.inl ⟨by rfl, fun V9 h9 => by dsimp only at h9; go_simp⟩) (by assumption) ?_
      try simp only [Act.put, List.setIfInBounds_toArray, List.set_cons_zero, List.set_cons_succ]
      refine wpAnyH_ready (rs := [8]) (by kernel_rfl) (by simp) (consL rfl (fun K hK => ?_) AllReadyH.nil)
      go_simp
      refine (HC.out _).mono ?_
      rintro e w2 ⟨rfl, hb2⟩
      have k0 := (hb2.cell (p := ⟨w.heap.size, 0, none⟩) E0.lt).trans E0.c0; have k1 := (hb2.cell (p := ⟨w.heap.size, 1, none⟩) E0.lt).trans E0.c1; have k2 := (hb2.cell (p := ⟨w.heap.size, 2, none⟩) E0.lt).trans E0.c2; have k3 := (hb2.cell (p := p1) hp1).trans hc1
      have hS2 := And.intro k0 (And.intro k1 (And.intro k2 k3))
      refine hK.out _ _ hS2 (fun _ => ?_)
      clear hK K
      try simp only [Act.put, List.setIfInBounds_toArray, List.set_cons_zero, List.set_cons_succ]
      refine takeL (i := 9) (v := .bool false) rfl (by kernel_rfl) (by kernel_rfl) (by kernel_rfl) (fun _ _ _ h => h) (Or.inl ⟨by rfl, fun V9 h9 => by dsimp only at h9; go_simp⟩) (by assumption) ?_
      try simp only [Act.put, List.setIfInBounds_toArray, List.set_cons_zero, List.set_cons_succ]
      refine takeL (i := 10) (v := .bool false) rfl (by kernel_rfl) (by kernel_rfl) (by kernel_rfl) (fun _ _ _ h => h) (Or.inl ⟨by rfl, fun V9 h9 => by dsimp only at h9; go_simp⟩) (by assumption) ?_
      try simp only [Act.put, List.setIfInBounds_toArray, List.set_cons_zero, List.set_cons_succ]
      refine takeL (i := 11) (v := undef) rfl (by kernel_rfl) (by kernel_rfl) (by kernel_rfl) (fun _ _ _ h => h) (Or.inr ⟨by rfl, rfl⟩) (by assumption) ?_
      try simp only [Act.put, List.setIfInBounds_toArray, List.set_cons_zero, List.set_cons_succ]
      refine takeL (i := 12) (v := undef) rfl (by kernel_rfl) (by kernel_rfl) (by kernel_rfl) (fun _ _ _ h => h) (Or.inr ⟨by rfl, rfl⟩) (by assumption) ?_
      try simp only [Act.put, List.setIfInBounds_toArray, List.set_cons_zero, List.set_cons_succ]
      refine takeL (i := 13) (v := undef) rfl (by kernel_rfl) (by kernel_rfl) (by kernel_rfl) (fun _ _ _ h => h) (Or.inr ⟨by rfl, rfl⟩) (by assumption) ?_
      try simp only [Act.put, List.setIfInBounds_toArray, List.set_cons_zero, List.set_cons_succ]
      refine takeL (i := 14) (v := undef) rfl (by kernel_rfl) (by kernel_rfl) (by kernel_rfl) (fun _ _ _ h => h) (Or.inr ⟨by rfl, rfl⟩) (by assumption) ?_
      try simp only [Act.put, List.setIfInBounds_toArray, List.set_cons_zero, List.set_cons_succ]
      refine takeL (i := 15) (v := undef) rfl (by kernel_rfl) (by kernel_rfl) (by kernel_rfl) (fun _ _ _ h => h) (Or.inr ⟨by rfl, rfl⟩) (by assumption) ?_
      try simp only [Act.put, List.setIfInBounds_toArray, List.set_cons_zero, List.set_cons_succ]
      refine takeL (i := 16) (v := undef) rfl (by kernel_rfl) (by kernel_rfl) (by kernel_rfl) (fun _ _ _ h => h) (Or.inr ⟨by rfl, rfl⟩) (by assumption) ?_
      try simp only [Act.put, List.setIfInBounds_toArray, List.set_cons_zero, List.set_cons_succ]
      refine takeL (i := 17) (v := undef) rfl (by kernel_rfl) (by kernel_rfl) (by kernel_rfl) (fun _ _ _ h => h) (Or.inr ⟨by rfl, rfl⟩) (by assumption) ?_
      try simp only [Act.put, List.setIfInBounds_toArray, List.set_cons_zero, List.set_cons_succ]
      refine takeL (i := 18) (v := undef) rfl (by kernel_rfl) (by kernel_rfl) (by kernel_rfl) (fun _ _ _ h => h) (Or.inr ⟨by rfl, rfl⟩) (by assumption) ?_
      try simp only [Act.put, List.setIfInBounds_toArray, List.set_cons_zero, List.set_cons_succ]
      refine takeL (i := 19) (v := undef) rfl (by kernel_rfl) (by kernel_rfl) (by kernel_rfl) (fun _ _ _ h => h) (Or.inr ⟨by rfl, rfl⟩) (by assumption) ?_
      try simp only [Act.put, List.setIfInBounds_toArray, List.set_cons_zero, List.set_cons_succ]
      refine takeL (i := 20) (v := .bool false) rfl (by kernel_rfl) (by kernel_rfl) (by kernel_rfl) (fun _ _ _ h => h) (Or.inl ⟨by rfl, fun V9 h9 => by dsimp only at h9; go_simp⟩) (by assumption) ?_
      try simp only [Act.put, List.setIfInBounds_toArray, List.set_cons_zero, List.set_cons_succ]
      refine takeL (i := 21) (v := .bool false) rfl (by kernel_rfl) (by kernel_rfl) (by kernel_rfl) (fun _ _ _ h => h) (Or.inl ⟨by rfl, fun V9 h9 => by dsimp only at h9; go_simp⟩) (by assumption) ?_
      try simp only [Act.put, List.setIfInBounds_toArray, List.set_cons_zero, List.set_cons_succ]
      refine wpAnyH_done (by kernel_rfl) ?_ _
      go_wp2
      go_ret
      exact ⟨ret_bool HE.out.symm, (hlow.drew).trans (hb2.mono hlow.size)⟩
  · have HE := Lib.hid (begins_nil f h0)
    have hn : l.length = 0 := by omega
    rw [hn]
    go_enter Tryz.func122, Tryz.ntmps122
    go_wp2_with fail
    go_quiet (fail)
    go_wp2
    go_ret
    exact ⟨ret_bool HE.out.symm, below_drewN hlow _⟩
end Go.Proofs.YtomblajlpanmjaaGreatDoor
