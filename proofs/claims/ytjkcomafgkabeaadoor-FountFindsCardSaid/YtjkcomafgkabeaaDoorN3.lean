/-
  Lists of sorts: their text, their need.
-/
import Derived.Test.YtjkcomafgkabeaaDoorN2
namespace Go.Proofs.YtjkcomafgkabeaaDoor
open Go.RowKit Go.Maps

/-- The text of the first k sorts, and whether the last one is a space. -/
def textN (f : FT) (l : List Int) : Nat → List UInt8 × Bool
  | 0 => ([], false)
  | k + 1 => ((textN f l k).1 ++ ((if (f.sorts.getD (l.getD k 0).toNat noTS).kind = 3 ∧ (textN f l k).2 = false then [32] else []) ++ (f.sorts.getD (l.getD k 0).toNat noTS).text.data.toList), decide ((f.sorts.getD (l.getD k 0).toNat noTS).kind = 3))
def textOf (f : FT) (l : List Int) : ByteArray := ⟨(textN f l l.length).1.toArray⟩
def textR (f : FT) (l : List Int) : ByteArray × Int := if listErr f l ≠ 0 then (⟨#[]⟩, listErr f l) else (textOf f l, 0)

theorem text_bd {f : FT} (h : (checkF f).2 = 0) {k : Nat} (hk : k < f.sorts.length) : (f.sorts.getD k noTS).text.size ≤ 4 := by
  obtain ⟨_, _, ha⟩ := checkF_right h
  obtain ⟨_, _, h3, _, h5⟩ := sortErr_zero (ha k hk)
  unfold textErr at h5
  split at h5
  · cases h5
  rename_i h6
  have h6 : inB (f.sorts.getD k noTS).text.size (leastOf (f.sorts.getD k noTS).kind) (mostOf (f.sorts.getD k noTS).kind) = true := by simpa using h6
  have h7 := (of_decide_eq_true (show decide _ = true from h6)).2
  unfold mostOf at h7
  split at h7
  · omega
  split at h7 <;> omega
theorem textN_bd {f : FT} (h : (checkF f).2 = 0) {l : List Int} (hl : OkIdx l f.sorts.length) : ∀ k, k ≤ l.length → (textN f l k).1.length ≤ 5 * k := by
  intro k
  induction k with
  | zero => intro _; exact Nat.le_refl _
  | succ k ih =>
    intro hk
    have h1 := ih (by omega)
    obtain ⟨x, hx, hxe⟩ := hl k (by omega)
    have h2 := text_bd h hx
    show ((textN f l k).1 ++ _).length ≤ _
    rw [hxe, List.length_append, List.length_append, Int.toNat_natCast]
    have e5 : (f.sorts.getD x noTS).text.data.toList.length = (f.sorts.getD x noTS).text.data.size := Array.length_toList
    have h3 : (f.sorts.getD x noTS).text.data.size ≤ 4 := h2
    have h4 : ∀ (p : Prop) [Decidable p], ((if p then [32] else [] : List UInt8)).length ≤ 1 := by intro p _; split <;> simp
    have h5 := h4 ((f.sorts.getD x noTS).kind = 3 ∧ (textN f l k).2 = false)
    omega

set_option maxRecDepth 100000 in
set_option maxHeartbeats 2000000 in
theorem TextOf_any (f : FT) (a : Option Addr) (c : Nat) (b : Option Addr) (l : List Int) (d : Nat) (w : World) (hF : FAt w a f) (hX : IntsAt w b l) (hl : l.length ≤ maxLen) :
    Calls Tryd.prog 36 #[.agg #[.string f.name, .int .i64 f.body, .slice a f.sorts.length c], .slice b l.length d] w fun e w' => e = .returned (.tuple #[.string (textR f l).1, .int .i64 (textR f l).2]) ∧ Below w.heap.size w w' := by
  have hB0 : Below (w.heap.size + 1) (w.alloc (boxF f a c)) (w.alloc (boxF f a c)) := Below.refl _ _
  have E0 := Env.of hF hB0
  have hX0 := hX.alloc (boxF f a c)
  by_cases h0 : listErr f l = 0
  · obtain ⟨h1, hln, hok⟩ := listErr_zero h0
    have H1 := Lib.hid h1
    have HE := Lib.hid (show textR f l = (textOf f l, 0) by unfold textR; rw [if_neg (by simp [h0])])
    have HOK := Lib.hid hok
    clear hok h1
    go_enter Tryd.func36, Tryd.ntmps36
    go_wp2_with fail
    refine (errorOfList_any f a c b l d _ E0.fa hX0 hl).mono ?_
    rintro e w1 ⟨rfl, hb⟩
    have E1 := E0.step hF hb
    rw [h0]
    clear hb h0 hX0
    have hX1 := hX.below E1.low
    have q2 := E1.c2
    have hlt1 := E1.lt
    have hb1 := Bld.new w1
    go_wp2_with fail
    go_loopw [8, 20] (fun s i wr => ∃ k : Nat, k ≤ l.length ∧ i = .int .i64 k ∧ s = .bool (textN f l k).2 ∧ Bld w1.heap.size w1.heap.size (textN f l k).1 wr ∧ Below w1.heap.size w1 wr) (fun _ i _ => l.length - (intOf i).toNat)
    case atStart => exact ⟨0, Nat.zero_le _, rfl, rfl, hb1, (Below.refl _ _).alloc (Nat.le_refl _) _⟩
    case round =>
      obtain ⟨k, hk, rfl, rfl, hBl, hBe⟩ := hrel
      clear hb1
      have E := E1.step hF hBe
      have r2 := E.c2
      have hbd := textN_bd H1.out HOK.out k hk
      by_cases hlt : k < l.length
      · obtain ⟨p1, rfl, hp1, hc1⟩ := (hX.below E.low).at_ hlt
        obtain ⟨x, hx, hxe⟩ := HOK.out k hlt
        rw [hxe] at hc1
        obtain ⟨ad, hade, hadl, hy⟩ := E1.fa.at_.at_ hx
        subst hade
        have htb := text_bd H1.out hx
        have hstep : textN f l (k + 1) = ((textN f l k).1 ++ ((if (f.sorts.getD x noTS).kind = 3 ∧ (textN f l k).2 = false then [32] else []) ++ (f.sorts.getD x noTS).text.data.toList), decide ((f.sorts.getD x noTS).kind = 3)) := by
          show ((textN f l k).1 ++ _, _) = _
          rw [hxe]; rfl
        generalize f.sorts.getD x noTS = y at hy htb hstep
        generalize textN f l k = st at hBl hbd hstep
        obtain ⟨tx, sp⟩ := st
        have HST := Lib.hid hstep
        have hblk : (ad.add (x * 4)).block < w1.heap.size := by rw [add_block]; exact hadl
        have HY := Lib.hid hy
        obtain ⟨_, s1, s2, _⟩ := hy.below hBe hblk
        clear hstep hy
        have hk4 : (k : Int) ≤ 10000 := by omega
        have hkl : (k : Int) < (l.length : Int) := by omega
        have hxl : (x : Int) < (f.sorts.length : Int) := by omega
        have hsz := hBe.size
        have htx : tx.length ≤ 5 * k := hbd
        by_cases h3 : y.kind = 3
        · rw [h3] at s2
          cases hsp : sp
          · have HST2 := Lib.hid (show textN f l (k + 1) = ((tx ++ [32]) ++ y.text.data.toList, true) by rw [HST.out, h3, hsp]; simp)
            subst hsp
            clear HST
            go_wp2_with fail
            refine (wByte_any _ _ _ 32 _ hBl (by omega) hsz).mono ?_
            rintro e w2 ⟨rfl, hBl2, hbe2⟩
            have hBe2 := hBe.trans hbe2
            have E2 := E1.step hF hBe2
            have t2 := E2.c2
            have hsz2 := hBe2.size
            obtain ⟨_, u1, _, _⟩ := HY.out.below hBe2 hblk
            clear r2 hBl hBe E s1 s2 hbe2
            go_wp2_with fail
            refine (wStr_any _ _ _ y.text _ hBl2 (by simp; omega) hsz2).mono ?_
            rintro e w3 ⟨rfl, hBl3, hbe3⟩
            have hBe3 := hBe2.trans hbe3
            clear hBl2 hBe2 hbe3 E2 t2 u1
            go_wp2
            go_roundw
            case rel => exact ⟨k + 1, by omega, by go_num, by rw [HST2.out], by rw [HST2.out]; exact hBl3, hBe3⟩
            case measure => simp [intOf]; omega
          · have HST2 := Lib.hid (show textN f l (k + 1) = (tx ++ y.text.data.toList, true) by rw [HST.out, h3, hsp]; simp)
            subst hsp
            clear HST
            go_wp2_with fail
            refine (wStr_any _ _ _ y.text _ hBl (by omega) hsz).mono ?_
            rintro e w3 ⟨rfl, hBl3, hbe3⟩
            have hBe3 := hBe.trans hbe3
            clear hBl hBe hbe3 E r2 s1 s2
            go_wp2
            go_roundw
            case rel => exact ⟨k + 1, by omega, by go_num, by rw [HST2.out], by rw [HST2.out]; exact hBl3, hBe3⟩
            case measure => simp [intOf]; omega
        · have HST2 := Lib.hid (show textN f l (k + 1) = (tx ++ y.text.data.toList, false) by rw [HST.out, if_neg (by simp [h3]), decide_eq_false h3]; simp)
          have h3b : (y.kind == 3) = false := by simpa using h3
          have hyk : y.kind ≠ 3 := h3
          clear HST h3
          go_wp2_with fail
          refine (wStr_any _ _ _ y.text _ hBl (by omega) hsz).mono ?_
          rintro e w3 ⟨rfl, hBl3, hbe3⟩
          have hBe3 := hBe.trans hbe3
          clear hBl hBe hbe3 E r2 s1 s2
          go_wp2
          go_roundw
          case rel => exact ⟨k + 1, by omega, by go_num, by rw [HST2.out], by rw [HST2.out]; exact hBl3, hBe3⟩
          case measure => simp [intOf]; omega
      · have hk2 : k = l.length := by omega
        have HT := Lib.hid (show (textN f l k).1.toArray = (textOf f l).data by rw [hk2]; rfl)
        have hsz := hBe.size
        go_wp2_with fail
        refine (bStr_any _ _ _ _ hBl hsz).mono ?_
        rintro e w3 ⟨rfl, hb3⟩
        have hlow := (E1.step hF (hBe.trans hb3)).low
        rw [HT.out]
        go_wp2
        go_ret2
        exact ⟨by rw [HE.out]; rfl, hlow⟩
  · have HE := Lib.hid (show textR f l = (⟨#[]⟩, listErr f l) by unfold textR; rw [if_pos h0])
    have heb : (listErr f l != 0) = true := by simpa using h0
    clear h0
    go_enter Tryd.func36, Tryd.ntmps36
    go_wp2_with fail
    refine (errorOfList_any f a c b l d _ E0.fa hX0 hl).mono ?_
    rintro e w1 ⟨rfl, hb⟩
    have hlow := (E0.step hF hb).low
    clear hb
    go_wp2
    go_ret2
    exact ⟨by rw [HE.out]; rfl, hlow⟩
end Go.Proofs.YtjkcomafgkabeaaDoor
