/-
  SortsOf: a word set by the longest sorts.
-/
import Derived.Test.YtomblajlpanmjaaGreatDoorVF
namespace Go.Proofs.YtomblajlpanmjaaGreatDoor
open Go.RowKit Go.Maps

theorem SetPost.none {w : World} {e : Ending} {w' : World} (h : SetPost w none e w') : Below w.heap.size w w' ∧ e = .returned (.tuple #[.slice none 0 0, .bool false]) := h
theorem SetPost.some {w : World} {l : List Int} {e : Ending} {w' : World} (h : SetPost w (some l) e w') : Below w.heap.size w w' ∧ ∃ (a : Option Addr) (c : Nat), e = .returned (.tuple #[.slice a l.length c, .bool true]) ∧ IRow w' w.heap.size (.slice a l.length c) l := by
  obtain ⟨h1, v, h2, h3⟩ := h
  obtain ⟨a, c, rfl, -, -, -⟩ := h3.shape
  exact ⟨h1, a, c, h2, h3⟩
theorem sortsOf_some (a : Option Addr) (n c : Nat) (w : World) : Calls Tryz.prog 91 #[.slice a n c, .bool true] w fun e w' => e = .returned (.tuple #[.slice a n c, .int .i64 0]) ∧ w' = w := by
  go_enter Tryz.func91, Tryz.ntmps91
  go_wp2
  go_ret2
  exact ⟨rfl, rfl⟩
theorem sortsOf_none (a : Option Addr) (n c : Nat) (w : World) : Calls Tryz.prog 91 #[.slice a n c, .bool false] w fun e w' => e = .returned (.tuple #[.slice none 0 0, .int .i64 6]) ∧ w' = w := by
  go_enter Tryz.func91, Tryz.ntmps91
  go_wp2
  go_ret2
  exact ⟨rfl, rfl⟩
/-- The piece of a whole word, by its fount and rules. -/
def wordP (f : FT) (a : Option Addr) (c : Nat) (r : RU) (s : ByteArray) (i j : Nat) : PC := ⟨f, a, c, s.extract i j, none, 0, minusL (barsOf r s) i⟩
/-- What a way of setting pieces answers. -/
structure Way where
  fn : Nat
  S : PC → Option (List Int)
  same : ∀ (f : FT) (a a' : Option Addr) (c c' : Nat) (t : ByteArray) (ba ba' : Option Addr) (bc bc' : Nat) (bl : List Int), S ⟨f, a, c, t, ba, bc, bl⟩ = S ⟨f, a', c', t, ba', bc', bl⟩
  en : ∀ args w, (callFunc fn args).run Tryz.prog w = .ok (.enter fn args) w
  ok : ∀ (p : PC) (w : World), p.at_ w → p.Fine → Calls Tryz.prog fn #[.agg p.cells] w (SetPost w (S p))
def sortsErr (y : Way) (f : FT) (r : RU) (s : ByteArray) : Int := if setErrW f r s ≠ 0 then setErrW f r s else if (y.S (wordP f none 0 r s 0 s.size)).isNone = true then 6 else 0
def SortsPost (w : World) (y : Way) (f : FT) (r : RU) (s : ByteArray) (e : Ending) (w' : World) : Prop :=
  Below w.heap.size w w' ∧ if sortsErr y f r s = 0 then ∃ v l, y.S (wordP f none 0 r s 0 s.size) = some l ∧ e = .returned (.tuple #[v, .int .i64 0]) ∧ IRow w' w.heap.size v l
    else e = .returned (.tuple #[.slice none 0 0, .int .i64 (sortsErr y f r s)])
theorem word_size {s : ByteArray} (h : wordErr s = 0) : 1 ≤ s.size ∧ s.size ≤ 30 := by
  unfold wordErr isWordB at h
  split at h
  · rename_i h1
    simp only [Bool.and_eq_true, decide_eq_true_eq] at h1
    exact h1.1
  · simp at h
theorem frame_ok {f : FT} (h : (checkF f).2 = 0) : f.sorts.length ≤ 120 := by
  by_cases h1 : frameErr f.name f.body f.sorts.length = 0
  · exact frame_le h1
  · rw [checkF_frame h1] at h; exact absurd h h1
theorem fount_fine {f : FT} (h : (checkF f).2 = 0) : f.sorts.length ≤ 1000 ∧ ∀ i, i < f.sorts.length → (f.sorts.getD i noTS).text.size ≤ 1000 := by
  have h1 := frame_ok h
  exact ⟨by omega, fun i hi => Nat.le_trans (text_bd h hi) (by decide)⟩
theorem setErrW_ok {f : FT} {r : RU} {s : ByteArray} (h : setErrW f r s = 0) : (checkF f).2 = 0 ∧ (checkR r).2 = 0 ∧ wordErr s = 0 := by
  unfold setErrW setErr at h
  by_cases h1 : (checkF f).2 = 0
  · by_cases h2 : (checkR r).2 = 0
    · rw [if_neg (by simp [h1, h2])] at h
      exact ⟨h1, h2, h⟩
    · simp [h1, h2] at h
  · simp [h1] at h
theorem places_minus {l : List Int} {d : Int} (h : Places l) (hd : 0 ≤ d ∧ d ≤ 40) : (minusL l d).length ≤ 60 ∧ ∀ x ∈ minusL l d, -100 ≤ x ∧ x ≤ 100 := by
  refine ⟨by rw [minusL_len]; exact h.1, fun x hx => ?_⟩
  unfold minusL at hx
  obtain ⟨y, hy, rfl⟩ := List.mem_map.1 hx
  have := h.2 y hy
  omega
set_option maxRecDepth 100000 in
set_option maxHeartbeats 800000 in
theorem sortsBy_any (y : Way) (f : FT) (a : Option Addr) (c : Nat) (r : RU) (s : ByteArray) (w : World) (hF : FAt w a f) (hR : r.at_ w) (hs : s.size ≤ maxLen) :
    Calls Tryz.prog 94 #[.func (.func y.fn) #[] #[], .agg #[.string f.name, .int .i64 f.body, .slice a f.sorts.length c], .agg r.cells, .string s] w (SortsPost w y f r s) := by
  have hb0 := ((Below.refl w.heap.size w).alloc (Nat.le_refl _) (boxF f a c)).alloc (by simp) (boxR r)
  have HC := Lib.hid (setterFor_any f a c r s ((w.alloc (boxF f a c)).alloc (boxR r)) ⟨hF.ok, hF.at_.below hb0, hF.tab.below hb0 hF.tab.1⟩ (hR.below hb0) hs)
  have HFA := Lib.hid hF.at_
  unfold boxF boxR RU.cells at HC
  unfold RU.cells
  have en := y.en
  have HOK := Lib.hid y.ok
  have hbp := barsOf_places r s
  generalize hfn : y.fn = fn at en HOK ⊢
  clear hR hF hfn
  cases e1 : setErrW f r s == 0
  · have n1 : setErrW f r s ≠ 0 := by simpa using e1
    have HE := Lib.hid (show sortsErr y f r s = setErrW f r s by unfold sortsErr; rw [if_pos n1])
    have N1 := Lib.hid n1
    clear n1 en
    go_enter Tryz.func94, Tryz.ntmps94
    go_wp2_with fail
    refine HC.out.mono ?_
    rintro e w1 ⟨hb1, hp1⟩
    rw [if_neg N1.out] at hp1
    obtain ⟨v, rfl, v0, v1, v2, v3, v4, v5, v6, v7, v8, v9, v10, v11, rfl⟩ := hp1
    have hlow := (hb0.trans (hb1.mono hb0.size)).alloc (Nat.le_trans hb0.size hb1.size) (.cells #[.string v0, .int .i64 v1, .slice v2 v3 v4, .slice v5 v6 v7, .map v8, .map v9, .int .i64 v10, .int .i64 v11] 150)
    go_wp2
    go_ret2
    exact ⟨hlow, by rw [HE.out, if_neg N1.out]; exact rfl⟩
  · have n1 : setErrW f r s = 0 := by simpa using e1
    obtain ⟨o1, o2, o3⟩ := setErrW_ok n1
    have hfi := fount_fine o1
    have hsz := (word_size o3).2
    have N1 := Lib.hid n1
    have HFI := Lib.hid hfi
    have HSZ := Lib.hid hsz
    have hsz0 := Int.ofNat_le.2 hsz
    clear o1 o2 o3 n1 hfi
    go_enter Tryz.func94, Tryz.ntmps94
    go_wp2_with fail
    refine HC.out.mono ?_
    rintro e w1 ⟨hb1, hp1⟩
    rw [if_pos N1.out] at hp1
    obtain ⟨g, b1, b2, rfl, hbk⟩ := hp1
    have hlow1 := hb0.trans (hb1.mono hb0.size)
    have hlow := hlow1.alloc (Nat.le_trans hb0.size hb1.size) (.cells #[.string f.name, .int .i64 f.body, .slice a f.sorts.length c, .slice (some ⟨g, 0, none⟩) r.ps.l.length r.ps.l.length, .map (some b1), .map (some b2), .int .i64 r.left, .int .i64 r.right] 150)
    have HPO := Lib.hid (pieceOf_any f a c r g b1 b2 _ s 0 s.size _ (Nat.zero_le _) (Nat.le_refl _) hsz (hbk.alloc (.cells #[.string f.name, .int .i64 f.body, .slice a f.sorts.length c, .slice (some ⟨g, 0, none⟩) r.ps.l.length r.ps.l.length, .map (some b1), .map (some b2), .int .i64 r.left, .int .i64 r.right] 150)))
    unfold setV at *
    have b0 := heap_new w1 (.cells #[.string f.name, .int .i64 f.body, .slice a f.sorts.length c, .slice (some ⟨g, 0, none⟩) r.ps.l.length r.ps.l.length, .map (some b1), .map (some b2), .int .i64 r.left, .int .i64 r.right] 150)
    have k0 := cell_of_row _ w1.heap.size 0 _ _ (0, 0) b0
    have k1 := cell_of_row _ w1.heap.size 1 _ _ (0, 0) b0
    have k2 := cell_of_row _ w1.heap.size 2 _ _ (0, 0) b0
    have k3 := cell_of_row _ w1.heap.size 3 _ _ (0, 0) b0
    have k4 := cell_of_row _ w1.heap.size 4 _ _ (0, 0) b0
    have k5 := cell_of_row _ w1.heap.size 5 _ _ (0, 0) b0
    have k6 := cell_of_row _ w1.heap.size 6 _ _ (0, 0) b0
    have k7 := cell_of_row _ w1.heap.size 7 _ _ (0, 0) b0
    clear b0
    go_wp2_with fail
    refine HPO.out.mono ?_
    rintro e w3 ⟨hb3, ba, bc, rfl, hI3⟩
    have hlow3 := hlow.trans (hb3.mono hlow.size)
    have hpa : (PC.mk f a c (s.extract 0 s.size) ba bc (minusL (barsOf r s) (0 : Nat))).at_ w3 := ⟨HFA.out.below hlow3, hI3, places_minus hbp (by decide)⟩
    have hpf : (PC.mk f a c (s.extract 0 s.size) ba bc (minusL (barsOf r s) (0 : Nat))).Fine := ⟨by show (s.extract 0 s.size).size ≤ 1000; rw [ByteArray.size_extract]; omega, HFI.out.2, HFI.out.1⟩
    have HS := Lib.hid (HOK.out _ w3 hpa hpf)
    have HSame := Lib.hid (y.same f a none c 0 (s.extract 0 s.size) ba none bc 0 (minusL (barsOf r s) (0 : Nat)))
    clear hpa hpf HPO
    unfold PC.cells at *
    dsimp only at HS
    rw [show s.extract 0 s.size = s from by simp] at HS HSame
    have HO := Lib.hid (show y.S (wordP f none 0 r s 0 s.size) = y.S (PC.mk f a c s ba bc (minusL (barsOf r s) (0 : Nat))) by rw [HSame.out]; unfold wordP; simp)
    have HSP := Lib.hid (show sortsErr y f r s = if (y.S (wordP f none 0 r s 0 s.size)).isNone = true then 6 else 0 by unfold sortsErr; rw [if_neg (by simp [N1.out])])
    generalize y.S (PC.mk f a c s ba bc (minusL (barsOf r s) (0 : Nat))) = o at HS HO
    clear HSame
    cases o with
    | none =>
      go_wp2_with (go_loud (go_at_fn fn; refine HS.out.mono ?_; intro e w4 hp4; obtain ⟨hb4, rfl⟩ := SetPost.none hp4))
      refine (sortsOf_none none 0 0 _).mono ?_
      rintro e w5 ⟨rfl, rfl⟩
      go_wp2
      go_ret2
      refine ⟨hlow3.trans (hb4.mono hlow3.size), ?_⟩
      rw [HSP.out, HO.out]
      rfl
    | some l =>
      go_wp2_with (go_loud (go_at_fn fn; refine HS.out.mono ?_; intro e w4 hp4; obtain ⟨hb4, a9, c9, rfl, hrow⟩ := SetPost.some hp4))
      refine (sortsOf_some a9 l.length c9 _).mono ?_
      rintro e w5 ⟨rfl, rfl⟩
      go_wp2
      go_ret2
      refine ⟨hlow3.trans (hb4.mono hlow3.size), ?_⟩
      rw [HSP.out, HO.out]
      exact ⟨_, l, rfl, rfl, hrow.mono hlow3.size⟩
end Go.Proofs.YtomblajlpanmjaaGreatDoor
