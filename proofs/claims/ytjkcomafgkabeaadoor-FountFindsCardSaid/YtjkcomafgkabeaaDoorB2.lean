/-
  The metal of a case.
-/
import Derived.Test.YtjkcomafgkabeaaDoorB1
import Derived.IntWalk
namespace Go.Proofs.YtjkcomafgkabeaaDoor
open Go.RowKit Go.Maps

set_option maxRecDepth 100000 in
set_option maxHeartbeats 1000000 in
theorem metalOf_any (f : FT) (a : Option Addr) (c : Nat) (b : Option Addr) (l : List Int) (d : Nat) (w : World) (hF : SortsAt w a f.sorts) (hX : IntsAt w b l) (hR : RightF f) (hl : l.length = f.sorts.length) (hv : ∀ k, k < l.length → 0 ≤ l.getD k 0 ∧ l.getD k 0 ≤ 1000000) :
    Calls Tryd.prog 88 #[.agg #[.string f.name, .int .i64 f.body, .slice a f.sorts.length c], .slice b l.length d] w fun e w' => e = .returned (.int .i64 (metal f l)) ∧ Below w.heap.size w w' := by
  have hO2 := hR.2.2.2.1
  have HL := Lib.hid hl
  have hle : l.length ≤ f.sorts.length := by omega
  have hbd := Lib.hid (metalN_bd hR hl hv)
  have HV := Lib.hid hv
  have HR := Lib.hid hR
  have hF1 := hF.alloc (.cells #[.string f.name, .int .i64 f.body, .slice a f.sorts.length c] 24)
  have hX1 := hX.alloc (.cells #[.string f.name, .int .i64 f.body, .slice a f.sorts.length c] 24)
  clear hl hv hR hF hX
  go_enter Tryd.func88, Tryd.ntmps88
  go_wp2
  go_loopw [5, 10] (fun m i wr => ∃ k : Nat, k ≤ l.length ∧ i = .int .i64 k ∧ m = .int .i64 (metalN f l k) ∧ Drew (w.alloc (.cells #[.string f.name, .int .i64 f.body, .slice a f.sorts.length c] 24)) wr) (fun _ i _ => l.length - (intOf i).toNat)
  case atStart => exact ⟨0, Nat.zero_le _, rfl, rfl, Drew.refl _⟩
  case round =>
    obtain ⟨k, hk, rfl, rfl, hD⟩ := hrel
    have b1 : wr.cell? ⟨w.heap.size, 1, none⟩ = some (.int .i64 f.body) := hD.cell (by simp)
    have b2 : wr.cell? ⟨w.heap.size, 2, none⟩ = some (.slice a f.sorts.length c) := hD.cell (by simp)
    by_cases hlt : k < l.length
    · obtain ⟨bd, rfl, hbdl, hjc⟩ := (hD.ints hX1).at_ hlt
      obtain ⟨ad, rfl, hadl, s0, s1, s2, s3⟩ := (hD.sorts hF1).at_ (k := k) (by omega)
      clear s0 s1 s2
      obtain ⟨v, ev⟩ : ∃ v, v = l.getD k 0 := ⟨_, rfl⟩
      obtain ⟨wd, ewd⟩ : ∃ v, v = (f.sorts.getD k noTS).width := ⟨_, rfl⟩
      have hm1 := hbd.out k hk
      have hv1 := HV.out k hlt
      have hw1 := HR.out.2.2.2.2 k (by omega)
      have hb1 := HR.out.1
      have hb2 := HR.out.2.1
      rw [← ev] at hjc hv1
      rw [← ewd] at s3 hw1
      obtain ⟨m, em⟩ : ∃ m, m = metalN f l k := ⟨_, rfl⟩
      have hstep : metalN f l (k + 1) = m + v * wd * f.body := by rw [em, ev, ewd]; rfl
      rw [← em] at hm1
      have HS := Lib.hid hstep
      have EM := Lib.hid em
      obtain ⟨t1, t2, t3, t4⟩ := term_bd hv1.1 hv1.2 hw1.1 hw1.2.1 hb1 hb2
      have hk2 : (k : Int) ≤ 120 := by omega
      have e1 : IntKind.i64.wrap (v * wd) = v * wd := IntWalk.i64_in _ (by omega)
      have e2 : IntKind.i64.wrap (v * wd * f.body) = v * wd * f.body := IntWalk.i64_in _ (by omega)
      have e3 : IntKind.i64.wrap (m + v * wd * f.body) = m + v * wd * f.body := IntWalk.i64_in _ (by omega)
      clear hstep ev ewd em
      rw [show metalN f l k = m from EM.out.symm]
      go_wp2_with fail
      go_quiet (fail)
      clear e1 e2 e3
      go_wp2
      go_roundw
      case rel => exact ⟨k + 1, by omega, by go_num, by rw [HS.out], hD.drewN _⟩
      case measure => simp [intOf]; omega
    · have hk2 : k = l.length := by omega
      have HK := Lib.hid hk2; clear hk2
      go_wp2
      go_ret
      exact ⟨ret_int (by rw [HK.out]; rfl), hD.below ((Below.refl _ _).alloc (Nat.le_refl _) _)⟩

theorem ret2_int {k1 k2 : IntKind} {a b c d : Int} (h : a = c) (h' : b = d) : Ending.returned (.tuple #[.int k1 a, .int k2 b]) = .returned (.tuple #[.int k1 c, .int k2 d]) := by rw [h, h']
theorem ret3_int {k1 k2 k3 : IntKind} {a b c d x y : Int} (h : a = c) (h' : b = d) (h'' : x = y) : Ending.returned (.tuple #[.int k1 a, .int k2 b, .int k3 x]) = .returned (.tuple #[.int k1 c, .int k2 d, .int k3 y]) := by rw [h, h', h'']

/-- A fount in memory: its texts are texts, its sorts lie there, the table lies there. -/
structure FAt (w : World) (a : Option Addr) (f : FT) : Prop where
  ok : OkF f
  at_ : SortsAt w a f.sorts
  tab : TabOk w
theorem FAt.below {w w' : World} {a : Option Addr} {f : FT} (h : FAt w a f) (hb : Below w.heap.size w w') : FAt w' a f := ⟨h.ok, h.at_.below hb, h.tab.below hb h.tab.1⟩
theorem FAt.alloc {w : World} {a : Option Addr} {f : FT} (h : FAt w a f) (o : Obj) : FAt (w.alloc o) a f := h.below ((Below.refl _ _).alloc (Nat.le_refl _) o)

theorem lists_one {W : World} {b : Option Addr} {l : List Int} {d : Nat} (hX : IntsAt W b l) (hl : l.length ≤ maxLen) :
    ListsAt (W.alloc (.cells #[.slice b l.length d] 31)) (some ⟨W.heap.size, 0, none⟩) [⟨b, d, l⟩] := by
  intro k hk
  have hk0 : k = 0 := by simpa using hk
  subst hk0
  exact ⟨_, rfl, by simp, by simp [Addr.add], hX.alloc _, hl⟩
theorem lists_two {W : World} {b1 b2 : Option Addr} {l1 l2 : List Int} {d1 d2 : Nat} (hX1 : IntsAt W b1 l1) (hl1 : l1.length ≤ maxLen) (hX2 : IntsAt W b2 l2) (hl2 : l2.length ≤ maxLen) :
    ListsAt (W.alloc (.cells #[.slice b1 l1.length d1, .slice b2 l2.length d2] 31)) (some ⟨W.heap.size, 0, none⟩) [⟨b1, d1, l1⟩, ⟨b2, d2, l2⟩] := by
  intro k hk
  have hk0 : k = 0 ∨ k = 1 := by simp at hk; omega
  rcases hk0 with rfl | rfl
  · exact ⟨_, rfl, by simp, by simp [Addr.add], hX1.alloc _, hl1⟩
  · exact ⟨_, rfl, by simp, by simp [Addr.add], hX2.alloc _, hl2⟩

theorem cases_zero {f : FT} {ls : List (List Int)} (h : casesErr f ls = 0) : (checkF f).2 = 0 ∧ ∀ l ∈ ls, countErr f.sorts.length l = 0 := by
  unfold casesErr at h
  split at h
  · rename_i h1; exact absurd h h1
  rename_i h1
  refine ⟨Decidable.not_not.1 h1, ?_⟩
  clear h1
  induction ls with
  | nil => intro l hl; cases hl
  | cons x r ih =>
    unfold listsErr at h
    split at h
    · rename_i h2; exact absurd h h2
    rename_i h2
    intro l hl
    rcases List.mem_cons.1 hl with rfl | hl
    · exact Decidable.not_not.1 h2
    · exact ih h l hl

def metalR (f : FT) (l : List Int) : Int × Int := if casesErr f [l] ≠ 0 then (0, casesErr f [l]) else (metal f l, 0)
set_option maxRecDepth 100000 in
set_option maxHeartbeats 1000000 in
theorem MetalOf_any (f : FT) (a : Option Addr) (c : Nat) (b : Option Addr) (l : List Int) (d : Nat) (w : World) (hF : FAt w a f) (hX : IntsAt w b l) (hl : l.length ≤ maxLen) :
    Calls Tryd.prog 58 #[.agg #[.string f.name, .int .i64 f.body, .slice a f.sorts.length c], .slice b l.length d] w fun e w' => e = .returned (.tuple #[.int .i64 (metalR f l).1, .int .i64 (metalR f l).2]) ∧ Below w.heap.size w w' := by
  have hbox := lists_one (d := d) (hX.alloc (.cells #[.string f.name, .int .i64 f.body, .slice a f.sorts.length c] 24)) hl
  have hF2 := (hF.alloc (.cells #[.string f.name, .int .i64 f.body, .slice a f.sorts.length c] 24)).alloc (.cells #[.slice b l.length d] 31)
  have hB0 := ((Below.refl w.heap.size w).alloc (Nat.le_refl _) (.cells #[.string f.name, .int .i64 f.body, .slice a f.sorts.length c] 24)).alloc (by simp) (.cells #[.slice b l.length d] 31)
  by_cases h1 : casesErr f [l] = 0
  · have HE := Lib.hid (show metalR f l = (metal f l, 0) by unfold metalR; rw [if_neg (by simp [h1])])
    obtain ⟨g1, g2⟩ := cases_zero h1
    obtain ⟨_, hR, _⟩ := checkF_right g1
    obtain ⟨hln, hv⟩ := countErr_zero (g2 l (by simp))
    have HLN := Lib.hid hln; have HV := Lib.hid hv; clear hln hv g1 g2
    go_enter Tryd.func58, Tryd.ntmps58
    go_wp2_with fail
    refine (errorOfCounts_any f a c _ [⟨b, d, l⟩] _ _ hF2.ok (by exact hF2.at_) (by exact hF2.tab) (by simpa using hbox) (by unfold maxLen; simp)).mono ?_
    rintro e w1 ⟨rfl, hb⟩
    rw [show ([(⟨b, d, l⟩ : IS)].map (·.l)) = [l] from rfl, h1]
    clear h1
    obtain ⟨hc, hf⟩ := bcell hb
    have hB1 := hB0.trans (hb.mono (B' := w.heap.size) (by simp <;> omega))
    have hF1 := hF.below hB1
    have hX1 := hX.below hB1
    clear hF2 hbox hB0 hb
    go_wp2_with fail
    refine (metalOf_any f a c b l d _ hF1.at_ hX1 hR HLN.out HV.out).mono ?_
    rintro e w2 ⟨rfl, hb2⟩
    go_wp2
    go_ret2
    exact ⟨ret2_int (by rw [HE.out]) (by rw [HE.out]), hB1.trans (hb2.mono (B' := w.heap.size) hB1.size)⟩
  · have HE := Lib.hid (show metalR f l = (0, casesErr f [l]) by unfold metalR; rw [if_pos h1])
    have heb : (casesErr f [l] != 0) = true := by simpa using h1
    clear h1
    go_enter Tryd.func58, Tryd.ntmps58
    go_wp2_with fail
    refine (errorOfCounts_any f a c _ [⟨b, d, l⟩] _ _ hF2.ok (by exact hF2.at_) (by exact hF2.tab) (by simpa using hbox) (by unfold maxLen; simp)).mono ?_
    rintro e w1 ⟨rfl, hb⟩
    rw [show ([(⟨b, d, l⟩ : IS)].map (·.l)) = [l] from rfl]
    have hB1 := hB0.trans (hb.mono (B' := w.heap.size) (by simp <;> omega))
    clear hF2 hbox hB0 hb
    go_wp2
    go_ret2
    exact ⟨ret2_int (by rw [HE.out]) (by rw [HE.out]), hB1⟩
end Go.Proofs.YtjkcomafgkabeaaDoor
