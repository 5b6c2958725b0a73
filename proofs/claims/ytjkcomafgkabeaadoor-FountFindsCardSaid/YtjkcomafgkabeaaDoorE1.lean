/-
  Copies of lists of numbers; equal lists; whether a fount is one that the statements look at.
-/
import Derived.Test.YtjkcomafgkabeaaDoorD2
import Derived.Laws.AppendOwnNone
namespace Go.Proofs.YtjkcomafgkabeaaDoor
open Go.RowKit Go.Maps

def vals (l : List Int) : List Value := l.map (Value.int .i64)
theorem vals_at {l : List Int} {k : Nat} (h : k < l.length) : (vals l)[k]? = some (.int .i64 (l.getD k 0)) := by
  unfold vals; rw [List.getElem?_map, List.getElem?_eq_getElem h, getI h]; rfl
theorem ints_of_row {w : World} {base g n cap : Nat} {l : List Int} (h : w.ownsRow base 3 1 (.slice (some ⟨g, 0, none⟩) n cap) n (vals l)) : IntsAt w (some ⟨g, 0, none⟩) l := fun k hk =>
  ⟨_, rfl, (h.lt g rfl).2, h.cells (g := g) rfl k _ (vals_at hk)⟩
def CopyPost (w : World) (l : List Int) (e : Ending) (w' : World) : Prop :=
  ∃ g cap, e = .returned (.slice (some ⟨g, 0, none⟩) l.length cap) ∧ w'.ownsRow w.heap.size 3 1 (.slice (some ⟨g, 0, none⟩) l.length cap) l.length (vals l) ∧ Below w.heap.size w w'

set_option maxRecDepth 100000 in
set_option maxHeartbeats 1000000 in
theorem copyInts_any (b : Option Addr) (l : List Int) (d : Nat) (w : World) (hX : IntsAt w b l) (hl : l.length ≤ 1000000) (hd : b = none → d = 0) :
    Calls Tryd.prog 35 #[.slice b l.length d] w (CopyPost w l) := by
  have hm := World.ownsRow_made (e := 3) (size := 1) (base := w.heap.size) w #[] 0 (Nat.le_refl _) (Nat.zero_le _) rfl
  have hB := (Below.refl w.heap.size w).alloc (Nat.le_refl _) (.cells #[] 3)
  obtain ⟨i0, hi, hz0, hz1, hz2⟩ := info_parts info3
  cases b with
  | none =>
    have hl0 : l = [] := by
      rcases l with _ | ⟨x, r⟩
      · rfl
      · obtain ⟨ad, h, _⟩ := hX 0 (by simp); cases h
    have hd0 : d = 0 := hd rfl
    subst hl0 hd0
    go_enter Tryd.func35, Tryd.ntmps35
    go_wp2_with (at_builtin; refine wpList_append_own_none rfl _ _ 31 rfl w.heap.size 3 i0 1 Tryd.underlying31 hi _ 0 [] rfl hm rfl ?_)
    go_ret
    exact ⟨_, _, rfl, hm, hB⟩
  | some ad =>
    have hnews : ∀ j u, (vals l)[j]? = some u → (w.alloc (.cells #[] 3)).cell? (ad.add j) = some u := by
      intro j u hj
      have hjl : j < l.length := by
        have := (List.getElem?_eq_some_iff.1 hj).1
        simpa [vals] using this
      obtain ⟨ad', e, _, hc⟩ := (hX.alloc (.cells #[] 3)) j hjl
      cases e
      rw [vals_at hjl] at hj
      rw [hc, hj]
    have hone : ∀ u ∈ vals l, u.oneCell' = true := by
      intro u hu
      obtain ⟨x, _, rfl⟩ := List.mem_map.1 hu
      rfl
    have hlen : (vals l).length = l.length * 1 := by simp [vals]
    have h63 : 0 + l.length ≤ maxLen := by unfold maxLen; omega
    have hby : (0 + l.length) * 8 ≤ 140737488355328 := by omega
    have HN := Lib.hid hnews; have HO := Lib.hid hone; have HL := Lib.hid hlen; have H63 := Lib.hid h63; have HB := Lib.hid hby
    clear hnews hone hlen h63 hby
    go_enter Tryd.func35, Tryd.ntmps35
    go_wp2_with (at_builtin; refine wpList_append_own _ rfl _ _ 31 rfl w.heap.size 3 i0 (.int .i64 0) 1 8 Tryd.underlying31 hi hz0 hz1 hz2 rfl (by decide) _ 0 [] rfl hm ad l.length d (vals l) rfl HL.out HN.out HO.out H63.out HB.out (by simp) ?_; intro v' w1 hown1 hgrow1 hnil1)
    go_ret
    have hnn : ¬ v' = .slice none 0 0 := fun e => by have := (hnil1.1 e).1; cases this
    have hB1 : Below w.heap.size w w1 := hB.grown hgrow1 (by simp) (fun k e => by cases e; exact Nat.le_refl _)
    rw [Nat.zero_add, List.nil_append] at hown1
    rcases hown1.2 with ⟨e, _⟩ | ⟨g, cap, cur, e, r⟩
    · exact absurd e hnn
    · subst e
      exact ⟨g, cap, rfl, hown1, hB1⟩

theorem firstAt_none {q : Nat → Bool} : ∀ {n k : Nat}, firstAt q n k = none → ∀ j, k ≤ j → j < k + n → q j = false := by
  intro n
  induction n with
  | zero => intro k _ j h1 h2; omega
  | succ n ih =>
    intro k h j h1 h2
    unfold firstAt at h
    split at h
    · cases h
    · rename_i hq
      by_cases e : j = k
      · subst e; simpa using hq
      · exact ih h j (by omega) (by omega)
theorem firstAt_some {q : Nat → Bool} : ∀ {n k i : Nat}, firstAt q n k = some i → q i = true ∧ k ≤ i ∧ i < k + n ∧ ∀ j, k ≤ j → j < i → q j = false := by
  intro n
  induction n with
  | zero => intro k i h; cases h
  | succ n ih =>
    intro k i h
    unfold firstAt at h
    split at h
    · rename_i hq
      cases h
      exact ⟨hq, Nat.le_refl _, by omega, fun j h1 h2 => by omega⟩
    · rename_i hq
      obtain ⟨a, b, c, d⟩ := ih h
      refine ⟨a, by omega, by omega, fun j h1 h2 => ?_⟩
      by_cases e : j = k
      · subst e; simpa using hq
      · exact d j (by omega) h2
theorem list_eq {l1 l2 : List Int} (h : l1.length = l2.length) (hj : ∀ j, j < l1.length → l1.getD j 0 = l2.getD j 0) : l1 = l2 := by
  apply List.ext_getElem h
  intro i h1 h2
  have := hj i h1
  rwa [getI h1, getI h2] at this

def diffAt (l1 l2 : List Int) (j : Nat) : Bool := l1.getD j 0 != l2.getD j 0
set_option maxRecDepth 100000 in
set_option maxHeartbeats 1000000 in
theorem ints_any (b1 : Option Addr) (l1 : List Int) (d1 : Nat) (b2 : Option Addr) (l2 : List Int) (d2 : Nat) (w : World) (hX1 : IntsAt w b1 l1) (hX2 : IntsAt w b2 l2) (hl1 : l1.length ≤ maxLen) (hl2 : l2.length ≤ maxLen) :
    Calls Tryd.prog 24 #[.slice b1 l1.length d1, .slice b2 l2.length d2] w fun e w' => e = .returned (.bool (decide (l1 = l2))) ∧ Drew w w' := by
  unfold maxLen at hl1 hl2
  by_cases hn : l1.length = l2.length
  · have hne : ((l1.length : Int) != (l2.length : Int)) = false := by simp [hn]
    have hle : l1.length ≤ l2.length := by omega
    have HN := Lib.hid hn; clear hn
    go_enter Tryd.func24, Tryd.ntmps24
    go_wp2
    go_loopw [5] (fun i wr => ∃ k : Nat, k ≤ l1.length ∧ i = .int .i64 k ∧ Hid (firstAt (diffAt l1 l2) (l1.length - 0) 0 = firstAt (diffAt l1 l2) (l1.length - k) k) ∧ Drew w wr) (fun i _ => l1.length - (intOf i).toNat)
    case atStart => exact ⟨0, Nat.zero_le _, rfl, Lib.hid rfl, Drew.refl _⟩
    case round =>
      obtain ⟨k, hk, rfl, HR, hD⟩ := hrel
      by_cases hlt : k < l1.length
      · obtain ⟨p1, rfl, hp1, hc1⟩ := (hD.ints hX1).at_ hlt
        obtain ⟨p2, rfl, hp2, hc2⟩ := (hD.ints hX2).at_ (k := k) (by omega)
        have hkl1 : (k : Int) < (l1.length : Int) := by omega
        have hkl2 : (k : Int) < (l2.length : Int) := by omega
        cases hq : diffAt l1 l2 k
        · have HS := Lib.hid (firstAt_go hlt hq)
          have hq' : (l1.getD k 0 != l2.getD k 0) = false := hq
          clear hq
          obtain ⟨x, ex⟩ : ∃ x, x = l1.getD k 0 := ⟨_, rfl⟩
          obtain ⟨y, ey⟩ : ∃ x, x = l2.getD k 0 := ⟨_, rfl⟩
          rw [← ex] at hc1 hq'
          rw [← ey] at hc2 hq'
          clear ex ey
          go_wp2_with fail
          go_quiet (fail)
          go_wp2
          go_roundw
          case rel => exact ⟨k + 1, by omega, by go_num, Lib.hid (HR.out.trans HS.out), hD.drewN _⟩
          case measure => simp [intOf]; omega
        · have HS := Lib.hid (firstAt_stop hlt hq)
          have hq' : (l1.getD k 0 != l2.getD k 0) = true := hq
          clear hq
          obtain ⟨x, ex⟩ : ∃ x, x = l1.getD k 0 := ⟨_, rfl⟩
          obtain ⟨y, ey⟩ : ∃ x, x = l2.getD k 0 := ⟨_, rfl⟩
          have HQ := Lib.hid hq'
          rw [← ex] at hc1 hq'
          rw [← ey] at hc2 hq'
          clear ex ey
          go_wp2_with fail
          go_quiet (fail)
          go_wp2
          go_ret
          exact ⟨ret_bool (decide_eq_false (fun e => by have := HQ.out; rw [e] at this; simp at this)).symm, hD.drewN _⟩
      · have HS := Lib.hid (firstAt_end (q := diffAt l1 l2) hlt)
        go_wp2
        go_ret
        exact ⟨ret_bool (decide_eq_true (list_eq HN.out (fun j hj => by
          have := firstAt_none (HR.out.trans HS.out) j (Nat.zero_le _) (by omega)
          unfold diffAt at this
          simpa using this))).symm, hD⟩
  · have hne : ((l1.length : Int) != (l2.length : Int)) = true := by simp; omega
    have HN := Lib.hid hn; clear hn
    go_enter Tryd.func24, Tryd.ntmps24
    go_wp2
    go_ret
    exact ⟨ret_bool (decide_eq_false (fun e => HN.out (by rw [e]))).symm, Drew.refl _⟩

/-- At most 10 sorts, or too many, with short names and texts. -/
def fewX (x : TS) : Bool := decide (20 < x.name.size ∨ 10 < x.text.size)
def fewB (f : FT) : Bool := !(decide (20 < f.name.size ∨ (10 < f.sorts.length ∧ f.sorts.length ≤ 120) ∨ 123 < f.sorts.length)) && !(f.sorts.any fewX)
theorem any_firstAt {p : TS → Bool} {l : List TS} {o : Option Nat} (h : firstAt (fun i => p (l.getD i noTS)) (l.length - 0) 0 = o) : l.any p = o.isSome := by
  rw [firstAt_idx] at h
  cases o with
  | none => rw [any_none h]; rfl
  | some i => rw [any_some h]; rfl
set_option maxRecDepth 100000 in
set_option maxHeartbeats 1000000 in
theorem few_any (f : FT) (a : Option Addr) (c : Nat) (w : World) (hO : OkF f) (hF : SortsAt w a f.sorts) :
    Calls Tryd.prog 17 #[.agg #[.string f.name, .int .i64 f.body, .slice a f.sorts.length c]] w fun e w' => e = .returned (.bool (fewB f)) ∧ Below w.heap.size w w' := by
  have hO1 := hO.1
  have hO2 := hO.2.1
  unfold maxLen at hO1 hO2
  have hB0 := (Below.refl w.heap.size w).alloc (Nat.le_refl _) (.cells #[.string f.name, .int .i64 f.body, .slice a f.sorts.length c] 24)
  by_cases h1 : 20 < f.name.size ∨ (10 < f.sorts.length ∧ f.sorts.length ≤ 120) ∨ 123 < f.sorts.length
  · have HE := Lib.hid (show fewB f = false by unfold fewB; rw [decide_eq_true h1]; rfl)
    go_enter Tryd.func17, Tryd.ntmps17
    go_wp2
    all_goals first | (exfalso; omega) | (exfalso; (simp at *) <;> omega) | skip
    all_goals go_ret
    all_goals exact ⟨ret_bool HE.out.symm, hB0⟩
  · have HE := Lib.hid (show fewB f = !(f.sorts.any fewX) by unfold fewB; rw [decide_eq_false h1]; rfl)
    have hF1 := hF.alloc (.cells #[.string f.name, .int .i64 f.body, .slice a f.sorts.length c] 24)
    have g1 : f.name.size ≤ 20 := by omega
    have g2 : f.sorts.length ≤ 10 ∨ 120 < f.sorts.length := by omega
    have g3 : f.sorts.length ≤ 123 := by omega
    clear h1
    rcases g2 with g2 | g2
    all_goals
      go_enter Tryd.func17, Tryd.ntmps17
      go_wp2
      go_loop [3] (fun i => ∃ k : Nat, k ≤ f.sorts.length ∧ i = .int .i64 k ∧ Hid (firstAt (fun i => fewX (f.sorts.getD i noTS)) (f.sorts.length - 0) 0 = firstAt (fun i => fewX (f.sorts.getD i noTS)) (f.sorts.length - k) k)) (fun i => f.sorts.length - (intOf i).toNat)
      case atStart => exact ⟨0, Nat.zero_le _, rfl, Lib.hid rfl⟩
      case round =>
        obtain ⟨k, hk, rfl, HR⟩ := hrel
        by_cases hlt : k < f.sorts.length
        · obtain ⟨ad, rfl, had, s0, s1, s2, s3⟩ := hF1.at_ hlt
          have hx := hO.at_ hlt
          obtain ⟨x, ex⟩ : ∃ x, x = f.sorts.getD k noTS := ⟨_, rfl⟩
          rw [← ex] at s0 s1 s2 s3 hx
          have EX := Lib.hid ex; clear ex s2 s3
          obtain ⟨hx1, hx2⟩ := hx
          unfold maxLen at hx1 hx2
          by_cases hq : 20 < x.name.size ∨ 10 < x.text.size
          · have HS := Lib.hid (firstAt_stop (q := fun i => fewX (f.sorts.getD i noTS)) hlt (by show fewX _ = true; rw [← EX.out]; exact decide_eq_true hq))
            go_wp2
            all_goals first | (exfalso; omega) | (exfalso; (simp at *) <;> omega) | skip
            all_goals go_ret
            all_goals exact ⟨ret_bool (by rw [HE.out, any_firstAt (p := fewX) (HR.out.trans HS.out)]; rfl), hB0⟩
          · have HS := Lib.hid (firstAt_go (q := fun i => fewX (f.sorts.getD i noTS)) hlt (by show fewX _ = false; rw [← EX.out]; exact decide_eq_false hq))
            have q1 : x.name.size ≤ 20 := by omega
            have q2 : x.text.size ≤ 10 := by omega
            clear hq
            go_wp2
            go_round
            case rel => exact ⟨k + 1, by omega, by go_num, Lib.hid (HR.out.trans HS.out)⟩
            case measure => simp [intOf]; omega
        · have HS := Lib.hid (firstAt_end (q := fun i => fewX (f.sorts.getD i noTS)) hlt)
          go_wp2
          go_ret
          exact ⟨ret_bool (by rw [HE.out, any_firstAt (p := fewX) (HR.out.trans HS.out)]; rfl), hB0⟩
end Go.Proofs.YtjkcomafgkabeaaDoor
