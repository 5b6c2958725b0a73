/-
  The reference: a sort's number by its name, the error of what a sort prints.
-/
import Derived.Test.YtomblajlpanmjaaGreatDoorZB
import Derived.Laws.AppendOwnNone
import Derived.Deep.RegionHeld3
namespace Go.Proofs.YtomblajlpanmjaaGreatDoor
open Go.RowKit Go.Maps

/-- The first place, from the k-th on, n places far, at which q holds. -/
def firstAt (q : Nat → Bool) : Nat → Nat → Option Nat
  | 0, _ => none
  | n + 1, k => if q k = true then some k else firstAt q n (k + 1)
theorem firstAt_stop {q : Nat → Bool} {n k : Nat} (h : k < n) (e : q k = true) : firstAt q (n - k) k = some k := by
  obtain ⟨m, hm⟩ : ∃ m, n - k = m + 1 := ⟨n - k - 1, by omega⟩
  rw [hm]; unfold firstAt; rw [if_pos e]
theorem firstAt_go {q : Nat → Bool} {n k : Nat} (h : k < n) (e : q k = false) : firstAt q (n - k) k = firstAt q (n - (k + 1)) (k + 1) := by
  obtain ⟨m, hm⟩ : ∃ m, n - k = m + 1 := ⟨n - k - 1, by omega⟩
  rw [hm, show n - (k + 1) = m by omega]
  show (if _ then _ else _) = _
  rw [if_neg (by simp [e])]
theorem firstAt_end {q : Nat → Bool} {n k : Nat} (h : ¬ k < n) : firstAt q (n - k) k = none := by rw [show n - k = 0 by omega]; rfl
def idxI (o : Option Nat) : Int := match o with | some i => i | none => -1

end Go.Proofs.YtomblajlpanmjaaGreatDoor
/-
  The reference: the check of a fount, of a case.
-/
namespace Go.Proofs.YtomblajlpanmjaaGreatDoor
open Go.RowKit Go.Maps

theorem SortsAt.take {w : World} {a : Option Addr} {l : List TS} (h : SortsAt w a l) {k : Nat} (hk : k ≤ l.length) : SortsAt w a (l.take k) := fun j hj => by
  rw [List.length_take] at hj
  have e : (l.take k).getD j noTS = l.getD j noTS := by
    rw [List.getD_eq_getElem?_getD, List.getD_eq_getElem?_getD, List.getElem?_take_of_lt (by omega)]
  rw [e]; exact h j (by omega)
theorem SortsAt.drewN {w : World} {a : Option Addr} {l : List TS} (h : SortsAt w a l) (n : Nat) : SortsAt (w.drewN n) a l := h

end Go.Proofs.YtomblajlpanmjaaGreatDoor

/-
  Copies of lists of numbers; equal lists; whether a fount is one that the statements look at.
-/
namespace Go.Proofs.YtomblajlpanmjaaGreatDoor
open Go.RowKit Go.Maps

def vals (l : List Int) : List Value := l.map (Value.int .i64)
theorem vals_at {l : List Int} {k : Nat} (h : k < l.length) : (vals l)[k]? = some (.int .i64 (l.getD k 0)) := by
  unfold vals; rw [List.getElem?_map, List.getElem?_eq_getElem h, getI h]; rfl
theorem ints_of_row {w : World} {base g n cap : Nat} {l : List Int} (h : w.ownsRow base 3 1 (.slice (some ⟨g, 0, none⟩) n cap) n (vals l)) : IntsAt w (some ⟨g, 0, none⟩) l := fun k hk =>
  ⟨_, rfl, (h.lt g rfl).2, h.cells (g := g) rfl k _ (vals_at hk)⟩
theorem firstAt_none {q : Nat → Bool} : ∀ {n k : Nat}, firstAt q n k = none → ∀ j, k ≤ j → j < k + n → q j = false := by
  intro n
  induction n with
  | zero => intro k _ j h1 h2; omega
  | succ n ih =>
    intro k h j h1 h2
    unfold firstAt at h
    split at h
    · cases h
    · rename_i hq
      by_cases e : j = k
      · subst e; simpa using hq
      · exact ih h j (by omega) (by omega)
theorem firstAt_some {q : Nat → Bool} : ∀ {n k i : Nat}, firstAt q n k = some i → q i = true ∧ k ≤ i ∧ i < k + n ∧ ∀ j, k ≤ j → j < i → q j = false := by
  intro n
  induction n with
  | zero => intro k i h; cases h
  | succ n ih =>
    intro k i h
    unfold firstAt at h
    split at h
    · rename_i hq
      cases h
      exact ⟨hq, Nat.le_refl _, by omega, fun j h1 h2 => by omega⟩
    · rename_i hq
      obtain ⟨a, b, c, d⟩ := ih h
      refine ⟨a, by omega, by omega, fun j h1 h2 => ?_⟩
      by_cases e : j = k
      · subst e; simpa using hq
      · exact d j (by omega) h2
theorem list_eq {l1 l2 : List Int} (h : l1.length = l2.length) (hj : ∀ j, j < l1.length → l1.getD j 0 = l2.getD j 0) : l1 = l2 := by
  apply List.ext_getElem h
  intro i h1 h2
  have := hj i h1
  rwa [getI h1, getI h2] at this

def diffAt (l1 l2 : List Int) (j : Nat) : Bool := l1.getD j 0 != l2.getD j 0
set_option maxRecDepth 100000 in
set_option maxHeartbeats 1000000 in
theorem ints_any (b1 : Option Addr) (l1 : List Int) (d1 : Nat) (b2 : Option Addr) (l2 : List Int) (d2 : Nat) (w : World) (hX1 : IntsAt w b1 l1) (hX2 : IntsAt w b2 l2) (hl1 : l1.length ≤ maxLen) (hl2 : l2.length ≤ maxLen) :
    Calls Tryz.prog 40 #[.slice b1 l1.length d1, .slice b2 l2.length d2] w fun e w' => e = .returned (.bool (decide (l1 = l2))) ∧ Drew w w' := by
  unfold maxLen at hl1 hl2
  by_cases hn : l1.length = l2.length
  · have hne : ((l1.length : Int) != (l2.length : Int)) = false := by simp [hn]
    have hle : l1.length ≤ l2.length := by omega
    have HN := Lib.hid hn; clear hn
    go_enter Tryz.func40, Tryz.ntmps40
    go_wp2
    go_loopw [5] (fun i wr => ∃ k : Nat, k ≤ l1.length ∧ i = .int .i64 k ∧ Hid (firstAt (diffAt l1 l2) (l1.length - 0) 0 = firstAt (diffAt l1 l2) (l1.length - k) k) ∧ Drew w wr) (fun i _ => l1.length - (intOf i).toNat)
    case atStart => exact ⟨0, Nat.zero_le _, rfl, Lib.hid rfl, Drew.refl _⟩
    case round =>
      obtain ⟨k, hk, rfl, HR, hD⟩ := hrel
      by_cases hlt : k < l1.length
      · obtain ⟨p1, rfl, hp1, hc1⟩ := (hD.ints hX1).at_ hlt
        obtain ⟨p2, rfl, hp2, hc2⟩ := (hD.ints hX2).at_ (k := k) (by omega)
        have hkl1 : (k : Int) < (l1.length : Int) := by omega
        have hkl2 : (k : Int) < (l2.length : Int) := by omega
        cases hq : diffAt l1 l2 k
        · have HS := Lib.hid (firstAt_go hlt hq)
          have hq' : (l1.getD k 0 != l2.getD k 0) = false := hq
          clear hq
          obtain ⟨x, ex⟩ : ∃ x, x = l1.getD k 0 := ⟨_, rfl⟩
          obtain ⟨y, ey⟩ : ∃ x, x = l2.getD k 0 := ⟨_, rfl⟩
          rw [← ex] at hc1 hq'
          rw [← ey] at hc2 hq'
          clear ex ey
          go_wp2_with fail
          go_quiet (fail)
          go_wp2
          go_roundw
          case rel => exact ⟨k + 1, by omega, by go_num, Lib.hid (HR.out.trans HS.out), hD.drewN _⟩
          case measure => simp [intOf]; omega
        · have HS := Lib.hid (firstAt_stop hlt hq)
          have hq' : (l1.getD k 0 != l2.getD k 0) = true := hq
          clear hq
          obtain ⟨x, ex⟩ : ∃ x, x = l1.getD k 0 := ⟨_, rfl⟩
          obtain ⟨y, ey⟩ : ∃ x, x = l2.getD k 0 := ⟨_, rfl⟩
          have HQ := Lib.hid hq'
          rw [← ex] at hc1 hq'
          rw [← ey] at hc2 hq'
          clear ex ey
          go_wp2_with fail
          go_quiet (fail)
          go_wp2
          go_ret
          exact ⟨ret_bool (decide_eq_false (fun e => by have := HQ.out; rw [e] at this; simp at this)).symm, hD.drewN _⟩
      · have HS := Lib.hid (firstAt_end (q := diffAt l1 l2) hlt)
        go_wp2
        go_ret
        exact ⟨ret_bool (decide_eq_true (list_eq HN.out (fun j hj => by
          have := firstAt_none (HR.out.trans HS.out) j (Nat.zero_le _) (by omega)
          unfold diffAt at this
          simpa using this))).symm, hD⟩
  · have hne : ((l1.length : Int) != (l2.length : Int)) = true := by simp; omega
    have HN := Lib.hid hn; clear hn
    go_enter Tryz.func40, Tryz.ntmps40
    go_wp2
    go_ret
    exact ⟨ret_bool (decide_eq_false (fun e => HN.out (by rw [e]))).symm, Drew.refl _⟩

end Go.Proofs.YtomblajlpanmjaaGreatDoor

/-
  The document's fount; its metal; what the statements over the chapter begin with.
-/
namespace Go.Proofs.YtomblajlpanmjaaGreatDoor
open Go.RowKit Go.Maps

end Go.Proofs.YtomblajlpanmjaaGreatDoor

/-
  Ahead of the law on parting: what stands in memory all along, rows of numbers, contracts in the cases that the law meets, sums.
-/
namespace Go.Proofs.YtomblajlpanmjaaGreatDoor
open Go.RowKit Go.Maps

def boxF (f : FT) (a : Option Addr) (c : Nat) : Obj := .cells #[.string f.name, .int .i64 f.body, .slice a f.sorts.length c] 59
/-- What stands all along: the fount's box lies at w's end, all else lies below. -/
structure Env (w : World) (f : FT) (a : Option Addr) (c : Nat) (wr : World) : Prop where
  bel : Below (w.heap.size + 1) (w.alloc (boxF f a c)) wr
  fa : FAt wr a f
  c0 : wr.cell? ⟨w.heap.size, 0, none⟩ = some (.string f.name)
  c1 : wr.cell? ⟨w.heap.size, 1, none⟩ = some (.int .i64 f.body)
  c2 : wr.cell? ⟨w.heap.size, 2, none⟩ = some (.slice a f.sorts.length c)
  lt : w.heap.size < wr.heap.size
theorem Env.of {w wr : World} {f : FT} {a : Option Addr} {c : Nat} (hF : FAt w a f) (h : Below (w.heap.size + 1) (w.alloc (boxF f a c)) wr) : Env w f a c wr := by
  have h' : Below (w.alloc (boxF f a c)).heap.size (w.alloc (boxF f a c)) wr := by simpa using h
  refine ⟨h, (hF.alloc _).below h', ?_, ?_, ?_, ?_⟩
  · exact ((h.cell (p := ⟨w.heap.size, 0, none⟩) (Nat.lt_succ_self _)).trans (by simp [boxF]))
  · exact ((h.cell (p := ⟨w.heap.size, 1, none⟩) (Nat.lt_succ_self _)).trans (by simp [boxF]))
  · exact ((h.cell (p := ⟨w.heap.size, 2, none⟩) (Nat.lt_succ_self _)).trans (by simp [boxF]))
  · have := h.size; simp at this; omega
theorem Env.low {w wr : World} {f : FT} {a : Option Addr} {c : Nat} (h : Env w f a c wr) : Below w.heap.size w wr :=
  ((Below.refl w.heap.size w).alloc (Nat.le_refl _) _).trans (h.bel.mono (Nat.le_succ _))
theorem Env.step {w wr wr' : World} {f : FT} {a : Option Addr} {c : Nat} (hF : FAt w a f) (h : Env w f a c wr) (hb : Below wr.heap.size wr wr') : Env w f a c wr' := Env.of hF (h.bel.trans (hb.mono h.lt))
theorem Env.drew {w wr : World} {f : FT} {a : Option Addr} {c : Nat} (hF : FAt w a f) (h : Env w f a c wr) : Env w f a c wr.drew := Env.of hF h.bel.drew
theorem Env.drewN {w wr : World} {f : FT} {a : Option Addr} {c : Nat} (hF : FAt w a f) (h : Env w f a c wr) (n : Nat) : Env w f a c (wr.drewN n) := Env.of hF (below_drewN h.bel n)
theorem Env.alloc {w wr : World} {f : FT} {a : Option Addr} {c : Nat} (hF : FAt w a f) (h : Env w f a c wr) (o : Obj) : Env w f a c (wr.alloc o) := h.step hF ((Below.refl _ _).alloc (Nat.le_refl _) _)

/-- Block g is a row that begins with the numbers L. -/
def Row3 (w : World) (g : Nat) (L : List Int) : Prop := ∃ cs : Array Value, w.heap[g]? = some (.cells cs 3 (0, 0)) ∧ ∀ k, k < L.length → cs[k]? = some (.int .i64 (L.getD k 0))
theorem Row3.lt {w : World} {g : Nat} {L : List Int} (h : Row3 w g L) : g < w.heap.size := by
  obtain ⟨cs, h1, _⟩ := h
  rcases Nat.lt_or_ge g w.heap.size with hlt | hge
  · exact hlt
  · rw [Array.getElem?_eq_none hge] at h1; cases h1
theorem add0 (g k : Nat) : (⟨g, 0, none⟩ : Addr).add k = ⟨g, k, none⟩ := by
  unfold Addr.add; split
  · rename_i h0; rw [h0]
  · simp
theorem Row3.ints {w : World} {g : Nat} {L : List Int} (h : Row3 w g L) : IntsAt w (some ⟨g, 0, none⟩) L := by
  intro k hk
  have hlt := h.lt
  obtain ⟨cs, h1, h2⟩ := h
  refine ⟨_, rfl, hlt, ?_⟩
  rw [add0, cell_of_row w g k cs _ (0, 0) h1]
  exact h2 k hk
theorem Row3.below {w w' : World} {g : Nat} {L : List Int} (h : Row3 w g L) (hb : Below w.heap.size w w') : Row3 w' g L := by
  have hlt := h.lt
  obtain ⟨cs, h1, h2⟩ := h
  exact ⟨cs, (hb.block g hlt).trans h1, h2⟩
theorem Row3.drew {w : World} {g : Nat} {L : List Int} (h : Row3 w g L) : Row3 w.drew g L := h
theorem Row3.drewN {w : World} {g : Nat} {L : List Int} (h : Row3 w g L) (n : Nat) : Row3 (w.drewN n) g L := h
/-- An append to a row of slices leaves a row of numbers alone. -/
theorem Row3.kept {w w' : World} {g : Nat} {L : List Int} {base n : Nat} {v : Value} {xs : List Value} (h : Row3 w g L) (ho : w.ownsRow base 63 1 v n xs) (hg : w.grownBy w' v.ownBlock) : Row3 w' g L := by
  have hlt := h.lt
  obtain ⟨cs, h1, h2⟩ := h
  refine ⟨cs, (hg.block g hlt (fun e => ?_)).trans h1, h2⟩
  rcases ho.2 with ⟨e2, _⟩ | ⟨g', cap, cur, e2, _, hb, _⟩
  · rw [e2] at e; cases e
  · rw [e2] at e
    have e3 : g = g' := by simpa [Value.ownBlock] using e
    rw [← e3, h1] at hb
    have := (Option.some.inj hb)
    injection this with _ e4 _
    cases e4
theorem own_below {w w' : World} {base e n : Nat} {v : Value} {xs : List Value} (h : w.ownsRow base e 1 v n xs) (hb : Below w.heap.size w w') : w'.ownsRow base e 1 v n xs := by
  obtain ⟨h1, h2⟩ := h
  refine ⟨h1, ?_⟩
  rcases h2 with h2 | ⟨g, cap, cur, hv, hg, hh, r⟩
  · exact .inl h2
  · refine .inr ⟨g, cap, cur, hv, hg, ?_, r⟩
    rw [hb.block g]
    · exact hh
    · rcases Nat.lt_or_ge g w.heap.size with hlt | hge
      · exact hlt
      · rw [Array.getElem?_eq_none hge] at hh; cases hh

/-- A right case of n sorts. -/
def OkC (n : Nat) (l : List Int) : Prop := l.length = n ∧ ∀ k, k < n → 0 ≤ l.getD k 0 ∧ l.getD k 0 ≤ 1000000
theorem OkC.err {n : Nat} {l : List Int} (h : OkC n l) : countErr n l = 0 := by
  rw [countErr_rest h.1, if_neg]
  rw [List.any_eq_true]
  rintro ⟨x, hx, ho⟩
  obtain ⟨i, hi, rfl⟩ := List.getElem_of_mem hx
  have := h.2 i (by have := h.1; omega)
  rw [getI hi] at this
  unfold outB at ho
  have := of_decide_eq_true ho
  omega
theorem OkC.of {n : Nat} {l : List Int} (h : countErr n l = 0) : OkC n l := by
  obtain ⟨h1, h2⟩ := countErr_zero h
  exact ⟨h1, fun k hk => h2 k (by omega)⟩
section
variable {f : FT} {a : Option Addr} {c : Nat} {b1 : Option Addr} {l1 : List Int} {d1 : Nat} {b2 : Option Addr} {l2 : List Int} {d2 : Nat} {w : World}
end
end Go.Proofs.YtomblajlpanmjaaGreatDoor

/-
  The law on parting: its walk.
-/
namespace Go.Proofs.YtomblajlpanmjaaGreatDoor
open Go.RowKit Go.Maps

end Go.Proofs.YtomblajlpanmjaaGreatDoor
