/-
  Package text: the reader of copy in memory; readWord.
-/
import Derived.Test.YtomblajlpanmjaaGreatDoorQFG
import Derived.Test.YtomblajlpanmjaaGreatDoorQY
import Derived.Deep.RegionLaw
import Derived.Deep.AppendLies
import Derived.Lib.AppendStr
import Derived.Laws.IdiomStrings
namespace Go.Proofs.YtomblajlpanmjaaGreatDoor
open Go.RowKit Go.Maps Go.Shelf

theorem hp_lt {w : World} {b : Nat} {o : Obj} (h : w.heap[b]? = some o) : b < w.heap.size := (Array.getElem?_eq_some_iff.1 h).1
structure CRd where
  ps : List CP
  kd : Int
  ws : List ByteArray
  ln : Int
  cl : Int
/-- What a word does to the reader, and the error. -/
def rdW (st : CRd) (wd : ByteArray) (ln cl : Int) : Int × CRd :=
  if st.kd = 0 ∧ st.ps.length = 60 then (8, st)
  else if st.kd = 0 ∧ markB wd = true then (0, { st with kd := kindOfW wd, ln := ln, cl := cl })
  else if isWordB wd = false ∨ (st.ws.length = 0 ∧ markB wd = true) then (3, { st with kd := if st.kd = 0 then kindOfW wd else st.kd })
  else if st.ws.length = 100 then (8, { st with kd := if st.kd = 0 then kindOfW wd else st.kd })
  else (0, { st with kd := if st.kd = 0 then kindOfW wd else st.kd, ws := st.ws ++ [wd] })
/-- The parts that were read, in rows of their own; none of their words lies in u's row. -/
def POwn (w : World) (B : Nat) (v : Value) (n : Nat) (l : List CP) (u : Value) : Prop :=
  ∃ xs, w.ownsRow B 72 2 v n xs ∧ ∀ j, j < n → ∃ v2, xs[j * 2]? = some (.int .i64 (l.getD j noCP).kd) ∧ xs[j * 2 + 1]? = some v2 ∧ w.ownsRow B 9 1 v2 (l.getD j noCP).l.length (txs (l.getD j noCP).l) ∧ ∀ q, v2.ownBlock = some q → u.ownBlock ≠ some q
structure CRAt (w : World) (B b : Nat) (st : CRd) (v u : Value) : Prop where
  box : BoxAt w b #[v, .int .i64 st.kd, u, .int .i64 st.ln, .int .i64 st.cl] 143
  parts : POwn w B v st.ps.length st.ps u
  words : w.ownsRow B 9 1 u st.ws.length (txs st.ws)
  hB : B ≤ b
/-- All blocks that were there are as they were, but b and that of the row u. -/
structure KR (w W : World) (b : Nat) (u : Value) : Prop where
  size : w.heap.size ≤ W.heap.size
  block : ∀ k, k < w.heap.size → k ≠ b → u.ownBlock ≠ some k → W.heap[k]? = w.heap[k]?
section
variable {w W W' : World} {b B n : Nat} {u v : Value} {l : List CP}
theorem KR.refl (w : World) (b : Nat) (u : Value) : KR w w b u := ⟨Nat.le_refl _, fun _ _ _ _ => rfl⟩
theorem KR.below (h : KR w W b u) (hb : Below W.heap.size W W') : KR w W' b u := ⟨Nat.le_trans h.size hb.size, fun k hk h1 h2 => (hb.block k (Nat.lt_of_lt_of_le hk h.size)).trans (h.block k hk h1 h2)⟩
theorem KR.alloc (h : KR w W b u) (o : Obj) : KR w (W.alloc o) b u := h.below ((Below.refl _ _).alloc (Nat.le_refl _) o)
theorem KR.drew (h : KR w W b u) : KR w W.drew b u := ⟨h.size, h.block⟩
theorem KR.set (h : KR w W b u) {p : Addr} (hp : p.block = b ∨ w.heap.size ≤ p.block) (x : Value) : KR w (W.setCell p x) b u :=
  ⟨by rw [World.size_setCell]; exact h.size, fun k hk h1 h2 => (Below.heap_setCell _ _ _ _ (fun e => by rcases hp with hp | hp <;> omega)).trans (h.block k hk h1 h2)⟩
theorem KR.grown (h : KR w W b u) {row : Option Nat} (hg : W.grownBy W' row) (hr : ∀ q, row = some q → u.ownBlock = some q ∨ w.heap.size ≤ q) : KR w W' b u :=
  ⟨Nat.le_trans h.size hg.size, fun k hk h1 h2 => (hg.block k (Nat.lt_of_lt_of_le hk h.size) (fun e => by
    rcases hr k e.symm with h3 | h3
    · exact h2 h3
    · omega)).trans (h.block k hk h1 h2)⟩
theorem own_blk {e size m : Nat} {v : Value} {xs : List Value} (h : w.ownsRow B e size v m xs) : ∀ q, v.ownBlock = some q → ∃ cs, w.heap[q]? = some (.cells cs e (0, 0)) := fun q hq => by
  rcases h.2 with ⟨e1, _⟩ | ⟨g, cap, cur, e1, _, e3, _⟩
  · rw [e1] at hq; cases hq
  · rw [e1] at hq
    have : g = q := by simpa [Value.ownBlock] using hq
    subst this
    exact ⟨_, e3⟩
theorem own_still {e size m : Nat} {v : Value} {xs : List Value} (h : w.ownsRow B e size v m xs) (hk : ∀ q, v.ownBlock = some q → W.heap[q]? = w.heap[q]?) : W.ownsRow B e size v m xs := by
  rcases h.2 with ⟨e1, e2⟩ | ⟨g, cap, cur, e1, e2, e3, e4⟩
  · exact ⟨h.1, Or.inl ⟨e1, e2⟩⟩
  · exact ⟨h.1, Or.inr ⟨g, cap, cur, e1, e2, (hk g (by rw [e1]; rfl)).trans e3, e4⟩⟩
theorem own_shapeQ {e size m : Nat} {v : Value} {xs : List Value} (h : w.ownsRow B e size v m xs) : ∃ (A : Option Addr) (c : Nat), v = .slice A m c ∧ m ≤ c ∧ (A = none → c = 0) := by
  rcases h.2 with ⟨e1, e2⟩ | ⟨g, cap, cur, e1, _, _, hc, _⟩
  · exact ⟨none, 0, by rw [e1, e2], by omega, fun _ => rfl⟩
  · exact ⟨_, cap, e1, hc, fun e => by cases e⟩
theorem own_nob {e size m : Nat} {v : Value} {xs : List Value} {cs : Array Value} {T : TypeId} (h : w.ownsRow B e size v m xs) (hb : BoxAt w b cs T) (hne : T ≠ e) : v.ownBlock ≠ some b := fun e1 => by
  obtain ⟨c2, h2⟩ := own_blk h b e1
  rw [show w.heap[b]? = _ from hb] at h2; cases h2; exact hne rfl
theorem own_setB {e size m : Nat} {v : Value} {xs : List Value} {cs : Array Value} {T : TypeId} (h : w.ownsRow B e size v m xs) (hb : BoxAt w b cs T) (hne : T ≠ e) (j : Nat) (x : Value) : (w.setCell ⟨b, j, none⟩ x).ownsRow B e size v m xs :=
  own_still h fun q hq => Below.heap_setCell _ _ _ _ (fun e2 => own_nob h hb hne (by rw [hq, e2]))
/-- The parts stay where all blocks but a box of another type and one row of words stay; the row may be laid anew. -/
theorem POwn.still {u2 : Value} (h : POwn w B v n l u) (hu : ∀ q, u2.ownBlock = some q → u.ownBlock = some q ∨ w.heap.size ≤ q)
    (hk : ∀ k cs T, w.heap[k]? = some (.cells cs T (0, 0)) → (T = 72 ∨ T = 9 ∧ u.ownBlock ≠ some k) → W.heap[k]? = w.heap[k]?) : POwn W B v n l u2 := by
  obtain ⟨xs, h1, h2⟩ := h
  refine ⟨xs, own_still h1 (fun q hq => ?_), fun j hj => ?_⟩
  · obtain ⟨cs, hc⟩ := own_blk h1 q hq
    exact hk q cs _ hc (Or.inl rfl)
  · obtain ⟨v2, e1, e2, h3, h4⟩ := h2 j hj
    refine ⟨v2, e1, e2, own_still h3 (fun q hq => ?_), fun q hq e => ?_⟩
    · obtain ⟨cs, hc⟩ := own_blk h3 q hq
      exact hk q cs _ hc (Or.inr ⟨rfl, h4 q hq⟩)
    · obtain ⟨cs, hc⟩ := own_blk h3 q hq
      rcases hu q e with h5 | h5
      · exact h4 q hq h5
      · have := hp_lt hc; omega
end
theorem clone2_any (s : ByteArray) (w : World) (hs : s.size ≤ 1000000) :
    Calls Tryz.prog 154 #[.string s] w fun e w' => e = .returned (.string s) ∧ Below w.heap.size w w' := by
  go_enter Tryz.func154, Tryz.ntmps154
  go_wp2_with fail
  refine (Tryz.stringslite_Clone s _ (by omega)).mono ?_
  rintro e w1 ⟨rfl, hb⟩
  go_wp2
  go_ret
  exact ⟨rfl, hb⟩
def RWPost (w : World) (B b : Nat) (st : CRd) (v u : Value) (wd : ByteArray) (ln cl : Int) (e : Ending) (w' : World) : Prop :=
  e = .returned (.int .i64 (rdW st wd ln cl).1) ∧ ∃ u', CRAt w' B b (rdW st wd ln cl).2 v u' ∧ (∀ q, u'.ownBlock = some q → u.ownBlock = some q ∨ w.heap.size ≤ q) ∧ KR w w' b u ∧ Below B w w'
theorem CRAt.set1 {w : World} {B b : Nat} {st : CRd} {v u : Value} (h : CRAt w B b st v u) (k : Int) : CRAt (w.setCell ⟨b, 1, none⟩ (.int .i64 k)) B b { st with kd := k } v u :=
  ⟨h.box.set 1 (.int .i64 k), h.parts.still (fun q hq => Or.inl hq) (fun q cs T hq hT => Below.heap_setCell _ _ _ _ (fun e => by
      rw [e, show w.heap[b]? = _ from h.box] at hq; cases hq
      rcases hT with hT | ⟨hT, _⟩ <;> exact absurd hT (by decide))), own_setB h.words h.box (by decide) 1 _, h.hB⟩
theorem CRAt.alloc {w : World} {B b : Nat} {st : CRd} {v u : Value} (h : CRAt w B b st v u) (o : Obj) : CRAt (w.alloc o) B b st v u :=
  ⟨h.box.alloc o, h.parts.still (fun q hq => Or.inl hq) (fun q cs T hq _ => Below.heap_alloc _ _ _ (hp_lt hq)), own_still h.words (fun q hq => by obtain ⟨cs, hc⟩ := own_blk h.words q hq; exact Below.heap_alloc _ _ _ (hp_lt hc)), h.hB⟩
theorem CRAt.set34 {w : World} {B b : Nat} {st : CRd} {v u : Value} (h : CRAt w B b st v u) (x y : Int) : CRAt ((w.setCell ⟨b, 3, none⟩ (.int .i64 x)).setCell ⟨b, 4, none⟩ (.int .i64 y)) B b { st with ln := x, cl := y } v u := by
  have hb := h.box.set 3 (.int .i64 x)
  have hp := h.parts.still (W := (w.setCell ⟨b, 3, none⟩ (.int .i64 x)).setCell ⟨b, 4, none⟩ (.int .i64 y)) (u2 := u) (fun q hq => Or.inl hq) (fun q cs T hq hT => by
      have hne : q ≠ b := fun e => by
        rw [e, show w.heap[b]? = _ from h.box] at hq; cases hq
        rcases hT with hT | ⟨hT, _⟩ <;> exact absurd hT (by decide)
      exact (Below.heap_setCell _ _ _ _ hne).trans (Below.heap_setCell _ _ _ _ hne))
  exact ⟨hb.set 4 (.int .i64 y), hp, own_setB (own_setB h.words h.box (by decide) 3 _) hb (by decide) 4 _, h.hB⟩
theorem txs_snc (l : List ByteArray) (s : ByteArray) : txs l ++ [.string s] = txs (l ++ [s]) := by unfold txs; rw [List.map_append]; rfl
/-- A word more. -/
theorem CRAt.more {wa w6 w5 : World} {B b : Nat} {st : CRd} {v : Value} {A : Option Addr} {c gg cap : Nat} {wd : ByteArray} {n : Nat} (hn : n = st.ws.length) (h : CRAt wa B b st v (.slice A n c)) (hb6 : Below wa.heap.size wa w6)
    (hown : w5.ownsRow B 9 1 (.slice (some ⟨gg, 0, none⟩) (n + 1) cap) (n + 1) (txs st.ws ++ [.string wd])) (hgrow : (w6.alloc (.cells #[.string wd] 9)).grownBy w5 (Value.slice A n c).ownBlock) (hat : (Value.slice A n c).ownBlock = some gg ∨ gg = w6.heap.size + 1) :
    CRAt (w5.setCell ⟨b, 2, none⟩ (.slice (some ⟨gg, 0, none⟩) (n + 1) cap)) B b { st with ws := st.ws ++ [wd] } v (.slice (some ⟨gg, 0, none⟩) (n + 1) cap) := by
  subst hn
  have hs := hb6.size
  have hkeep : ∀ k o, wa.heap[k]? = some o → (Value.slice A st.ws.length c).ownBlock ≠ some k → w5.heap[k]? = wa.heap[k]? := fun k o hk hne =>
    (hgrow.block k (by have := hp_lt hk; simp; omega) (fun e => hne e.symm)).trans ((Below.heap_alloc _ _ _ (by have := hp_lt hk; omega)).trans (hb6.block k (hp_lt hk)))
  have b5 : BoxAt w5 b #[v, .int .i64 st.kd, .slice A st.ws.length c, .int .i64 st.ln, .int .i64 st.cl] 143 := (hkeep b _ h.box (own_nob h.words h.box (by decide))).trans h.box
  refine ⟨b5.set 2 _, h.parts.still (fun q hq => ?_) (fun k cs T hk hT => ?_), ?_, h.hB⟩
  · have : gg = q := by simpa [Value.ownBlock] using hq
    subst this
    rcases hat with h1 | h1
    · exact Or.inl h1
    · right; omega
  · have hne : k ≠ b := fun e => by
      rw [e, show wa.heap[b]? = _ from h.box] at hk; cases hk
      rcases hT with hT | ⟨hT, _⟩ <;> exact absurd hT (by decide)
    refine (Below.heap_setCell _ _ _ _ hne).trans (hkeep k _ hk (fun e => ?_))
    rcases hT with hT | ⟨_, hT⟩
    · obtain ⟨c2, h2⟩ := own_blk h.words k e
      rw [hk] at h2; cases h2; exact absurd hT (by decide)
    · exact hT e
  · have h6 := own_setB hown b5 (by decide) 2 (.slice (some ⟨gg, 0, none⟩) (st.ws.length + 1) cap)
    rw [txs_snc] at h6
    show World.ownsRow _ _ _ _ _ (st.ws ++ [wd]).length _
    rw [List.length_append]; exact h6
set_option maxRecDepth 100000 in
set_option maxHeartbeats 2000000 in
theorem readWord_any (B b : Nat) (st : CRd) (v u : Value) (wd : ByteArray) (ln cl : Int) (w : World) (h : CRAt w B b st v u) (hwd : wd.size ≤ 100000) (hps : st.ps.length ≤ 100000) (hws : st.ws.length ≤ 100000) (hBw : B ≤ w.heap.size) :
    Calls Tryz.prog 115 #[.pointer (some ⟨b, 0, none⟩), .string wd, .agg #[.int .i64 ln, .int .i64 cl]] w (RWPost w B b st v u wd ln cl) := by
  obtain ⟨ps, kd, ws, l0, k0⟩ := st
  change ps.length ≤ 100000 at hps
  change ws.length ≤ 100000 at hws
  have hk1 := KR.refl w b u
  have hB1 := Below.refl B w
  have hbl : b < w.heap.size := h.box.lt
  have hBb := h.hB
  obtain ⟨A, c, rfl, hAc, hA0⟩ := own_shapeQ h.words
  change Nat at c
  obtain ⟨xs, hpo, hpx⟩ := h.parts
  obtain ⟨A2, c2, rfl, hA2, _⟩ := own_shapeQ hpo
  have HST := Lib.hid (show ∀ r : Int × CRd, rdW ⟨ps, kd, ws, l0, k0⟩ wd ln cl = r → ∀ (w' : World) u', CRAt w' B b r.2 (.slice A2 ps.length c2) u' → (∀ q, u'.ownBlock = some q → (Value.slice A ws.length c).ownBlock = some q ∨ w.heap.size ≤ q) → KR w w' b (.slice A ws.length c) → Below B w w' → RWPost w B b ⟨ps, kd, ws, l0, k0⟩ (.slice A2 ps.length c2) (.slice A ws.length c) wd ln cl (.returned (.int .i64 r.1)) w' from
    fun r hr w' u' q1 q2 q3 q4 => by subst hr; exact ⟨rfl, u', q1, q2, q3, q4⟩)
  have same : ∀ q, (Value.slice A ws.length c).ownBlock = some q → (Value.slice A ws.length c).ownBlock = some q ∨ w.heap.size ≤ q := fun q e => Or.inl e
  have c1 := h.box.cell 1; have c2' := h.box.cell 2; have c0 := h.box.cell 0; have c3 := h.box.cell 3; have c4 := h.box.cell 4
  have f1 := h.box.free 1; have f2 := h.box.free 2; have f3 := h.box.free 3; have f4 := h.box.free 4
  simp at c0 c1 c2' c3 c4
  have HK := Lib.hid (fun W => kindOf_any wd W); have HM := Lib.hid (fun W => isMark_any wd W); have HI := Lib.hid (fun W => isWord_any wd W (by unfold maxLen; omega))
  obtain ⟨kw, hkw⟩ : ∃ kw, kindOfW wd = kw := ⟨_, rfl⟩
  obtain ⟨mk, hmk⟩ : ∃ mk, markB wd = mk := ⟨_, rfl⟩
  obtain ⟨iw, hiw⟩ : ∃ iw, isWordB wd = iw := ⟨_, rfl⟩
  rw [hkw] at HK; rw [hmk] at HM; rw [hiw] at HI
  have HKW := Lib.hid hkw; have HMK := Lib.hid hmk; have HIW := Lib.hid hiw
  clear hpo hpx hkw hmk hiw
  have hwl : (ws.length : Int) ≤ 100000 := by omega
  by_cases hk0 : kd = 0
  · subst hk0
    by_cases hp6 : ps.length = 60
    · have HR := Lib.hid (show rdW ⟨ps, 0, ws, l0, k0⟩ wd ln cl = (8, ⟨ps, 0, ws, l0, k0⟩) by unfold rdW; rw [if_pos ⟨rfl, hp6⟩])
      have hpI : ((ps.length : Int) == 60) = true := by simp; omega
      clear hp6
      go_enter Tryz.func115, Tryz.ntmps115
      go_wp2_with fail
      go_ret
      exact HST.out _ HR.out _ _ (h.alloc _) same (hk1.alloc _) (hB1.alloc hBw _)
    · have hpI : ((ps.length : Int) == 60) = false := by simp; omega
      have h2 := h.set1 kw
      have hk2 := hk1.set (p := ⟨b, 1, none⟩) (Or.inl rfl) (.int .i64 kw)
      have hB2 := hB1.setCell (p := ⟨b, 1, none⟩) hBb (.int .i64 kw)
      cases mk with
      | true =>
        have HR := Lib.hid (show rdW ⟨ps, 0, ws, l0, k0⟩ wd ln cl = (0, ⟨ps, kw, ws, ln, cl⟩) by unfold rdW; rw [if_neg (fun h => hp6 h.2), if_pos ⟨rfl, HMK.out⟩, HKW.out])
        have h3 := h2.set34 ln cl
        have hk3 := (hk2.set (p := ⟨b, 3, none⟩) (Or.inl rfl) (.int .i64 ln)).set (p := ⟨b, 4, none⟩) (Or.inl rfl) (.int .i64 cl)
        have hB3 := (hB2.setCell (p := ⟨b, 3, none⟩) hBb (.int .i64 ln)).setCell (p := ⟨b, 4, none⟩) hBb (.int .i64 cl)
        clear hp6
        go_enter Tryz.func115, Tryz.ntmps115
        go_wp2_with (first
          | (go_at_call 147; refine (HK.out _).mono ?_; rintro e w' ⟨rfl, rfl⟩)
          | (go_at_call 110; refine (HM.out _).mono ?_; rintro e w' ⟨rfl, rfl⟩))
        go_ret
        exact HST.out _ HR.out _ _ (h3.alloc _) same (hk3.alloc _) (hB3.alloc (by simpa using hBw) _)
      | false =>
        by_cases hi0 : iw = false
        · subst hi0
          have HR := Lib.hid (show rdW ⟨ps, 0, ws, l0, k0⟩ wd ln cl = (3, ⟨ps, kw, ws, l0, k0⟩) by simp [rdW, hp6, HMK.out, HKW.out, HIW.out])
          go_enter Tryz.func115, Tryz.ntmps115
          go_wp2_with (first
            | (go_at_call 147; refine (HK.out _).mono ?_; rintro e w' ⟨rfl, rfl⟩)
            | (go_at_call 110; refine (HM.out _).mono ?_; rintro e w' ⟨rfl, rfl⟩)
            | (go_at_call 136; refine (HI.out _).mono ?_; rintro e w' ⟨rfl, rfl⟩))
          go_ret
          exact HST.out _ HR.out _ _ (h2.alloc _) same (hk2.alloc _) (hB2.alloc (by simpa using hBw) _)
        have hi1 : iw = true := by simpa using hi0
        subst hi1
        clear hi0
        by_cases hl0 : ws.length = 0
        · have hlI : ((ws.length : Int) == 0) = true := by rw [beq_iff_eq]; omega
          have h100 : ((ws.length : Int) == 100) = false := by rw [beq_eq_false_iff_ne]; omega
          have HR := Lib.hid (show rdW ⟨ps, 0, ws, l0, k0⟩ wd ln cl = (0, ⟨ps, kw, ws ++ [wd], l0, k0⟩) by simp [rdW, hp6, HMK.out, HKW.out, HIW.out, hl0])
          clear hl0
          go_enter Tryz.func115, Tryz.ntmps115
          go_wp2_with (first
            | (go_at_call 147; refine (HK.out _).mono ?_; rintro e w' ⟨rfl, rfl⟩)
            | (go_at_call 110; refine (HM.out _).mono ?_; rintro e w' ⟨rfl, rfl⟩)
            | (go_at_call 136; refine (HI.out _).mono ?_; rintro e w' ⟨rfl, rfl⟩))
          obtain ⟨wa, hwa⟩ : ∃ wa, wa = (w.setCell ⟨b, 1, none⟩ (.int .i64 kw)).alloc (.cells #[.int .i64 ln, .int .i64 cl] 49) := ⟨_, rfl⟩
          rw [← hwa]
          have ha : CRAt wa B b ⟨ps, kw, ws, l0, k0⟩ (.slice A2 ps.length c2) (.slice A ws.length c) := by rw [hwa]; exact h2.alloc _
          have ka : KR w wa b (.slice A ws.length c) := by rw [hwa]; exact hk2.alloc _
          have La : Below B w wa := by rw [hwa]; exact hB2.alloc (by simpa using hBw) _
          have hv := ha.words
          have a2 := ha.box.cell 2; have z2 := ha.box.free 2
          simp at a2
          have hal := ha.box.lt
          have hks := ka.size
          have hno := own_nob ha.words ha.box (by decide)
          obtain ⟨i0, hi0, hz0, hz1, hz2⟩ := info_parts infoS
          have HCL := Lib.hid (fun W => clone2_any wd W (by omega))
          have h63 : ws.length + 1 ≤ maxLen := by unfold maxLen; omega
          have hby : (ws.length + 1) * 16 ≤ 140737488355328 := by omega
          clear hwa
          go_region_law (first
            | (refine step_append_lies _ (by rfl) _ _ _ (by rfl) B 9 i0 _ 1 16 Tryz.underlying22 hi0 hz0 hz1 hz2 rfl (by omega) _ ws.length _ (by rfl) (hv6.alloc _)
                ⟨w6.heap.size, 0, none⟩ 1 1 [.string wd] (by rfl) (by rfl) (World.news_of_block (cs := #[.string wd]) (t := 9) (fr := (0, 0)) (heap_alloc_new w6 _)) (by simp [Value.oneCell'])
                (by omega) h63 hby (by simp; omega) (w6.heap.size + 1) (by simp) ?_; intro gg cap5 w5 hown5 hgrow hat hlt5; have b5 : BoxAt w5 b #[.slice A2 ps.length c2, .int .i64 kw, .slice A ws.length c, .int .i64 l0, .int .i64 k0] 143 := (hgrow.block b (by simp; omega) (fun e => hno e.symm)).trans ((Below.heap_alloc _ _ _ (by omega)).trans ((hb6.block b hal).trans ha.box)); have z5 := b5.free 2; have x5 := b5.cell 2; simp at x5)
            | (go_simp; refine (HCL.out wa.drew).mono ?_; rintro e w6 ⟨rfl, hb6⟩; have hz6 : wa.heap.size ≤ w6.heap.size := hb6.size; have hv6 : w6.ownsRow B 9 1 (.slice A ws.length c) ws.length (txs ws) := own_still hv (fun q hq => by obtain ⟨cs, hc⟩ := own_blk hv q hq; exact hb6.block q (hp_lt hc)); have x6 : w6.cell? ⟨b, 2, none⟩ = some (.slice A ws.length c) := (hb6.cell (p := ⟨b, 2, none⟩) hal).trans a2; have x7 : (w6.alloc (.cells #[.string wd] 9)).cell? ⟨b, 2, none⟩ = some (.slice A ws.length c) := (World.cell?_alloc_past _ _ _ (by show b < w6.heap.size; omega)).trans x6))
          all_goals
            have hq := CRAt.more (n := ws.length) rfl ha ((Below.refl wa.heap.size wa).drew.trans hb6) hown5 hgrow hat
            have hB5 := ((((La.drew).trans (hb6.mono (show B ≤ wa.drew.heap.size from (by show B ≤ wa.heap.size; omega)))).alloc (by omega) (.cells #[.string wd] 9)).grown hgrow (by simp; omega) (fun q hq => (hv.lt q hq).1)).setCell (p := ⟨b, 2, none⟩) hBb (.slice (some ⟨gg, 0, none⟩) (ws.length + 1) cap5)
            have hK5 := ((((ka.drew).below hb6).alloc (.cells #[.string wd] 9)).grown hgrow (fun q hq => Or.inl hq)).set (p := ⟨b, 2, none⟩) (Or.inl rfl) (.slice (some ⟨gg, 0, none⟩) (ws.length + 1) cap5)
            have hS5 : ∀ q, (Value.slice (some ⟨gg, 0, none⟩) (ws.length + 1) cap5).ownBlock = some q → (Value.slice A ws.length c).ownBlock = some q ∨ w.heap.size ≤ q := fun q hq => by
              have : gg = q := by simpa [Value.ownBlock] using hq
              subst this
              rcases hat with h1 | h1
              · exact Or.inl h1
              · right; omega
            go_wp2
            go_ret
            exact HST.out _ HR.out _ _ hq hS5 hK5 hB5
        have hlI : ((ws.length : Int) == 0) = false := by rw [beq_eq_false_iff_ne]; omega
        have hl9 : ws ≠ [] := fun e => hl0 (by rw [e]; rfl)
        by_cases h9 : ws.length = 100
        · have h100 : ((ws.length : Int) == 100) = true := by rw [beq_iff_eq]; omega
          have HR := Lib.hid (show rdW ⟨ps, 0, ws, l0, k0⟩ wd ln cl = (8, ⟨ps, kw, ws, l0, k0⟩) by simp [rdW, hp6, HMK.out, HKW.out, HIW.out, h9])
          clear h9 hl0
          go_enter Tryz.func115, Tryz.ntmps115
          go_wp2_with (first
            | (go_at_call 147; refine (HK.out _).mono ?_; rintro e w' ⟨rfl, rfl⟩)
            | (go_at_call 110; refine (HM.out _).mono ?_; rintro e w' ⟨rfl, rfl⟩)
            | (go_at_call 136; refine (HI.out _).mono ?_; rintro e w' ⟨rfl, rfl⟩))
          go_ret
          exact HST.out _ HR.out _ _ (h2.alloc _) same (hk2.alloc _) (hB2.alloc (by simpa using hBw) _)
        have h100 : ((ws.length : Int) == 100) = false := by rw [beq_eq_false_iff_ne]; omega
        have HR := Lib.hid (show rdW ⟨ps, 0, ws, l0, k0⟩ wd ln cl = (0, ⟨ps, kw, ws ++ [wd], l0, k0⟩) by simp [rdW, hp6, HMK.out, HKW.out, HIW.out, h9, hl9])
        clear h9 hl0
        go_enter Tryz.func115, Tryz.ntmps115
        go_wp2_with (first
          | (go_at_call 147; refine (HK.out _).mono ?_; rintro e w' ⟨rfl, rfl⟩)
          | (go_at_call 110; refine (HM.out _).mono ?_; rintro e w' ⟨rfl, rfl⟩)
          | (go_at_call 136; refine (HI.out _).mono ?_; rintro e w' ⟨rfl, rfl⟩))
        obtain ⟨wa, hwa⟩ : ∃ wa, wa = (w.setCell ⟨b, 1, none⟩ (.int .i64 kw)).alloc (.cells #[.int .i64 ln, .int .i64 cl] 49) := ⟨_, rfl⟩
        rw [← hwa]
        have ha : CRAt wa B b ⟨ps, kw, ws, l0, k0⟩ (.slice A2 ps.length c2) (.slice A ws.length c) := by rw [hwa]; exact h2.alloc _
        have ka : KR w wa b (.slice A ws.length c) := by rw [hwa]; exact hk2.alloc _
        have La : Below B w wa := by rw [hwa]; exact hB2.alloc (by simpa using hBw) _
        have hv := ha.words
        have a2 := ha.box.cell 2; have z2 := ha.box.free 2
        simp at a2
        have hal := ha.box.lt
        have hks := ka.size
        have hno := own_nob ha.words ha.box (by decide)
        obtain ⟨i0, hi0, hz0, hz1, hz2⟩ := info_parts infoS
        have HCL := Lib.hid (fun W => clone2_any wd W (by omega))
        have h63 : ws.length + 1 ≤ maxLen := by unfold maxLen; omega
        have hby : (ws.length + 1) * 16 ≤ 140737488355328 := by omega
        clear hwa
        go_region_law (first
          | (refine step_append_lies _ (by rfl) _ _ _ (by rfl) B 9 i0 _ 1 16 Tryz.underlying22 hi0 hz0 hz1 hz2 rfl (by omega) _ ws.length _ (by rfl) (hv6.alloc _)
              ⟨w6.heap.size, 0, none⟩ 1 1 [.string wd] (by rfl) (by rfl) (World.news_of_block (cs := #[.string wd]) (t := 9) (fr := (0, 0)) (heap_alloc_new w6 _)) (by simp [Value.oneCell'])
              (by omega) h63 hby (by simp; omega) (w6.heap.size + 1) (by simp) ?_; intro gg cap5 w5 hown5 hgrow hat hlt5; have b5 : BoxAt w5 b #[.slice A2 ps.length c2, .int .i64 kw, .slice A ws.length c, .int .i64 l0, .int .i64 k0] 143 := (hgrow.block b (by simp; omega) (fun e => hno e.symm)).trans ((Below.heap_alloc _ _ _ (by omega)).trans ((hb6.block b hal).trans ha.box)); have z5 := b5.free 2; have x5 := b5.cell 2; simp at x5)
          | (go_simp; refine (HCL.out wa.drew).mono ?_; rintro e w6 ⟨rfl, hb6⟩; have hz6 : wa.heap.size ≤ w6.heap.size := hb6.size; have hv6 : w6.ownsRow B 9 1 (.slice A ws.length c) ws.length (txs ws) := own_still hv (fun q hq => by obtain ⟨cs, hc⟩ := own_blk hv q hq; exact hb6.block q (hp_lt hc)); have x6 : w6.cell? ⟨b, 2, none⟩ = some (.slice A ws.length c) := (hb6.cell (p := ⟨b, 2, none⟩) hal).trans a2; have x7 : (w6.alloc (.cells #[.string wd] 9)).cell? ⟨b, 2, none⟩ = some (.slice A ws.length c) := (World.cell?_alloc_past _ _ _ (by show b < w6.heap.size; omega)).trans x6))
        all_goals
          have hq := CRAt.more (n := ws.length) rfl ha ((Below.refl wa.heap.size wa).drew.trans hb6) hown5 hgrow hat
          have hB5 := ((((La.drew).trans (hb6.mono (show B ≤ wa.drew.heap.size from (by show B ≤ wa.heap.size; omega)))).alloc (by omega) (.cells #[.string wd] 9)).grown hgrow (by simp; omega) (fun q hq => (hv.lt q hq).1)).setCell (p := ⟨b, 2, none⟩) hBb (.slice (some ⟨gg, 0, none⟩) (ws.length + 1) cap5)
          have hK5 := ((((ka.drew).below hb6).alloc (.cells #[.string wd] 9)).grown hgrow (fun q hq => Or.inl hq)).set (p := ⟨b, 2, none⟩) (Or.inl rfl) (.slice (some ⟨gg, 0, none⟩) (ws.length + 1) cap5)
          have hS5 : ∀ q, (Value.slice (some ⟨gg, 0, none⟩) (ws.length + 1) cap5).ownBlock = some q → (Value.slice A ws.length c).ownBlock = some q ∨ w.heap.size ≤ q := fun q hq => by
            have : gg = q := by simpa [Value.ownBlock] using hq
            subst this
            rcases hat with h1 | h1
            · exact Or.inl h1
            · right; omega
          go_wp2
          go_ret
          exact HST.out _ HR.out _ _ hq hS5 hK5 hB5
  · have hkI : (kd == 0) = false := by simpa using hk0
    by_cases hi0 : iw = false
    · subst hi0
      have HR := Lib.hid (show rdW ⟨ps, kd, ws, l0, k0⟩ wd ln cl = (3, ⟨ps, kd, ws, l0, k0⟩) by simp [rdW, hk0, HIW.out])
      go_enter Tryz.func115, Tryz.ntmps115
      go_wp2_with (first
        | (go_at_call 147; refine (HK.out _).mono ?_; rintro e w' ⟨rfl, rfl⟩)
        | (go_at_call 110; refine (HM.out _).mono ?_; rintro e w' ⟨rfl, rfl⟩)
        | (go_at_call 136; refine (HI.out _).mono ?_; rintro e w' ⟨rfl, rfl⟩))
      go_ret
      exact HST.out _ HR.out _ _ (h.alloc _) same (hk1.alloc _) (hB1.alloc (by simpa using hBw) _)
    have hi1 : iw = true := by simpa using hi0
    subst hi1
    clear hi0
    by_cases hl0 : ws.length = 0
    · have hlI : ((ws.length : Int) == 0) = true := by rw [beq_iff_eq]; omega
      cases mk with
      | true =>
        have HR := Lib.hid (show rdW ⟨ps, kd, ws, l0, k0⟩ wd ln cl = (3, ⟨ps, kd, ws, l0, k0⟩) by simp [rdW, hk0, HIW.out, HMK.out, hl0])
        clear hl0
        go_enter Tryz.func115, Tryz.ntmps115
        go_wp2_with (first
          | (go_at_call 147; refine (HK.out _).mono ?_; rintro e w' ⟨rfl, rfl⟩)
          | (go_at_call 110; refine (HM.out _).mono ?_; rintro e w' ⟨rfl, rfl⟩)
          | (go_at_call 136; refine (HI.out _).mono ?_; rintro e w' ⟨rfl, rfl⟩))
        go_ret
        exact HST.out _ HR.out _ _ (h.alloc _) same (hk1.alloc _) (hB1.alloc (by simpa using hBw) _)
      | false =>
        have h100 : ((ws.length : Int) == 100) = false := by rw [beq_eq_false_iff_ne]; omega
        have HR := Lib.hid (show rdW ⟨ps, kd, ws, l0, k0⟩ wd ln cl = (0, ⟨ps, kd, ws ++ [wd], l0, k0⟩) by simp [rdW, hk0, HIW.out, HMK.out, hl0])
        clear hl0
        go_enter Tryz.func115, Tryz.ntmps115
        go_wp2_with (first
          | (go_at_call 147; refine (HK.out _).mono ?_; rintro e w' ⟨rfl, rfl⟩)
          | (go_at_call 110; refine (HM.out _).mono ?_; rintro e w' ⟨rfl, rfl⟩)
          | (go_at_call 136; refine (HI.out _).mono ?_; rintro e w' ⟨rfl, rfl⟩))
        obtain ⟨wa, hwa⟩ : ∃ wa, wa = w.alloc (.cells #[.int .i64 ln, .int .i64 cl] 49) := ⟨_, rfl⟩
        rw [← hwa]
        have ha : CRAt wa B b ⟨ps, kd, ws, l0, k0⟩ (.slice A2 ps.length c2) (.slice A ws.length c) := by rw [hwa]; exact h.alloc _
        have ka : KR w wa b (.slice A ws.length c) := by rw [hwa]; exact hk1.alloc _
        have La : Below B w wa := by rw [hwa]; exact hB1.alloc (by simpa using hBw) _
        have hv := ha.words
        have a2 := ha.box.cell 2; have z2 := ha.box.free 2
        simp at a2
        have hal := ha.box.lt
        have hks := ka.size
        have hno := own_nob ha.words ha.box (by decide)
        obtain ⟨i0, hi0, hz0, hz1, hz2⟩ := info_parts infoS
        have HCL := Lib.hid (fun W => clone2_any wd W (by omega))
        have h63 : ws.length + 1 ≤ maxLen := by unfold maxLen; omega
        have hby : (ws.length + 1) * 16 ≤ 140737488355328 := by omega
        clear hwa
        go_region_law (first
          | (refine step_append_lies _ (by rfl) _ _ _ (by rfl) B 9 i0 _ 1 16 Tryz.underlying22 hi0 hz0 hz1 hz2 rfl (by omega) _ ws.length _ (by rfl) (hv6.alloc _)
              ⟨w6.heap.size, 0, none⟩ 1 1 [.string wd] (by rfl) (by rfl) (World.news_of_block (cs := #[.string wd]) (t := 9) (fr := (0, 0)) (heap_alloc_new w6 _)) (by simp [Value.oneCell'])
              (by omega) h63 hby (by simp; omega) (w6.heap.size + 1) (by simp) ?_; intro gg cap5 w5 hown5 hgrow hat hlt5; have b5 : BoxAt w5 b #[.slice A2 ps.length c2, .int .i64 kd, .slice A ws.length c, .int .i64 l0, .int .i64 k0] 143 := (hgrow.block b (by simp; omega) (fun e => hno e.symm)).trans ((Below.heap_alloc _ _ _ (by omega)).trans ((hb6.block b hal).trans ha.box)); have z5 := b5.free 2; have x5 := b5.cell 2; simp at x5)
          | (go_simp; refine (HCL.out wa.drew).mono ?_; rintro e w6 ⟨rfl, hb6⟩; have hz6 : wa.heap.size ≤ w6.heap.size := hb6.size; have hv6 : w6.ownsRow B 9 1 (.slice A ws.length c) ws.length (txs ws) := own_still hv (fun q hq => by obtain ⟨cs, hc⟩ := own_blk hv q hq; exact hb6.block q (hp_lt hc)); have x6 : w6.cell? ⟨b, 2, none⟩ = some (.slice A ws.length c) := (hb6.cell (p := ⟨b, 2, none⟩) hal).trans a2; have x7 : (w6.alloc (.cells #[.string wd] 9)).cell? ⟨b, 2, none⟩ = some (.slice A ws.length c) := (World.cell?_alloc_past _ _ _ (by show b < w6.heap.size; omega)).trans x6))
        all_goals
          have hq := CRAt.more (n := ws.length) rfl ha ((Below.refl wa.heap.size wa).drew.trans hb6) hown5 hgrow hat
          have hB5 := ((((La.drew).trans (hb6.mono (show B ≤ wa.drew.heap.size from (by show B ≤ wa.heap.size; omega)))).alloc (by omega) (.cells #[.string wd] 9)).grown hgrow (by simp; omega) (fun q hq => (hv.lt q hq).1)).setCell (p := ⟨b, 2, none⟩) hBb (.slice (some ⟨gg, 0, none⟩) (ws.length + 1) cap5)
          have hK5 := ((((ka.drew).below hb6).alloc (.cells #[.string wd] 9)).grown hgrow (fun q hq => Or.inl hq)).set (p := ⟨b, 2, none⟩) (Or.inl rfl) (.slice (some ⟨gg, 0, none⟩) (ws.length + 1) cap5)
          have hS5 : ∀ q, (Value.slice (some ⟨gg, 0, none⟩) (ws.length + 1) cap5).ownBlock = some q → (Value.slice A ws.length c).ownBlock = some q ∨ w.heap.size ≤ q := fun q hq => by
            have : gg = q := by simpa [Value.ownBlock] using hq
            subst this
            rcases hat with h1 | h1
            · exact Or.inl h1
            · right; omega
          go_wp2
          go_ret
          exact HST.out _ HR.out _ _ hq hS5 hK5 hB5
    have hlI : ((ws.length : Int) == 0) = false := by rw [beq_eq_false_iff_ne]; omega
    have hl9 : ws ≠ [] := fun e => hl0 (by rw [e]; rfl)
    by_cases h9 : ws.length = 100
    · have h100 : ((ws.length : Int) == 100) = true := by rw [beq_iff_eq]; omega
      have HR := Lib.hid (show rdW ⟨ps, kd, ws, l0, k0⟩ wd ln cl = (8, ⟨ps, kd, ws, l0, k0⟩) by simp [rdW, hk0, HIW.out, h9])
      clear h9 hl0
      go_enter Tryz.func115, Tryz.ntmps115
      go_wp2_with (first
        | (go_at_call 147; refine (HK.out _).mono ?_; rintro e w' ⟨rfl, rfl⟩)
        | (go_at_call 110; refine (HM.out _).mono ?_; rintro e w' ⟨rfl, rfl⟩)
        | (go_at_call 136; refine (HI.out _).mono ?_; rintro e w' ⟨rfl, rfl⟩))
      go_ret
      exact HST.out _ HR.out _ _ (h.alloc _) same (hk1.alloc _) (hB1.alloc (by simpa using hBw) _)
    have h100 : ((ws.length : Int) == 100) = false := by rw [beq_eq_false_iff_ne]; omega
    have HR := Lib.hid (show rdW ⟨ps, kd, ws, l0, k0⟩ wd ln cl = (0, ⟨ps, kd, ws ++ [wd], l0, k0⟩) by simp [rdW, hk0, HIW.out, h9, hl9])
    clear h9 hl0
    go_enter Tryz.func115, Tryz.ntmps115
    go_wp2_with (first
      | (go_at_call 147; refine (HK.out _).mono ?_; rintro e w' ⟨rfl, rfl⟩)
      | (go_at_call 110; refine (HM.out _).mono ?_; rintro e w' ⟨rfl, rfl⟩)
      | (go_at_call 136; refine (HI.out _).mono ?_; rintro e w' ⟨rfl, rfl⟩))
    obtain ⟨wa, hwa⟩ : ∃ wa, wa = w.alloc (.cells #[.int .i64 ln, .int .i64 cl] 49) := ⟨_, rfl⟩
    rw [← hwa]
    have ha : CRAt wa B b ⟨ps, kd, ws, l0, k0⟩ (.slice A2 ps.length c2) (.slice A ws.length c) := by rw [hwa]; exact h.alloc _
    have ka : KR w wa b (.slice A ws.length c) := by rw [hwa]; exact hk1.alloc _
    have La : Below B w wa := by rw [hwa]; exact hB1.alloc (by simpa using hBw) _
    have hv := ha.words
    have a2 := ha.box.cell 2; have z2 := ha.box.free 2
    simp at a2
    have hal := ha.box.lt
    have hks := ka.size
    have hno := own_nob ha.words ha.box (by decide)
    obtain ⟨i0, hi0, hz0, hz1, hz2⟩ := info_parts infoS
    have HCL := Lib.hid (fun W => clone2_any wd W (by omega))
    have h63 : ws.length + 1 ≤ maxLen := by unfold maxLen; omega
    have hby : (ws.length + 1) * 16 ≤ 140737488355328 := by omega
    clear hwa
    go_region_law (first
      | (refine step_append_lies _ (by rfl) _ _ _ (by rfl) B 9 i0 _ 1 16 Tryz.underlying22 hi0 hz0 hz1 hz2 rfl (by omega) _ ws.length _ (by rfl) (hv6.alloc _)
          ⟨w6.heap.size, 0, none⟩ 1 1 [.string wd] (by rfl) (by rfl) (World.news_of_block (cs := #[.string wd]) (t := 9) (fr := (0, 0)) (heap_alloc_new w6 _)) (by simp [Value.oneCell'])
          (by omega) h63 hby (by simp; omega) (w6.heap.size + 1) (by simp) ?_; intro gg cap5 w5 hown5 hgrow hat hlt5; have b5 : BoxAt w5 b #[.slice A2 ps.length c2, .int .i64 kd, .slice A ws.length c, .int .i64 l0, .int .i64 k0] 143 := (hgrow.block b (by simp; omega) (fun e => hno e.symm)).trans ((Below.heap_alloc _ _ _ (by omega)).trans ((hb6.block b hal).trans ha.box)); have z5 := b5.free 2; have x5 := b5.cell 2; simp at x5)
      | (go_simp; refine (HCL.out wa.drew).mono ?_; rintro e w6 ⟨rfl, hb6⟩; have hz6 : wa.heap.size ≤ w6.heap.size := hb6.size; have hv6 : w6.ownsRow B 9 1 (.slice A ws.length c) ws.length (txs ws) := own_still hv (fun q hq => by obtain ⟨cs, hc⟩ := own_blk hv q hq; exact hb6.block q (hp_lt hc)); have x6 : w6.cell? ⟨b, 2, none⟩ = some (.slice A ws.length c) := (hb6.cell (p := ⟨b, 2, none⟩) hal).trans a2; have x7 : (w6.alloc (.cells #[.string wd] 9)).cell? ⟨b, 2, none⟩ = some (.slice A ws.length c) := (World.cell?_alloc_past _ _ _ (by show b < w6.heap.size; omega)).trans x6))
    all_goals
      have hq := CRAt.more (n := ws.length) rfl ha ((Below.refl wa.heap.size wa).drew.trans hb6) hown5 hgrow hat
      have hB5 := ((((La.drew).trans (hb6.mono (show B ≤ wa.drew.heap.size from (by show B ≤ wa.heap.size; omega)))).alloc (by omega) (.cells #[.string wd] 9)).grown hgrow (by simp; omega) (fun q hq => (hv.lt q hq).1)).setCell (p := ⟨b, 2, none⟩) hBb (.slice (some ⟨gg, 0, none⟩) (ws.length + 1) cap5)
      have hK5 := ((((ka.drew).below hb6).alloc (.cells #[.string wd] 9)).grown hgrow (fun q hq => Or.inl hq)).set (p := ⟨b, 2, none⟩) (Or.inl rfl) (.slice (some ⟨gg, 0, none⟩) (ws.length + 1) cap5)
      have hS5 : ∀ q, (Value.slice (some ⟨gg, 0, none⟩) (ws.length + 1) cap5).ownBlock = some q → (Value.slice A ws.length c).ownBlock = some q ∨ w.heap.size ≤ q := fun q hq => by
        have : gg = q := by simpa [Value.ownBlock] using hq
        subst this
        rcases hat with h1 | h1
        · exact Or.inl h1
        · right; omega
      go_wp2
      go_ret
      exact HST.out _ HR.out _ _ hq hS5 hK5 hB5
end Go.Proofs.YtomblajlpanmjaaGreatDoor
