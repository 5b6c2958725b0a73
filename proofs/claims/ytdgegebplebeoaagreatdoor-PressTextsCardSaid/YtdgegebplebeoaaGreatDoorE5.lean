/-
  A range over an iterator that keeps one row of its own and turns it between two rounds: the law for its caller. No program is walked here.
-/
import Derived.Lib.Hide
import Derived.RangeFuncWrites
import Derived.Test.YtdgegebplebeoaaGreatDoorE4
namespace Go.Proofs.YtdgegebplebeoaaGreatDoor
open Go.RowKit

/-- What an iterator yields that keeps a row of numbers: the numbers, and the slice. -/
structure Ord where
  l : List Int
  v : Value
/-- Only the row's own block turns. -/
structure TurnRow (v : Value) (X Y : World) : Prop where
  os : Y.os = X.os
  tape : Y.tape = X.tape
  output : Y.output = X.output
  size : X.heap.size ≤ Y.heap.size
  block : ∀ k, k < X.heap.size → v.ownBlock ≠ some k → Y.heap[k]? = X.heap[k]?
variable {F : Fence} {n : Nat} {P : Program}
def SeqRw (F : Fence) (n : Nat) (P : Program) (g : Nat) (lb : Array Value) (S Sp : List Ord → Prop) (N : Nat) (w : World) : Prop :=
  ∀ (l : Nat) (J Jx : List Ord → World → Prop) (W : World), Below w.heap.size w W → OwnFrom W.heap.size J → OwnFrom W.heap.size Jx →
    (∀ s x X Y, J (s ++ [x]) X → OwnR 1 3 intL X W.heap.size x.v x.l → TurnRow x.v X Y → J (s ++ [x]) Y) →
    (∀ pre x W1, J pre W1 → pre.length < N → Sp (pre ++ [x]) → OwnR 1 3 intL W1 W.heap.size x.v x.l → YieldAt F (n - 1) P l #[x.v] W1 fun e W' =>
      (e = .returned (.bool true) ∧ J (pre ++ [x]) W' ∧ (∀ k, x.v.ownBlock = some k → W'.heap[k]? = W1.heap[k]?) ∧ KeepsFrom W.heap.size W1 W') ∨ (e = .returned (.bool false) ∧ Jx (pre ++ [x]) W' ∧ KeepsFrom W.heap.size W1 W')) →
    (∀ X, Below W.heap.size W X → J [] X) →
    CallsIn F n P g (#[.func (.yield l) #[] #[]] ++ lb) W fun e W' => (∃ v, e = .returned v) ∧ ((∃ xs, S xs ∧ J xs W') ∨ (∃ pre, Sp pre ∧ Jx pre W'))

theorem wpIn_rangeFunc_rw {g : Operand} {ps : Array Tmp} {assign body : Code} {Q : Exit → Act → World → Prop} {a : Act} {w : World}
    (hro : F.round = none) (h1 : 1 ≤ n) {gf : Nat} {lb : Array Value} (hg : a.eval g = .func (.func gf) #[] lb) (hFg : F.fn gf) (eg : ∀ args w, (callFunc gf args).run P w = .ok (.enter gf args) w)
    {S Sp : List Ord → Prop} {N : Nat} (hseq : SeqRw F (n - 1) P gf lb S Sp N w)
    (hps : ps.size = 1)
    (I : List Ord → World → Prop) (Ix : Code → List Ord → World → Prop) (hI : OwnFrom w.heap.size I) (hIx : ∀ c, OwnFrom w.heap.size (Ix c)) (hIm : ∀ s x X Y, I (s ++ [x]) X → OwnR 1 3 intL X (w.heap.size + 2) x.v x.l → TurnRow x.v X Y → I (s ++ [x]) Y) (h0 : ∀ X, Below w.heap.size w X → I [] X) (a₁ : Ord → Act)
    (hassign : ∀ (l : Nat) (x : Ord) (W : World) (K : Act → World → Prop), K (a₁ x) W →
      assign.wpIn (F.inRound l) (n - 1 - 1) P (Exit.then K (fun _ _ _ => False)) { tmps := (ps.zip #[x.v]).foldl (fun t (p, v) => t.setIfInBounds p v) a.tmps, defers := [] } W)
    (hbody : ∀ (l : Nat) (pre : List Ord) (x : Ord) (W : World), I pre W → pre.length < N → Sp (pre ++ [x]) → OwnR 1 3 intL W (w.heap.size + 2) x.v x.l → body.wpIn (F.inRound l) (n - 1 - 1) P (ownPostG w.heap.size (fun X Y => ∀ k, x.v.ownBlock = some k → Y.heap[k]? = X.heap[k]?) I Ix (pre ++ [x]) W) (a₁ x) W)
    (hdone : ∀ (D : Nat) (xs : List Ord) (W : World), w.heap.size ≤ D → S xs → I xs W → W.heap[D]? = some (.deferred (some [])) → Q .normal { a with defers := { target := .collected D, args := #[] } :: a.defers } W)
    (hstop : ∀ (D : Nat) (c : Code) (pre : List Ord) (W : World), w.heap.size ≤ D → Sp pre → Ix c pre W → W.heap[D]? = some (.deferred (some [])) → c.wpIn F n P Q { a with defers := { target := .collected D, args := #[] } :: a.defers } W) :
    (Code.rangeFunc g ps assign body).wpIn F n P Q a w := by
  refine wpIn_rangeFunc fun fn hfn => ?_
  rw [hro]
  -- the loop's record, by its state and its pending jump
  let lp : LoopState → Option Code → Loop := fun st pe => { state := st, pending := pe, fn, tmps := a.tmps, params := ps, assign, body, defers := w.heap.size }
  have hlp : ∀ st pe, lp st pe = { state := st, pending := pe, fn, tmps := a.tmps, params := ps, assign, body, defers := w.heap.size } := fun _ _ => rfl
  obtain ⟨B, hB⟩ : ∃ B, B = w.heap.size := ⟨_, rfl⟩
  obtain ⟨V, hV⟩ : ∃ V, V = (w.alloc (.deferred (some []))).alloc (.loop (lp .ready none)) := ⟨_, rfl⟩
  have vsz : V.heap.size = B + 2 := by rw [hV, hB]; simp
  have vloop : V.heap[B + 1]? = some (.loop (lp .ready none)) := by
    have h := World.alloc_heap_new (w.alloc (.deferred (some []))) (.loop (lp .ready none))
    rw [World.size_alloc, ← hV, ← hB] at h; exact h
  have vdef : V.heap[B]? = some (.deferred (some [])) := by
    rw [hV, hB]; exact (Below.heap_alloc _ _ _ (by simp)).trans (World.alloc_heap_new w _)
  have vb : Below w.heap.size w V := by rw [hV]; exact ((Below.refl _ w).alloc (Nat.le_refl _) _).alloc (by simp) _
  have vI : ∀ X, Below V.heap.size V X → I [] X := fun X hX => h0 X (vb.trans (hX.mono vb.size))
  rw [← hB] at hI hIx hIm hbody hdone hstop
  -- what holds between two rounds, and where one has said that it is enough
  let J : List Ord → World → Prop := fun s W => I s W ∧ W.heap[B + 1]? = some (.loop (lp .ready none)) ∧ W.heap[B]? = some (.deferred (some []))
  let Jx : List Ord → World → Prop := fun s W => ∃ c, Ix c s W ∧ W.heap[B + 1]? = some (.loop (lp .done (some c))) ∧ W.heap[B]? = some (.deferred (some []))
  have hJ : OwnFrom V.heap.size J := fun s X Y row hs hg hr => by
    have hk : ∀ k, k < B + 2 → ∀ o, X.heap[k]? = some o → Y.heap[k]? = some o := fun k hk o ho => (hg.block k (Array.getElem?_eq_some_iff.1 ho).1 (fun e => by have := (hr k e.symm).1; omega)).trans ho
    exact ⟨hI s X Y row hs.1 hg (fun r e => ⟨by have := (hr r e).1; omega, (hr r e).2⟩), hk _ (by omega) _ hs.2.1, hk _ (by omega) _ hs.2.2⟩
  have hJx : OwnFrom V.heap.size Jx := fun s X Y row hs hg hr => by
    have hk : ∀ k, k < B + 2 → ∀ o, X.heap[k]? = some o → Y.heap[k]? = some o := fun k hk o ho => (hg.block k (Array.getElem?_eq_some_iff.1 ho).1 (fun e => by have := (hr k e.symm).1; omega)).trans ho
    obtain ⟨c, h1, h2, h3⟩ := hs
    exact ⟨c, hIx c s X Y row h1 hg (fun r e => ⟨by have := (hr r e).1; omega, (hr r e).2⟩), hk _ (by omega) _ h2, hk _ (by omega) _ h3⟩
  have hJm : ∀ s x X Y, J (s ++ [x]) X → OwnR 1 3 intL X V.heap.size x.v x.l → TurnRow x.v X Y → J (s ++ [x]) Y := fun s x X Y hs ho ht => by
    rw [vsz] at ho
    have hk : ∀ k, k < B + 2 → ∀ o, X.heap[k]? = some o → Y.heap[k]? = some o := fun k hk o h => (ht.block k (Array.getElem?_eq_some_iff.1 h).1 (fun e => by have := (ho.lt k e).1; omega)).trans h
    exact ⟨hIm s x X Y hs.1 ho ht, hk _ (by omega) _ hs.2.1, hk _ (by omega) _ hs.2.2⟩
  refine ⟨B + 1, [{ target := .collected B, args := #[] }], V, { target := .fn (.func gf) lb, args := #[.func (.yield (B + 1)) #[] #[]] }, V, gf, #[.func (.yield (B + 1)) #[] #[]] ++ lb, V, ?_, ?_, ?_, ?_, fun _ => h1, ?_⟩
  · rw [hV, hB]; exact run_enterLoop_outer _ _ _ _ _
  · simp only [resolve, hg]; simp [go_sem]
  · intro f' hf'; simp [Target.leads] at hf'; subst hf'; exact hFg
  · simp [invoke, go_sem, eg]
  refine (hseq (B + 1) J Jx V vb hJ hJx hJm ?_ (fun X hX => ⟨vI X hX, (hX.block _ (by omega)).trans vloop, (hX.block _ (by omega)).trans vdef⟩)).mono ?_
  · rintro pre x W ⟨hi, hl, hk⟩ hlen hsp how
    rw [vsz] at how ⊢
    have hlt : B + 1 < W.heap.size := (Array.getElem?_eq_some_iff.1 hl).1
    have hy := run_yield (P := P) (args := #[x.v]) hl (by rw [hlp]; exact hps.symm)
    rw [hlp] at hy
    refine ⟨fn, _, assign, body, hy, roundIn_of_wpIn hfn (hassign _ x W _ ⟨_, run_beginRound hl (by rw [hlp]), ?_⟩)⟩
    obtain ⟨Wb, hWb⟩ : ∃ Wb, Wb = W.putObj (B + 1) (.loop { lp .ready none with state := .busy }) := ⟨_, rfl⟩
    have bl : Wb.heap[B + 1]? = some (.loop { lp .ready none with state := .busy }) := by rw [hWb]; exact World.putObj_heap_same hlt
    have bd : Wb.heap[B]? = some (.deferred (some [])) := by rw [hWb]; exact (World.putObj_heap_other (by omega)).trans hk
    have bk : ∀ k, x.v.ownBlock = some k → Wb.heap[k]? = W.heap[k]? := by rw [hWb]; exact fun k e => World.putObj_heap_other (by have := (how.lt k e).1; omega)
    have bo : OwnR 1 3 intL Wb (B + 2) x.v x.l := by rw [hWb]; exact how.putObj (fun e => by have := (how.lt _ e).1; omega) _
    have hge : ∀ k, x.v.ownBlock = some k → B + 2 ≤ k := fun k e => (how.lt k e).1
    have bz : W.heap.size = Wb.heap.size := by rw [hWb]; simp
    have bi : I pre Wb := by rw [hWb]; exact hI.putObj _ hi (by omega) hl rfl
    rw [← hWb]
    refine wpIn_mono (hbody _ pre x _ bi hlen hsp bo) ?_
    have fin : ∀ (jump : Option Code) (W3 : World), KeepsFrom B Wb W3 →
        (Instr.endRound (B + 1) jump).run P W3 = .ok (.bool jump.isNone) (W3.putObj (B + 1) (.loop (lp (if jump.isNone then .ready else .done) jump))) ∧
        W3.heap[B + 1]? = some (.loop { lp .ready none with state := .busy }) ∧
        (W3.putObj (B + 1) (.loop (lp (if jump.isNone then .ready else .done) jump))).heap[B + 1]? = some (.loop (lp (if jump.isNone then .ready else .done) jump)) ∧
        (W3.putObj (B + 1) (.loop (lp (if jump.isNone then .ready else .done) jump))).heap[B]? = some (.deferred (some [])) := fun jump W3 hk3 => by
      have h3 := hk3.same _ _ (by omega) bl rfl
      have hr := run_endRound (P := P) jump h3
      exact ⟨hr, h3, World.putObj_heap_same (Array.getElem?_eq_some_iff.1 h3).1, (World.putObj_heap_other (by omega)).trans (hk3.same _ _ (Nat.le_refl _) bd rfl)⟩
    have kf : ∀ (o' : Obj) (W3 : World), KeepsFrom B Wb W3 → KeepsFrom (B + 2) W (W3.putObj (B + 1) o') := fun o' W3 hk3 =>
      ⟨by have := hk3.size; rw [World.putObj_size]; omega, fun k o hk h0 ho => (World.putObj_heap_other (by omega)).trans (hk3.same k o (by omega) (by rw [hWb]; exact (World.putObj_heap_other (by omega)).trans h0) ho)⟩
    have left : ∀ (c : Code) (W3 : World), KeepsFrom B Wb W3 → Ix c (pre ++ [x]) W3 → ∃ v W4, (Instr.endRound (B + 1) (some c)).run P W3 = .ok v W4 ∧ v = .bool false ∧ Jx (pre ++ [x]) W4 ∧ KeepsFrom (B + 2) W W4 := fun c W3 hk3 hi3 => by
      obtain ⟨hr, h3, h4, h5⟩ := fin (some c) W3 hk3
      exact ⟨_, _, hr, rfl, ⟨c, (hIx _).putObj _ hi3 (by omega) h3 rfl, h4, h5⟩, kf _ _ hk3⟩
    rintro e a3 W3 hp
    cases e with
    | normal =>
      obtain ⟨hk3, hkp, hi3⟩ := hp
      obtain ⟨hr, h3, h4, h5⟩ := fin none W3 hk3
      exact ⟨_, _, hr, .inl ⟨rfl, ⟨hI.putObj _ hi3 (by omega) h3 rfl, h4, h5⟩, fun k e => (World.putObj_heap_other (by have := hge k e; omega)).trans ((hkp k e).trans (bk k e)), kf _ _ hk3⟩⟩
    | ret => obtain ⟨v, W4, hr, rfl, hx⟩ := left _ _ hp.1 hp.2; exact ⟨_, _, hr, .inr ⟨rfl, hx⟩⟩
    | exit id => obtain ⟨v, W4, hr, rfl, hx⟩ := left _ _ hp.1 hp.2; exact ⟨_, _, hr, .inr ⟨rfl, hx⟩⟩
    | goto t => obtain ⟨v, W4, hr, rfl, hx⟩ := left _ _ hp.1 hp.2; exact ⟨_, _, hr, .inr ⟨rfl, hx⟩⟩
    | panic ch => exact hp.elim
    | outgrown => exact hp.elim
  · rintro e W2 ⟨⟨v, rfl⟩, (⟨xs, hS, hi, hl, hk⟩ | ⟨pre, hSp, c, hi, hl, hk⟩)⟩
    · exact ⟨none, _, run_endLoop (P := P) hl (by rw [hlp]; simp), hdone _ xs _ (Nat.le_refl _) hS (hI.putObj _ hi (by omega) hl rfl) ((World.putObj_heap_other (by omega)).trans hk)⟩
    · exact ⟨some c, _, run_endLoop (P := P) hl (by rw [hlp]; simp), hstop _ c pre _ (Nat.le_refl _) hSp ((hIx c).putObj _ hi (by omega) hl rfl) ((World.putObj_heap_other (by omega)).trans hk)⟩
end Go.Proofs.YtdgegebplebeoaaGreatDoor
