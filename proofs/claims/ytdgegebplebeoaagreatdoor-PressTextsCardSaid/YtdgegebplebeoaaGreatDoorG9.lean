/-
  A range over an iterator that shares a tree of orders with its body: the law for its caller. No program is walked here.
-/
import Derived.Test.YtdgegebplebeoaaGreatDoorG8
import Derived.Test.YtdgegebplebeoaaGreatDoorE0
namespace Go.Proofs.YtdgegebplebeoaaGreatDoor
open Go.RowKit

theorem own_same {w w' : World} {B E size n : Nat} {v : Value} {xs : List Value} (h : w.ownsRow B E size v n xs) (hq : ∀ q, v.ownBlock = some q → w'.heap[q]? = w.heap[q]?) : w'.ownsRow B E size v n xs := by
  rcases h.2 with ⟨e1, e2⟩ | ⟨gg, cap, cur, e1, e2, e3, e4⟩
  · exact ⟨h.1, Or.inl ⟨e1, e2⟩⟩
  · exact ⟨h.1, Or.inr ⟨gg, cap, cur, e1, e2, (hq gg (by rw [e1]; rfl)).trans e3, e4⟩⟩
/-- A tree of orders under way. -/
structure TS (w0 W : World) (b : Nat) (x : Cols) (bnd : Int) (O : List Int) (m : Nat) (nv ov : Value) (xs : List Value) : Prop where
  box : BoxAt W b #[.slice x.ma x.m.length x.mc, .slice x.da x.T.length x.dc, .int .i64 bnd, nv, ov] 91
  own : OwnR 1 3 intL W w0.heap.size ov O
  nod : W.ownsRow w0.heap.size 126 2 nv m xs
  low : Below w0.heap.size w0 W
  ge : w0.heap.size ≤ b
theorem TS.keep {w0 W W' : World} {b : Nat} {x : Cols} {bnd : Int} {O : List Int} {m : Nat} {nv ov : Value} {xs : List Value} (h : TS w0 W b x bnd O m nv ov xs) (hk : ∀ (q : Nat) (o : Obj), W.heap[q]? = some o → o.isCells = true → W'.heap[q]? = some o) (hl : Below w0.heap.size w0 W') : TS w0 W' b x bnd O m nv ov xs :=
  ⟨hk _ _ h.box rfl, h.own.same (fun q e => by obtain ⟨cs, hc⟩ := own_block h.own q e; rw [hc]; exact hk _ _ hc rfl), own_same h.nod (fun q e => by obtain ⟨cs, hc⟩ := own_block h.nod q e; rw [hc]; exact hk _ _ hc rfl), hl, h.ge⟩
theorem TS.below {w0 W W' : World} {b : Nat} {x : Cols} {bnd : Int} {O : List Int} {m : Nat} {nv ov : Value} {xs : List Value} (h : TS w0 W b x bnd O m nv ov xs) (hb : Below W.heap.size W W') : TS w0 W' b x bnd O m nv ov xs :=
  h.keep (fun q _ e _ => (hb.block q (heap_lt e)).trans e) (h.low.trans (hb.mono h.low.size))
/-- A step of the iterator: the tree's box, the order's row, new blocks. -/
structure TreeTurn (b : Nat) (ov ov' : Value) (X Y : World) : Prop where
  os : Y.os = X.os
  tape : Y.tape = X.tape
  output : Y.output = X.output
  size : X.heap.size ≤ Y.heap.size
  block : ∀ k, k < X.heap.size → k ≠ b → ov.ownBlock ≠ some k → Y.heap[k]? = X.heap[k]?
  row : ∀ q, ov'.ownBlock = some q → ov.ownBlock = some q ∨ X.heap.size ≤ q
def OutOf (lo hi : Nat) (v : Value) : Prop := ∀ q, v.ownBlock = some q → q < lo ∨ hi ≤ q
def treePost (B : Nat) (R : World → Prop) (W : World) : Exit → Act → World → Prop
  | .normal, _, W' => KeepsFrom B W W' ∧ R W'
  | _, _, _ => False
variable {F : Fence} {n : Nat} {P : Program}
def SeqTr (F : Fence) (n : Nat) (P : Program) (g : Nat) (lb : Array Value) (w0 : World) (b pb : Nat) (x : Cols) (bnd : Int) (O L : List Int) (w : World) : Prop :=
  ∀ (l : Nat) (J : Nat → Nat × Value × Nat → World → Prop) (W : World) (nv0 ov0 : Value) (xs0 : List Value) (m0 : Nat), Below w.heap.size w W → TS w0 W b x bnd O m0 nv0 ov0 xs0 →
    (∀ K k ov ov' m X Y, J K (k, ov, m) X → (∃ nv xs xs' O' O'', TS w0 X b x bnd O' m nv ov xs ∧ TS w0 Y b x bnd O'' m nv ov' xs') → TreeTurn b ov ov' X Y → J K (k, ov', m) Y) →
    (∀ K k W1 nv ov xs m, W.heap.size ≤ K → K ≤ W1.heap.size → J K (k, ov, m) W1 → k < L.length → TS w0 W1 b x bnd (O ++ [L.getD k 0]) m nv ov xs → OutOf W.heap.size K ov → OutOf W.heap.size K nv → YieldAt F (n - 1) P l #[.int .i64 k] W1 fun e W' =>
      e = .returned (.bool true) ∧ (∃ nv' ov' xs' m', J K (k + 1, ov', m') W' ∧ TS w0 W' b x bnd (O ++ [L.getD k 0]) m' nv' ov' xs' ∧ OutOf W.heap.size K ov' ∧ OutOf W.heap.size K nv') ∧ (∀ q, (q = pb ∨ (W.heap.size ≤ q ∧ q < K)) → W'.heap[q]? = W1.heap[q]?) ∧ KeepsFrom W.heap.size W1 W') →
    (∀ X, Below W.heap.size W X → J X.heap.size (0, ov0, m0) X) →
    CallsIn F n P g (#[.func (.yield l) #[] #[]] ++ lb) W fun e W' => (∃ v, e = .returned v) ∧ ∃ K nv ov xs m, J K (L.length, ov, m) W' ∧ TS w0 W' b x bnd O m nv ov xs

theorem wpIn_rangeFunc_tr {g : Operand} {ps : Array Tmp} {assign body : Code} {Q : Exit → Act → World → Prop} {a : Act} {w : World}
    (hro : F.round = none) (h1 : 1 ≤ n) {gf : Nat} {lb : Array Value} (hg : a.eval g = .func (.func gf) #[] lb) (hFg : F.fn gf) (eg : ∀ args w, (callFunc gf args).run P w = .ok (.enter gf args) w)
    {w0 : World} {b pb : Nat} {x : Cols} {bnd : Int} {O L : List Int} (hseq : SeqTr F (n - 1) P gf lb w0 b pb x bnd O L w) (hpb : pb < w.heap.size)
    (hps : ps.size = 1)
    (I : Nat → Nat × Value × Nat → World → Prop) (hI : ∀ K, OwnFrom w.heap.size (I K))
    (hIm : ∀ K k ov ov' m X Y, I K (k, ov, m) X → (∃ nv xs xs' O' O'', TS w0 X b x bnd O' m nv ov xs ∧ TS w0 Y b x bnd O'' m nv ov' xs') → TreeTurn b ov ov' X Y → I K (k, ov', m) Y)
    {nv0 ov0 : Value} {xs0 : List Value} {m0 : Nat} (ht0 : TS w0 w b x bnd O m0 nv0 ov0 xs0)
    (h0 : ∀ X, Below w.heap.size w X → I X.heap.size (0, ov0, m0) X) (a₁ : Nat → Act)
    (hassign : ∀ (l : Nat) (k : Nat) (W : World) (K : Act → World → Prop), K (a₁ k) W →
      assign.wpIn (F.inRound l) (n - 1 - 1) P (Exit.then K (fun _ _ _ => False)) { tmps := (ps.zip #[.int .i64 k]).foldl (fun t (p, v) => t.setIfInBounds p v) a.tmps, defers := [] } W)
    (hbody : ∀ (l K k : Nat) (W : World) (nv ov : Value) (xs : List Value) (m : Nat), w.heap.size + 2 ≤ K → K ≤ W.heap.size → I K (k, ov, m) W → k < L.length → TS w0 W b x bnd (O ++ [L.getD k 0]) m nv ov xs → OutOf (w.heap.size + 2) K ov → OutOf (w.heap.size + 2) K nv →
      body.wpIn (F.inRound l) (n - 1 - 1) P (treePost w.heap.size (fun W' => (∃ nv' ov' xs' m', I K (k + 1, ov', m') W' ∧ TS w0 W' b x bnd (O ++ [L.getD k 0]) m' nv' ov' xs' ∧ OutOf (w.heap.size + 2) K ov' ∧ OutOf (w.heap.size + 2) K nv') ∧ ∀ q, (q = pb ∨ (w.heap.size + 2 ≤ q ∧ q < K)) → W'.heap[q]? = W.heap[q]?) W) (a₁ k) W)
    (hdone : ∀ (D K : Nat) (W : World) (nv ov : Value) (xs : List Value) (m : Nat), w.heap.size ≤ D → TS w0 W b x bnd O m nv ov xs → I K (L.length, ov, m) W → W.heap[D]? = some (.deferred (some [])) → Q .normal { a with defers := { target := .collected D, args := #[] } :: a.defers } W) :
    (Code.rangeFunc g ps assign body).wpIn F n P Q a w := by
  refine wpIn_rangeFunc fun fn hfn => ?_
  rw [hro]
  -- the loop's record, by its state and its pending jump
  let lp : LoopState → Option Code → Loop := fun st pe => { state := st, pending := pe, fn, tmps := a.tmps, params := ps, assign, body, defers := w.heap.size }
  have hlp : ∀ st pe, lp st pe = { state := st, pending := pe, fn, tmps := a.tmps, params := ps, assign, body, defers := w.heap.size } := fun _ _ => rfl
  obtain ⟨B, hB⟩ : ∃ B, B = w.heap.size := ⟨_, rfl⟩
  obtain ⟨V, hV⟩ : ∃ V, V = (w.alloc (.deferred (some []))).alloc (.loop (lp .ready none)) := ⟨_, rfl⟩
  have vsz : V.heap.size = B + 2 := by rw [hV, hB]; simp
  have vloop : V.heap[B + 1]? = some (.loop (lp .ready none)) := by
    have h := World.alloc_heap_new (w.alloc (.deferred (some []))) (.loop (lp .ready none))
    rw [World.size_alloc, ← hV, ← hB] at h; exact h
  have vdef : V.heap[B]? = some (.deferred (some [])) := by
    rw [hV, hB]; exact (Below.heap_alloc _ _ _ (by simp)).trans (World.alloc_heap_new w _)
  have vb : Below w.heap.size w V := by rw [hV]; exact ((Below.refl _ w).alloc (Nat.le_refl _) _).alloc (by simp) _
  have vI : ∀ X, Below V.heap.size V X → I X.heap.size (0, ov0, m0) X := fun X hX => h0 X (vb.trans (hX.mono vb.size))
  have hw0 := ht0.low.size
  have hbl := ht0.box.lt
  rw [← hB] at hI hbody hdone hw0 hbl hpb
  -- what holds between two rounds, and where one has said that it is enough
  let J : Nat → Nat × Value × Nat → World → Prop := fun K s W => I K s W ∧ W.heap[B + 1]? = some (.loop (lp .ready none)) ∧ W.heap[B]? = some (.deferred (some []))
  have hJm : ∀ K k ov ov' m X Y, J K (k, ov, m) X → (∃ nv xs xs' O' O'', TS w0 X b x bnd O' m nv ov xs ∧ TS w0 Y b x bnd O'' m nv ov' xs') → TreeTurn b ov ov' X Y → J K (k, ov', m) Y := fun K k ov ov' m X Y hs ht hy => by
    have hk : ∀ (q : Nat) (o : Obj), X.heap[q]? = some o → o.isCells = false → Y.heap[q]? = some o := fun q o h hc => (hy.block q (heap_lt h) (fun e => by
      obtain ⟨nv, xs, _, O', _, ht, -⟩ := ht
      have h2 := ht.box
      unfold BoxAt at h2
      rw [← e, h] at h2; cases h2; cases hc) (fun e => by
      obtain ⟨nv, xs, _, O', _, ht, -⟩ := ht
      obtain ⟨cs, hcs⟩ := own_block ht.own q e
      rw [h] at hcs; cases hcs; cases hc)).trans h
    exact ⟨hIm K k ov ov' m X Y hs.1 ht hy, hk _ _ hs.2.1 rfl, hk _ _ hs.2.2 rfl⟩
  refine ⟨B + 1, [{ target := .collected B, args := #[] }], V, { target := .fn (.func gf) lb, args := #[.func (.yield (B + 1)) #[] #[]] }, V, gf, #[.func (.yield (B + 1)) #[] #[]] ++ lb, V, ?_, ?_, ?_, ?_, fun _ => h1, ?_⟩
  · rw [hV, hB]; exact run_enterLoop_outer _ _ _ _ _
  · simp only [resolve, hg]; simp [go_sem]
  · intro f' hf'; simp [Target.leads] at hf'; subst hf'; exact hFg
  · simp [invoke, go_sem, eg]
  refine (hseq (B + 1) J V nv0 ov0 xs0 m0 vb (ht0.below vb) hJm ?_ (fun X hX => ⟨vI X hX, (hX.block _ (by omega)).trans vloop, (hX.block _ (by omega)).trans vdef⟩)).mono ?_
  · rintro K k W nv ov xs m hVK hKW ⟨hi, hl, hk⟩ hlen hts hov hnv
    rw [vsz] at hVK hov hnv ⊢
    have hlt : B + 1 < W.heap.size := (Array.getElem?_eq_some_iff.1 hl).1
    have hy := run_yield (P := P) (args := #[.int .i64 k]) hl (by rw [hlp]; exact hps.symm)
    rw [hlp] at hy
    refine ⟨fn, _, assign, body, hy, roundIn_of_wpIn hfn (hassign _ k W _ ⟨_, run_beginRound hl (by rw [hlp]), ?_⟩)⟩
    obtain ⟨Wb, hWb⟩ : ∃ Wb, Wb = W.putObj (B + 1) (.loop { lp .ready none with state := .busy }) := ⟨_, rfl⟩
    have bl : Wb.heap[B + 1]? = some (.loop { lp .ready none with state := .busy }) := by rw [hWb]; exact World.putObj_heap_same hlt
    have bd : Wb.heap[B]? = some (.deferred (some [])) := by rw [hWb]; exact (World.putObj_heap_other (by omega)).trans hk
    have bz : W.heap.size = Wb.heap.size := by rw [hWb]; simp
    have bi : I K (k, ov, m) Wb := by rw [hWb]; exact (hI K).putObj _ hi (by omega) hl rfl
    have bt : TS w0 Wb b x bnd (O ++ [L.getD k 0]) m nv ov xs := by
      rw [hWb]
      exact hts.keep (fun q o h hc => (World.putObj_heap_other (fun e => by rw [e, hl] at h; cases h; cases hc)).trans h) (below_putObj hts.low (by omega) _)
    have bw : ∀ q, (q = pb ∨ (B + 2 ≤ q ∧ q < K)) → Wb.heap[q]? = W.heap[q]? := fun q hq => by rw [hWb]; exact World.putObj_heap_other (by omega)
    rw [← hWb]
    refine wpIn_mono (hbody _ K k _ nv ov xs m (by omega) (by omega) bi hlen bt hov hnv) ?_
    have fin : ∀ (jump : Option Code) (W3 : World), KeepsFrom B Wb W3 →
        (Instr.endRound (B + 1) jump).run P W3 = .ok (.bool jump.isNone) (W3.putObj (B + 1) (.loop (lp (if jump.isNone then .ready else .done) jump))) ∧
        W3.heap[B + 1]? = some (.loop { lp .ready none with state := .busy }) ∧
        (W3.putObj (B + 1) (.loop (lp (if jump.isNone then .ready else .done) jump))).heap[B + 1]? = some (.loop (lp (if jump.isNone then .ready else .done) jump)) ∧
        (W3.putObj (B + 1) (.loop (lp (if jump.isNone then .ready else .done) jump))).heap[B]? = some (.deferred (some [])) := fun jump W3 hk3 => by
      have h3 := hk3.same _ _ (by omega) bl rfl
      have hr := run_endRound (P := P) jump h3
      exact ⟨hr, h3, World.putObj_heap_same (Array.getElem?_eq_some_iff.1 h3).1, (World.putObj_heap_other (by omega)).trans (hk3.same _ _ (Nat.le_refl _) bd rfl)⟩
    have kf : ∀ (o' : Obj) (W3 : World), KeepsFrom B Wb W3 → KeepsFrom (B + 2) W (W3.putObj (B + 1) o') := fun o' W3 hk3 =>
      ⟨by have := hk3.size; rw [World.putObj_size]; omega, fun k o hk h0 ho => (World.putObj_heap_other (by omega)).trans (hk3.same k o (by omega) (by rw [hWb]; exact (World.putObj_heap_other (by omega)).trans h0) ho)⟩
    rintro e a3 W3 hp
    cases e with
    | normal =>
      obtain ⟨hk3, ⟨nv', ov', xs', m', hi3, ht3, ho3, hn3⟩, hw3⟩ := hp
      obtain ⟨hr, h3, h4, h5⟩ := fin none W3 hk3
      refine ⟨_, _, hr, rfl, ⟨nv', ov', xs', m', ⟨(hI K).putObj _ hi3 (by omega) h3 rfl, h4, h5⟩, ?_, ho3, hn3⟩, fun q h1 => (World.putObj_heap_other (by omega)).trans ((hw3 q h1).trans (bw q h1)), kf _ _ hk3⟩
      exact ht3.keep (fun q o h hc => (World.putObj_heap_other (fun e => by rw [e, h3] at h; cases h; cases hc)).trans h) (below_putObj ht3.low (by omega) _)
    | ret => exact hp.elim
    | exit id => exact hp.elim
    | goto t => exact hp.elim
    | panic ch => exact hp.elim
    | outgrown => exact hp.elim
  · rintro e W2 ⟨⟨v, rfl⟩, K, nv, ov, xs, m, ⟨hi, hl, hk⟩, ht⟩
    refine ⟨none, _, run_endLoop (P := P) hl (by rw [hlp]; simp), hdone _ K _ nv ov xs m (Nat.le_refl _) ?_ ((hI K).putObj _ hi (by omega) hl rfl) ((World.putObj_heap_other (by omega)).trans hk)⟩
    exact ht.keep (fun q o h hc => (World.putObj_heap_other (fun e => by rw [e, hl] at h; cases h; cases hc)).trans h) (below_putObj ht.low (by omega) _)
end Go.Proofs.YtdgegebplebeoaaGreatDoor
