/-
  A range over an iterator that makes boxes of its own when it begins and keeps variables there: the law for its caller. No program is walked here.
-/
import Derived.Lib.Hide
import Derived.RangeFuncNested
import Derived.RangeFuncBound
import Derived.RangeFuncCalls
import Derived.RangeFuncLeaves
import Derived.RangeFuncWrites
import Derived.Shelf.Abstract
import Derived.Shelf.RegionOpen
import Derived.OwnWalkIn
import Derived.TacticsInMore
import Derived.LoopNIn
import Derived.LoopIn
namespace Go.Proofs.YtomblajlpanmjaaGreatDoor
open Go.RowKit
variable {F : Fence} {n : Nat} {P : Program}

/-- A store into a block of a window. -/
def WinSet (lo hi : Nat) (X Y : World) : Prop := ∃ (p : Addr) (v : Value), lo ≤ p.block ∧ p.block < hi ∧ Y = X.setCell p v
/-- The blocks of a window lie as they lay. -/
def WinKp (lo hi : Nat) (X Y : World) : Prop := ∀ k, lo ≤ k → k < hi → Y.heap[k]? = X.heap[k]?
/-- What an iterator does that makes K boxes when it begins, and turns them between two rounds. -/
def SeqMw {α : Type} (F : Fence) (n : Nat) (P : Program) (g : Nat) (lb : Array Value) (encs : α → Array Value) (K : Nat) (S Sp : List α → Prop) (N : Nat) (w : World) : Prop :=
  ∀ (l : Nat) (J Jx : List α → World → Prop) (W : World), Below w.heap.size w W → OwnFrom W.heap.size J → OwnFrom W.heap.size Jx → (∀ s X Y, J s X → WinSet W.heap.size (W.heap.size + K) X Y → J s Y) →
    (∀ pre x W1, J pre W1 → W.heap.size + K ≤ W1.heap.size → pre.length < N → Sp (pre ++ [x]) → YieldAt F (n - 1) P l (encs x) W1 fun e W' =>
      (e = .returned (.bool true) ∧ J (pre ++ [x]) W' ∧ WinKp W.heap.size (W.heap.size + K) W1 W' ∧ KeepsFrom W.heap.size W1 W') ∨ (e = .returned (.bool false) ∧ Jx (pre ++ [x]) W' ∧ KeepsFrom W.heap.size W1 W')) →
    (∀ X, Below W.heap.size W X → W.heap.size + K ≤ X.heap.size → J [] X) →
    CallsIn F n P g (#[.func (.yield l) #[] #[]] ++ lb) W fun e W' => (∃ v, e = .returned v) ∧ ((∃ xs, S xs ∧ J xs W') ∨ (∃ pre, Sp pre ∧ Jx pre W'))

theorem wpIn_rangeFunc_mw {α : Type} {g : Operand} {ps : Array Tmp} {assign body : Code} {Q : Exit → Act → World → Prop} {a : Act} {w : World}
    (hro : F.round = none) (h1 : 1 ≤ n) {gf : Nat} {lb : Array Value} (hg : a.eval g = .func (.func gf) #[] lb) (hFg : F.fn gf) (eg : ∀ args w, (callFunc gf args).run P w = .ok (.enter gf args) w)
    {encs : α → Array Value} {K : Nat} {S Sp : List α → Prop} {N : Nat} (hseq : SeqMw F (n - 1) P gf lb encs K S Sp N w)
    (hps : ∀ x, (encs x).size = ps.size)
    (I : List α → World → Prop) (Ix : Code → List α → World → Prop) (hI : OwnFrom w.heap.size I) (hIx : ∀ c, OwnFrom w.heap.size (Ix c)) (hIm : ∀ s X Y, I s X → WinSet (w.heap.size + 2) (w.heap.size + 2 + K) X Y → I s Y) (h0 : ∀ X, Below w.heap.size w X → w.heap.size + 2 + K ≤ X.heap.size → I [] X) (a₁ : α → Act)
    (hassign : ∀ (l : Nat) (x : α) (W : World) (K : Act → World → Prop), K (a₁ x) W →
      assign.wpIn (F.inRound l) (n - 1 - 1) P (Exit.then K (fun _ _ _ => False)) { tmps := (ps.zip (encs x)).foldl (fun t (p, v) => t.setIfInBounds p v) a.tmps, defers := [] } W)
    (hbody : ∀ (l : Nat) (pre : List α) (x : α) (W : World), I pre W → w.heap.size + 2 + K ≤ W.heap.size → pre.length < N → Sp (pre ++ [x]) → body.wpIn (F.inRound l) (n - 1 - 1) P (ownPostG w.heap.size (fun X Y => WinKp (w.heap.size + 2) (w.heap.size + 2 + K) X Y ∧ X.heap.size ≤ Y.heap.size) I Ix (pre ++ [x]) W) (a₁ x) W)
    (hdone : ∀ (D : Nat) (xs : List α) (W : World), w.heap.size ≤ D → S xs → I xs W → W.heap[D]? = some (.deferred (some [])) → Q .normal { a with defers := { target := .collected D, args := #[] } :: a.defers } W)
    (hstop : ∀ (D : Nat) (c : Code) (pre : List α) (W : World), w.heap.size ≤ D → Sp pre → Ix c pre W → W.heap[D]? = some (.deferred (some [])) → c.wpIn F n P Q { a with defers := { target := .collected D, args := #[] } :: a.defers } W) :
    (Code.rangeFunc g ps assign body).wpIn F n P Q a w := by
  refine wpIn_rangeFunc fun fn hfn => ?_
  rw [hro]
  -- the loop's record, by its state and its pending jump
  let lp : LoopState → Option Code → Loop := fun st pe => { state := st, pending := pe, fn, tmps := a.tmps, params := ps, assign, body, defers := w.heap.size }
  have hlp : ∀ st pe, lp st pe = { state := st, pending := pe, fn, tmps := a.tmps, params := ps, assign, body, defers := w.heap.size } := fun _ _ => rfl
  obtain ⟨B, hB⟩ : ∃ B, B = w.heap.size := ⟨_, rfl⟩
  obtain ⟨V, hV⟩ : ∃ V, V = (w.alloc (.deferred (some []))).alloc (.loop (lp .ready none)) := ⟨_, rfl⟩
  have vsz : V.heap.size = B + 2 := by rw [hV, hB]; simp
  have vloop : V.heap[B + 1]? = some (.loop (lp .ready none)) := by
    have h := World.alloc_heap_new (w.alloc (.deferred (some []))) (.loop (lp .ready none))
    rw [World.size_alloc, ← hV, ← hB] at h; exact h
  have vdef : V.heap[B]? = some (.deferred (some [])) := by
    rw [hV, hB]; exact (Below.heap_alloc _ _ _ (by simp)).trans (World.alloc_heap_new w _)
  have vb : Below w.heap.size w V := by rw [hV]; exact ((Below.refl _ w).alloc (Nat.le_refl _) _).alloc (by simp) _
  have vI : ∀ X, Below V.heap.size V X → V.heap.size + K ≤ X.heap.size → I [] X := fun X hX hs => h0 X (vb.trans (hX.mono vb.size)) (by omega)
  rw [← hB] at hI hIx hIm hbody hdone hstop
  -- what holds between two rounds, and where one has said that it is enough
  let J : List α → World → Prop := fun s W => I s W ∧ W.heap[B + 1]? = some (.loop (lp .ready none)) ∧ W.heap[B]? = some (.deferred (some []))
  let Jx : List α → World → Prop := fun s W => ∃ c, Ix c s W ∧ W.heap[B + 1]? = some (.loop (lp .done (some c))) ∧ W.heap[B]? = some (.deferred (some []))
  have hJ : OwnFrom V.heap.size J := fun s X Y row hs hg hr => by
    have hk : ∀ k, k < B + 2 → ∀ o, X.heap[k]? = some o → Y.heap[k]? = some o := fun k hk o ho => (hg.block k (Array.getElem?_eq_some_iff.1 ho).1 (fun e => by have := (hr k e.symm).1; omega)).trans ho
    exact ⟨hI s X Y row hs.1 hg (fun r e => ⟨by have := (hr r e).1; omega, (hr r e).2⟩), hk _ (by omega) _ hs.2.1, hk _ (by omega) _ hs.2.2⟩
  have hJx : OwnFrom V.heap.size Jx := fun s X Y row hs hg hr => by
    have hk : ∀ k, k < B + 2 → ∀ o, X.heap[k]? = some o → Y.heap[k]? = some o := fun k hk o ho => (hg.block k (Array.getElem?_eq_some_iff.1 ho).1 (fun e => by have := (hr k e.symm).1; omega)).trans ho
    obtain ⟨c, h1, h2, h3⟩ := hs
    exact ⟨c, hIx c s X Y row h1 hg (fun r e => ⟨by have := (hr r e).1; omega, (hr r e).2⟩), hk _ (by omega) _ h2, hk _ (by omega) _ h3⟩
  have hJm : ∀ s X Y, J s X → WinSet V.heap.size (V.heap.size + K) X Y → J s Y := fun s X Y hs hm => by
    rw [vsz] at hm
    have hI2 := hIm s X Y hs.1 hm
    obtain ⟨p, v, h1, h2, rfl⟩ := hm
    exact ⟨hI2, (Below.heap_setCell _ _ _ _ (by omega)).trans hs.2.1, (Below.heap_setCell _ _ _ _ (by omega)).trans hs.2.2⟩
  refine ⟨B + 1, [{ target := .collected B, args := #[] }], V, { target := .fn (.func gf) lb, args := #[.func (.yield (B + 1)) #[] #[]] }, V, gf, #[.func (.yield (B + 1)) #[] #[]] ++ lb, V, ?_, ?_, ?_, ?_, fun _ => h1, ?_⟩
  · rw [hV, hB]; exact run_enterLoop_outer _ _ _ _ _
  · simp only [resolve, hg]; simp [go_sem]
  · intro f' hf'; simp [Target.leads] at hf'; subst hf'; exact hFg
  · simp [invoke, go_sem, eg]
  refine (hseq (B + 1) J Jx V vb hJ hJx hJm ?_ (fun X hX hs => ⟨vI X hX hs, (hX.block _ (by omega)).trans vloop, (hX.block _ (by omega)).trans vdef⟩)).mono ?_
  · rintro pre x W ⟨hi, hl, hk⟩ hW2 hlen hsp
    rw [vsz] at hW2 ⊢
    have hlt : B + 1 < W.heap.size := (Array.getElem?_eq_some_iff.1 hl).1
    have hy := run_yield (P := P) (args := encs x) hl (by rw [hlp]; exact hps x)
    rw [hlp] at hy
    refine ⟨fn, _, assign, body, hy, roundIn_of_wpIn hfn (hassign _ x W _ ⟨_, run_beginRound hl (by rw [hlp]), ?_⟩)⟩
    obtain ⟨Wb, hWb⟩ : ∃ Wb, Wb = W.putObj (B + 1) (.loop { lp .ready none with state := .busy }) := ⟨_, rfl⟩
    have bl : Wb.heap[B + 1]? = some (.loop { lp .ready none with state := .busy }) := by rw [hWb]; exact World.putObj_heap_same hlt
    have bd : Wb.heap[B]? = some (.deferred (some [])) := by rw [hWb]; exact (World.putObj_heap_other (by omega)).trans hk
    have bk : WinKp (B + 2) (B + 2 + K) W Wb := by rw [hWb]; exact fun k h1 _ => World.putObj_heap_other (by omega)
    have bz : W.heap.size = Wb.heap.size := by rw [hWb]; simp
    have bi : I pre Wb := by rw [hWb]; exact hI.putObj _ hi (by omega) hl rfl
    rw [← hWb]
    refine wpIn_mono (hbody _ pre x _ bi (by omega) hlen hsp) ?_
    have fin : ∀ (jump : Option Code) (W3 : World), KeepsFrom B Wb W3 →
        (Instr.endRound (B + 1) jump).run P W3 = .ok (.bool jump.isNone) (W3.putObj (B + 1) (.loop (lp (if jump.isNone then .ready else .done) jump))) ∧
        W3.heap[B + 1]? = some (.loop { lp .ready none with state := .busy }) ∧
        (W3.putObj (B + 1) (.loop (lp (if jump.isNone then .ready else .done) jump))).heap[B + 1]? = some (.loop (lp (if jump.isNone then .ready else .done) jump)) ∧
        (W3.putObj (B + 1) (.loop (lp (if jump.isNone then .ready else .done) jump))).heap[B]? = some (.deferred (some [])) := fun jump W3 hk3 => by
      have h3 := hk3.same _ _ (by omega) bl rfl
      have hr := run_endRound (P := P) jump h3
      exact ⟨hr, h3, World.putObj_heap_same (Array.getElem?_eq_some_iff.1 h3).1, (World.putObj_heap_other (by omega)).trans (hk3.same _ _ (Nat.le_refl _) bd rfl)⟩
    have kf : ∀ (o' : Obj) (W3 : World), KeepsFrom B Wb W3 → KeepsFrom (B + 2) W (W3.putObj (B + 1) o') := fun o' W3 hk3 =>
      ⟨by have := hk3.size; rw [World.putObj_size]; omega, fun k o hk h0 ho => (World.putObj_heap_other (by omega)).trans (hk3.same k o (by omega) (by rw [hWb]; exact (World.putObj_heap_other (by omega)).trans h0) ho)⟩
    have left : ∀ (c : Code) (W3 : World), KeepsFrom B Wb W3 → Ix c (pre ++ [x]) W3 → ∃ v W4, (Instr.endRound (B + 1) (some c)).run P W3 = .ok v W4 ∧ v = .bool false ∧ Jx (pre ++ [x]) W4 ∧ KeepsFrom (B + 2) W W4 := fun c W3 hk3 hi3 => by
      obtain ⟨hr, h3, h4, h5⟩ := fin (some c) W3 hk3
      exact ⟨_, _, hr, rfl, ⟨c, (hIx _).putObj _ hi3 (by omega) h3 rfl, h4, h5⟩, kf _ _ hk3⟩
    rintro e a3 W3 hp
    cases e with
    | normal =>
      obtain ⟨hk3, hkp, hi3⟩ := hp
      obtain ⟨hr, h3, h4, h5⟩ := fin none W3 hk3
      exact ⟨_, _, hr, .inl ⟨rfl, ⟨hI.putObj _ hi3 (by omega) h3 rfl, h4, h5⟩, fun k h1 h2 => (World.putObj_heap_other (by omega)).trans ((hkp.1 k h1 h2).trans (bk k h1 h2)), kf _ _ hk3⟩⟩
    | ret => obtain ⟨v, W4, hr, rfl, hx⟩ := left _ _ hp.1 hp.2; exact ⟨_, _, hr, .inr ⟨rfl, hx⟩⟩
    | exit id => obtain ⟨v, W4, hr, rfl, hx⟩ := left _ _ hp.1 hp.2; exact ⟨_, _, hr, .inr ⟨rfl, hx⟩⟩
    | goto t => obtain ⟨v, W4, hr, rfl, hx⟩ := left _ _ hp.1 hp.2; exact ⟨_, _, hr, .inr ⟨rfl, hx⟩⟩
    | panic ch => exact hp.elim
    | outgrown => exact hp.elim
  · rintro e W2 ⟨⟨v, rfl⟩, (⟨xs, hS, hi, hl, hk⟩ | ⟨pre, hSp, c, hi, hl, hk⟩)⟩
    · exact ⟨none, _, run_endLoop (P := P) hl (by rw [hlp]; simp), hdone _ xs _ (Nat.le_refl _) hS (hI.putObj _ hi (by omega) hl rfl) ((World.putObj_heap_other (by omega)).trans hk)⟩
    · exact ⟨some c, _, run_endLoop (P := P) hl (by rw [hlp]; simp), hstop _ c pre _ (Nat.le_refl _) hSp ((hIx c).putObj _ hi (by omega) hl rfl) ((World.putObj_heap_other (by omega)).trans hk)⟩
end Go.Proofs.YtomblajlpanmjaaGreatDoor
