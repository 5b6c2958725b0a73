/-
  A range over an iterator that keeps a variable of its own in memory: the law for its caller. No program is walked here.
-/
import Derived.Test.YtgoandhlcekmiaaGreatDoorIA
import Derived.RangeFuncNested
import Derived.RangeFuncBound
import Derived.RangeFuncCalls
import Derived.RangeFuncLeaves
import Derived.RangeFuncWrites
import Derived.Shelf.Abstract
import Derived.Shelf.RegionOpen
import Derived.OwnWalkIn
import Derived.TacticsInMore
import Derived.LoopNIn
import Derived.LoopIn
import Derived.Test.YtgoandhlcekmiaaGreatDoorRA
import Derived.Test.YtgoandhlcekmiaaGreatDoorKG
import Derived.Deep.RegionHeld3
import Derived.Test.YtgoandhlcekmiaaGreatDoorKS
import Derived.Lib.IndexLaws
import Derived.RegionTactic
namespace Go.Proofs.YtgoandhlcekmiaaGreatDoor
open Go.RowKit
variable {F : Fence} {n : Nat} {P : Program}

/-- What an iterator does that turns, between two rounds, what 'Mv' tells, and wants of a round what 'Kp' tells. -/
def SeqMv {α : Type} (F : Fence) (n : Nat) (P : Program) (g : Nat) (lb : Array Value) (encs : α → Array Value) (Kp Mv : World → World → Prop) (S Sp : List α → Prop) (N : Nat) (w : World) : Prop :=
  ∀ (l : Nat) (J Jx : List α → World → Prop) (W : World), Below w.heap.size w W → AbidesFrom W.heap.size J → (∀ s X Y, J s X → Mv X Y → J s Y) →
    (∀ pre x W1, J pre W1 → pre.length < N → Sp (pre ++ [x]) → YieldAt F (n - 1) P l (encs x) W1 fun e W' =>
      (e = .returned (.bool true) ∧ J (pre ++ [x]) W' ∧ Kp W1 W') ∨ (e = .returned (.bool false) ∧ Jx (pre ++ [x]) W')) →
    J [] W →
    CallsIn F n P g (#[.func (.yield l) #[] #[]] ++ lb) W fun e W' => (∃ v, e = .returned v) ∧ ((∃ xs, S xs ∧ J xs W') ∨ (∃ pre, Sp pre ∧ Jx pre W'))

theorem wpIn_rangeFunc_mv {α : Type} {g : Operand} {ps : Array Tmp} {assign body : Code} {Q : Exit → Act → World → Prop} {a : Act} {w : World}
    (hro : F.round = none) (h1 : 1 ≤ n) {gf : Nat} {lb : Array Value} (hg : a.eval g = .func (.func gf) #[] lb) (hFg : F.fn gf) (eg : ∀ args w, (callFunc gf args).run P w = .ok (.enter gf args) w)
    {encs : α → Array Value} {Kp Mv : World → World → Prop} {S Sp : List α → Prop} {N : Nat} (hseq : SeqMv F (n - 1) P gf lb encs Kp Mv S Sp N w)
    (hKt : ∀ {A B C : World}, Kp A B → Kp B C → Kp A C) (hKb : ∀ (W : World) (l : Nat) (o' : Obj), w.heap.size ≤ l → Kp W (W.putObj l o')) (hps : ∀ x, (encs x).size = ps.size)
    (I : List α → World → Prop) (Ix : Code → List α → World → Prop) (hI : OwnFrom w.heap.size I) (hIx : ∀ c, OwnFrom w.heap.size (Ix c)) (hIm : ∀ s X Y, I s X → Mv X Y → I s Y) (hMk : ∀ (X Y : World) (k : Nat), w.heap.size ≤ k → Mv X Y → Y.heap[k]? = X.heap[k]?) (h0 : I [] w) (a₁ : α → Act)
    (hassign : ∀ (l : Nat) (x : α) (W : World) (K : Act → World → Prop), K (a₁ x) W →
      assign.wpIn (F.inRound l) (n - 1 - 1) P (Exit.then K (fun _ _ _ => False)) { tmps := (ps.zip (encs x)).foldl (fun t (p, v) => t.setIfInBounds p v) a.tmps, defers := [] } W)
    (hbody : ∀ (l : Nat) (pre : List α) (x : α) (W : World), I pre W → pre.length < N → Sp (pre ++ [x]) → body.wpIn (F.inRound l) (n - 1 - 1) P (ownPostG w.heap.size Kp I Ix (pre ++ [x]) W) (a₁ x) W)
    (hdone : ∀ (D : Nat) (xs : List α) (W : World), w.heap.size ≤ D → S xs → I xs W → W.heap[D]? = some (.deferred (some [])) → Q .normal { a with defers := { target := .collected D, args := #[] } :: a.defers } W)
    (hstop : ∀ (D : Nat) (c : Code) (pre : List α) (W : World), w.heap.size ≤ D → Sp pre → Ix c pre W → W.heap[D]? = some (.deferred (some [])) → c.wpIn F n P Q { a with defers := { target := .collected D, args := #[] } :: a.defers } W) :
    (Code.rangeFunc g ps assign body).wpIn F n P Q a w := by
  refine wpIn_rangeFunc fun fn hfn => ?_
  rw [hro]
  -- the loop's record, by its state and its pending jump
  let lp : LoopState → Option Code → Loop := fun st pe => { state := st, pending := pe, fn, tmps := a.tmps, params := ps, assign, body, defers := w.heap.size }
  have hlp : ∀ st pe, lp st pe = { state := st, pending := pe, fn, tmps := a.tmps, params := ps, assign, body, defers := w.heap.size } := fun _ _ => rfl
  obtain ⟨B, hB⟩ : ∃ B, B = w.heap.size := ⟨_, rfl⟩
  obtain ⟨V, hV⟩ : ∃ V, V = (w.alloc (.deferred (some []))).alloc (.loop (lp .ready none)) := ⟨_, rfl⟩
  have vsz : V.heap.size = B + 2 := by rw [hV, hB]; simp
  have vloop : V.heap[B + 1]? = some (.loop (lp .ready none)) := by
    have h := World.alloc_heap_new (w.alloc (.deferred (some []))) (.loop (lp .ready none))
    rw [World.size_alloc, ← hV, ← hB] at h; exact h
  have vdef : V.heap[B]? = some (.deferred (some [])) := by
    rw [hV, hB]; exact (Below.heap_alloc _ _ _ (by simp)).trans (World.alloc_heap_new w _)
  have vI : I [] V := by rw [hV]; exact hI.alloc _ (hI.alloc _ h0)
  have vb : Below w.heap.size w V := by rw [hV]; exact ((Below.refl _ w).alloc (Nat.le_refl _) _).alloc (by simp) _
  rw [← hB] at hI hIx hMk hbody hdone hstop hKb
  -- what holds between two rounds, and where one has said that it is enough
  let J : List α → World → Prop := fun s W => I s W ∧ W.heap[B + 1]? = some (.loop (lp .ready none)) ∧ W.heap[B]? = some (.deferred (some []))
  let Jx : List α → World → Prop := fun s W => ∃ c, Ix c s W ∧ W.heap[B + 1]? = some (.loop (lp .done (some c))) ∧ W.heap[B]? = some (.deferred (some []))
  have walkNot : ∀ {A : World} {row : Option Nat}, (∀ r, row = some r → V.heap.size ≤ r ∧ ∃ o : Obj, A.heap[r]? = some o ∧ o.isWalk = true) → (∀ r, row = some r → B ≤ r ∧ ∃ o : Obj, A.heap[r]? = some o ∧ o.isCells = false) :=
    fun h r e => by
      obtain ⟨h1, o, ho, hw⟩ := h r e
      exact ⟨by omega, o, ho, Obj.not_cells_of_walk hw⟩
  have hJ : AbidesFrom V.heap.size J := fun s X Y row hs hg hr =>
    ⟨hI s X Y row hs.1 hg (walkNot hr), (grownBy_keeps hg (fun r e => (hr r e).2) hs.2.1 rfl).trans hs.2.1, (grownBy_keeps hg (fun r e => (hr r e).2) hs.2.2 rfl).trans hs.2.2⟩
  have hJm : ∀ s X Y, J s X → Mv X Y → J s Y := fun s X Y hs hm =>
    ⟨hIm s X Y hs.1 hm, (hMk X Y _ (by omega) hm).trans hs.2.1, (hMk X Y _ (Nat.le_refl _) hm).trans hs.2.2⟩
  refine ⟨B + 1, [{ target := .collected B, args := #[] }], V, { target := .fn (.func gf) lb, args := #[.func (.yield (B + 1)) #[] #[]] }, V, gf, #[.func (.yield (B + 1)) #[] #[]] ++ lb, V, ?_, ?_, ?_, ?_, fun _ => h1, ?_⟩
  · rw [hV, hB]; exact run_enterLoop_outer _ _ _ _ _
  · simp only [resolve, hg]; simp [go_sem]
  · intro f' hf'; simp [Target.leads] at hf'; subst hf'; exact hFg
  · simp [invoke, go_sem, eg]
  refine (hseq (B + 1) J Jx V vb hJ hJm ?_ ⟨vI, vloop, vdef⟩).mono ?_
  · rintro pre x W ⟨hi, hl, hk⟩ hlen hsp
    have hlt : B + 1 < W.heap.size := (Array.getElem?_eq_some_iff.1 hl).1
    have hy := run_yield (P := P) (args := encs x) hl (by rw [hlp]; exact hps x)
    rw [hlp] at hy
    refine ⟨fn, _, assign, body, hy, roundIn_of_wpIn hfn (hassign _ x W _ ⟨_, run_beginRound hl (by rw [hlp]), ?_⟩)⟩
    obtain ⟨Wb, hWb⟩ : ∃ Wb, Wb = W.putObj (B + 1) (.loop { lp .ready none with state := .busy }) := ⟨_, rfl⟩
    have bl : Wb.heap[B + 1]? = some (.loop { lp .ready none with state := .busy }) := by rw [hWb]; exact World.putObj_heap_same hlt
    have bd : Wb.heap[B]? = some (.deferred (some [])) := by rw [hWb]; exact (World.putObj_heap_other (by omega)).trans hk
    have bk : Kp W Wb := by rw [hWb]; exact hKb _ _ _ (by omega)
    have bi : I pre Wb := by rw [hWb]; exact hI.putObj _ hi (by omega) hl rfl
    rw [← hWb]
    refine wpIn_mono (hbody _ pre x _ bi hlen hsp) ?_
    have fin : ∀ (jump : Option Code) (W3 : World), KeepsFrom B Wb W3 →
        (Instr.endRound (B + 1) jump).run P W3 = .ok (.bool jump.isNone) (W3.putObj (B + 1) (.loop (lp (if jump.isNone then .ready else .done) jump))) ∧
        W3.heap[B + 1]? = some (.loop { lp .ready none with state := .busy }) ∧
        (W3.putObj (B + 1) (.loop (lp (if jump.isNone then .ready else .done) jump))).heap[B + 1]? = some (.loop (lp (if jump.isNone then .ready else .done) jump)) ∧
        (W3.putObj (B + 1) (.loop (lp (if jump.isNone then .ready else .done) jump))).heap[B]? = some (.deferred (some [])) := fun jump W3 hk3 => by
      have h3 := hk3.same _ _ (by omega) bl rfl
      have hr := run_endRound (P := P) jump h3
      exact ⟨hr, h3, World.putObj_heap_same (Array.getElem?_eq_some_iff.1 h3).1, (World.putObj_heap_other (by omega)).trans (hk3.same _ _ (Nat.le_refl _) bd rfl)⟩
    have left : ∀ (c : Code) (W3 : World), KeepsFrom B Wb W3 → Ix c (pre ++ [x]) W3 → ∃ v W4, (Instr.endRound (B + 1) (some c)).run P W3 = .ok v W4 ∧ v = .bool false ∧ Jx (pre ++ [x]) W4 := fun c W3 hk3 hi3 => by
      obtain ⟨hr, h3, h4, h5⟩ := fin (some c) W3 hk3
      exact ⟨_, _, hr, rfl, c, (hIx _).putObj _ hi3 (by omega) h3 rfl, h4, h5⟩
    rintro e a3 W3 hp
    cases e with
    | normal =>
      obtain ⟨hk3, hkp, hi3⟩ := hp
      obtain ⟨hr, h3, h4, h5⟩ := fin none W3 hk3
      exact ⟨_, _, hr, .inl ⟨rfl, ⟨hI.putObj _ hi3 (by omega) h3 rfl, h4, h5⟩, hKt (hKt bk hkp) (hKb _ _ _ (by omega))⟩⟩
    | ret => obtain ⟨v, W4, hr, rfl, hx⟩ := left _ _ hp.1 hp.2; exact ⟨_, _, hr, .inr ⟨rfl, hx⟩⟩
    | exit id => obtain ⟨v, W4, hr, rfl, hx⟩ := left _ _ hp.1 hp.2; exact ⟨_, _, hr, .inr ⟨rfl, hx⟩⟩
    | goto t => obtain ⟨v, W4, hr, rfl, hx⟩ := left _ _ hp.1 hp.2; exact ⟨_, _, hr, .inr ⟨rfl, hx⟩⟩
    | panic ch => exact hp.elim
    | outgrown => exact hp.elim
  · rintro e W2 ⟨⟨v, rfl⟩, (⟨xs, hS, hi, hl, hk⟩ | ⟨pre, hSp, c, hi, hl, hk⟩)⟩
    · exact ⟨none, _, run_endLoop (P := P) hl (by rw [hlp]; simp), hdone _ xs _ (Nat.le_refl _) hS (hI.putObj _ hi (by omega) hl rfl) ((World.putObj_heap_other (by omega)).trans hk)⟩
    · exact ⟨some c, _, run_endLoop (P := P) hl (by rw [hlp]; simp), hstop _ c pre _ (Nat.le_refl _) hSp ((hIx c).putObj _ hi (by omega) hl rfl) ((World.putObj_heap_other (by omega)).trans hk)⟩
end Go.Proofs.YtgoandhlcekmiaaGreatDoor

namespace Go.Proofs.YtgoandhlcekmiaaGreatDoor
open Go.RowKit Go.Shelf

theorem rowsIn_wideRound {P : Program} {row : String} {args : Array Value} {w : World} {R : Value → World → Prop} {l n : Nat} (h : Rows P row args w R) : RowsIn (Fence.wide.inRound l) n P row args w R := by
  intro c cs _
  obtain ⟨v, w', r, s⟩ := h c cs
  exact ⟨v, w', r, stepsIn_wide.2 s⟩
theorem wpIn_of_wp_round {P : Program} {l n : Nat} {o : Oper} {a : Act} {w : World} {K : Act → World → Prop} {Q : Exit → Act → World → Prop} (hnd : ∀ c, o.op ≠ .defer c) (h : o.wp P a w K Q) :
    o.wpIn (Fence.wide.inRound l) n P a w K Q := by
  refine ⟨fun _ _ => trivial, ?_⟩
  rw [Fence.inRound_round, Oper.semAt_some l _ _ hnd]
  unfold Oper.wp at h
  generalize (execOp a.eval o).run P w = r at *
  cases r with
  | ok x w' =>
    cases x <;> simp only [Oper.upon, Oper.uponIn] at h ⊢ <;>
      first
        | exact h
        | exact ⟨fun hd => by simp [Fence.wide] at hd, CallsIn.inRound l (callsIn_wide.2 h)⟩
        | exact ⟨fun hd => by simp [Fence.wide] at hd, rowsIn_wideRound h⟩
  | halt x w' => cases x <;> simp only [Oper.upon, Oper.uponIn] at h ⊢ <;> exact h
theorem wpAnyIn_round {P : Program} {l n : Nat} {md : Region.Mode} {ops : Array Oper} {Q : Exit → Act → World → Prop} (hnd : ∀ (i : Nat) (o : Oper) c, ops[i]? = some o → o.op ≠ .defer c) (hno : ¬ LetsOut Q) :
    ∀ (fuel : Nat) (listed : Array Bool) (a : Act) (w : World), wpAny P md ops Q fuel listed a w → wpAnyIn (Fence.wide.inRound l) n P md ops Q fuel listed a w
  | 0, _, _, _, h => h
  | fuel + 1, listed, a, w, h => by
    refine ⟨h.1, fun i hi => ?_⟩
    have h2 := h.2 i hi
    unfold wpOp at h2
    unfold wpOpIn
    split
    · rename_i ho
      simp only [ho] at h2
      exact wpAnyIn_round hnd hno fuel _ _ _ h2
    · rename_i o ho
      simp only [ho] at h2
      split
      · rename_i hw
        simp only [hw, if_true] at h2
        rcases h2 with h2 | h2
        · exact wpIn_of_wp_round (fun c => hnd i o c ho) (Oper.wp_mono (fun a w hk => wpAnyIn_round hnd hno fuel _ a w hk) h2)
        · exact absurd h2.2 hno
      · rename_i hw
        simp only [hw] at h2
        exact ⟨fun _ _ => trivial, wpAnyIn_round hnd hno fuel _ _ _ h2⟩
/-- A region that draws its order, within a round at the wide fence, by the laws of the plain one. -/
theorem wpIn_round_held {P : Program} {l n id : Nat} {ops : Array Oper} {Q : Exit → Act → World → Prop} {S : World → Prop} {a : Act} {w : World} (hm : P.follows .mixedOrders = true)
    (hnd : ops.toList.all (fun o => match o.op with | .defer _ => false | _ => true) = true) (hno : ¬ LetsOut Q) (hS : S w.drew)
    (h : S w.drew → wpAnyH P .any ops Q S ops.size (Array.replicate ops.size false) a w.drew) : (Code.region id ops true).wpIn (Fence.wide.inRound l) n P Q a w := by
  refine wpIn_region_any hm (wpAnyIn_round (fun i o c ho e => ?_) hno _ _ _ _ (wpAny_of_held _ _ _ _ (h hS)))
  have h1 := List.all_eq_true.1 hnd o (List.mem_of_getElem? (by rw [← ho, Array.getElem?_toList]))
  rw [e] at h1
  cases h1
theorem ownPostG_stays {α : Type} {B : Nat} {Kp : World → World → Prop} {I : List α → World → Prop} {Ix : Code → List α → World → Prop} {xs : List α} {W : World} : ¬ LetsOut (ownPostG B Kp I Ix xs W) := fun ⟨_, _, h⟩ => h
theorem then_stays {K : Act → World → Prop} {Q : Exit → Act → World → Prop} (h : ¬ LetsOut Q) : ¬ LetsOut (Exit.then K Q) := fun ⟨a, w, hq⟩ => h ⟨a, w, hq⟩

theorem wpIn_hide2 {F : Fence} {n : Nat} {P : Program} {c : Code} {Q : Exit → Act → World → Prop} {a : Act} {w : World} (h : ∀ Q' : Exit → Act → World → Prop, (∀ e a w, Q e a w → Q' e a w) → c.wpIn F n P Q' a w) : c.wpIn F n P Q a w := h Q (fun _ _ _ q => q)
section
variable {P : Program} {ops : Array Oper} {Q : Exit → Act → World → Prop} {md : Region.Mode} {S : World → Prop}
theorem takeL {i : Nat} {oi : Oper} {v : Value} {fuel : Nat} {listed : Array Bool} {a : Act} {w : World} (hi : ops.toList[i]? = some oi)
    (hs : Region.noSelect ops = true) (hf : Region.free md ops listed i = true) (hr : (Region.ready md ops listed).contains i = true)
    (hQ : ∀ c a w, Q (.panic c) (a.put oi.dst v) w → Q (.panic c) a w) (hy : YieldsIf P ops S oi v a) (hS : S w)
    (h : wpAnyH P md ops Q S fuel (listed.setIfInBounds i true) (a.put oi.dst v) w) : wpAnyH P md ops Q S (fuel + 1) listed a w :=
  wpAnyH_take (by rw [← Array.getElem?_toList]; exact hi) hs hf hr hQ hy hS h
theorem consL {fuel : Nat} {listed : Array Bool} {a : Act} {w : World} {i : Nat} {o : Oper} {rs : List Nat} (ho : ops.toList[i]? = some o)
    (h : ∀ K' : Act → World → Prop, Shut (∀ a w, S w → (S w → wpAnyH P md ops Q S fuel (listed.setIfInBounds i true) a w) → K' a w) → if Region.wanted o (yielded ops a.tmps) = true then Oper.wp P o a w K' Q else K' (a.put o.dst undef) w)
    (hs : AllReadyH P md ops Q S fuel listed a w rs) : AllReadyH P md ops Q S fuel listed a w (i :: rs) := AllReadyH.cons (by rw [← Array.getElem?_toList]; exact ho) h hs
end
theorem cell_alloc_keep {w : World} {a : Addr} {o : Obj} {v : Value} (h : w.cell? a = some v) : (w.alloc o).cell? a = some v := by rw [World.cell?_alloc_some _ _ _ (by rw [h]; try rfl), h]
/-- Marks of ranges over a function. -/
def marksOf (Ds : List Nat) : List Deferred := Ds.map fun D => { target := .collected D, args := #[] }
structure Marks (B : Nat) (Ds : List Nat) (w : World) : Prop where
  nodup : Ds.Nodup
  at_ : ∀ D, D ∈ Ds → B ≤ D ∧ w.heap[D]? = some (.deferred (some []))
theorem Marks.nil (B : Nat) (w : World) : Marks B [] w := ⟨List.nodup_nil, fun _ h => by cases h⟩
theorem Marks.kept {B : Nat} {Ds : List Nat} {w w' : World} (h : Marks B Ds w) (hk : ∀ D, D ∈ Ds → w'.heap[D]? = w.heap[D]?) : Marks B Ds w' := ⟨h.nodup, fun D hD => ⟨(h.at_ D hD).1, (hk D hD).trans (h.at_ D hD).2⟩⟩
theorem Marks.lt {B : Nat} {Ds : List Nat} {w : World} (h : Marks B Ds w) {D : Nat} (hD : D ∈ Ds) : D < w.heap.size := heap_lt (h.at_ D hD).2
theorem Marks.cons {B : Nat} {Ds : List Nat} {w : World} (h : Marks B Ds w) {D : Nat} (hB : B ≤ D) (hk : w.heap[D]? = some (.deferred (some []))) (hn : D ∉ Ds) : Marks B (D :: Ds) w :=
  ⟨List.nodup_cons.2 ⟨hn, h.nodup⟩, fun E hE => by
    rcases List.mem_cons.1 hE with rfl | hE
    · exact ⟨hB, hk⟩
    · exact h.at_ E hE⟩
/-- A function leaves past its marks. -/
theorem leaves_marks {F : Fence} {n : Nat} {P : Program} {fn : Func} {tmps : Array Value} {R : Ending → World → Prop} {B : Nat} {v : Value} : ∀ (Ds : List Nat) (w : World), Marks B Ds w →
    (∀ w', w.heap.size ≤ w'.heap.size → (∀ k, k < w.heap.size → k ∉ Ds → w'.heap[k]? = w.heap[k]?) → Below B w w' → (results fn tmps).run P w' = .ok v w' ∧ R (.returned v) w') →
    LeavesInM F n P fn tmps R (marksOf Ds) .returning w
  | [], w, _, h => by
    have h1 := h w (Nat.le_refl _) (fun _ _ _ => rfl) (Below.refl _ _)
    exact ⟨v, h1.1, h1.2⟩
  | D :: Ds, w, hm, h => by
    refine ⟨by simp, .inl ⟨D, _, rfl, run_takeDeferred (hm.at_ D (List.mem_cons_self)).2, ?_⟩⟩
    have hD := List.nodup_cons.1 hm.nodup
    have hBD := (hm.at_ D (List.mem_cons_self)).1
    have hsz : (w.putObj D (.deferred none)).heap.size = w.heap.size := by simp [World.putObj]
    refine leaves_marks Ds _ ⟨hD.2, fun E hE => ⟨(hm.at_ E (List.mem_cons_of_mem _ hE)).1, (World.putObj_heap_other (fun e => hD.1 (by rw [← e]; exact hE))).trans (hm.at_ E (List.mem_cons_of_mem _ hE)).2⟩⟩ (fun w' hs hk hb => h w' (by rw [← hsz]; exact hs) (fun k hlt hn => ?_) ?_)
    · rw [hk k (by rw [hsz]; exact hlt) (fun e => hn (List.mem_cons_of_mem _ e))]
      exact World.putObj_heap_other (fun e => hn (by rw [e]; exact List.mem_cons_self))
    · exact Below.trans (⟨rfl, rfl, rfl, by simp [World.putObj], fun k hk => World.putObj_heap_other (fun e => by omega)⟩ : Below B w (w.putObj D (.deferred none))) hb
theorem OwnR.kept {α : Type} {n : Nat} {E : TypeId} {g : α → List Int} {w w' : World} {B : Nat} {v : Value} {L : List α} (h : OwnR n E g w B v L) {row : Option Nat} (hg : w.grownBy w' row) (hr : ∀ r, row = some r → ∃ o : Obj, w.heap[r]? = some o ∧ o.isCells = false) : OwnR n E g w' B v L :=
  h.grown hg fun q e e2 => by
    obtain ⟨cs, hc⟩ := own_block h q e
    obtain ⟨o, ho, hf⟩ := hr q e2.symm
    rw [hc] at ho; cases ho; cases hf
theorem own_ne {α : Type} {n : Nat} {E T : TypeId} {g : α → List Int} {w : World} {B b : Nat} {v : Value} {L : List α} {cs : Array Value} (h : OwnR n E g w B v L) (hb : BoxAt w b cs T) (hE : E ≠ T) : v.ownBlock ≠ some b := fun e => by
  obtain ⟨c2, h2⟩ := own_block h b e
  rw [hb] at h2; injection h2 with h2; injection h2 with _ h2; exact hE h2.symm
theorem box_kept {w w' : World} {b : Nat} {cs : Array Value} {T : TypeId} (h : BoxAt w b cs T) {row : Option Nat} (hg : w.grownBy w' row) (hr : ∀ r, row = some r → ∃ o : Obj, w.heap[r]? = some o ∧ o.isCells = false) : BoxAt w' b cs T :=
  h.grown hg fun e => by
    obtain ⟨o, ho, hf⟩ := hr b e.symm
    rw [show w.heap[b]? = _ from h] at ho; cases ho; cases hf
theorem keeps_below {B : Nat} {W W' : World} (h : Below W.heap.size W W') : KeepsFrom B W W' := ⟨h.size, fun q _ _ hq _ => (h.block q (heap_lt hq)).trans hq⟩
end Go.Proofs.YtgoandhlcekmiaaGreatDoor

namespace Go.Proofs.YtgoandhlcekmiaaGreatDoor
open Go.RowKit Go.Shelf
attribute [local go_sem] Oper.semAt_some

/-- The lines of some words between line feeds. -/
def linesP : List (List UInt8) → List (List UInt8)
  | [] => []
  | [x] => if x = [] then [] else [x]
  | x :: y :: r => (x ++ [10]) :: linesP (y :: r)
def linesL (t : List UInt8) : List (List UInt8) := linesP (splitOn 10 t)
theorem linesL_nil : linesL [] = [] := rfl
theorem linesL_cut {a b : List UInt8} (h : ∀ c ∈ a, c ≠ 10) : linesL (a ++ 10 :: b) = (a ++ [10]) :: linesL b := by
  unfold linesL
  rw [split_app h]
  cases hb : splitOn 10 b with
  | nil => exact absurd hb (splitOn_ne 10 b)
  | cons y r => rfl
theorem linesL_last {t : List UInt8} (h0 : t ≠ []) (h : ∀ c ∈ t, c ≠ 10) : linesL t = [t] := by
  unfold linesL
  rw [split_clean h]
  show (if t = [] then [] else [t]) = _
  rw [if_neg h0]
theorem idx_none {m : UInt8} {l : List UInt8} (h : Lib.indexByte l m < 0) : ∀ c ∈ l, c ≠ m := by
  have h1 := Lib.indexByte_ge l m
  have h2 := Lib.indexByte_none (l := l) (c := m) (by omega)
  rintro c hc rfl
  obtain ⟨k, hk, e⟩ := List.mem_iff_getElem.1 hc
  exact h2 k (by rw [List.getElem?_eq_getElem hk, e])
theorem idx_some {m : UInt8} {l : List UInt8} {j : Nat} (h : Lib.indexByte l m = j) : j < l.length ∧ (∀ c ∈ l.take j, c ≠ m) ∧ l = l.take j ++ m :: l.drop (j + 1) := by
  obtain ⟨h1, h2⟩ := Lib.indexByte_some h
  obtain ⟨hj, e⟩ := List.getElem?_eq_some_iff.1 h1
  refine ⟨hj, ?_, ?_⟩
  · rintro c hc rfl
    obtain ⟨k, hk, e2⟩ := List.mem_iff_getElem.1 hc
    rw [List.length_take] at hk
    rw [List.getElem_take] at e2
    exact h2 k (by omega) (by rw [List.getElem?_eq_getElem (by omega), e2])
  · have h3 : l.drop j = m :: l.drop (j + 1) := by rw [List.drop_eq_getElem_cons hj, e]
    rw [← h3, List.take_append_drop]
abbrev TxS := { x : ByteArray // x.size ≤ 100000 }
def txs (l : List TxS) : List (List UInt8) := l.map (·.1.data.toList)
theorem txs_app (a b : List TxS) : txs (a ++ b) = txs a ++ txs b := List.map_append
def strAt (b : Nat) (W : World) : Nat := match W.cell? ⟨b, 0, none⟩ with
  | some (.string s) => s.size
  | _ => 0
theorem strAt_box {b : Nat} {W : World} {s : ByteArray} {T : TypeId} (h : BoxAt W b #[.string s] T) : strAt b W = s.size := by
  unfold strAt; rw [h.cell 0]; try rfl
def MvB (b : Nat) (W W' : World) : Prop := ∃ v, W' = W.setCell ⟨b, 0, none⟩ v
theorem grown_drew (W : World) : W.grownBy W.drew none := ⟨rfl, rfl, rfl, Nat.le_refl _, fun _ _ _ => rfl⟩
def KpB (b : Nat) (W W' : World) : Prop := W'.heap[b]? = W.heap[b]?
set_option maxRecDepth 100000 in
set_option maxHeartbeats 1000000 in
theorem lines1_any (s : ByteArray) (b l n : Nat) (J Jx : List TxS → World → Prop) (W : World)
    (hb : BoxAt W b #[.string s] 9) (hs : s.size ≤ 100000) (hJ : AbidesFrom W.heap.size J) (hJm : ∀ q X Y, J q X → MvB b X Y → J q Y)
    (hY : ∀ pre x W1, J pre W1 → pre.length < s.size + 1 → (∃ r, txs (pre ++ [x]) ++ r = linesL s.data.toList) → YieldAt Fence.wide (n - 1) Tryz.prog l #[.string (x : TxS).1] W1 fun e W' =>
      (e = .returned (.bool true) ∧ J (pre ++ [x]) W' ∧ KpB b W1 W') ∨ (e = .returned (.bool false) ∧ Jx (pre ++ [x]) W'))
    (hj0 : J [] W) :
    CallsIn Fence.wide n Tryz.prog 62 #[.func (.yield l) #[] #[], .pointer (some ⟨b, 0, none⟩)] W fun e W' => (∃ v, e = .returned v) ∧
      ((∃ ys, txs ys = linesL s.data.toList ∧ J ys W') ∨ (∃ pre, (∃ r, txs pre ++ r = linesL s.data.toList) ∧ Jx pre W')) := by
  have HJ := Lib.hid hJ; have HM := Lib.hid hJm; have HY := Lib.hid hY
  clear hJ hJm hY
  refine callsIn_of_wp Tryz.func62 rfl trivial ?_ rfl
  simp only [Tryz.ntmps62, List.size_toArray, List.length_cons, List.length_nil, Nat.reduceAdd, Nat.reduceSub, Array.replicate_succ, Array.replicate_zero, List.push_toArray, List.append_toArray, List.nil_append, List.cons_append]
  have hbl := hb.lt
  gi_wp2
  gi_loopw [] (fun wr => ∃ (pre : List TxS) (t : ByteArray), t.size + pre.length ≤ s.size ∧ BoxAt wr b #[.string t] 9 ∧ J pre wr ∧ Hid (linesL s.data.toList = txs pre ++ linesL t.data.toList)) (fun wr => strAt b wr)
  case atStart => exact ⟨[], s, by simp, hb, hj0, Lib.hid rfl⟩
  case round =>
    obtain ⟨pre, t, hle, bx, hj, HL⟩ := hrel
    have c0 := bx.cell 0
    have f0 := bx.free 0
    have hlt := bx.lt
    simp at c0
    by_cases h0 : t.size = 0
    · have ht0 : t.data.toList = [] := List.length_eq_zero_iff.1 (by rw [Array.length_toList]; exact h0)
      have HE := Lib.hid (show txs pre = linesL s.data.toList by rw [HL.out, ht0, linesL_nil, List.append_nil])
      have hI : ¬ (t.size : Int) > 0 := by omega
      clear h0 ht0
      gi_wp2
      go_end0
      exact ⟨⟨_, rfl⟩, .inl ⟨pre, HE.out, hj⟩⟩
    · have hI : (t.size : Int) > 0 := by omega
      have HIX := Lib.hid (fun W => Tryz.strings_IndexByte t 10 W)
      obtain ⟨ix, hix⟩ : ∃ ix, Lib.indexByte t.data.toList 10 = ix := ⟨_, rfl⟩
      have HIX2 : Hid (∀ W, Calls Tryz.prog 63 #[.string t, .int .u8 10] W fun e w' => e = .returned (.int .i64 ix) ∧ w' = W) := Lib.hid (fun W => (HIX.out W).mono fun e w' h => ⟨by rw [h.1, ← hix]; try rfl, h.2⟩)
      clear HIX
      by_cases h1 : ix < 0
      · have HA := Lib.hid (idx_none (l := t.data.toList) (m := 10) (by rw [hix]; exact h1))
        have HLL := Lib.hid (show linesL s.data.toList = txs pre ++ [t.data.toList] by rw [HL.out, linesL_last (fun e => h0 (by show t.data.size = 0; rw [← Array.length_toList, e]; try rfl)) HA.out])
        have h1' : ¬ ix ≥ 0 := by omega
        clear hix
        obtain ⟨x, hx⟩ : ∃ x : TxS, x.1 = t := ⟨⟨t, by omega⟩, rfl⟩
        have hjm := HM.out _ _ _ hj ⟨.string ⟨#[]⟩, rfl⟩
        obtain ⟨fn, tmps, assign, body, hy, hR⟩ := HY.out pre x _ hjm (by omega) ⟨[], by rw [List.append_nil, txs_app, HLL.out, ← hx]; try rfl⟩
        rw [hx] at hy
        have bx2 := bx.set 0 (.string ⟨#[]⟩)
        gi_wp2_with (refine ⟨trivial, fun h => (by simp [Fence.wide] at h), ?_⟩; refine (callsIn_wide.2 (HIX2.out _)).mono ?_; rintro e w' ⟨rfl, rfl⟩)
        refine ⟨fun h => (by simp [Fence.wide] at h), hR.mono ?_⟩
        rintro e W3 (⟨rfl, hJ3, hk3⟩ | ⟨rfl, hJx3⟩)
        · have bx3 : BoxAt W3 b #[.string ⟨#[]⟩] 9 := Eq.trans hk3 bx2
          gi_wp2
          go_roundw
          case rel => exact ⟨pre ++ [x], ⟨#[]⟩, by rw [List.length_append]; show 0 + (pre.length + 1) ≤ s.size; omega, bx3, hJ3, by rw [txs_app]; show Hid (_ = (txs pre ++ [x.1.data.toList]) ++ []); rw [hx, List.append_nil]; exact HLL⟩
          case measure => rw [strAt_box bx3, strAt_box bx]; show 0 < t.size; omega
        · gi_wp2
          refine bodyPost_ret (results_none rfl _ _ _) rfl ?_
          exact ⟨⟨_, rfl⟩, .inr ⟨_, ⟨[], by rw [List.append_nil, txs_app, HLL.out, ← hx]; try rfl⟩, hJx3⟩⟩
      · obtain ⟨j, rfl⟩ : ∃ j : Nat, ix = j := ⟨ix.toNat, by omega⟩
        obtain ⟨hjl, hno, hsplit⟩ := idx_some hix
        rw [Array.length_toList] at hjl
        have hjs : j < t.size := hjl
        obtain ⟨x, hx⟩ : ∃ x : TxS, x.1 = t.extract 0 (j + 1) := ⟨⟨t.extract 0 (j + 1), by have := @ByteArray.size_extract t 0 (j + 1); have h7 := Nat.min_le_right (j + 1) t.size; omega⟩, rfl⟩
        have hxl : x.1.data.toList = t.data.toList.take j ++ [10] := by
          obtain ⟨hj5, e5⟩ := List.getElem?_eq_some_iff.1 (Lib.indexByte_some hix).1
          rw [hx, ext_bytes, List.drop_zero, List.take_succ_eq_append_getElem hj5, e5]
        have HLL := Lib.hid (show linesL s.data.toList = txs (pre ++ [x]) ++ linesL (t.extract (j + 1) t.size).data.toList by
          rw [HL.out, txs_app, ext_bytes, List.take_of_length_le (by rw [Array.length_toList]; exact Nat.le_refl _)]
          conv => lhs; rw [hsplit, linesL_cut hno]
          rw [List.append_assoc]
          show _ = txs pre ++ ([x.1.data.toList] ++ _)
          rw [hxl]; try rfl)
        have hjm := fun W (hh : J pre W) => HM.out _ _ _ hh ⟨.string (t.extract (j + 1) t.size), rfl⟩
        have hj1 : ((j : Nat) : Int) + 1 ≤ (t.size : Int) := by omega
        have hj0' : ¬ ((j : Nat) : Int) < 0 := by omega
        have bx2 := bx.set 0 (.string (t.extract (j + 1) t.size))
        have HXL := Lib.hid hxl
        clear hix hsplit hno hxl
        gi_wp2_with (refine ⟨trivial, fun h => (by simp [Fence.wide] at h), ?_⟩; refine (callsIn_wide.2 (HIX2.out _)).mono ?_; rintro e w' ⟨rfl, rfl⟩)
        refine wpIn_wide.2 ?_
        go_region
        have hjd := HJ.out _ _ _ none (hjm _ hj) (grown_drew _) (fun r e => by cases e)
        obtain ⟨fn, tmps, assign, body, hy, hR⟩ := HY.out pre x _ hjd (by omega) ⟨_, HLL.out.symm⟩
        rw [hx] at hy
        gi_wp2
        refine ⟨fun h => (by simp [Fence.wide] at h), hR.mono ?_⟩
        rintro e W3 (⟨rfl, hJ3, hk3⟩ | ⟨rfl, hJx3⟩)
        · have bx3 : BoxAt W3 b #[.string (t.extract (j + 1) t.size)] 9 := Eq.trans hk3 bx2
          have hz : (t.extract (j + 1) t.size).size + (j + 1) = t.size := by have := @ByteArray.size_extract t (j + 1) t.size; rw [Nat.min_self] at this; omega
          gi_wp2
          go_roundw
          case rel => exact ⟨pre ++ [x], t.extract (j + 1) t.size, by rw [List.length_append]; simp; omega, bx3, hJ3, HLL⟩
          case measure => rw [strAt_box bx3, strAt_box bx]; omega
        · gi_wp2
          refine bodyPost_ret (results_none rfl _ _ _) rfl ?_
          exact ⟨⟨_, rfl⟩, .inr ⟨_, ⟨_, HLL.out.symm⟩, hJx3⟩⟩
theorem lines_any (s : ByteArray) (w : World) :
    Calls Tryz.prog 33 #[.string s] w fun e w' => e = .returned (.func (.func 62) #[] #[.pointer (some ⟨w.heap.size, 0, none⟩)]) ∧ w' = w.alloc (.cells #[.string s] 9) := by
  go_enter Tryz.func33, Tryz.ntmps33
  go_wp2
  go_ret
  exact ⟨rfl, rfl⟩
theorem lines_mv (s : ByteArray) (b n : Nat) (w : World) (hb : BoxAt w b #[.string s] 9) (hs : s.size ≤ 100000) :
    SeqMv Fence.wide n Tryz.prog 62 #[.pointer (some ⟨b, 0, none⟩)] (fun x : TxS => #[.string x.1]) (KpB b) (MvB b) (fun ys => txs ys = linesL s.data.toList) (fun pre => ∃ r, txs pre ++ r = linesL s.data.toList) (s.size + 1) w :=
  fun l J Jx W hW hJ hJm hY hj0 => lines1_any s b l n J Jx W (hb.below hW) hs hJ hJm hY hj0
end Go.Proofs.YtgoandhlcekmiaaGreatDoor

namespace Go.Proofs.YtgoandhlcekmiaaGreatDoor
open Go.RowKit Go.Shelf
attribute [local go_sem] Oper.semAt_some

def KpT (b1 b2 b3 : Nat) (W W' : World) : Prop := W'.heap[b1]? = W.heap[b1]? ∧ W'.heap[b2]? = W.heap[b2]? ∧ W'.heap[b3]? = W.heap[b3]?
set_option maxRecDepth 100000 in
set_option maxHeartbeats 1000000 in
theorem splitSeq1_any (s : ByteArray) (m : UInt8) (b1 b2 b3 l n : Nat) (J Jx : List TxS → World → Prop) (W : World)
    (hb1 : BoxAt W b1 #[.string ⟨#[m]⟩] 9) (hb2 : BoxAt W b2 #[.string s] 9) (hb3 : BoxAt W b3 #[.int .i64 0] 3) (h12 : b1 ≠ b2) (h32 : b3 ≠ b2) (hs : s.size ≤ 100000) (hJ : AbidesFrom W.heap.size J) (hJm : ∀ q X Y, J q X → MvB b2 X Y → J q Y)
    (hY : ∀ pre x W1, J pre W1 → pre.length < s.size + 1 → (∃ r, txs (pre ++ [x]) ++ r = splitOn m s.data.toList) → YieldAt Fence.wide (n - 1) Tryz.prog l #[.string (x : TxS).1] W1 fun e W' =>
      (e = .returned (.bool true) ∧ J (pre ++ [x]) W' ∧ KpT b1 b2 b3 W1 W') ∨ (e = .returned (.bool false) ∧ Jx (pre ++ [x]) W'))
    (hj0 : J [] W) :
    CallsIn Fence.wide n Tryz.prog 99 #[.func (.yield l) #[] #[], .pointer (some ⟨b1, 0, none⟩), .pointer (some ⟨b2, 0, none⟩), .pointer (some ⟨b3, 0, none⟩)] W fun e W' => (∃ v, e = .returned v) ∧
      ((∃ ys, txs ys = splitOn m s.data.toList ∧ J ys W') ∨ (∃ pre, (∃ r, txs pre ++ r = splitOn m s.data.toList) ∧ Jx pre W')) := by
  have HJ := Lib.hid hJ; have HM := Lib.hid hJm; have HY := Lib.hid hY
  clear hJ hJm hY
  have hz1 : ((⟨#[m]⟩ : ByteArray).size : Int) = 1 := rfl
  have hz2 : (⟨#[m]⟩ : ByteArray).size = 1 := rfl
  obtain ⟨sep, hsep⟩ : ∃ sep, sep = (⟨#[m]⟩ : ByteArray) := ⟨_, rfl⟩
  rw [← hsep] at hz1 hz2 hb1
  have HSEP := Lib.hid hsep
  clear hsep
  have c1 := hb1.cell 0
  simp at c1
  refine callsIn_of_wp Tryz.func99 rfl trivial ?_ rfl
  simp only [Tryz.ntmps99, List.size_toArray, List.length_cons, List.length_nil, Nat.reduceAdd, Nat.reduceSub, Array.replicate_succ, Array.replicate_zero, List.push_toArray, List.append_toArray, List.nil_append, List.cons_append]
  gi_wp2
  gi_loopw [] (fun wr => ∃ (pre : List TxS) (t : ByteArray), t.size + pre.length ≤ s.size ∧ BoxAt wr b1 #[.string sep] 9 ∧ BoxAt wr b2 #[.string t] 9 ∧ BoxAt wr b3 #[.int .i64 0] 3 ∧ J pre wr ∧ Hid (splitOn m s.data.toList = txs pre ++ splitOn m t.data.toList)) (fun wr => strAt b2 wr)
  case atStart => exact ⟨[], s, by simp, hb1, hb2, hb3, hj0, Lib.hid rfl⟩
  case round =>
    obtain ⟨pre, t, hle, bx1, bx2, bx3, hj, HL⟩ := hrel
    clear c1 hb1 hb2 hb3 hj0
    have c1 := bx1.cell 0
    have c2 := bx2.cell 0
    have c3 := bx3.cell 0
    have f2 := bx2.free 0
    have hlt := bx2.lt
    simp at c1 c2 c3
    have HIX := Lib.hid (fun W => Tryz.strings_Index_one t m W)
    rw [← HSEP.out] at HIX
    obtain ⟨ix, hix⟩ : ∃ ix, Lib.indexByte t.data.toList m = ix := ⟨_, rfl⟩
    rw [hix] at HIX
    by_cases h1 : ix < 0
    · have HA := Lib.hid (idx_none (l := t.data.toList) (m := m) (by rw [hix]; exact h1))
      obtain ⟨x, hx⟩ : ∃ x : TxS, x.1 = t := ⟨⟨t, by omega⟩, rfl⟩
      have HLL := Lib.hid (show splitOn m s.data.toList = txs (pre ++ [x]) by rw [HL.out, split_clean HA.out, txs_app, ← hx]; try rfl)
      obtain ⟨fn, tmps, assign, body, hy, hR⟩ := HY.out pre x _ hj (by omega) ⟨[], by rw [List.append_nil]; exact HLL.out.symm⟩
      rw [hx] at hy
      clear hix
      gi_wp2_with (refine ⟨trivial, fun h => (by simp [Fence.wide] at h), ?_⟩; refine (callsIn_wide.2 (HIX.out _)).mono ?_; rintro e w' ⟨rfl, rfl⟩)
      refine ⟨fun h => (by simp [Fence.wide] at h), hR.mono ?_⟩
      rintro e W3 (⟨rfl, hJ3, hk3⟩ | ⟨rfl, hJx3⟩)
      · gi_wp2
        go_end0
        exact ⟨⟨_, rfl⟩, .inl ⟨_, HLL.out.symm, hJ3⟩⟩
      · gi_wp2
        go_end0
        exact ⟨⟨_, rfl⟩, .inr ⟨_, ⟨[], by rw [List.append_nil]; exact HLL.out.symm⟩, hJx3⟩⟩
    · obtain ⟨j, rfl⟩ : ∃ j : Nat, ix = j := ⟨ix.toNat, by omega⟩
      obtain ⟨hjl, hno, hsplit⟩ := idx_some hix
      rw [Array.length_toList] at hjl
      have hjs : j < t.size := hjl
      obtain ⟨x, hx⟩ : ∃ x : TxS, x.1 = t.extract 0 j := ⟨⟨t.extract 0 j, by have := @ByteArray.size_extract t 0 j; have h7 := Nat.min_le_right j t.size; omega⟩, rfl⟩
      have hxl : x.1.data.toList = t.data.toList.take j := by
        rw [hx, ext_bytes, List.drop_zero]
      have HLL := Lib.hid (show splitOn m s.data.toList = txs (pre ++ [x]) ++ splitOn m (t.extract (j + 1) t.size).data.toList by
        rw [HL.out, txs_app, ext_bytes, List.take_of_length_le (by rw [Array.length_toList]; exact Nat.le_refl _)]
        conv => lhs; rw [hsplit, split_app hno]
        rw [List.append_assoc]
        show _ = txs pre ++ ([x.1.data.toList] ++ _)
        rw [hxl]; try rfl)
      have hj1 : ((j : Nat) : Int) + 1 ≤ (t.size : Int) := by omega
      have hj2 : ((j : Nat) : Int) ≤ (t.size : Int) := by omega
      have hj0' : ¬ ((j : Nat) : Int) < 0 := by omega
      obtain ⟨fn, tmps, assign, body, hy, hR⟩ := HY.out pre x _ hj (by omega) ⟨_, HLL.out.symm⟩
      rw [hx] at hy
      clear hix hsplit hno hxl
      gi_wp2_with (refine ⟨trivial, fun h => (by simp [Fence.wide] at h), ?_⟩; refine (callsIn_wide.2 (HIX.out _)).mono ?_; rintro e w' ⟨rfl, rfl⟩)
      refine ⟨fun h => (by simp [Fence.wide] at h), hR.mono ?_⟩
      rintro e W3 (⟨rfl, hJ3, hk1, hk2, hk3⟩ | ⟨rfl, hJx3⟩)
      · have y1 : BoxAt W3 b1 #[.string sep] 9 := Eq.trans hk1 bx1
        have y2 : BoxAt W3 b2 #[.string t] 9 := Eq.trans hk2 bx2
        have y3 : BoxAt W3 b3 #[.int .i64 0] 3 := Eq.trans hk3 bx3
        have hz : (t.extract (j + 1) t.size).size + (j + 1) = t.size := by have := @ByteArray.size_extract t (j + 1) t.size; rw [Nat.min_self] at this; omega
        have d1 := y1.cell 0
        have d2 := y2.cell 0
        have g2 := y2.free 0
        simp at d1 d2
        have z2 := y2.set 0 (.string (t.extract (j + 1) t.size))
        have hjm := HM.out _ _ _ hJ3 ⟨.string (t.extract (j + 1) t.size), rfl⟩
        gi_wp2
        go_roundw
        case rel => exact ⟨pre ++ [x], t.extract (j + 1) t.size, by rw [List.length_append]; simp; omega, y1.set_other h12 _, z2, y3.set_other h32 _, hjm, HLL⟩
        case measure => rw [strAt_box z2, strAt_box bx2]; omega
      · gi_wp2
        refine bodyPost_ret (results_none rfl _ _ _) rfl ?_
        exact ⟨⟨_, rfl⟩, .inr ⟨_, ⟨_, HLL.out.symm⟩, hJx3⟩⟩
/-- The boxes that SplitSeq makes. -/
def SqW (w : World) (s : ByteArray) (m : UInt8) : World := ((w.alloc (.cells #[.string s] 9)).alloc (.cells #[.string ⟨#[m]⟩] 9)).alloc (.cells #[.int .i64 0] 3)
theorem splitSeq_any (s : ByteArray) (m : UInt8) (w : World) :
    Calls Tryz.prog 66 #[.string s, .string ⟨#[m]⟩] w fun e w' => e = .returned (.func (.func 99) #[] #[.pointer (some ⟨w.heap.size + 1, 0, none⟩), .pointer (some ⟨w.heap.size, 0, none⟩), .pointer (some ⟨w.heap.size + 1 + 1, 0, none⟩)]) ∧ w' = SqW w s m := by
  go_enter Tryz.func66, Tryz.ntmps66
  go_wp2
  go_ret
  exact ⟨rfl, rfl⟩
theorem splitSeq_mv (s : ByteArray) (m : UInt8) (b1 b2 b3 n : Nat) (w : World) (hb1 : BoxAt w b1 #[.string ⟨#[m]⟩] 9) (hb2 : BoxAt w b2 #[.string s] 9) (hb3 : BoxAt w b3 #[.int .i64 0] 3) (h12 : b1 ≠ b2) (h32 : b3 ≠ b2) (hs : s.size ≤ 100000) :
    SeqMv Fence.wide n Tryz.prog 99 #[.pointer (some ⟨b1, 0, none⟩), .pointer (some ⟨b2, 0, none⟩), .pointer (some ⟨b3, 0, none⟩)] (fun x : TxS => #[.string x.1]) (KpT b1 b2 b3) (MvB b2) (fun ys => txs ys = splitOn m s.data.toList) (fun pre => ∃ r, txs pre ++ r = splitOn m s.data.toList) (s.size + 1) w :=
  fun l J Jx W hW hJ hJm hY hj0 => splitSeq1_any s m b1 b2 b3 l n J Jx W (hb1.below hW) (hb2.below hW) (hb3.below hW) h12 h32 hs hJ hJm hY hj0
end Go.Proofs.YtgoandhlcekmiaaGreatDoor
