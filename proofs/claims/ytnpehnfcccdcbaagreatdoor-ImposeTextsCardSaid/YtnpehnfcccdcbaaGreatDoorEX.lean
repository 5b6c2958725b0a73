/-
  A range over an iterator that keeps a variable of its own in memory: the law for its caller. No program is walked here.
-/
import Derived.Test.YtnpehnfcccdcbaaGreatDoorIA
import Derived.RangeFuncNested
import Derived.RangeFuncBound
import Derived.RangeFuncCalls
import Derived.RangeFuncLeaves
import Derived.RangeFuncWrites
import Derived.Shelf.Abstract
import Derived.Shelf.RegionOpen
import Derived.OwnWalkIn
import Derived.TacticsInMore
import Derived.LoopNIn
import Derived.LoopIn
import Derived.Test.YtnpehnfcccdcbaaGreatDoorRA
import Derived.Test.YtnpehnfcccdcbaaGreatDoorKB
import Derived.Deep.RegionHeld3
namespace Go.Proofs.YtnpehnfcccdcbaaGreatDoor
open Go.RowKit
variable {F : Fence} {n : Nat} {P : Program}

/-- What an iterator does that turns, between two rounds, what 'Mv' tells, and wants of a round what 'Kp' tells. -/
def SeqMv {α : Type} (F : Fence) (n : Nat) (P : Program) (g : Nat) (lb : Array Value) (encs : α → Array Value) (Kp Mv : World → World → Prop) (S Sp : List α → Prop) (N : Nat) (w : World) : Prop :=
  ∀ (l : Nat) (J Jx : List α → World → Prop) (W : World), Below w.heap.size w W → AbidesFrom W.heap.size J → (∀ s X Y, J s X → Mv X Y → J s Y) →
    (∀ pre x W1, J pre W1 → pre.length < N → Sp (pre ++ [x]) → YieldAt F (n - 1) P l (encs x) W1 fun e W' =>
      (e = .returned (.bool true) ∧ J (pre ++ [x]) W' ∧ Kp W1 W') ∨ (e = .returned (.bool false) ∧ Jx (pre ++ [x]) W')) →
    J [] W →
    CallsIn F n P g (#[.func (.yield l) #[] #[]] ++ lb) W fun e W' => (∃ v, e = .returned v) ∧ ((∃ xs, S xs ∧ J xs W') ∨ (∃ pre, Sp pre ∧ Jx pre W'))

theorem wpIn_rangeFunc_mv {α : Type} {g : Operand} {ps : Array Tmp} {assign body : Code} {Q : Exit → Act → World → Prop} {a : Act} {w : World}
    (hro : F.round = none) (h1 : 1 ≤ n) {gf : Nat} {lb : Array Value} (hg : a.eval g = .func (.func gf) #[] lb) (hFg : F.fn gf) (eg : ∀ args w, (callFunc gf args).run P w = .ok (.enter gf args) w)
    {encs : α → Array Value} {Kp Mv : World → World → Prop} {S Sp : List α → Prop} {N : Nat} (hseq : SeqMv F (n - 1) P gf lb encs Kp Mv S Sp N w)
    (hKt : ∀ {A B C : World}, Kp A B → Kp B C → Kp A C) (hKb : ∀ (W : World) (l : Nat) (o' : Obj), w.heap.size ≤ l → Kp W (W.putObj l o')) (hps : ∀ x, (encs x).size = ps.size)
    (I : List α → World → Prop) (Ix : Code → List α → World → Prop) (hI : OwnFrom w.heap.size I) (hIx : ∀ c, OwnFrom w.heap.size (Ix c)) (hIm : ∀ s X Y, I s X → Mv X Y → I s Y) (hMk : ∀ (X Y : World) (k : Nat), w.heap.size ≤ k → Mv X Y → Y.heap[k]? = X.heap[k]?) (h0 : I [] w) (a₁ : α → Act)
    (hassign : ∀ (l : Nat) (x : α) (W : World) (K : Act → World → Prop), K (a₁ x) W →
      assign.wpIn (F.inRound l) (n - 1 - 1) P (Exit.then K (fun _ _ _ => False)) { tmps := (ps.zip (encs x)).foldl (fun t (p, v) => t.setIfInBounds p v) a.tmps, defers := [] } W)
    (hbody : ∀ (l : Nat) (pre : List α) (x : α) (W : World), I pre W → pre.length < N → Sp (pre ++ [x]) → body.wpIn (F.inRound l) (n - 1 - 1) P (ownPostG w.heap.size Kp I Ix (pre ++ [x]) W) (a₁ x) W)
    (hdone : ∀ (D : Nat) (xs : List α) (W : World), w.heap.size ≤ D → S xs → I xs W → W.heap[D]? = some (.deferred (some [])) → Q .normal { a with defers := { target := .collected D, args := #[] } :: a.defers } W)
    (hstop : ∀ (D : Nat) (c : Code) (pre : List α) (W : World), w.heap.size ≤ D → Sp pre → Ix c pre W → W.heap[D]? = some (.deferred (some [])) → c.wpIn F n P Q { a with defers := { target := .collected D, args := #[] } :: a.defers } W) :
    (Code.rangeFunc g ps assign body).wpIn F n P Q a w := by
  refine wpIn_rangeFunc fun fn hfn => ?_
  rw [hro]
  -- the loop's record, by its state and its pending jump
  let lp : LoopState → Option Code → Loop := fun st pe => { state := st, pending := pe, fn, tmps := a.tmps, params := ps, assign, body, defers := w.heap.size }
  have hlp : ∀ st pe, lp st pe = { state := st, pending := pe, fn, tmps := a.tmps, params := ps, assign, body, defers := w.heap.size } := fun _ _ => rfl
  obtain ⟨B, hB⟩ : ∃ B, B = w.heap.size := ⟨_, rfl⟩
  obtain ⟨V, hV⟩ : ∃ V, V = (w.alloc (.deferred (some []))).alloc (.loop (lp .ready none)) := ⟨_, rfl⟩
  have vsz : V.heap.size = B + 2 := by rw [hV, hB]; simp
  have vloop : V.heap[B + 1]? = some (.loop (lp .ready none)) := by
    have h := World.alloc_heap_new (w.alloc (.deferred (some []))) (.loop (lp .ready none))
    rw [World.size_alloc, ← hV, ← hB] at h; exact h
  have vdef : V.heap[B]? = some (.deferred (some [])) := by
    rw [hV, hB]; exact (Below.heap_alloc _ _ _ (by simp)).trans (World.alloc_heap_new w _)
  have vI : I [] V := by rw [hV]; exact hI.alloc _ (hI.alloc _ h0)
  have vb : Below w.heap.size w V := by rw [hV]; exact ((Below.refl _ w).alloc (Nat.le_refl _) _).alloc (by simp) _
  rw [← hB] at hI hIx hMk hbody hdone hstop hKb
  -- what holds between two rounds, and where one has said that it is enough
  let J : List α → World → Prop := fun s W => I s W ∧ W.heap[B + 1]? = some (.loop (lp .ready none)) ∧ W.heap[B]? = some (.deferred (some []))
  let Jx : List α → World → Prop := fun s W => ∃ c, Ix c s W ∧ W.heap[B + 1]? = some (.loop (lp .done (some c))) ∧ W.heap[B]? = some (.deferred (some []))
  have walkNot : ∀ {A : World} {row : Option Nat}, (∀ r, row = some r → V.heap.size ≤ r ∧ ∃ o : Obj, A.heap[r]? = some o ∧ o.isWalk = true) → (∀ r, row = some r → B ≤ r ∧ ∃ o : Obj, A.heap[r]? = some o ∧ o.isCells = false) :=
    fun h r e => by
      obtain ⟨h1, o, ho, hw⟩ := h r e
      exact ⟨by omega, o, ho, Obj.not_cells_of_walk hw⟩
  have hJ : AbidesFrom V.heap.size J := fun s X Y row hs hg hr =>
    ⟨hI s X Y row hs.1 hg (walkNot hr), (grownBy_keeps hg (fun r e => (hr r e).2) hs.2.1 rfl).trans hs.2.1, (grownBy_keeps hg (fun r e => (hr r e).2) hs.2.2 rfl).trans hs.2.2⟩
  have hJm : ∀ s X Y, J s X → Mv X Y → J s Y := fun s X Y hs hm =>
    ⟨hIm s X Y hs.1 hm, (hMk X Y _ (by omega) hm).trans hs.2.1, (hMk X Y _ (Nat.le_refl _) hm).trans hs.2.2⟩
  refine ⟨B + 1, [{ target := .collected B, args := #[] }], V, { target := .fn (.func gf) lb, args := #[.func (.yield (B + 1)) #[] #[]] }, V, gf, #[.func (.yield (B + 1)) #[] #[]] ++ lb, V, ?_, ?_, ?_, ?_, fun _ => h1, ?_⟩
  · rw [hV, hB]; exact run_enterLoop_outer _ _ _ _ _
  · simp only [resolve, hg]; simp [go_sem]
  · intro f' hf'; simp [Target.leads] at hf'; subst hf'; exact hFg
  · simp [invoke, go_sem, eg]
  refine (hseq (B + 1) J Jx V vb hJ hJm ?_ ⟨vI, vloop, vdef⟩).mono ?_
  · rintro pre x W ⟨hi, hl, hk⟩ hlen hsp
    have hlt : B + 1 < W.heap.size := (Array.getElem?_eq_some_iff.1 hl).1
    have hy := run_yield (P := P) (args := encs x) hl (by rw [hlp]; exact hps x)
    rw [hlp] at hy
    refine ⟨fn, _, assign, body, hy, roundIn_of_wpIn hfn (hassign _ x W _ ⟨_, run_beginRound hl (by rw [hlp]), ?_⟩)⟩
    obtain ⟨Wb, hWb⟩ : ∃ Wb, Wb = W.putObj (B + 1) (.loop { lp .ready none with state := .busy }) := ⟨_, rfl⟩
    have bl : Wb.heap[B + 1]? = some (.loop { lp .ready none with state := .busy }) := by rw [hWb]; exact World.putObj_heap_same hlt
    have bd : Wb.heap[B]? = some (.deferred (some [])) := by rw [hWb]; exact (World.putObj_heap_other (by omega)).trans hk
    have bk : Kp W Wb := by rw [hWb]; exact hKb _ _ _ (by omega)
    have bi : I pre Wb := by rw [hWb]; exact hI.putObj _ hi (by omega) hl rfl
    rw [← hWb]
    refine wpIn_mono (hbody _ pre x _ bi hlen hsp) ?_
    have fin : ∀ (jump : Option Code) (W3 : World), KeepsFrom B Wb W3 →
        (Instr.endRound (B + 1) jump).run P W3 = .ok (.bool jump.isNone) (W3.putObj (B + 1) (.loop (lp (if jump.isNone then .ready else .done) jump))) ∧
        W3.heap[B + 1]? = some (.loop { lp .ready none with state := .busy }) ∧
        (W3.putObj (B + 1) (.loop (lp (if jump.isNone then .ready else .done) jump))).heap[B + 1]? = some (.loop (lp (if jump.isNone then .ready else .done) jump)) ∧
        (W3.putObj (B + 1) (.loop (lp (if jump.isNone then .ready else .done) jump))).heap[B]? = some (.deferred (some [])) := fun jump W3 hk3 => by
      have h3 := hk3.same _ _ (by omega) bl rfl
      have hr := run_endRound (P := P) jump h3
      exact ⟨hr, h3, World.putObj_heap_same (Array.getElem?_eq_some_iff.1 h3).1, (World.putObj_heap_other (by omega)).trans (hk3.same _ _ (Nat.le_refl _) bd rfl)⟩
    have left : ∀ (c : Code) (W3 : World), KeepsFrom B Wb W3 → Ix c (pre ++ [x]) W3 → ∃ v W4, (Instr.endRound (B + 1) (some c)).run P W3 = .ok v W4 ∧ v = .bool false ∧ Jx (pre ++ [x]) W4 := fun c W3 hk3 hi3 => by
      obtain ⟨hr, h3, h4, h5⟩ := fin (some c) W3 hk3
      exact ⟨_, _, hr, rfl, c, (hIx _).putObj _ hi3 (by omega) h3 rfl, h4, h5⟩
    rintro e a3 W3 hp
    cases e with
    | normal =>
      obtain ⟨hk3, hkp, hi3⟩ := hp
      obtain ⟨hr, h3, h4, h5⟩ := fin none W3 hk3
      exact ⟨_, _, hr, .inl ⟨rfl, ⟨hI.putObj _ hi3 (by omega) h3 rfl, h4, h5⟩, hKt (hKt bk hkp) (hKb _ _ _ (by omega))⟩⟩
    | ret => obtain ⟨v, W4, hr, rfl, hx⟩ := left _ _ hp.1 hp.2; exact ⟨_, _, hr, .inr ⟨rfl, hx⟩⟩
    | exit id => obtain ⟨v, W4, hr, rfl, hx⟩ := left _ _ hp.1 hp.2; exact ⟨_, _, hr, .inr ⟨rfl, hx⟩⟩
    | goto t => obtain ⟨v, W4, hr, rfl, hx⟩ := left _ _ hp.1 hp.2; exact ⟨_, _, hr, .inr ⟨rfl, hx⟩⟩
    | panic ch => exact hp.elim
    | outgrown => exact hp.elim
  · rintro e W2 ⟨⟨v, rfl⟩, (⟨xs, hS, hi, hl, hk⟩ | ⟨pre, hSp, c, hi, hl, hk⟩)⟩
    · exact ⟨none, _, run_endLoop (P := P) hl (by rw [hlp]; simp), hdone _ xs _ (Nat.le_refl _) hS (hI.putObj _ hi (by omega) hl rfl) ((World.putObj_heap_other (by omega)).trans hk)⟩
    · exact ⟨some c, _, run_endLoop (P := P) hl (by rw [hlp]; simp), hstop _ c pre _ (Nat.le_refl _) hSp ((hIx c).putObj _ hi (by omega) hl rfl) ((World.putObj_heap_other (by omega)).trans hk)⟩
end Go.Proofs.YtnpehnfcccdcbaaGreatDoor

namespace Go.Proofs.YtnpehnfcccdcbaaGreatDoor
open Go.RowKit Go.Shelf

theorem rowsIn_wideRound {P : Program} {row : String} {args : Array Value} {w : World} {R : Value → World → Prop} {l n : Nat} (h : Rows P row args w R) : RowsIn (Fence.wide.inRound l) n P row args w R := by
  intro c cs _
  obtain ⟨v, w', r, s⟩ := h c cs
  exact ⟨v, w', r, stepsIn_wide.2 s⟩
theorem wpIn_of_wp_round {P : Program} {l n : Nat} {o : Oper} {a : Act} {w : World} {K : Act → World → Prop} {Q : Exit → Act → World → Prop} (hnd : ∀ c, o.op ≠ .defer c) (h : o.wp P a w K Q) :
    o.wpIn (Fence.wide.inRound l) n P a w K Q := by
  refine ⟨fun _ _ => trivial, ?_⟩
  rw [Fence.inRound_round, Oper.semAt_some l _ _ hnd]
  unfold Oper.wp at h
  generalize (execOp a.eval o).run P w = r at *
  cases r with
  | ok x w' =>
    cases x <;> simp only [Oper.upon, Oper.uponIn] at h ⊢ <;>
      first
        | exact h
        | exact ⟨fun hd => by simp [Fence.wide] at hd, CallsIn.inRound l (callsIn_wide.2 h)⟩
        | exact ⟨fun hd => by simp [Fence.wide] at hd, rowsIn_wideRound h⟩
  | halt x w' => cases x <;> simp only [Oper.upon, Oper.uponIn] at h ⊢ <;> exact h
theorem wpAnyIn_round {P : Program} {l n : Nat} {md : Region.Mode} {ops : Array Oper} {Q : Exit → Act → World → Prop} (hnd : ∀ (i : Nat) (o : Oper) c, ops[i]? = some o → o.op ≠ .defer c) (hno : ¬ LetsOut Q) :
    ∀ (fuel : Nat) (listed : Array Bool) (a : Act) (w : World), wpAny P md ops Q fuel listed a w → wpAnyIn (Fence.wide.inRound l) n P md ops Q fuel listed a w
  | 0, _, _, _, h => h
  | fuel + 1, listed, a, w, h => by
    refine ⟨h.1, fun i hi => ?_⟩
    have h2 := h.2 i hi
    unfold wpOp at h2
    unfold wpOpIn
    split
    · rename_i ho
      simp only [ho] at h2
      exact wpAnyIn_round hnd hno fuel _ _ _ h2
    · rename_i o ho
      simp only [ho] at h2
      split
      · rename_i hw
        simp only [hw, if_true] at h2
        rcases h2 with h2 | h2
        · exact wpIn_of_wp_round (fun c => hnd i o c ho) (Oper.wp_mono (fun a w hk => wpAnyIn_round hnd hno fuel _ a w hk) h2)
        · exact absurd h2.2 hno
      · rename_i hw
        simp only [hw] at h2
        exact ⟨fun _ _ => trivial, wpAnyIn_round hnd hno fuel _ _ _ h2⟩
/-- A region that draws its order, within a round at the wide fence, by the laws of the plain one. -/
theorem wpIn_round_held {P : Program} {l n id : Nat} {ops : Array Oper} {Q : Exit → Act → World → Prop} {S : World → Prop} {a : Act} {w : World} (hm : P.follows .mixedOrders = true)
    (hnd : ops.toList.all (fun o => match o.op with | .defer _ => false | _ => true) = true) (hno : ¬ LetsOut Q) (hS : S w.drew)
    (h : S w.drew → wpAnyH P .any ops Q S ops.size (Array.replicate ops.size false) a w.drew) : (Code.region id ops true).wpIn (Fence.wide.inRound l) n P Q a w := by
  refine wpIn_region_any hm (wpAnyIn_round (fun i o c ho e => ?_) hno _ _ _ _ (wpAny_of_held _ _ _ _ (h hS)))
  have h1 := List.all_eq_true.1 hnd o (List.mem_of_getElem? (by rw [← ho, Array.getElem?_toList]))
  rw [e] at h1
  cases h1
theorem ownPostG_stays {α : Type} {B : Nat} {Kp : World → World → Prop} {I : List α → World → Prop} {Ix : Code → List α → World → Prop} {xs : List α} {W : World} : ¬ LetsOut (ownPostG B Kp I Ix xs W) := fun ⟨_, _, h⟩ => h
theorem then_stays {K : Act → World → Prop} {Q : Exit → Act → World → Prop} (h : ¬ LetsOut Q) : ¬ LetsOut (Exit.then K Q) := fun ⟨a, w, hq⟩ => h ⟨a, w, hq⟩

theorem wpIn_hide2 {F : Fence} {n : Nat} {P : Program} {c : Code} {Q : Exit → Act → World → Prop} {a : Act} {w : World} (h : ∀ Q' : Exit → Act → World → Prop, (∀ e a w, Q e a w → Q' e a w) → c.wpIn F n P Q' a w) : c.wpIn F n P Q a w := h Q (fun _ _ _ q => q)
section
variable {P : Program} {ops : Array Oper} {Q : Exit → Act → World → Prop} {md : Region.Mode} {S : World → Prop}
theorem takeL {i : Nat} {oi : Oper} {v : Value} {fuel : Nat} {listed : Array Bool} {a : Act} {w : World} (hi : ops.toList[i]? = some oi)
    (hs : Region.noSelect ops = true) (hf : Region.free md ops listed i = true) (hr : (Region.ready md ops listed).contains i = true)
    (hQ : ∀ c a w, Q (.panic c) (a.put oi.dst v) w → Q (.panic c) a w) (hy : YieldsIf P ops S oi v a) (hS : S w)
    (h : wpAnyH P md ops Q S fuel (listed.setIfInBounds i true) (a.put oi.dst v) w) : wpAnyH P md ops Q S (fuel + 1) listed a w :=
  wpAnyH_take (by rw [← Array.getElem?_toList]; exact hi) hs hf hr hQ hy hS h
theorem consL {fuel : Nat} {listed : Array Bool} {a : Act} {w : World} {i : Nat} {o : Oper} {rs : List Nat} (ho : ops.toList[i]? = some o)
    (h : ∀ K' : Act → World → Prop, Shut (∀ a w, S w → (S w → wpAnyH P md ops Q S fuel (listed.setIfInBounds i true) a w) → K' a w) → if Region.wanted o (yielded ops a.tmps) = true then Oper.wp P o a w K' Q else K' (a.put o.dst undef) w)
    (hs : AllReadyH P md ops Q S fuel listed a w rs) : AllReadyH P md ops Q S fuel listed a w (i :: rs) := AllReadyH.cons (by rw [← Array.getElem?_toList]; exact ho) h hs
end
theorem cell_alloc_keep {w : World} {a : Addr} {o : Obj} {v : Value} (h : w.cell? a = some v) : (w.alloc o).cell? a = some v := by rw [World.cell?_alloc_some _ _ _ (by rw [h]; try rfl), h]
/-- Marks of ranges over a function. -/
def marksOf (Ds : List Nat) : List Deferred := Ds.map fun D => { target := .collected D, args := #[] }
structure Marks (B : Nat) (Ds : List Nat) (w : World) : Prop where
  nodup : Ds.Nodup
  at_ : ∀ D, D ∈ Ds → B ≤ D ∧ w.heap[D]? = some (.deferred (some []))
theorem Marks.nil (B : Nat) (w : World) : Marks B [] w := ⟨List.nodup_nil, fun _ h => by cases h⟩
theorem Marks.kept {B : Nat} {Ds : List Nat} {w w' : World} (h : Marks B Ds w) (hk : ∀ D, D ∈ Ds → w'.heap[D]? = w.heap[D]?) : Marks B Ds w' := ⟨h.nodup, fun D hD => ⟨(h.at_ D hD).1, (hk D hD).trans (h.at_ D hD).2⟩⟩
theorem Marks.lt {B : Nat} {Ds : List Nat} {w : World} (h : Marks B Ds w) {D : Nat} (hD : D ∈ Ds) : D < w.heap.size := heap_lt (h.at_ D hD).2
theorem Marks.cons {B : Nat} {Ds : List Nat} {w : World} (h : Marks B Ds w) {D : Nat} (hB : B ≤ D) (hk : w.heap[D]? = some (.deferred (some []))) (hn : D ∉ Ds) : Marks B (D :: Ds) w :=
  ⟨List.nodup_cons.2 ⟨hn, h.nodup⟩, fun E hE => by
    rcases List.mem_cons.1 hE with rfl | hE
    · exact ⟨hB, hk⟩
    · exact h.at_ E hE⟩
/-- A function leaves past its marks. -/
theorem leaves_marks {F : Fence} {n : Nat} {P : Program} {fn : Func} {tmps : Array Value} {R : Ending → World → Prop} {B : Nat} {v : Value} : ∀ (Ds : List Nat) (w : World), Marks B Ds w →
    (∀ w', w.heap.size ≤ w'.heap.size → (∀ k, k < w.heap.size → k ∉ Ds → w'.heap[k]? = w.heap[k]?) → Below B w w' → (results fn tmps).run P w' = .ok v w' ∧ R (.returned v) w') →
    LeavesInM F n P fn tmps R (marksOf Ds) .returning w
  | [], w, _, h => by
    have h1 := h w (Nat.le_refl _) (fun _ _ _ => rfl) (Below.refl _ _)
    exact ⟨v, h1.1, h1.2⟩
  | D :: Ds, w, hm, h => by
    refine ⟨by simp, .inl ⟨D, _, rfl, run_takeDeferred (hm.at_ D (List.mem_cons_self)).2, ?_⟩⟩
    have hD := List.nodup_cons.1 hm.nodup
    have hBD := (hm.at_ D (List.mem_cons_self)).1
    have hsz : (w.putObj D (.deferred none)).heap.size = w.heap.size := by simp [World.putObj]
    refine leaves_marks Ds _ ⟨hD.2, fun E hE => ⟨(hm.at_ E (List.mem_cons_of_mem _ hE)).1, (World.putObj_heap_other (fun e => hD.1 (by rw [← e]; exact hE))).trans (hm.at_ E (List.mem_cons_of_mem _ hE)).2⟩⟩ (fun w' hs hk hb => h w' (by rw [← hsz]; exact hs) (fun k hlt hn => ?_) ?_)
    · rw [hk k (by rw [hsz]; exact hlt) (fun e => hn (List.mem_cons_of_mem _ e))]
      exact World.putObj_heap_other (fun e => hn (by rw [e]; exact List.mem_cons_self))
    · exact Below.trans (⟨rfl, rfl, rfl, by simp [World.putObj], fun k hk => World.putObj_heap_other (fun e => by omega)⟩ : Below B w (w.putObj D (.deferred none))) hb
theorem OwnR.kept {α : Type} {n : Nat} {E : TypeId} {g : α → List Int} {w w' : World} {B : Nat} {v : Value} {L : List α} (h : OwnR n E g w B v L) {row : Option Nat} (hg : w.grownBy w' row) (hr : ∀ r, row = some r → ∃ o : Obj, w.heap[r]? = some o ∧ o.isCells = false) : OwnR n E g w' B v L :=
  h.grown hg fun q e e2 => by
    obtain ⟨cs, hc⟩ := own_block h q e
    obtain ⟨o, ho, hf⟩ := hr q e2.symm
    rw [hc] at ho; cases ho; cases hf
theorem own_ne {α : Type} {n : Nat} {E T : TypeId} {g : α → List Int} {w : World} {B b : Nat} {v : Value} {L : List α} {cs : Array Value} (h : OwnR n E g w B v L) (hb : BoxAt w b cs T) (hE : E ≠ T) : v.ownBlock ≠ some b := fun e => by
  obtain ⟨c2, h2⟩ := own_block h b e
  rw [hb] at h2; injection h2 with h2; injection h2 with _ h2; exact hE h2.symm
theorem box_kept {w w' : World} {b : Nat} {cs : Array Value} {T : TypeId} (h : BoxAt w b cs T) {row : Option Nat} (hg : w.grownBy w' row) (hr : ∀ r, row = some r → ∃ o : Obj, w.heap[r]? = some o ∧ o.isCells = false) : BoxAt w' b cs T :=
  h.grown hg fun e => by
    obtain ⟨o, ho, hf⟩ := hr b e.symm
    rw [show w.heap[b]? = _ from h] at ho; cases ho; cases hf
theorem keeps_below {B : Nat} {W W' : World} (h : Below W.heap.size W W') : KeepsFrom B W W' := ⟨h.size, fun q _ _ hq _ => (h.block q (heap_lt hq)).trans hq⟩
end Go.Proofs.YtnpehnfcccdcbaaGreatDoor
