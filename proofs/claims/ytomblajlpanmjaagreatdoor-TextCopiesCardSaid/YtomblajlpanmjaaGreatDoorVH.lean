/-
  A region that draws its order within a round; marks among deferred calls.
-/
import Derived.Test.YtomblajlpanmjaaGreatDoorVG
namespace Go.Proofs.YtomblajlpanmjaaGreatDoor
open Go.RowKit Go.Maps Go.Shelf

theorem rowsIn_wideRound {P : Program} {row : String} {args : Array Value} {w : World} {R : Value → World → Prop} {l n : Nat} (h : Rows P row args w R) : RowsIn (Fence.wide.inRound l) n P row args w R := by
  intro c cs _
  obtain ⟨v, w', r, s⟩ := h c cs
  exact ⟨v, w', r, stepsIn_wide.2 s⟩
theorem wpIn_of_wp_round {P : Program} {l n : Nat} {o : Oper} {a : Act} {w : World} {K : Act → World → Prop} {Q : Exit → Act → World → Prop} (hnd : ∀ c, o.op ≠ .defer c) (h : o.wp P a w K Q) :
    o.wpIn (Fence.wide.inRound l) n P a w K Q := by
  refine ⟨fun _ _ => trivial, ?_⟩
  rw [Fence.inRound_round, Oper.semAt_some l _ _ hnd]
  unfold Oper.wp at h
  generalize (execOp a.eval o).run P w = r at *
  cases r with
  | ok x w' =>
    cases x <;> simp only [Oper.upon, Oper.uponIn] at h ⊢ <;>
      first
        | exact h
        | exact ⟨fun hd => by simp [Fence.wide] at hd, CallsIn.inRound l (callsIn_wide.2 h)⟩
        | exact ⟨fun hd => by simp [Fence.wide] at hd, rowsIn_wideRound h⟩
  | halt x w' => cases x <;> simp only [Oper.upon, Oper.uponIn] at h ⊢ <;> exact h
theorem wpAnyIn_round {P : Program} {l n : Nat} {md : Region.Mode} {ops : Array Oper} {Q : Exit → Act → World → Prop} (hnd : ∀ (i : Nat) (o : Oper) c, ops[i]? = some o → o.op ≠ .defer c) (hno : ¬ LetsOut Q) :
    ∀ (fuel : Nat) (listed : Array Bool) (a : Act) (w : World), wpAny P md ops Q fuel listed a w → wpAnyIn (Fence.wide.inRound l) n P md ops Q fuel listed a w
  | 0, _, _, _, h => h
  | fuel + 1, listed, a, w, h => by
    refine ⟨h.1, fun i hi => ?_⟩
    have h2 := h.2 i hi
    unfold wpOp at h2
    unfold wpOpIn
    split
    · rename_i ho
      simp only [ho] at h2
      exact wpAnyIn_round hnd hno fuel _ _ _ h2
    · rename_i o ho
      simp only [ho] at h2
      split
      · rename_i hw
        simp only [hw, if_true] at h2
        rcases h2 with h2 | h2
        · exact wpIn_of_wp_round (fun c => hnd i o c ho) (Oper.wp_mono (fun a w hk => wpAnyIn_round hnd hno fuel _ a w hk) h2)
        · exact absurd h2.2 hno
      · rename_i hw
        simp only [hw] at h2
        exact ⟨fun _ _ => trivial, wpAnyIn_round hnd hno fuel _ _ _ h2⟩
/-- A region that draws its order, within a round at the wide fence, by the laws of the plain one. -/
theorem wpIn_round_held {P : Program} {l n id : Nat} {ops : Array Oper} {Q : Exit → Act → World → Prop} {S : World → Prop} {a : Act} {w : World} (hm : P.follows .mixedOrders = true)
    (hnd : ops.toList.all (fun o => match o.op with | .defer _ => false | _ => true) = true) (hno : ¬ LetsOut Q) (hS : S w.drew)
    (h : S w.drew → wpAnyH P .any ops Q S ops.size (Array.replicate ops.size false) a w.drew) : (Code.region id ops true).wpIn (Fence.wide.inRound l) n P Q a w := by
  refine wpIn_region_any hm (wpAnyIn_round (fun i o c ho e => ?_) hno _ _ _ _ (wpAny_of_held _ _ _ _ (h hS)))
  have h1 := List.all_eq_true.1 hnd o (List.mem_of_getElem? (by rw [← ho, Array.getElem?_toList]))
  rw [e] at h1
  cases h1
theorem wpIn_hide2 {F : Fence} {n : Nat} {P : Program} {c : Code} {Q : Exit → Act → World → Prop} {a : Act} {w : World} (h : ∀ Q' : Exit → Act → World → Prop, (∀ e a w, Q e a w → Q' e a w) → c.wpIn F n P Q' a w) : c.wpIn F n P Q a w := h Q (fun _ _ _ q => q)
section
variable {P : Program} {ops : Array Oper} {Q : Exit → Act → World → Prop} {md : Region.Mode} {S : World → Prop}
theorem takeL {i : Nat} {oi : Oper} {v : Value} {fuel : Nat} {listed : Array Bool} {a : Act} {w : World} (hi : ops.toList[i]? = some oi)
    (hs : Region.noSelect ops = true) (hf : Region.free md ops listed i = true) (hr : (Region.ready md ops listed).contains i = true)
    (hQ : ∀ c a w, Q (.panic c) (a.put oi.dst v) w → Q (.panic c) a w) (hy : YieldsIf P ops S oi v a) (hS : S w)
    (h : wpAnyH P md ops Q S fuel (listed.setIfInBounds i true) (a.put oi.dst v) w) : wpAnyH P md ops Q S (fuel + 1) listed a w :=
  wpAnyH_take (by rw [← Array.getElem?_toList]; exact hi) hs hf hr hQ hy hS h
theorem consL {fuel : Nat} {listed : Array Bool} {a : Act} {w : World} {i : Nat} {o : Oper} {rs : List Nat} (ho : ops.toList[i]? = some o)
    (h : ∀ K' : Act → World → Prop, Shut (∀ a w, S w → (S w → wpAnyH P md ops Q S fuel (listed.setIfInBounds i true) a w) → K' a w) → if Region.wanted o (yielded ops a.tmps) = true then Oper.wp P o a w K' Q else K' (a.put o.dst undef) w)
    (hs : AllReadyH P md ops Q S fuel listed a w rs) : AllReadyH P md ops Q S fuel listed a w (i :: rs) := AllReadyH.cons (by rw [← Array.getElem?_toList]; exact ho) h hs
end
theorem cell_alloc_keep {w : World} {a : Addr} {o : Obj} {v : Value} (h : w.cell? a = some v) : (w.alloc o).cell? a = some v := by rw [World.cell?_alloc_some _ _ _ (by rw [h]; rfl), h]
theorem wpListIn_round {P : Program} {l n : Nat} {ops : Array Oper} {Q : Exit → Act → World → Prop} (hno : ¬ LetsOut Q) : ∀ (rest : List Oper), (∀ o, o ∈ rest → ∀ c, o.op ≠ .defer c) → ∀ (a : Act) (w : World), wpList P ops Q rest a w → wpListIn (Fence.wide.inRound l) n P ops Q rest a w
  | [], _, _, _, h => h
  | o :: rest, hnd, a, w, h => by
    have hrec := fun a w => wpListIn_round (P := P) (ops := ops) (l := l) (n := n) hno rest (fun o ho => hnd o (List.mem_cons_of_mem _ ho)) a w
    unfold wpList at h
    unfold wpListIn
    split
    · rename_i hw
      simp only [hw, if_true] at h
      rcases h with h | h
      · exact wpIn_of_wp_round (hnd o List.mem_cons_self) (Oper.wp_mono (fun a w hk => hrec a w hk) h)
      · exact absurd h.2 hno
    · rename_i hw
      simp only [hw] at h
      exact ⟨fun _ _ => trivial, hrec _ _ h⟩
/-- A region in the text's order, within a round at the wide fence, by the laws of the plain one. -/
theorem wpIn_round_plain {P : Program} {l n id : Nat} {L : List Oper} {Q : Exit → Act → World → Prop} {a : Act} {w : World}
    (hnd : L.all (fun o => match o.op with | .defer _ => false | _ => true) = true) (hno : ¬ LetsOut Q) (h : wpList P L.toArray Q L a w) : (Code.region id L.toArray false).wpIn (Fence.wide.inRound l) n P Q a w := by
  refine wpIn_region_lit (wpListIn_round hno L (fun o ho c e => ?_) a w h)
  have h1 := List.all_eq_true.1 hnd o ho
  rw [e] at h1
  cases h1
/-- Marks of ranges over a function. -/
def marksOf (Ds : List Nat) : List Deferred := Ds.map fun D => { target := .collected D, args := #[] }
structure Marks (B : Nat) (Ds : List Nat) (w : World) : Prop where
  nodup : Ds.Nodup
  at_ : ∀ D, D ∈ Ds → B ≤ D ∧ w.heap[D]? = some (.deferred (some []))
theorem Marks.nil (B : Nat) (w : World) : Marks B [] w := ⟨List.nodup_nil, fun _ h => by cases h⟩
theorem Marks.kept {B : Nat} {Ds : List Nat} {w w' : World} (h : Marks B Ds w) (hk : ∀ D, D ∈ Ds → w'.heap[D]? = w.heap[D]?) : Marks B Ds w' := ⟨h.nodup, fun D hD => ⟨(h.at_ D hD).1, (hk D hD).trans (h.at_ D hD).2⟩⟩
theorem Marks.lt {B : Nat} {Ds : List Nat} {w : World} (h : Marks B Ds w) {D : Nat} (hD : D ∈ Ds) : D < w.heap.size := heap_lt (h.at_ D hD).2
theorem Marks.cons {B : Nat} {Ds : List Nat} {w : World} (h : Marks B Ds w) {D : Nat} (hB : B ≤ D) (hk : w.heap[D]? = some (.deferred (some []))) (hn : D ∉ Ds) : Marks B (D :: Ds) w :=
  ⟨List.nodup_cons.2 ⟨hn, h.nodup⟩, fun E hE => by
    rcases List.mem_cons.1 hE with rfl | hE
    · exact ⟨hB, hk⟩
    · exact h.at_ E hE⟩
/-- A function leaves past its marks. -/
theorem leaves_marks {F : Fence} {n : Nat} {P : Program} {fn : Func} {tmps : Array Value} {R : Ending → World → Prop} {B : Nat} {v : Value} : ∀ (Ds : List Nat) (w : World), Marks B Ds w →
    (∀ w', w.heap.size ≤ w'.heap.size → (∀ k, k < w.heap.size → k ∉ Ds → w'.heap[k]? = w.heap[k]?) → Below B w w' → (results fn tmps).run P w' = .ok v w' ∧ R (.returned v) w') →
    LeavesInM F n P fn tmps R (marksOf Ds) .returning w
  | [], w, _, h => by
    have h1 := h w (Nat.le_refl _) (fun _ _ _ => rfl) (Below.refl _ _)
    exact ⟨v, h1.1, h1.2⟩
  | D :: Ds, w, hm, h => by
    refine ⟨by simp, .inl ⟨D, _, rfl, run_takeDeferred (hm.at_ D (List.mem_cons_self)).2, ?_⟩⟩
    have hD := List.nodup_cons.1 hm.nodup
    have hBD := (hm.at_ D (List.mem_cons_self)).1
    have hsz : (w.putObj D (.deferred none)).heap.size = w.heap.size := by simp [World.putObj]
    refine leaves_marks Ds _ ⟨hD.2, fun E hE => ⟨(hm.at_ E (List.mem_cons_of_mem _ hE)).1, (World.putObj_heap_other (fun e => hD.1 (by rw [← e]; exact hE))).trans (hm.at_ E (List.mem_cons_of_mem _ hE)).2⟩⟩ (fun w' hs hk hb => h w' (by rw [← hsz]; exact hs) (fun k hlt hn => ?_) ?_)
    · rw [hk k (by rw [hsz]; exact hlt) (fun e => hn (List.mem_cons_of_mem _ e))]
      exact World.putObj_heap_other (fun e => hn (by rw [e]; exact List.mem_cons_self))
    · exact Below.trans (⟨rfl, rfl, rfl, by simp [World.putObj], fun k hk => World.putObj_heap_other (fun e => by omega)⟩ : Below B w (w.putObj D (.deferred none))) hb

/-- All blocks but one stay. -/
structure KeptBut (X : Nat) (A B : World) : Prop where
  os : B.os = A.os
  tape : B.tape = A.tape
  output : B.output = A.output
  size : A.heap.size ≤ B.heap.size
  block : ∀ k, k < A.heap.size → k ≠ X → B.heap[k]? = A.heap[k]?
theorem KeptBut.refl (X : Nat) (A : World) : KeptBut X A A := ⟨rfl, rfl, rfl, Nat.le_refl _, fun _ _ _ => rfl⟩
theorem KeptBut.trans {X : Nat} {A B C : World} (h : KeptBut X A B) (k : KeptBut X B C) : KeptBut X A C := ⟨k.os.trans h.os, k.tape.trans h.tape, k.output.trans h.output, Nat.le_trans h.size k.size, fun i hi hx => (k.block i (Nat.lt_of_lt_of_le hi h.size) hx).trans (h.block i hi hx)⟩
theorem KeptBut.below {X : Nat} {A B C : World} (h : KeptBut X A B) (hb : Below A.heap.size B C) : KeptBut X A C := ⟨hb.os.trans h.os, hb.tape.trans h.tape, hb.output.trans h.output, Nat.le_trans h.size hb.size, fun k hk hx => (hb.block k hk).trans (h.block k hk hx)⟩
theorem KeptBut.alloc {X : Nat} {A B : World} (h : KeptBut X A B) (o : Obj) : KeptBut X A (B.alloc o) := h.below ((Below.refl _ _).alloc h.size o)
theorem KeptBut.drew {X : Nat} {A B : World} (h : KeptBut X A B) : KeptBut X A B.drew := ⟨h.os, h.tape, h.output, h.size, h.block⟩
theorem KeptBut.drewN {X : Nat} {A B : World} (h : KeptBut X A B) (m : Nat) : KeptBut X A (B.drewN m) := ⟨h.os, h.tape, h.output, h.size, h.block⟩
theorem KeptBut.set_ {X : Nat} {A B : World} (h : KeptBut X A B) (p : Addr) (hp : p.block = X) (u : Value) : KeptBut X A (B.setCell p u) := h.trans ⟨rfl, rfl, rfl, by simp [World.setCell], fun k _ hx => Below.heap_setCell _ _ _ _ (fun e => hx (e.trans hp))⟩
theorem KeptBut.grown {X : Nat} {A B C : World} {row : Option Nat} (h : KeptBut X A B) (hg : B.grownBy C row) (hr : ∀ r, row = some r → A.heap.size ≤ r) : KeptBut X A C :=
  ⟨hg.os.trans h.os, hg.tape.trans h.tape, hg.output.trans h.output, Nat.le_trans h.size hg.size, fun k hk hx => (hg.block k (Nat.lt_of_lt_of_le hk h.size) (fun e => by have := hr k e.symm; omega)).trans (h.block k hk hx)⟩
theorem KeptBut.low {X B0 : Nat} {A B : World} (h : KeptBut X A B) (hB : B0 ≤ X) (hA : B0 ≤ A.heap.size) : Below B0 A B := ⟨h.os, h.tape, h.output, h.size, fun k hk => h.block k (by omega) (by omega)⟩
theorem KeptBut.at_ {X : Nat} {A B : World} (h : KeptBut X A B) {k : Nat} {o : Obj} (ho : A.heap[k]? = some o) (hx : k ≠ X) : B.heap[k]? = some o := (h.block k (heap_lt ho) hx).trans ho
end Go.Proofs.YtomblajlpanmjaaGreatDoor
