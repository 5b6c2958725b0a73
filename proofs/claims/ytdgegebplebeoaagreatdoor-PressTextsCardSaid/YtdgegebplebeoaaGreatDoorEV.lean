/-
  A region that draws its order within a round of a range over a function; own rows and boxes are kept. No program is walked here.
-/
import Derived.Test.YtdgegebplebeoaaGreatDoorET
import Derived.Deep.RegionHeld3
namespace Go.Proofs.YtdgegebplebeoaaGreatDoor
open Go.RowKit Go.Shelf

theorem rowsIn_wideRound {P : Program} {row : String} {args : Array Value} {w : World} {R : Value → World → Prop} {l n : Nat} (h : Rows P row args w R) : RowsIn (Fence.wide.inRound l) n P row args w R := by
  intro c cs _
  obtain ⟨v, w', r, s⟩ := h c cs
  exact ⟨v, w', r, stepsIn_wide.2 s⟩
theorem wpIn_of_wp_round {P : Program} {l n : Nat} {o : Oper} {a : Act} {w : World} {K : Act → World → Prop} {Q : Exit → Act → World → Prop} (hnd : ∀ c, o.op ≠ .defer c) (h : o.wp P a w K Q) :
    o.wpIn (Fence.wide.inRound l) n P a w K Q := by
  refine ⟨fun _ _ => trivial, ?_⟩
  rw [Fence.inRound_round, Oper.semAt_some l _ _ hnd]
  unfold Oper.wp at h
  generalize (execOp a.eval o).run P w = r at *
  cases r with
  | ok x w' =>
    cases x <;> simp only [Oper.upon, Oper.uponIn] at h ⊢ <;>
      first
        | exact h
        | exact ⟨fun hd => by simp [Fence.wide] at hd, CallsIn.inRound l (callsIn_wide.2 h)⟩
        | exact ⟨fun hd => by simp [Fence.wide] at hd, rowsIn_wideRound h⟩
  | halt x w' => cases x <;> simp only [Oper.upon, Oper.uponIn] at h ⊢ <;> exact h
theorem wpAnyIn_round {P : Program} {l n : Nat} {md : Region.Mode} {ops : Array Oper} {Q : Exit → Act → World → Prop} (hnd : ∀ (i : Nat) (o : Oper) c, ops[i]? = some o → o.op ≠ .defer c) (hno : ¬ LetsOut Q) :
    ∀ (fuel : Nat) (listed : Array Bool) (a : Act) (w : World), wpAny P md ops Q fuel listed a w → wpAnyIn (Fence.wide.inRound l) n P md ops Q fuel listed a w
  | 0, _, _, _, h => h
  | fuel + 1, listed, a, w, h => by
    refine ⟨h.1, fun i hi => ?_⟩
    have h2 := h.2 i hi
    unfold wpOp at h2
    unfold wpOpIn
    split
    · rename_i ho
      simp only [ho] at h2
      exact wpAnyIn_round hnd hno fuel _ _ _ h2
    · rename_i o ho
      simp only [ho] at h2
      split
      · rename_i hw
        simp only [hw, if_true] at h2
        rcases h2 with h2 | h2
        · exact wpIn_of_wp_round (fun c => hnd i o c ho) (Oper.wp_mono (fun a w hk => wpAnyIn_round hnd hno fuel _ a w hk) h2)
        · exact absurd h2.2 hno
      · rename_i hw
        simp only [hw] at h2
        exact ⟨fun _ _ => trivial, wpAnyIn_round hnd hno fuel _ _ _ h2⟩
/-- A region that draws its order, within a round at the wide fence, by the laws of the plain one. -/
theorem wpIn_round_held {P : Program} {l n id : Nat} {ops : Array Oper} {Q : Exit → Act → World → Prop} {S : World → Prop} {a : Act} {w : World} (hm : P.follows .mixedOrders = true)
    (hnd : ops.toList.all (fun o => match o.op with | .defer _ => false | _ => true) = true) (hno : ¬ LetsOut Q) (hS : S w.drew)
    (h : S w.drew → wpAnyH P .any ops Q S ops.size (Array.replicate ops.size false) a w.drew) : (Code.region id ops true).wpIn (Fence.wide.inRound l) n P Q a w := by
  refine wpIn_region_any hm (wpAnyIn_round (fun i o c ho e => ?_) hno _ _ _ _ (wpAny_of_held _ _ _ _ (h hS)))
  have h1 := List.all_eq_true.1 hnd o (List.mem_of_getElem? (by rw [← ho, Array.getElem?_toList]))
  rw [e] at h1
  cases h1
theorem then_stays {K : Act → World → Prop} {Q : Exit → Act → World → Prop} (h : ¬ LetsOut Q) : ¬ LetsOut (Exit.then K Q) := fun ⟨a, w, hq⟩ => h ⟨a, w, hq⟩

theorem wpIn_hide2 {F : Fence} {n : Nat} {P : Program} {c : Code} {Q : Exit → Act → World → Prop} {a : Act} {w : World} (h : ∀ Q' : Exit → Act → World → Prop, (∀ e a w, Q e a w → Q' e a w) → c.wpIn F n P Q' a w) : c.wpIn F n P Q a w := h Q (fun _ _ _ q => q)
section
variable {P : Program} {ops : Array Oper} {Q : Exit → Act → World → Prop} {md : Region.Mode} {S : World → Prop}
theorem takeL {i : Nat} {oi : Oper} {v : Value} {fuel : Nat} {listed : Array Bool} {a : Act} {w : World} (hi : ops.toList[i]? = some oi)
    (hs : Region.noSelect ops = true) (hf : Region.free md ops listed i = true) (hr : (Region.ready md ops listed).contains i = true)
    (hQ : ∀ c a w, Q (.panic c) (a.put oi.dst v) w → Q (.panic c) a w) (hy : YieldsIf P ops S oi v a) (hS : S w)
    (h : wpAnyH P md ops Q S fuel (listed.setIfInBounds i true) (a.put oi.dst v) w) : wpAnyH P md ops Q S (fuel + 1) listed a w :=
  wpAnyH_take (by rw [← Array.getElem?_toList]; exact hi) hs hf hr hQ hy hS h
theorem consL {fuel : Nat} {listed : Array Bool} {a : Act} {w : World} {i : Nat} {o : Oper} {rs : List Nat} (ho : ops.toList[i]? = some o)
    (h : ∀ K' : Act → World → Prop, Shut (∀ a w, S w → (S w → wpAnyH P md ops Q S fuel (listed.setIfInBounds i true) a w) → K' a w) → if Region.wanted o (yielded ops a.tmps) = true then Oper.wp P o a w K' Q else K' (a.put o.dst undef) w)
    (hs : AllReadyH P md ops Q S fuel listed a w rs) : AllReadyH P md ops Q S fuel listed a w (i :: rs) := AllReadyH.cons (by rw [← Array.getElem?_toList]; exact ho) h hs
end
theorem cell_alloc_keep {w : World} {a : Addr} {o : Obj} {v : Value} (h : w.cell? a = some v) : (w.alloc o).cell? a = some v := by rw [World.cell?_alloc_some _ _ _ (by rw [h]; rfl), h]
theorem wpListIn_round {P : Program} {l n : Nat} {ops : Array Oper} {Q : Exit → Act → World → Prop} (hno : ¬ LetsOut Q) : ∀ (rest : List Oper), (∀ o, o ∈ rest → ∀ c, o.op ≠ .defer c) → ∀ (a : Act) (w : World), wpList P ops Q rest a w → wpListIn (Fence.wide.inRound l) n P ops Q rest a w
  | [], _, _, _, h => h
  | o :: rest, hnd, a, w, h => by
    have hrec := fun a w => wpListIn_round (P := P) (ops := ops) (l := l) (n := n) hno rest (fun o ho => hnd o (List.mem_cons_of_mem _ ho)) a w
    unfold wpList at h
    unfold wpListIn
    split
    · rename_i hw
      simp only [hw, if_true] at h
      rcases h with h | h
      · exact wpIn_of_wp_round (hnd o List.mem_cons_self) (Oper.wp_mono (fun a w hk => hrec a w hk) h)
      · exact absurd h.2 hno
    · rename_i hw
      simp only [hw] at h
      exact ⟨fun _ _ => trivial, hrec _ _ h⟩
/-- A region in the text's order, within a round at the wide fence, by the laws of the plain one. -/
theorem wpIn_round_plain {P : Program} {l n id : Nat} {L : List Oper} {Q : Exit → Act → World → Prop} {a : Act} {w : World}
    (hnd : L.all (fun o => match o.op with | .defer _ => false | _ => true) = true) (hno : ¬ LetsOut Q) (h : wpList P L.toArray Q L a w) : (Code.region id L.toArray false).wpIn (Fence.wide.inRound l) n P Q a w := by
  refine wpIn_region_lit (wpListIn_round hno L (fun o ho c e => ?_) a w h)
  have h1 := List.all_eq_true.1 hnd o ho
  rw [e] at h1
  cases h1
theorem own_block {w : World} {B E size n : Nat} {v : Value} {xs : List Value} (h : w.ownsRow B E size v n xs) : ∀ q, v.ownBlock = some q → ∃ cs, w.heap[q]? = some (.cells cs E (0, 0)) := fun q e => by
  rcases h.2 with ⟨f1, _⟩ | ⟨gg, cap, cur, f1, _, f3, _⟩
  · rw [f1] at e; cases e
  · rw [f1] at e
    have e : gg = q := Option.some.inj e
    subst e
    exact ⟨_, f3⟩
theorem OwnR.kept {α : Type} {n : Nat} {E : TypeId} {g : α → List Int} {w w' : World} {B : Nat} {v : Value} {L : List α} (h : OwnR n E g w B v L) {row : Option Nat} (hg : w.grownBy w' row) (hr : ∀ r, row = some r → ∃ o : Obj, w.heap[r]? = some o ∧ o.isCells = false) : OwnR n E g w' B v L :=
  h.grown hg fun q e e2 => by
    obtain ⟨cs, hc⟩ := own_block h q e
    obtain ⟨o, ho, hf⟩ := hr q e2.symm
    rw [hc] at ho; cases ho; cases hf
theorem own_ne {α : Type} {n : Nat} {E T : TypeId} {g : α → List Int} {w : World} {B b : Nat} {v : Value} {L : List α} {cs : Array Value} (h : OwnR n E g w B v L) (hb : BoxAt w b cs T) (hE : E ≠ T) : v.ownBlock ≠ some b := fun e => by
  obtain ⟨c2, h2⟩ := own_block h b e
  rw [hb] at h2; injection h2 with h2; injection h2 with _ h2; exact hE h2.symm
theorem box_kept {w w' : World} {b : Nat} {cs : Array Value} {T : TypeId} (h : BoxAt w b cs T) {row : Option Nat} (hg : w.grownBy w' row) (hr : ∀ r, row = some r → ∃ o : Obj, w.heap[r]? = some o ∧ o.isCells = false) : BoxAt w' b cs T :=
  h.grown hg fun e => by
    obtain ⟨o, ho, hf⟩ := hr b e.symm
    rw [show w.heap[b]? = _ from h] at ho; cases ho; cases hf
theorem keeps_below {B : Nat} {W W' : World} (h : Below W.heap.size W W') : KeepsFrom B W W' := ⟨h.size, fun q _ _ hq _ => (h.block q (heap_lt hq)).trans hq⟩
end Go.Proofs.YtdgegebplebeoaaGreatDoor
