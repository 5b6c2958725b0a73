/-
  strings.SplitSeq at a separator of one byte, for package text: its iterator, as a contract for a range over it.
-/
import Derived.Test.YtomblajlpanmjaaGreatDoorQE
import Derived.Test.YtomblajlpanmjaaGreatDoorVX
import Derived.Test.YtomblajlpanmjaaGreatDoorShelf
import Derived.WalkKit
import Derived.Lib.IndexLaws
import Derived.RegionTactic
import Derived.RangeFuncNested
import Derived.RangeFuncBound
import Derived.RangeFuncCalls
import Derived.RangeFuncLeaves
import Derived.RangeFuncWrites
import Derived.Shelf.Abstract
import Derived.Shelf.RegionOpen
import Derived.OwnWalkIn
import Derived.TacticsInMore
import Derived.LoopNIn
import Derived.LoopIn
import Derived.WalkSpells
import Derived.WalkLawsBesides
import Derived.BigQuiet
namespace Go.Proofs.YtomblajlpanmjaaGreatDoor
open Go.RowKit Go.Shelf
attribute [local go_sem] Oper.semAt_some

/-- Block b holds the cells cs. -/
def BoxAt (w : World) (b : Nat) (cs : Array Value) (T : TypeId) : Prop := w.heap[b]? = some (.cells cs T (0, 0))
section
variable {w w' : World} {b : Nat} {cs : Array Value} {T : TypeId}
theorem BoxAt.lt (h : BoxAt w b cs T) : b < w.heap.size := by
  rcases Nat.lt_or_ge b w.heap.size with hlt | hge
  · exact hlt
  · unfold BoxAt at h; rw [Array.getElem?_eq_none hge] at h; cases h
theorem BoxAt.cell (h : BoxAt w b cs T) (j : Nat) : w.cell? ⟨b, j, none⟩ = cs[j]? := cell_of_row w b j cs T (0, 0) h
theorem BoxAt.free (h : BoxAt w b cs T) (j : Nat) : w.frozen? ⟨b, j, none⟩ = false := by
  unfold BoxAt at h; simp [World.frozen?, h]
theorem BoxAt.below (h : BoxAt w b cs T) (hb : Below w.heap.size w w') : BoxAt w' b cs T := (hb.block b h.lt).trans h
theorem BoxAt.alloc (h : BoxAt w b cs T) (o : Obj) : BoxAt (w.alloc o) b cs T := h.below ((Below.refl _ _).alloc (Nat.le_refl _) o)
theorem BoxAt.drew (h : BoxAt w b cs T) : BoxAt w.drew b cs T := h
theorem BoxAt.drewN (h : BoxAt w b cs T) (n : Nat) : BoxAt (w.drewN n) b cs T := h
theorem BoxAt.new (w : World) (cs : Array Value) (T : TypeId) : BoxAt (w.alloc (.cells cs T)) w.heap.size cs T := heap_alloc_new w _
theorem BoxAt.set (h : BoxAt w b cs T) (j : Nat) (u : Value) : BoxAt (w.setCell ⟨b, j, none⟩ u) b (cs.setIfInBounds j u) T := heap_setCell_same w b j cs T u h
theorem BoxAt.set_other (h : BoxAt w b cs T) {p : Addr} (hp : b ≠ p.block) (u : Value) : BoxAt (w.setCell p u) b cs T := (Below.heap_setCell _ _ _ _ hp).trans h
theorem BoxAt.grown (h : BoxAt w b cs T) {row : Option Nat} (hg : w.grownBy w' row) (hne : some b ≠ row) : BoxAt w' b cs T := (hg.block b h.lt hne).trans h
end

theorem split_clean {m : UInt8} : ∀ {x : List UInt8}, (∀ b ∈ x, b ≠ m) → splitOn m x = [x]
  | [], _ => rfl
  | c :: r, h => by
    unfold splitOn
    rw [if_neg (h c List.mem_cons_self), split_clean fun b hb => h b (List.mem_cons_of_mem _ hb)]
theorem split_app {m : UInt8} {y : List UInt8} : ∀ {x : List UInt8}, (∀ b ∈ x, b ≠ m) → splitOn m (x ++ m :: y) = x :: splitOn m y
  | [], _ => by
    show splitOn m (m :: y) = _
    rw [splitOn, if_pos rfl]
  | c :: r, h => by
    show splitOn m (c :: (r ++ m :: y)) = _
    rw [splitOn, if_neg (h c List.mem_cons_self), split_app fun b hb => h b (List.mem_cons_of_mem _ hb)]
theorem ext_byt (s : ByteArray) {f k : Nat} : (s.extract f k).data.toList = (s.data.toList.take k).drop f := by
  rw [ByteArray.data_extract, Array.toList_extract, List.extract_eq_take_drop, List.drop_take]
theorem idx_none {m : UInt8} {l : List UInt8} (h : Lib.indexByte l m < 0) : ∀ c ∈ l, c ≠ m := by
  have h1 := Lib.indexByte_ge l m
  have h2 := Lib.indexByte_none (l := l) (c := m) (by omega)
  rintro c hc rfl
  obtain ⟨k, hk, e⟩ := List.mem_iff_getElem.1 hc
  exact h2 k (by rw [List.getElem?_eq_getElem hk, e])
theorem idx_some {m : UInt8} {l : List UInt8} {j : Nat} (h : Lib.indexByte l m = j) : j < l.length ∧ (∀ c ∈ l.take j, c ≠ m) ∧ l = l.take j ++ m :: l.drop (j + 1) := by
  obtain ⟨h1, h2⟩ := Lib.indexByte_some h
  obtain ⟨hj, e⟩ := List.getElem?_eq_some_iff.1 h1
  refine ⟨hj, ?_, ?_⟩
  · rintro c hc rfl
    obtain ⟨k, hk, e2⟩ := List.mem_iff_getElem.1 hc
    rw [List.length_take] at hk
    rw [List.getElem_take] at e2
    exact h2 k (by omega) (by rw [List.getElem?_eq_getElem (by omega), e2])
  · have h3 : l.drop j = m :: l.drop (j + 1) := by rw [List.drop_eq_getElem_cons hj, e]
    rw [← h3, List.take_append_drop]
abbrev TxS := { x : ByteArray // x.size ≤ 100000 }
def txq (l : List TxS) : List (List UInt8) := l.map (·.1.data.toList)
theorem txq_app (a b : List TxS) : txq (a ++ b) = txq a ++ txq b := List.map_append
def strAt (b : Nat) (W : World) : Nat := match W.cell? ⟨b, 0, none⟩ with
  | some (.string s) => s.size
  | _ => 0
theorem strAt_box {b : Nat} {W : World} {s : ByteArray} {T : TypeId} (h : BoxAt W b #[.string s] T) : strAt b W = s.size := by
  unfold strAt; rw [h.cell 0]; try rfl
def MvB (b : Nat) (W W' : World) : Prop := ∃ v, W' = W.setCell ⟨b, 0, none⟩ v
section
variable {F : Fence} {n : Nat} {P : Program}

/-- What an iterator does that turns, between two rounds, what 'Mv' tells, and wants of a round what 'Kp' tells. -/
def SeqMv {α : Type} (F : Fence) (n : Nat) (P : Program) (g : Nat) (lb : Array Value) (encs : α → Array Value) (Kp Mv : World → World → Prop) (S Sp : List α → Prop) (N : Nat) (w : World) : Prop :=
  ∀ (l : Nat) (J Jx : List α → World → Prop) (W : World), Below w.heap.size w W → AbidesFrom W.heap.size J → (∀ s X Y, J s X → Mv X Y → J s Y) →
    (∀ pre x W1, J pre W1 → pre.length < N → Sp (pre ++ [x]) → YieldAt F (n - 1) P l (encs x) W1 fun e W' =>
      (e = .returned (.bool true) ∧ J (pre ++ [x]) W' ∧ Kp W1 W') ∨ (e = .returned (.bool false) ∧ Jx (pre ++ [x]) W')) →
    J [] W →
    CallsIn F n P g (#[.func (.yield l) #[] #[]] ++ lb) W fun e W' => (∃ v, e = .returned v) ∧ ((∃ xs, S xs ∧ J xs W') ∨ (∃ pre, Sp pre ∧ Jx pre W'))

theorem wpIn_rangeFunc_mv {α : Type} {g : Operand} {ps : Array Tmp} {assign body : Code} {Q : Exit → Act → World → Prop} {a : Act} {w : World}
    (hro : F.round = none) (h1 : 1 ≤ n) {gf : Nat} {lb : Array Value} (hg : a.eval g = .func (.func gf) #[] lb) (hFg : F.fn gf) (eg : ∀ args w, (callFunc gf args).run P w = .ok (.enter gf args) w)
    {encs : α → Array Value} {Kp Mv : World → World → Prop} {S Sp : List α → Prop} {N : Nat} (hseq : SeqMv F (n - 1) P gf lb encs Kp Mv S Sp N w)
    (hKt : ∀ {A B C : World}, Kp A B → Kp B C → Kp A C) (hKb : ∀ (W : World) (l : Nat) (o' : Obj), w.heap.size ≤ l → Kp W (W.putObj l o')) (hps : ∀ x, (encs x).size = ps.size)
    (I : List α → World → Prop) (Ix : Code → List α → World → Prop) (hI : OwnFrom w.heap.size I) (hIx : ∀ c, OwnFrom w.heap.size (Ix c)) (hIm : ∀ s X Y, I s X → Mv X Y → I s Y) (hMk : ∀ (X Y : World) (k : Nat), w.heap.size ≤ k → Mv X Y → Y.heap[k]? = X.heap[k]?) (h0 : I [] w) (a₁ : α → Act)
    (hassign : ∀ (l : Nat) (x : α) (W : World) (K : Act → World → Prop), K (a₁ x) W →
      assign.wpIn (F.inRound l) (n - 1 - 1) P (Exit.then K (fun _ _ _ => False)) { tmps := (ps.zip (encs x)).foldl (fun t (p, v) => t.setIfInBounds p v) a.tmps, defers := [] } W)
    (hbody : ∀ (l : Nat) (pre : List α) (x : α) (W : World), I pre W → pre.length < N → Sp (pre ++ [x]) → body.wpIn (F.inRound l) (n - 1 - 1) P (ownPostG w.heap.size Kp I Ix (pre ++ [x]) W) (a₁ x) W)
    (hdone : ∀ (D : Nat) (xs : List α) (W : World), w.heap.size ≤ D → S xs → I xs W → W.heap[D]? = some (.deferred (some [])) → Q .normal { a with defers := { target := .collected D, args := #[] } :: a.defers } W)
    (hstop : ∀ (D : Nat) (c : Code) (pre : List α) (W : World), w.heap.size ≤ D → Sp pre → Ix c pre W → W.heap[D]? = some (.deferred (some [])) → c.wpIn F n P Q { a with defers := { target := .collected D, args := #[] } :: a.defers } W) :
    (Code.rangeFunc g ps assign body).wpIn F n P Q a w := by
  refine wpIn_rangeFunc fun fn hfn => ?_
  rw [hro]
  -- the loop's record, by its state and its pending jump
  let lp : LoopState → Option Code → Loop := fun st pe => { state := st, pending := pe, fn, tmps := a.tmps, params := ps, assign, body, defers := w.heap.size }
  have hlp : ∀ st pe, lp st pe = { state := st, pending := pe, fn, tmps := a.tmps, params := ps, assign, body, defers := w.heap.size } := fun _ _ => rfl
  obtain ⟨B, hB⟩ : ∃ B, B = w.heap.size := ⟨_, rfl⟩
  obtain ⟨V, hV⟩ : ∃ V, V = (w.alloc (.deferred (some []))).alloc (.loop (lp .ready none)) := ⟨_, rfl⟩
  have vsz : V.heap.size = B + 2 := by rw [hV, hB]; simp
  have vloop : V.heap[B + 1]? = some (.loop (lp .ready none)) := by
    have h := World.alloc_heap_new (w.alloc (.deferred (some []))) (.loop (lp .ready none))
    rw [World.size_alloc, ← hV, ← hB] at h; exact h
  have vdef : V.heap[B]? = some (.deferred (some [])) := by
    rw [hV, hB]; exact (Below.heap_alloc _ _ _ (by simp)).trans (World.alloc_heap_new w _)
  have vI : I [] V := by rw [hV]; exact hI.alloc _ (hI.alloc _ h0)
  have vb : Below w.heap.size w V := by rw [hV]; exact ((Below.refl _ w).alloc (Nat.le_refl _) _).alloc (by simp) _
  rw [← hB] at hI hIx hMk hbody hdone hstop hKb
  -- what holds between two rounds, and where one has said that it is enough
  let J : List α → World → Prop := fun s W => I s W ∧ W.heap[B + 1]? = some (.loop (lp .ready none)) ∧ W.heap[B]? = some (.deferred (some []))
  let Jx : List α → World → Prop := fun s W => ∃ c, Ix c s W ∧ W.heap[B + 1]? = some (.loop (lp .done (some c))) ∧ W.heap[B]? = some (.deferred (some []))
  have walkNot : ∀ {A : World} {row : Option Nat}, (∀ r, row = some r → V.heap.size ≤ r ∧ ∃ o : Obj, A.heap[r]? = some o ∧ o.isWalk = true) → (∀ r, row = some r → B ≤ r ∧ ∃ o : Obj, A.heap[r]? = some o ∧ o.isCells = false) :=
    fun h r e => by
      obtain ⟨h1, o, ho, hw⟩ := h r e
      exact ⟨by omega, o, ho, Obj.not_cells_of_walk hw⟩
  have hJ : AbidesFrom V.heap.size J := fun s X Y row hs hg hr =>
    ⟨hI s X Y row hs.1 hg (walkNot hr), (grownBy_keeps hg (fun r e => (hr r e).2) hs.2.1 rfl).trans hs.2.1, (grownBy_keeps hg (fun r e => (hr r e).2) hs.2.2 rfl).trans hs.2.2⟩
  have hJm : ∀ s X Y, J s X → Mv X Y → J s Y := fun s X Y hs hm =>
    ⟨hIm s X Y hs.1 hm, (hMk X Y _ (by omega) hm).trans hs.2.1, (hMk X Y _ (Nat.le_refl _) hm).trans hs.2.2⟩
  refine ⟨B + 1, [{ target := .collected B, args := #[] }], V, { target := .fn (.func gf) lb, args := #[.func (.yield (B + 1)) #[] #[]] }, V, gf, #[.func (.yield (B + 1)) #[] #[]] ++ lb, V, ?_, ?_, ?_, ?_, fun _ => h1, ?_⟩
  · rw [hV, hB]; exact run_enterLoop_outer _ _ _ _ _
  · simp only [resolve, hg]; simp [go_sem]
  · intro f' hf'; simp [Target.leads] at hf'; subst hf'; exact hFg
  · simp [invoke, go_sem, eg]
  refine (hseq (B + 1) J Jx V vb hJ hJm ?_ ⟨vI, vloop, vdef⟩).mono ?_
  · rintro pre x W ⟨hi, hl, hk⟩ hlen hsp
    have hlt : B + 1 < W.heap.size := (Array.getElem?_eq_some_iff.1 hl).1
    have hy := run_yield (P := P) (args := encs x) hl (by rw [hlp]; exact hps x)
    rw [hlp] at hy
    refine ⟨fn, _, assign, body, hy, roundIn_of_wpIn hfn (hassign _ x W _ ⟨_, run_beginRound hl (by rw [hlp]), ?_⟩)⟩
    obtain ⟨Wb, hWb⟩ : ∃ Wb, Wb = W.putObj (B + 1) (.loop { lp .ready none with state := .busy }) := ⟨_, rfl⟩
    have bl : Wb.heap[B + 1]? = some (.loop { lp .ready none with state := .busy }) := by rw [hWb]; exact World.putObj_heap_same hlt
    have bd : Wb.heap[B]? = some (.deferred (some [])) := by rw [hWb]; exact (World.putObj_heap_other (by omega)).trans hk
    have bk : Kp W Wb := by rw [hWb]; exact hKb _ _ _ (by omega)
    have bi : I pre Wb := by rw [hWb]; exact hI.putObj _ hi (by omega) hl rfl
    rw [← hWb]
    refine wpIn_mono (hbody _ pre x _ bi hlen hsp) ?_
    have fin : ∀ (jump : Option Code) (W3 : World), KeepsFrom B Wb W3 →
        (Instr.endRound (B + 1) jump).run P W3 = .ok (.bool jump.isNone) (W3.putObj (B + 1) (.loop (lp (if jump.isNone then .ready else .done) jump))) ∧
        W3.heap[B + 1]? = some (.loop { lp .ready none with state := .busy }) ∧
        (W3.putObj (B + 1) (.loop (lp (if jump.isNone then .ready else .done) jump))).heap[B + 1]? = some (.loop (lp (if jump.isNone then .ready else .done) jump)) ∧
        (W3.putObj (B + 1) (.loop (lp (if jump.isNone then .ready else .done) jump))).heap[B]? = some (.deferred (some [])) := fun jump W3 hk3 => by
      have h3 := hk3.same _ _ (by omega) bl rfl
      have hr := run_endRound (P := P) jump h3
      exact ⟨hr, h3, World.putObj_heap_same (Array.getElem?_eq_some_iff.1 h3).1, (World.putObj_heap_other (by omega)).trans (hk3.same _ _ (Nat.le_refl _) bd rfl)⟩
    have left : ∀ (c : Code) (W3 : World), KeepsFrom B Wb W3 → Ix c (pre ++ [x]) W3 → ∃ v W4, (Instr.endRound (B + 1) (some c)).run P W3 = .ok v W4 ∧ v = .bool false ∧ Jx (pre ++ [x]) W4 := fun c W3 hk3 hi3 => by
      obtain ⟨hr, h3, h4, h5⟩ := fin (some c) W3 hk3
      exact ⟨_, _, hr, rfl, c, (hIx _).putObj _ hi3 (by omega) h3 rfl, h4, h5⟩
    rintro e a3 W3 hp
    cases e with
    | normal =>
      obtain ⟨hk3, hkp, hi3⟩ := hp
      obtain ⟨hr, h3, h4, h5⟩ := fin none W3 hk3
      exact ⟨_, _, hr, .inl ⟨rfl, ⟨hI.putObj _ hi3 (by omega) h3 rfl, h4, h5⟩, hKt (hKt bk hkp) (hKb _ _ _ (by omega))⟩⟩
    | ret => obtain ⟨v, W4, hr, rfl, hx⟩ := left _ _ hp.1 hp.2; exact ⟨_, _, hr, .inr ⟨rfl, hx⟩⟩
    | exit id => obtain ⟨v, W4, hr, rfl, hx⟩ := left _ _ hp.1 hp.2; exact ⟨_, _, hr, .inr ⟨rfl, hx⟩⟩
    | goto t => obtain ⟨v, W4, hr, rfl, hx⟩ := left _ _ hp.1 hp.2; exact ⟨_, _, hr, .inr ⟨rfl, hx⟩⟩
    | panic ch => exact hp.elim
    | outgrown => exact hp.elim
  · rintro e W2 ⟨⟨v, rfl⟩, (⟨xs, hS, hi, hl, hk⟩ | ⟨pre, hSp, c, hi, hl, hk⟩)⟩
    · exact ⟨none, _, run_endLoop (P := P) hl (by rw [hlp]; simp), hdone _ xs _ (Nat.le_refl _) hS (hI.putObj _ hi (by omega) hl rfl) ((World.putObj_heap_other (by omega)).trans hk)⟩
    · exact ⟨some c, _, run_endLoop (P := P) hl (by rw [hlp]; simp), hstop _ c pre _ (Nat.le_refl _) hSp ((hIx c).putObj _ hi (by omega) hl rfl) ((World.putObj_heap_other (by omega)).trans hk)⟩
end
def KpT (b1 b2 b3 : Nat) (W W' : World) : Prop := W'.heap[b1]? = W.heap[b1]? ∧ W'.heap[b2]? = W.heap[b2]? ∧ W'.heap[b3]? = W.heap[b3]?
set_option maxRecDepth 100000 in
set_option maxHeartbeats 1000000 in
theorem splitSeq1_any (s : ByteArray) (m : UInt8) (b1 b2 b3 l n : Nat) (J Jx : List TxS → World → Prop) (W : World)
    (hb1 : BoxAt W b1 #[.string ⟨#[m]⟩] 9) (hb2 : BoxAt W b2 #[.string s] 9) (hb3 : BoxAt W b3 #[.int .i64 0] 3) (h12 : b1 ≠ b2) (h32 : b3 ≠ b2) (hs : s.size ≤ 100000) (hJ : AbidesFrom W.heap.size J) (hJm : ∀ q X Y, J q X → MvB b2 X Y → J q Y)
    (hY : ∀ pre x W1, J pre W1 → pre.length < s.size + 1 → (∃ r, txq (pre ++ [x]) ++ r = splitOn m s.data.toList) → YieldAt Fence.wide (n - 1) Tryz.prog l #[.string (x : TxS).1] W1 fun e W' =>
      (e = .returned (.bool true) ∧ J (pre ++ [x]) W' ∧ KpT b1 b2 b3 W1 W') ∨ (e = .returned (.bool false) ∧ Jx (pre ++ [x]) W'))
    (hj0 : J [] W) :
    CallsIn Fence.wide n Tryz.prog 207 #[.func (.yield l) #[] #[], .pointer (some ⟨b1, 0, none⟩), .pointer (some ⟨b2, 0, none⟩), .pointer (some ⟨b3, 0, none⟩)] W fun e W' => (∃ v, e = .returned v) ∧
      ((∃ ys, txq ys = splitOn m s.data.toList ∧ J ys W') ∨ (∃ pre, (∃ r, txq pre ++ r = splitOn m s.data.toList) ∧ Jx pre W')) := by
  have HJ := Lib.hid hJ; have HM := Lib.hid hJm; have HY := Lib.hid hY
  clear hJ hJm hY
  have hz1 : ((⟨#[m]⟩ : ByteArray).size : Int) = 1 := rfl
  have hz2 : (⟨#[m]⟩ : ByteArray).size = 1 := rfl
  obtain ⟨sep, hsep⟩ : ∃ sep, sep = (⟨#[m]⟩ : ByteArray) := ⟨_, rfl⟩
  rw [← hsep] at hz1 hz2 hb1
  have HSEP := Lib.hid hsep
  clear hsep
  have c1 := hb1.cell 0
  simp at c1
  refine callsIn_of_wp Tryz.func207 rfl trivial ?_ rfl
  simp only [Tryz.ntmps207, List.size_toArray, List.length_cons, List.length_nil, Nat.reduceAdd, Nat.reduceSub, Array.replicate_succ, Array.replicate_zero, List.push_toArray, List.append_toArray, List.nil_append, List.cons_append]
  gi_wp2
  gi_loopw [] (fun wr => ∃ (pre : List TxS) (t : ByteArray), t.size + pre.length ≤ s.size ∧ BoxAt wr b1 #[.string sep] 9 ∧ BoxAt wr b2 #[.string t] 9 ∧ BoxAt wr b3 #[.int .i64 0] 3 ∧ J pre wr ∧ Hid (splitOn m s.data.toList = txq pre ++ splitOn m t.data.toList)) (fun wr => strAt b2 wr)
  case atStart => exact ⟨[], s, by simp, hb1, hb2, hb3, hj0, Lib.hid rfl⟩
  case round =>
    obtain ⟨pre, t, hle, bx1, bx2, bx3, hj, HL⟩ := hrel
    clear c1 hb1 hb2 hb3 hj0
    have c1 := bx1.cell 0
    have c2 := bx2.cell 0
    have c3 := bx3.cell 0
    have f2 := bx2.free 0
    have hlt := bx2.lt
    simp at c1 c2 c3
    have HIX := Lib.hid (fun W => Tryz.strings_Index_one t m W)
    rw [← HSEP.out] at HIX
    obtain ⟨ix, hix⟩ : ∃ ix, Lib.indexByte t.data.toList m = ix := ⟨_, rfl⟩
    rw [hix] at HIX
    by_cases h1 : ix < 0
    · have HA := Lib.hid (idx_none (l := t.data.toList) (m := m) (by rw [hix]; exact h1))
      obtain ⟨x, hx⟩ : ∃ x : TxS, x.1 = t := ⟨⟨t, by omega⟩, rfl⟩
      have HLL := Lib.hid (show splitOn m s.data.toList = txq (pre ++ [x]) by rw [HL.out, split_clean HA.out, txq_app, ← hx]; try rfl)
      obtain ⟨fn, tmps, assign, body, hy, hR⟩ := HY.out pre x _ hj (by omega) ⟨[], by rw [List.append_nil]; exact HLL.out.symm⟩
      rw [hx] at hy
      clear hix
      gi_wp2_with (refine ⟨trivial, fun h => (by simp [Fence.wide] at h), ?_⟩; refine (callsIn_wide.2 (HIX.out _)).mono ?_; rintro e w' ⟨rfl, rfl⟩)
      refine ⟨fun h => (by simp [Fence.wide] at h), hR.mono ?_⟩
      rintro e W3 (⟨rfl, hJ3, hk3⟩ | ⟨rfl, hJx3⟩)
      · gi_wp2
        go_end0
        exact ⟨⟨_, rfl⟩, .inl ⟨_, HLL.out.symm, hJ3⟩⟩
      · gi_wp2
        go_end0
        exact ⟨⟨_, rfl⟩, .inr ⟨_, ⟨[], by rw [List.append_nil]; exact HLL.out.symm⟩, hJx3⟩⟩
    · obtain ⟨j, rfl⟩ : ∃ j : Nat, ix = j := ⟨ix.toNat, by omega⟩
      obtain ⟨hjl, hno, hsplit⟩ := idx_some hix
      rw [Array.length_toList] at hjl
      have hjs : j < t.size := hjl
      obtain ⟨x, hx⟩ : ∃ x : TxS, x.1 = t.extract 0 j := ⟨⟨t.extract 0 j, by have := @ByteArray.size_extract t 0 j; have h7 := Nat.min_le_right j t.size; omega⟩, rfl⟩
      have hxl : x.1.data.toList = t.data.toList.take j := by
        rw [hx, ext_byt, List.drop_zero]
      have HLL := Lib.hid (show splitOn m s.data.toList = txq (pre ++ [x]) ++ splitOn m (t.extract (j + 1) t.size).data.toList by
        rw [HL.out, txq_app, ext_byt, List.take_of_length_le (by rw [Array.length_toList]; exact Nat.le_refl _)]
        conv => lhs; rw [hsplit, split_app hno]
        rw [List.append_assoc]
        show _ = txq pre ++ ([x.1.data.toList] ++ _)
        rw [hxl]; try rfl)
      have hj1 : ((j : Nat) : Int) + 1 ≤ (t.size : Int) := by omega
      have hj2 : ((j : Nat) : Int) ≤ (t.size : Int) := by omega
      have hj0' : ¬ ((j : Nat) : Int) < 0 := by omega
      obtain ⟨fn, tmps, assign, body, hy, hR⟩ := HY.out pre x _ hj (by omega) ⟨_, HLL.out.symm⟩
      rw [hx] at hy
      clear hix hsplit hno hxl
      gi_wp2_with (refine ⟨trivial, fun h => (by simp [Fence.wide] at h), ?_⟩; refine (callsIn_wide.2 (HIX.out _)).mono ?_; rintro e w' ⟨rfl, rfl⟩)
      refine ⟨fun h => (by simp [Fence.wide] at h), hR.mono ?_⟩
      rintro e W3 (⟨rfl, hJ3, hk1, hk2, hk3⟩ | ⟨rfl, hJx3⟩)
      · have y1 : BoxAt W3 b1 #[.string sep] 9 := Eq.trans hk1 bx1
        have y2 : BoxAt W3 b2 #[.string t] 9 := Eq.trans hk2 bx2
        have y3 : BoxAt W3 b3 #[.int .i64 0] 3 := Eq.trans hk3 bx3
        have hz : (t.extract (j + 1) t.size).size + (j + 1) = t.size := by have := @ByteArray.size_extract t (j + 1) t.size; rw [Nat.min_self] at this; omega
        have d1 := y1.cell 0
        have d2 := y2.cell 0
        have g2 := y2.free 0
        simp at d1 d2
        have z2 := y2.set 0 (.string (t.extract (j + 1) t.size))
        have hjm := HM.out _ _ _ hJ3 ⟨.string (t.extract (j + 1) t.size), rfl⟩
        gi_wp2
        go_roundw
        case rel => exact ⟨pre ++ [x], t.extract (j + 1) t.size, by rw [List.length_append]; simp; omega, y1.set_other h12 _, z2, y3.set_other h32 _, hjm, HLL⟩
        case measure => rw [strAt_box z2, strAt_box bx2]; omega
      · gi_wp2
        refine bodyPost_ret (results_none rfl _ _ _) rfl ?_
        exact ⟨⟨_, rfl⟩, .inr ⟨_, ⟨_, HLL.out.symm⟩, hJx3⟩⟩
/-- The boxes that SplitSeq makes. -/
def SqW (w : World) (s : ByteArray) (m : UInt8) : World := ((w.alloc (.cells #[.string s] 9)).alloc (.cells #[.string ⟨#[m]⟩] 9)).alloc (.cells #[.int .i64 0] 3)
theorem splitSeq_any (s : ByteArray) (m : UInt8) (w : World) :
    Calls Tryz.prog 153 #[.string s, .string ⟨#[m]⟩] w fun e w' => e = .returned (.func (.func 207) #[] #[.pointer (some ⟨w.heap.size + 1, 0, none⟩), .pointer (some ⟨w.heap.size, 0, none⟩), .pointer (some ⟨w.heap.size + 1 + 1, 0, none⟩)]) ∧ w' = SqW w s m := by
  go_enter Tryz.func153, Tryz.ntmps153
  go_wp2
  go_ret
  exact ⟨rfl, rfl⟩
theorem splitSeq_mv (s : ByteArray) (m : UInt8) (b1 b2 b3 n : Nat) (w : World) (hb1 : BoxAt w b1 #[.string ⟨#[m]⟩] 9) (hb2 : BoxAt w b2 #[.string s] 9) (hb3 : BoxAt w b3 #[.int .i64 0] 3) (h12 : b1 ≠ b2) (h32 : b3 ≠ b2) (hs : s.size ≤ 100000) :
    SeqMv Fence.wide n Tryz.prog 207 #[.pointer (some ⟨b1, 0, none⟩), .pointer (some ⟨b2, 0, none⟩), .pointer (some ⟨b3, 0, none⟩)] (fun x : TxS => #[.string x.1]) (KpT b1 b2 b3) (MvB b2) (fun ys => txq ys = splitOn m s.data.toList) (fun pre => ∃ r, txq pre ++ r = splitOn m s.data.toList) (s.size + 1) w :=
  fun l J Jx W hW hJ hJm hY hj0 => splitSeq1_any s m b1 b2 b3 l n J Jx W (hb1.below hW) (hb2.below hW) (hb3.below hW) h12 h32 hs hJ hJm hY hj0
end Go.Proofs.YtomblajlpanmjaaGreatDoor

namespace Go.Proofs.YtomblajlpanmjaaGreatDoor
open Go.RowKit Go.Shelf
attribute [local go_sem] Oper.semAt_some

def wdP : Nat → List (List UInt8) → List (Nat × List UInt8)
  | _, [] => []
  | k, x :: r => if x = [] then wdP (k + 1) r else (k, x) :: wdP (k + x.length + 1) r
/-- The words of a line with their places. -/
def wordsL (t : List UInt8) : List (Nat × List UInt8) := wdP 0 (splitOn 32 t)
def advP (L : List (List UInt8)) : Nat := (L.map fun x => x.length + 1).sum
theorem wdP_app (b : List (List UInt8)) : ∀ (a : List (List UInt8)) (k : Nat), wdP k (a ++ b) = wdP k a ++ wdP (k + advP a) b
  | [], k => by show wdP k b = [] ++ wdP (k + 0) b; rw [Nat.add_zero]; try rfl
  | x :: a, k => by
    have h : advP (x :: a) = x.length + 1 + advP a := by unfold advP; rw [List.map_cons, List.sum_cons]
    show (if x = [] then wdP (k + 1) (a ++ b) else (k, x) :: wdP (k + x.length + 1) (a ++ b)) = (if x = [] then wdP (k + 1) a else (k, x) :: wdP (k + x.length + 1) a) ++ wdP (k + advP (x :: a)) b
    by_cases h0 : x = []
    · rw [if_pos h0, if_pos h0, wdP_app b a, h, h0, show k + (([] : List UInt8).length + 1 + advP a) = k + 1 + advP a by simp; omega]
    · rw [if_neg h0, if_neg h0, wdP_app b a, h, List.cons_append, show k + (x.length + 1 + advP a) = k + x.length + 1 + advP a by omega]
theorem advP_snoc (a : List (List UInt8)) (x : List UInt8) : advP (a ++ [x]) = advP a + (x.length + 1) := by unfold advP; rw [List.map_append, List.sum_append]; simp
theorem advP_eq : ∀ L : List (List UInt8), advP L = L.flatten.length + L.length
  | [] => rfl
  | x :: r => by
    have h : advP (x :: r) = x.length + 1 + advP r := by unfold advP; rw [List.map_cons, List.sum_cons]
    rw [h, advP_eq r, List.flatten_cons, List.length_append, List.length_cons]; omega
theorem advP_split {m : UInt8} {t : List UInt8} {a r : List (List UInt8)} (h : a ++ r = splitOn m t) : advP a ≤ t.length + 1 := by
  have h1 := splitOn_len m t
  rw [← h, List.flatten_append, List.length_append, List.length_append] at h1
  rw [advP_eq]; omega
abbrev WdS := { x : Nat × ByteArray // x.1 ≤ 200000 ∧ x.2.size ≤ 100000 }
def wds (l : List WdS) : List (Nat × List UInt8) := l.map fun x => (x.1.1, x.1.2.data.toList)
theorem wds_app (a b : List WdS) : wds (a ++ b) = wds a ++ wds b := List.map_append
theorem roundIn_round {P : Program} {l n m lo : Nat} {fn : FuncId} {tmps : Array Value} {assign body : Code} {W : World} {R : Ending → World → Prop} (h : RoundIn Fence.wide n P l fn tmps assign body W R) : RoundIn (Fence.wide.inRound lo) m P l fn tmps assign body W R :=
  ⟨h.1, fun c cs _ => h.2 c cs (fun d hd => by cases hd)⟩
theorem keeps_low {B B' : Nat} {X Y : World} (h : KeepsFrom B X Y) (hB : B ≤ B') : KeepsFrom B' X Y := ⟨h.size, fun k o hk => h.same k o (Nat.le_trans hB hk)⟩
def WI (g l : Nat) (J : List WdS → World → Prop) (p : List TxS) (X : World) : Prop :=
  g + 5 ≤ X.heap.size ∧ BoxAt X g #[.func (.yield l) #[] #[]] 235 ∧ BoxAt X (g + 1) #[.int .i64 (advP (txq p) : Int)] 3 ∧ ∃ pre, wds pre = wdP 0 (txq p) ∧ pre.length ≤ p.length ∧ J pre X
def WX (Jx : List WdS → World → Prop) (s : List UInt8) (c : Code) (_ : List TxS) (X : World) : Prop := c = .ret ∧ ∃ pre, (∃ r, wds pre ++ r = wordsL s) ∧ Jx pre X
theorem box_keeps {X Y : World} {row : Option Nat} {b : Nat} {cs : Array Value} {T : TypeId} (h : BoxAt X b cs T) (hg : X.grownBy Y row) (hr : ∀ r, row = some r → ∃ o : Obj, X.heap[r]? = some o ∧ o.isCells = false) : BoxAt Y b cs T :=
  h.grown hg fun e => by
    obtain ⟨o, ho, hf⟩ := hr b e.symm
    rw [show X.heap[b]? = _ from h] at ho; cases ho; cases hf
theorem WI.own {g l : Nat} {J : List WdS → World → Prop} (hJ : OwnFrom g J) {B : Nat} (hB : g ≤ B) : OwnFrom B (WI g l J) := fun _ X Y row ⟨h1, h2, h3, pre, h4, h5, h6⟩ hg hr =>
  ⟨Nat.le_trans h1 hg.size, box_keeps h2 hg (fun r e => (hr r e).2), box_keeps h3 hg (fun r e => (hr r e).2), pre, h4, h5, hJ pre X Y row h6 hg (fun r e => ⟨Nat.le_trans hB (hr r e).1, (hr r e).2⟩)⟩
theorem WX.own {g : Nat} {Jx : List WdS → World → Prop} {s : List UInt8} (hJ : OwnFrom g Jx) {B : Nat} (hB : g ≤ B) (c : Code) : OwnFrom B (WX Jx s c) := fun _ X Y row ⟨h1, pre, h2, h3⟩ hg hr =>
  ⟨h1, pre, h2, hJ pre X Y row h3 hg (fun r e => ⟨Nat.le_trans hB (hr r e).1, (hr r e).2⟩)⟩
/-- A function leaves past one mark. -/
theorem leave_one {F : Fence} {n : Nat} {P : Program} {fn : Func} {tmps : Array Value} {R : Ending → World → Prop} {D : Nat} {X : World} {v : Value} (hD : X.heap[D]? = some (.deferred (some [])))
    (h1 : ∀ Y, (results fn tmps).run P Y = .ok v Y) (h2 : R (.returned v) (X.putObj D (.deferred none))) : LeavesInM F n P fn tmps R [{ target := .collected D, args := #[] }] .returning X :=
  ⟨by simp, .inl ⟨D, _, rfl, run_takeDeferred hD, ⟨v, h1 _, h2⟩⟩⟩
theorem wordsIn_any (s : ByteArray) (w : World) :
    Calls Tryz.prog 114 #[.string s] w fun e w' => e = .returned (.func (.func 152) #[] #[.pointer (some ⟨w.heap.size, 0, none⟩)]) ∧ w' = w.alloc (.cells #[.string s] 9) := by
  go_enter Tryz.func114, Tryz.ntmps114
  go_wp2
  go_ret
  exact ⟨rfl, rfl⟩
set_option maxRecDepth 100000 in
set_option maxHeartbeats 1000000 in
theorem wordsIn1_any (s : ByteArray) (b l n : Nat) (J Jx : List WdS → World → Prop) (W : World) (hn : 4 ≤ n)
    (hb : BoxAt W b #[.string s] 9) (hs : s.size ≤ 100000) (hJ : OwnFrom W.heap.size J) (hJx : OwnFrom W.heap.size Jx) (hJm : ∀ q X Y, J q X → WinSet W.heap.size (W.heap.size + 5) X Y → J q Y)
    (hY : ∀ pre x W1, J pre W1 → W.heap.size + 5 ≤ W1.heap.size → pre.length < s.size + 1 → (∃ r, wds (pre ++ [x]) ++ r = wordsL s.data.toList) → YieldAt Fence.wide (n - 1) Tryz.prog l #[.int .i64 ((x : WdS).1.1 : Int), .string x.1.2] W1 fun e W' =>
      (e = .returned (.bool true) ∧ J (pre ++ [x]) W' ∧ WinKp W.heap.size (W.heap.size + 5) W1 W' ∧ KeepsFrom W.heap.size W1 W') ∨ (e = .returned (.bool false) ∧ Jx (pre ++ [x]) W' ∧ KeepsFrom W.heap.size W1 W'))
    (hj0 : ∀ X, Below W.heap.size W X → W.heap.size + 5 ≤ X.heap.size → J [] X) :
    CallsIn Fence.wide n Tryz.prog 152 #[.func (.yield l) #[] #[], .pointer (some ⟨b, 0, none⟩)] W fun e W' => (∃ v, e = .returned v) ∧
      ((∃ ys, wds ys = wordsL s.data.toList ∧ J ys W') ∨ (∃ pre, (∃ r, wds pre ++ r = wordsL s.data.toList) ∧ Jx pre W')) := by
  have HJ := Lib.hid hJ; have HJX := Lib.hid hJx; have HM := Lib.hid hJm; have HY := Lib.hid hY
  obtain ⟨g, hg⟩ : ∃ g, W.heap.size = g := ⟨_, rfl⟩
  rw [hg] at HJ HJX HM HY
  have hbl := hb.lt
  obtain ⟨W2, hW2⟩ : ∃ W2, W2 = (W.alloc (.cells #[.func (.yield l) #[] #[]] 235)).alloc (.cells #[.int .i64 0] 3) := ⟨_, rfl⟩
  have z2 : W2.heap.size = g + 2 := by rw [hW2]; simp; omega
  have hb2 : Below W.heap.size W W2 := by rw [hW2]; exact ((Below.refl _ _).alloc (Nat.le_refl _) _).alloc (by simp) _
  have y2 : BoxAt W2 g #[.func (.yield l) #[] #[]] 235 := by
    have h := BoxAt.new W #[.func (.yield l) #[] #[]] 235
    rw [hg] at h; rw [hW2]; exact h.alloc _
  have a2 : BoxAt W2 (g + 1) #[.int .i64 0] 3 := by
    have h := BoxAt.new (W.alloc (.cells #[.func (.yield l) #[] #[]] 235)) #[.int .i64 0] 3
    rw [World.size_alloc, hg] at h; rw [hW2]; exact h
  obtain ⟨V, hV⟩ : ∃ V, V = SqW W2 s 32 := ⟨_, rfl⟩
  have zV : V.heap.size = g + 5 := by rw [hV]; unfold SqW; simp; omega
  have hbV2 : Below W2.heap.size W2 V := by rw [hV]; unfold SqW; exact (((Below.refl _ _).alloc (Nat.le_refl _) _).alloc (by simp) _).alloc (by simp; omega) _
  have v0 := y2.below hbV2
  have v1 := a2.below hbV2
  have hbV : Below W.heap.size W V := hb2.trans (hbV2.mono hb2.size)
  have v2 : BoxAt V (g + 2) #[.string s] 9 := by
    have h := ((BoxAt.new W2 #[.string s] 9).alloc (.cells #[.string ⟨#[32]⟩] 9)).alloc (.cells #[.int .i64 0] 3)
    rw [z2] at h; rw [hV]; exact h
  have v3 : BoxAt V (g + 3) #[.string ⟨#[32]⟩] 9 := by
    have h := (BoxAt.new (W2.alloc (.cells #[.string s] 9)) #[.string ⟨#[32]⟩] 9).alloc (.cells #[.int .i64 0] 3)
    rw [World.size_alloc, z2] at h; rw [hV]; exact h
  have v4 : BoxAt V (g + 4) #[.int .i64 0] 3 := by
    have h := BoxAt.new ((W2.alloc (.cells #[.string s] 9)).alloc (.cells #[.string ⟨#[32]⟩] 9)) #[.int .i64 0] 3
    rw [World.size_alloc, World.size_alloc, z2] at h; rw [hV]; exact h
  have hj1 := hj0 V hbV (by omega)
  have HW2 := Lib.hid hW2; have HV := Lib.hid hV; have HG := Lib.hid hg
  have hbW2 := hb.below hb2
  have c0 := hbW2.cell 0
  simp at c0
  clear hJ hJx hJm hY hj0 hV y2 a2 hb2 hbV2 hbV hb
  refine callsIn_of_wp_marks Tryz.func152 rfl trivial ?_ rfl
  simp only [Tryz.ntmps152, List.size_toArray, List.length_cons, List.length_nil, Nat.reduceAdd, Nat.reduceSub, Array.replicate_succ, Array.replicate_zero, List.push_toArray, List.append_toArray, List.nil_append, List.cons_append]
  rw [hW2] at c0
  clear hW2
  gi_wp2
  refine ⟨trivial, fun h => (by simp [Fence.wide] at h), ?_⟩
  rw [← HW2.out]
  refine (callsIn_wide.2 (splitSeq_any s 32 _)).mono ?_
  rintro e w2 ⟨rfl, rfl⟩
  rw [← HV.out, z2]
  gi_wp2
  have hAdv : ∀ (p : List TxS), (∃ r, txq p ++ r = splitOn 32 s.data.toList) → advP (txq p) ≤ s.size + 1 := fun p ⟨r, hr⟩ => by
    have h := advP_split hr
    rw [show s.data.toList.length = s.size from Array.length_toList] at h; exact h
  refine wpIn_rangeFunc_mv rfl (by omega) (gf := 207) (lb := #[.pointer (some ⟨g + 2 + 1, 0, none⟩), .pointer (some ⟨g + 2, 0, none⟩), .pointer (some ⟨g + 2 + 1 + 1, 0, none⟩)]) rfl trivial (enters_of Tryz.func207 (by kernel_rfl) rfl)
    (splitSeq_mv s 32 (g + 3) (g + 2) (g + 4) _ V v3 v2 v4 (by omega) (by omega) hs) (fun h k => ⟨k.1.trans h.1, k.2.1.trans h.2.1, k.2.2.trans h.2.2⟩) (fun X q o' hq => ⟨World.putObj_heap_other (by omega), World.putObj_heap_other (by omega), World.putObj_heap_other (by omega)⟩) (fun _ => rfl)
    (WI g l J) (WX Jx s.data.toList) (WI.own HJ.out (by omega)) (fun c => WX.own HJX.out (by omega) c)
    (fun p X Y ⟨h1, h2, h3, pre, h4, h5, h6⟩ ⟨u, hu⟩ => by
      have h7 := HM.out pre X Y h6 ⟨⟨g + 2, 0, none⟩, u, by show g ≤ g + 2; omega, by show g + 2 < g + 5; omega, hu⟩
      subst hu
      exact ⟨by rw [World.size_setCell]; exact h1, h2.set_other (by show g ≠ g + 2; omega) _, h3.set_other (by show g + 1 ≠ g + 2; omega) _, pre, h4, h5, h7⟩)
    (fun X Y k hk ⟨u, hu⟩ => by rw [hu]; exact Below.heap_setCell _ _ _ _ (by show k ≠ g + 2; omega))
    ⟨by omega, v0, v1, [], rfl, Nat.le_refl _, hj1⟩
    (fun x => { tmps := #[.func (.yield l) #[] #[], .pointer (some ⟨b, 0, none⟩), .pointer (some ⟨g, 0, none⟩), .pointer (some ⟨g + 1, 0, none⟩), .string x.1, .string s, .func (.func 207) #[] #[.pointer (some ⟨g + 2 + 1, 0, none⟩), .pointer (some ⟨g + 2, 0, none⟩), .pointer (some ⟨g + 2 + 1 + 1, 0, none⟩)], .string x.1, undef, undef, undef, undef, undef, undef, undef, undef, undef, undef, undef, undef, undef, undef], defers := [] }) ?assign ?body ?done ?stop
  case assign =>
    intro l2 x X K hK
    gi_wp2
    exact hK
  case body =>
    rintro lo p x X ⟨h1, h2, h3, pre, h4, h5, h6⟩ hpl hr
    have hA0 := hAdv _ hr
    rw [txq_app, show txq [x] = [x.1.data.toList] from rfl, advP_snoc, show x.1.data.toList.length = x.1.size from Array.length_toList] at hA0
    obtain ⟨A, hA⟩ : ∃ A, A = advP (txq p) := ⟨_, rfl⟩
    rw [← hA] at h3 hA0
    have hpx : txq (p ++ [x]) = txq p ++ [x.1.data.toList] := by rw [txq_app]; try rfl
    have hA1 : advP (txq (p ++ [x])) = A + (x.1.size + 1) := by rw [hpx, advP_snoc, ← hA]; rw [show x.1.data.toList.length = x.1.size from Array.length_toList]
    have hx := x.2
    have e0 := h2.cell 0; have e1 := h3.cell 0; have f1 := h3.free 0
    simp at e0 e1
    obtain ⟨r, hr⟩ := hr
    have hwd : ∀ w1, (x.1.data.toList ≠ [] → w1 = [(A, x.1.data.toList)]) → (x.1.data.toList = [] → w1 = []) → wdP 0 (txq (p ++ [x])) = wdP 0 (txq p) ++ w1 := fun w1 q1 q2 => by
      rw [hpx, wdP_app, Nat.zero_add, ← hA]
      by_cases h0 : x.1.data.toList = []
      · rw [q2 h0, h0]; try rfl
      · rw [q1 h0]
        show _ ++ (if x.1.data.toList = [] then _ else _) = _
        rw [if_neg h0]; try rfl
    by_cases h0 : x.1.data.toList = []
    · have hb0 : x.1.toList.isEmpty = true := by rw [Lib.toList_data, h0]; try rfl
      have hsz : x.1.size = 0 := by rw [← show x.1.data.toList.length = x.1.size from Array.length_toList, h0]; try rfl
      have hpw : wds pre = wdP 0 (txq (p ++ [x])) := by rw [hwd [] (fun h => absurd h0 h) (fun _ => rfl), List.append_nil, h4]
      have HA1 := Lib.hid hA1
      clear hA hA1 hpx hwd hsz
      gi_wp2
      refine ⟨(fun f h => by cases h), ?_⟩
      gi_wp2
      refine ⟨(KeepsOthers.setCell _ _ _).from _, ⟨Below.heap_setCell _ _ _ _ (by show g + 3 ≠ g + 1; omega), Below.heap_setCell _ _ _ _ (by show g + 2 ≠ g + 1; omega), Below.heap_setCell _ _ _ _ (by show g + 4 ≠ g + 1; omega)⟩, ?_⟩
      refine ⟨by rw [World.size_setCell]; exact h1, h2.set_other (by show g ≠ g + 1; omega) _, ?_, pre, hpw, by rw [List.length_append]; simp; omega, HM.out pre X _ h6 ⟨⟨g + 1, 0, none⟩, _, by show g ≤ g + 1; omega, by show g + 1 < g + 5; omega, rfl⟩⟩
      rw [HA1.out]
      have h := h3.set 0 (.int .i64 ((A : Int) + ((x.1.size : Int) + 1)))
      exact h
    · have hb0 : x.1.toList.isEmpty = false := by rw [Lib.toList_data]; simpa using h0
      obtain ⟨xw, hxw⟩ : ∃ xw : WdS, xw.1 = (A, x.1) := ⟨⟨(A, x.1), by omega, x.2⟩, rfl⟩
      have hwx : wds (pre ++ [xw]) = wds pre ++ [(A, x.1.data.toList)] := by rw [wds_app]; show _ ++ [(xw.1.1, xw.1.2.data.toList)] = _; rw [hxw]
      have hpw : wds (pre ++ [xw]) = wdP 0 (txq (p ++ [x])) := by rw [hwx, hwd _ (fun _ => rfl) (fun h => absurd h h0), h4]
      obtain ⟨fn, tmps, assign, body, hy, hR⟩ := HY.out pre xw X h6 h1 (by omega) ⟨wdP (advP (txq (p ++ [x]))) r, by
        rw [hpw]; unfold wordsL; rw [← hr, wdP_app, Nat.zero_add]⟩
      rw [hxw] at hy
      have HPW := Lib.hid hpw
      have HA1 := Lib.hid hA1
      have HRR := Lib.hid hr
      clear hA hpx hwd hwx hpw hA1 hr
      gi_wp2
      refine ⟨fun h => (by simp [Fence.wide] at h), (roundIn_round hR).mono ?_⟩
      rintro e W3 (⟨rfl, hJ3, hk3, hf3⟩ | ⟨rfl, hJx3, hf3⟩)
      · have y0 : BoxAt W3 g #[.func (.yield l) #[] #[]] 235 := (hk3 g (by omega) (by omega)).trans h2
        have y1 : BoxAt W3 (g + 1) #[.int .i64 (A : Int)] 3 := (hk3 (g + 1) (by omega) (by omega)).trans h3
        have d1 := y1.cell 0; have j1 := y1.free 0
        simp at d1
        gi_wp2
        refine ⟨(keeps_low hf3 (by omega)).trans ((KeepsOthers.setCell _ _ _).from _), ⟨(Below.heap_setCell _ _ _ _ (by show g + 3 ≠ g + 1; omega)).trans (hk3 _ (by omega) (by omega)), (Below.heap_setCell _ _ _ _ (by show g + 2 ≠ g + 1; omega)).trans (hk3 _ (by omega) (by omega)), (Below.heap_setCell _ _ _ _ (by show g + 4 ≠ g + 1; omega)).trans (hk3 _ (by omega) (by omega))⟩, ?_⟩
        refine ⟨by rw [World.size_setCell]; exact Nat.le_trans h1 hf3.size, y0.set_other (by show g ≠ g + 1; omega) _, ?_, pre ++ [xw], HPW.out, by rw [List.length_append, List.length_append]; simp; omega, HM.out _ W3 _ hJ3 ⟨⟨g + 1, 0, none⟩, _, by show g ≤ g + 1; omega, by show g + 1 < g + 5; omega, rfl⟩⟩
        rw [HA1.out]
        have h := y1.set 0 (.int .i64 ((A : Int) + ((x.1.size : Int) + 1)))
        exact h
      · gi_wp2
        refine ⟨keeps_low hf3 (by omega), rfl, pre ++ [xw], ⟨wdP (advP (txq (p ++ [x]))) r, ?_⟩, hJx3⟩
        rw [HPW.out]; unfold wordsL; rw [← HRR.out, wdP_app, Nat.zero_add]
  case done =>
    rintro D ys X hD hys ⟨h1, h2, h3, pre, h4, h5, h6⟩ hKD
    have hj := HJ.out.putObj (.deferred none) h6 (by omega) hKD rfl
    gi_wp2
    refine leave_one hKD (fun Y => results_none rfl _ _ _) ⟨⟨_, rfl⟩, .inl ⟨pre, ?_, hj⟩⟩
    rw [h4, hys]; try rfl
  case stop =>
    rintro D c p X hD hp ⟨rfl, pre, h2, h3⟩ hKD
    have hj := HJX.out.putObj (.deferred none) h3 (by omega) hKD rfl
    gi_wp2
    exact leave_one hKD (fun Y => results_none rfl _ _ _) ⟨⟨_, rfl⟩, .inr ⟨pre, h2, hj⟩⟩
theorem wordsIn_mw (s : ByteArray) (b n : Nat) (w : World) (hn : 4 ≤ n) (hb : BoxAt w b #[.string s] 9) (hs : s.size ≤ 100000) :
    SeqMw Fence.wide n Tryz.prog 152 #[.pointer (some ⟨b, 0, none⟩)] (fun x : WdS => #[.int .i64 (x.1.1 : Int), .string x.1.2]) 5 (fun ys => wds ys = wordsL s.data.toList) (fun pre => ∃ r, wds pre ++ r = wordsL s.data.toList) (s.size + 1) w :=
  fun l J Jx W hW hJ hJx hJm hY hj0 => wordsIn1_any s b l n J Jx W hn (hb.below hW) hs hJ hJx hJm hY hj0
end Go.Proofs.YtomblajlpanmjaaGreatDoor
