/-
  Package press: the orders of so many things.
-/
import Derived.Sort.LoopGhostIn
import Derived.Test.YtdgegebplebeoaaGreatDoorE5
namespace Go.Proofs.YtdgegebplebeoaaGreatDoor
open Go.RowKit Go.Maps Go.Shelf
attribute [local go_sem] Oper.semAt_some

theorem wpListIn_appI {F : Fence} {n : Nat} {ops : Array Oper} {rest : List Oper} {o : Oper} {a : Act} {Q : Exit → Act → World → Prop} (w0 : World) (x : Int) (hgd : o.guard = none) (s xo : Operand)
    (ho : o.op = .call { callee := .builtin .append, args := #[s, xo], argTypes := #[49, 49] }) (B : Nat) (v : Value) (L : List Int) (hs : a.eval s = v) (hown : OwnR 1 3 intL w0 B v L)
    (hx : a.eval xo = .slice (some ⟨w0.heap.size, 0, none⟩) 1 1) (hl : L.length ≤ 1000000) (hB : B ≤ w0.heap.size)
    (h : ∀ v' w', OwnR 1 3 intL w' B v' (L ++ [x]) → w0.grownBy w' v.ownBlock → Below B w0 w' → wpListIn F n Tryz.prog ops Q rest (a.put o.dst v') w') :
    wpListIn F n Tryz.prog ops Q (o :: rest) a (w0.alloc (.cells #[.int .i64 x] 3)) := by
  have T := tInt
  obtain ⟨i0, hi0, hz0, hz1, hz2⟩ := info_parts T.info
  refine wpListIn_append_own _ hgd s xo 49 ho B 3 i0 (.int .i64 0) 1 8 T.sl hi0 hz0 hz1 hz2 T.zs T.pos v L.length (vals (L.flatMap intL)) hs (World.ownsRow.alloc hown _) ⟨w0.heap.size, 0, none⟩ 1 1 (vals (intL x)) hx (by simp [vals, intL])
    (fun j u hu => by
      rcases j with _ | j
      · simp [vals, intL] at hu; subst hu; rw [add0]; exact (BoxAt.new w0 #[.int .i64 x] 3).cell 0
      · simp [vals, intL] at hu) (vals_one _) (by unfold maxLen; omega) (by omega) (by simp; omega) ?_
  intro v' w' hown' hgrow' _
  rw [show vals (L.flatMap intL) ++ vals (intL x) = vals ((L ++ [x]).flatMap intL) by rw [← vals_app]; simp] at hown'
  refine h v' w' (by unfold OwnR; rw [List.length_append]; exact hown') ((World.grownBy_alloc w0 _ _).trans hgrow') (((Below.refl B w0).alloc hB _).grown hgrow' (by simp; omega) (fun k hk => (hown.lt k hk).1))
theorem OwnR.same {α : Type} {n : Nat} {E : TypeId} {g : α → List Int} {w w' : World} {B : Nat} {v : Value} {L : List α} (h : OwnR n E g w B v L) (hq : ∀ q, v.ownBlock = some q → w'.heap[q]? = w.heap[q]?) : OwnR n E g w' B v L := by
  rcases h.2 with ⟨e1, e2⟩ | ⟨gg, cap, cur, e1, e2, e3, e4⟩
  · exact ⟨h.1, Or.inl ⟨e1, e2⟩⟩
  · exact ⟨h.1, Or.inr ⟨gg, cap, cur, e1, e2, (hq gg (by rw [e1]; rfl)).trans e3, e4⟩⟩
theorem RowTurned.turn {B : Nat} {w : World} {v : Value} {L : List Int} {w' : World} (h : RowTurned B w v v L w') : TurnRow v w w' := ⟨h.low.os, h.low.tape, h.low.output, h.low.size, h.block⟩
def iota (n : Nat) : List Int := (List.range n).map fun k : Nat => (k : Int)
theorem iota_succ (n : Nat) : iota (n + 1) = iota n ++ [(n : Int)] := by unfold iota; rw [List.range_succ, List.map_append]; rfl
theorem iota_len (n : Nat) : (iota n).length = n := by simp [iota]
def ordAt (n : Nat) : Nat → List Int
  | 0 => iota n
  | k + 1 => advM (ordAt n k)
theorem ordAt_len (n : Nat) : ∀ k, (ordAt n k).length = n
  | 0 => iota_len n
  | k + 1 => by unfold ordAt; rw [advM_len, ordAt_len n k]
/-- There are c orders of n things. -/
structure OrdsEnd (n c : Nat) : Prop where
  go : ∀ j, j + 1 < c → isAdv (ordAt n j) = true
  stop : isAdv (ordAt n (c - 1)) = false
  pos : 0 < c
def ordsL (n c : Nat) : List (List Int) := (List.range c).map (ordAt n)
theorem ordsL_succ (n c : Nat) : ordsL n (c + 1) = ordsL n c ++ [ordAt n c] := by unfold ordsL; rw [List.range_succ, List.map_append]; rfl
def OneRow (xs : List Ord) : Prop := ∃ v, ∀ y ∈ xs, y.v = v
set_option maxRecDepth 100000 in
set_option maxHeartbeats 2000000 in
theorem orders1_any (cn c b l n : Nat) (J Jx : List Ord → World → Prop) (W : World) (hE : OrdsEnd cn c) (hcn : cn ≤ 100) (hb : BoxAt W b #[.int .i64 cn] 3)
    (hJ : OwnFrom W.heap.size J)
    (hT : ∀ s x X Y, J (s ++ [x]) X → OwnR 1 3 intL X W.heap.size x.v x.l → TurnRow x.v X Y → J (s ++ [x]) Y)
    (hY : ∀ pre x W1, J pre W1 → pre.length < c → (OneRow (pre ++ [x]) ∧ ∃ k, k ≤ c ∧ (pre ++ [x]).map (·.l) = ordsL cn k) → OwnR 1 3 intL W1 W.heap.size x.v x.l → YieldAt Fence.wide (n - 1) Tryz.prog l #[x.v] W1 fun e W' =>
      (e = .returned (.bool true) ∧ J (pre ++ [x]) W' ∧ (∀ k, x.v.ownBlock = some k → W'.heap[k]? = W1.heap[k]?) ∧ KeepsFrom W.heap.size W1 W') ∨ (e = .returned (.bool false) ∧ Jx (pre ++ [x]) W' ∧ KeepsFrom W.heap.size W1 W'))
    (h0 : ∀ X, Below W.heap.size W X → J [] X) :
    CallsIn Fence.wide n Tryz.prog 93 #[.func (.yield l) #[] #[], .pointer (some ⟨b, 0, none⟩)] W fun e W' => (∃ v, e = .returned v) ∧
      ((∃ xs, (OneRow xs ∧ xs.map (·.l) = ordsL cn c) ∧ J xs W') ∨ (∃ pre, (OneRow pre ∧ ∃ k, k ≤ c ∧ pre.map (·.l) = ordsL cn k) ∧ Jx pre W')) := by
  have HE := Lib.hid hE; have HJ := Lib.hid hJ; have HT := Lib.hid hT; have HY := Lib.hid hY; have H0 := Lib.hid h0
  have hbl := hb.lt
  have k0 : W.cell? ⟨b, 0, none⟩ = some (.int .i64 cn) := hb.cell 0
  clear hE hJ hT hY h0
  refine callsIn_of_wp Tryz.func93 rfl trivial ?_ rfl
  simp only [Tryz.ntmps93, List.size_toArray, List.length_cons, List.length_nil, Nat.reduceAdd, Nat.reduceSub, Array.replicate_succ, Array.replicate_zero, List.push_toArray, List.append_toArray, List.nil_append, List.cons_append]
  gi_wp2
  gi_loopw [3, 6] (fun v3 v6 wr => ∃ k : Nat, k ≤ cn ∧ v6 = .int .i64 k ∧ OwnR 1 3 intL wr W.heap.size v3 (iota k) ∧ Below W.heap.size W wr) (fun _ v6 _ => cn - (intOf v6).toNat)
  case atStart => exact ⟨0, Nat.zero_le _, rfl, OwnR.nil _ _, Below.refl _ _⟩
  case round =>
    obtain ⟨k, hk, rfl, hO, hB⟩ := hrel
    by_cases hlt : k < cn
    · have HI := Lib.hid (iota_succ k)
      have hkl : (iota k).length ≤ 1000000 := by rw [iota_len]; omega
      have HO := Lib.hid hO
      clear hO
      gi_wp2_with (gi_at_builtin; refine wpListIn_appI _ (k : Int) rfl _ _ rfl W.heap.size _ (iota k) rfl HO.out rfl hkl hB.size ?_; intro v' w' hOg hgg hBg)
      go_roundw
      case rel => exact ⟨k + 1, by omega, by go_num, by rw [HI.out]; exact hOg, hB.trans hBg⟩
      case measure => simp [intOf] <;> omega
    · have e : k = cn := by omega
      subst e
      have HO := Lib.hid hO
      clear hO
      gi_wp2
      gi_loopg [17] c (fun gk _ wr => ∃ pre : List Ord, gk + pre.length = c ∧ 0 < gk ∧ (∀ y ∈ pre, y.v = u3) ∧ pre.map (·.l) = ordsL k pre.length ∧ J pre wr ∧ OwnR 1 3 intL wr W.heap.size u3 (ordAt k pre.length) ∧ W.heap.size ≤ wr.heap.size)
      case atStart => exact ⟨[], by simp, HE.out.pos, (fun y hy => by cases hy), rfl, H0.out _ hB, HO.out, hB.size⟩
      case round =>
        obtain ⟨pre, hgk, hg0, hv, hm, hJ, hO, hsz⟩ := hrel
        have hone : OneRow (pre ++ [⟨ordAt k pre.length, u3⟩]) := ⟨u3, fun y hy => by
          rcases List.mem_append.1 hy with h | h
          · exact hv y h
          · rw [List.mem_singleton.1 h]⟩
        have hmap : (pre ++ [(⟨ordAt k pre.length, u3⟩ : Ord)]).map (·.l) = ordsL k (pre.length + 1) := by rw [List.map_append, hm, ordsL_succ]; rfl
        obtain ⟨fn, tmps, assign, body, hy, hR⟩ := HY.out pre ⟨ordAt k pre.length, u3⟩ wr hJ (by omega) ⟨hone, pre.length + 1, by omega, hmap⟩ hO
        dsimp only at hy
        have HONE := Lib.hid hone; have HMAP := Lib.hid hmap; have HV := Lib.hid hv; have HOW := Lib.hid hO; have HGK := Lib.hid hgk
        have hll : (ordAt k pre.length).length ≤ 100000 := by rw [ordAt_len]; omega
        have HLL := Lib.hid hll
        clear hone hmap hv hO hm hJ hgk hll
        gi_wp2
        refine ⟨fun h => (by simp [Fence.wide] at h), hR.mono ?_⟩
        rintro e W3 (⟨rfl, hJ3, hk3, hf3⟩ | ⟨rfl, hJx3, hf3⟩)
        · have HO3 := Lib.hid (HOW.out.same hk3)
          have hsz3 := Nat.le_trans hsz hf3.size
          have HJ3 := Lib.hid hJ3
          clear hJ3 hk3 hf3
          cases ha : isAdv (ordAt k pre.length)
          · have HA := Lib.hid ha
            clear ha
            gi_wp2_with (refine ⟨trivial, fun h => (by simp [Fence.wide] at h), ?_⟩; refine (callsIn_wide.2 (isAdvanced_any W.heap.size u3 (ordAt k pre.length) W3 HO3.out HLL.out)).mono ?_; rintro e W4 ⟨rfl, hT4⟩; rw [HA.out] at hT4 ⊢; have HT4 := Lib.hid hT4; clear hT4)
            go_end0
            have hlast : pre.length + 1 = c := by
              have h1 := HGK.out
              rcases Nat.lt_or_ge (pre.length + 1) c with h | h
              · have := HE.out.go pre.length h
                rw [HA.out] at this; cases this
              · omega
            exact ⟨⟨_, rfl⟩, .inl ⟨pre ++ [⟨ordAt k pre.length, u3⟩], ⟨HONE.out, by rw [HMAP.out, hlast]⟩, HT.out pre _ W3 W4 HJ3.out HO3.out HT4.out.turn⟩⟩
          · have HA := Lib.hid ha
            clear ha
            gi_wp2_with (refine ⟨trivial, fun h => (by simp [Fence.wide] at h), ?_⟩; refine (callsIn_wide.2 (isAdvanced_any W.heap.size u3 (ordAt k pre.length) W3 HO3.out HLL.out)).mono ?_; rintro e W4 ⟨rfl, hT4⟩; rw [HA.out] at hT4 ⊢; have HT4 := Lib.hid hT4; clear hT4)
            have hmore : pre.length + 1 < c := by
              have h1 := HGK.out
              rcases Nat.lt_or_ge (pre.length + 1) c with h | h
              · exact h
              · have h2 := HE.out.stop
                rw [show c - 1 = pre.length by omega, HA.out] at h2; cases h2
            have hGK := HGK.out
            gi_roundg (gk - 1)
            case measure => omega
            case rel =>
              refine ⟨pre ++ [⟨ordAt k pre.length, u3⟩], by rw [List.length_append]; simp; omega, by omega, fun y hy => ?_, by rw [List.length_append]; exact HMAP.out, HT.out pre _ W3 W4 HJ3.out HO3.out HT4.out.turn, ?_, Nat.le_trans hsz3 HT4.out.low.size⟩
              · rcases List.mem_append.1 hy with h | h
                · exact HV.out y h
                · rw [List.mem_singleton.1 h]
              · rw [List.length_append]; exact HT4.out.own
        · gi_wp2
          refine ⟨trivial, ?_⟩
          gi_wp2
          go_end0
          have h1 := HGK.out
          exact ⟨⟨_, rfl⟩, .inr ⟨pre ++ [⟨ordAt k pre.length, u3⟩], ⟨HONE.out, pre.length + 1, by omega, HMAP.out⟩, hJx3⟩⟩
theorem orders_rw (cn c b n : Nat) (w : World) (hE : OrdsEnd cn c) (hcn : cn ≤ 100) (hb : BoxAt w b #[.int .i64 cn] 3) :
    SeqRw Fence.wide n Tryz.prog 93 #[.pointer (some ⟨b, 0, none⟩)] (fun xs => OneRow xs ∧ xs.map (·.l) = ordsL cn c) (fun pre => OneRow pre ∧ ∃ k, k ≤ c ∧ pre.map (·.l) = ordsL cn k) c w :=
  fun l J Jx W hW hJ _ hT hY h0 => orders1_any cn c b l n J Jx W hE hcn (hb.below hW) hJ hT hY h0
set_option maxHeartbeats 400000 in
theorem orders_any (n : Int) (w : World) :
    Calls Tryz.prog 66 #[.int .i64 n] w fun e w' => e = .returned (.func (.func 93) #[] #[.pointer (some ⟨w.heap.size, 0, none⟩)]) ∧ w' = w.alloc (.cells #[.int .i64 n] 3) := by
  go_enter Tryz.func66, Tryz.ntmps66
  go_wp2
  go_ret
  exact ⟨rfl, rfl⟩
/-- The orders end: so many rounds are enough. -/
def endsIn : Nat → List Int → Bool
  | 0, _ => false
  | f + 1, M => if isAdv M then endsIn f (advM M) else true
theorem ends_at {n : Nat} : ∀ (f k : Nat), endsIn f (ordAt n k) = true → ∃ j, isAdv (ordAt n (k + j)) = false ∧ ∀ i, i < j → isAdv (ordAt n (k + i)) = true
  | 0, _, h => by cases h
  | f + 1, k, h => by
    unfold endsIn at h
    cases ha : isAdv (ordAt n k)
    · exact ⟨0, ha, fun i hi => by omega⟩
    · rw [ha, if_pos rfl] at h
      obtain ⟨j, h1, h2⟩ := ends_at f (k + 1) h
      refine ⟨j + 1, by rw [show k + (j + 1) = k + 1 + j by omega]; exact h1, fun i hi => ?_⟩
      rcases i with _ | i
      · exact ha
      · rw [show k + (i + 1) = k + 1 + i by omega]; exact h2 i (by omega)
theorem ords_end {n f : Nat} (h : endsIn f (iota n) = true) : ∃ c, OrdsEnd n c := by
  obtain ⟨j, h1, h2⟩ := ends_at (n := n) f 0 h
  refine ⟨j + 1, fun i hi => ?_, ?_, by omega⟩
  · have := h2 i (by omega); rw [Nat.zero_add] at this; exact this
  · rw [Nat.zero_add] at h1; exact h1
theorem ends0 : endsIn 10 (iota 0) = true := by decide
theorem ends3 : endsIn 10 (iota 3) = true := by decide
end Go.Proofs.YtdgegebplebeoaaGreatDoor
