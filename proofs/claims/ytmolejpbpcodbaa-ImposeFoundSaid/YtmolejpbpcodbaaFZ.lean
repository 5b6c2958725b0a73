/-
  Package impose: oneMore.
-/
import Derived.Test.YtmolejpbpcodbaaFY
import Derived.Test.YtmolejpbpcodbaaSA
import Derived.Deep.LoopGhost
namespace Go.Proofs.Ytmolejpbpcodbaa
open Go.RowKit

set_option maxRecDepth 100000 in
set_option maxHeartbeats 1000000 in
theorem cloneFold_any (a : Option Addr) (L : List Fold) (c : Nat) (w : World) (hL : RowsAt 2 Fold.l w a L) (hl : L.length ≤ 1000000) (hn : a = none → c = 0) :
    Calls Try.prog 48 #[.slice a L.length c] w (ClonePost 2 41 Fold.l w L) := by
  cases a with
  | none =>
    have hL0 := hL.drop_none
    subst hL0
    have hc := hn rfl
    subst hc
    have q : ∀ (w : World) (a : Option Addr) (n c n' c' : Nat), (binOp .eql 28 (.slice a n c) (.slice none n' c')).run Try.prog w = .ok (.bool a.isNone) w := fun w a n c n' c' => Lib.run_eql_slice_nil w 28 41 a n c n' c' Try.underlying28
    go_enter Try.func48, Try.ntmps48
    go_wp2
    go_ret
    exact ⟨_, rfl, OwnR.nil _ _, Below.refl _ _⟩
  | some ad =>
    have hm := World.ownsRow_made (e := 41) (size := 2) (base := w.heap.size) w #[] 0 (Nat.le_refl _) (Nat.zero_le _) rfl
    have hown : OwnR 2 41 Fold.l (w.alloc (.cells #[] 41)) w.heap.size (.slice (some ⟨w.heap.size, 0, none⟩) 0 0) [] := hm
    have hB := (Below.refl w.heap.size w).alloc (Nat.le_refl _) (.cells #[] 41)
    have HL := Lib.hid (hL.alloc (.cells #[] 41))
    clear hm hL
    have q : ∀ (w : World) (a : Option Addr) (n c n' c' : Nat), (binOp .eql 28 (.slice a n c) (.slice none n' c')).run Try.prog w = .ok (.bool a.isNone) w := fun w a n c n' c' => Lib.run_eql_slice_nil w 28 41 a n c n' c' Try.underlying28
    go_enter Try.func48, Try.ntmps48
    go_wp2_with (at_builtin; refine wpList_appL tFold fold_l _ rfl _ _ rfl w.heap.size _ [] rfl hown (some ad) L c rfl HL.out (fun e => by cases e) (by simp) hl (by simp) ?_; intro v' w' hown' hg' hB' hor')
    go_ret
    exact ⟨_, rfl, hown', hB.trans hB'⟩


/-- Foldings under way: a row of one's own from block B on; all that they hold lies from block B2 on. -/
structure MorX (B B2 : Nat) (K : List FN) (X : List FS) (v : Value) (w : World) : Prop where
  own : OwnG 4 74 FS.vs w B v X
  nodes : X.map FS.node = K
  rows : ∀ x ∈ X, FRow w x
  low : ∀ x ∈ X, x.frm B2
  off : ∀ q, v.ownBlock = some q → ∀ x ∈ X, x.off q
section
variable {B B2 : Nat} {K : List FN} {X X2 : List FS} {v v2 : Value} {W W' w2 : World}
theorem MorX.nil (B B2 : Nat) (W : World) : MorX B B2 [] [] (.slice none 0 0) W :=
  ⟨OwnG.nil _ _, rfl, fun _ h => absurd h List.not_mem_nil, fun _ h => absurd h List.not_mem_nil, fun _ h => by cases h⟩
theorem MorX.below (h : MorX B B2 K X v W) (hb : Below W.heap.size W W') : MorX B B2 K X v W' :=
  ⟨h.own.below hb, h.nodes, fun x hx => (h.rows x hx).below hb, h.low, h.off⟩
theorem MorX.app (h : MorX B B2 K X v W) (hb : Below W.heap.size W W') (hX : ∀ x ∈ X2, FRow W' x) (hF : ∀ x ∈ X2, x.frm W.heap.size) (hB2 : B2 ≤ W.heap.size)
    (hown : OwnG 4 74 FS.vs w2 B v2 (X ++ X2)) (hg : W'.grownBy w2 v.ownBlock) (hor : v2.ownBlock = v.ownBlock ∨ v2.ownBlock = some W'.heap.size) : MorX B B2 (K ++ X2.map FS.node) (X ++ X2) v2 w2 := by
  have hr1 : ∀ x ∈ X, FRow W' x := fun x hx => (h.rows x hx).below hb
  have ho2 : ∀ q, v.ownBlock = some q → ∀ x ∈ X2, x.off q := fun q e x hx => (hF x hx).off (h.own.lt q e).2
  refine ⟨hown, by rw [List.map_append, h.nodes], ?_, ?_, ?_⟩
  · intro x hx
    rcases List.mem_append.1 hx with hx | hx
    · exact (hr1 x hx).grown hg (fun q e => h.off q e x hx)
    · exact (hX x hx).grown hg (fun q e => ho2 q e x hx)
  · intro x hx
    rcases List.mem_append.1 hx with hx | hx
    · exact h.low x hx
    · exact (hF x hx).mono hB2
  · intro q e x hx
    rcases hor with ho | ho
    · rw [ho] at e
      rcases List.mem_append.1 hx with hx | hx
      · exact h.off q e x hx
      · exact ho2 q e x hx
    · have hq : W'.heap.size = q := by rw [ho] at e; exact Option.some.inj e
      rcases List.mem_append.1 hx with hx | hx
      · exact (hr1 x hx).off (by omega)
      · exact (hX x hx).off (by omega)
theorem MorX.rowsG (h : MorX B B2 K X v W) : ∃ (a : Option Addr) (c : Nat), v = .slice a X.length c ∧ RowsG 4 FS.vs W a X ∧ (a = none → c = 0) ∧ ∀ ad, a = some ad → B ≤ ad.block := h.own.rows fs_len
end
theorem cloneFold_n (a : Option Addr) (n : Nat) (L : List Fold) (c : Nat) (w : World) (hn : n = L.length) (hL : RowsAt 2 Fold.l w a L) (hl : L.length ≤ 1000000) (hnc : a = none → c = 0) :
    Calls Try.prog 48 #[.slice a n c] w (ClonePost 2 41 Fold.l w L) := by
  subst hn; exact cloneFold_any a L c w hL hl hnc
theorem FRow.made {w : World} {C R : Nat} {A : Option Addr} {n c : Nat} {Ps : List PS} {b : Option Addr} {m d : Nat} {L : List Fold} {B : Nat} (hn : n = Ps.length) (hp : PlacesAt w A Ps) (hpos : 0 < Ps.length) (hps : ∀ y ∈ Ps, 0 < y.l.length) (hO : OwnR 2 41 Fold.l w B (.slice b m d) L) (hm : m = L.length) : FRow w ⟨C, R, A, n, c, Ps, b, m, d, L⟩ := by
  obtain ⟨a', c', e, hr, -, -, hn', -⟩ := hO.rows fold_l
  injection e with e1 e2 e3
  subst e1 e3
  refine ⟨hn, hp, hm, hr, hn', ?_, ?_, fun ad e => (hO.lt ad.block (by show (Value.slice b m d).ownBlock = _; rw [show b = some ad from e]; try rfl)).2⟩
  · intro ad e
    obtain ⟨ad', e', hlt, -⟩ := hp 0 hpos
    have e : A = some ad := e
    rw [e'] at e; cases e; exact hlt
  · intro y hy ad e
    obtain ⟨k, hk, rfl⟩ := List.getElem_of_mem hy
    obtain ⟨_, _, _, _, hrw, _⟩ := hp k hk
    obtain ⟨ad', e', hlt, _⟩ := hrw 0 (hps _ hy)
    rw [e'] at e; cases e; exact hlt
theorem frm_made {w : World} {C R : Nat} {A : Option Addr} {n c : Nat} {Ps : List PS} {b : Option Addr} {m d : Nat} {L : List Fold} {B B2 : Nat} (hF : FromB B A Ps) (hO : OwnR 2 41 Fold.l w B2 (.slice b m d) L) (hB : B ≤ B2) : (FS.mk C R A n c Ps b m d L).frm B :=
  ⟨hF.1, hF.2, fun ad e => Nat.le_trans hB (hO.lt ad.block (by show (Value.slice b m d).ownBlock = _; rw [show b = some ad from e]; try rfl)).1⟩
theorem FromB.mono {B B' : Nat} {A : Option Addr} {Ps : List PS} (h : FromB B A Ps) (hB : B' ≤ B) : FromB B' A Ps := ⟨fun ad e => Nat.le_trans hB (h.1 ad e), fun y hy ad e => Nat.le_trans hB (h.2 y hy ad e)⟩
theorem fold_lit (w : World) (f : Fold) : RowsAt 2 Fold.l (w.alloc (.cells #[.int .i64 f.k, .int .i64 f.c] 41)) (some ⟨w.heap.size, 0, none⟩) [f] := rows_lit fold_l w _ [f] _ rfl
/-- The options of the kinds 1 to q. -/
def optK (k j : Nat) : List Fold := (List.range j).map fun i : Nat => ⟨(k : Int), (i : Int) + 1⟩
def optTo (C R : Nat) (q : Nat) : List Fold := (List.range q).flatMap fun k => optK (k + 1) (sideF C R ((k + 1 : Nat) : Int) / 2)
theorem optTo_four (C R : Nat) : optTo C R 4 = optsF C R := rfl
theorem optTo_succ (C R q : Nat) : optTo C R (q + 1) = optTo C R q ++ optK (q + 1) (sideF C R ((q + 1 : Nat) : Int) / 2) := by
  unfold optTo; rw [List.range_succ, List.flatMap_append]; simp
theorem optK_succ (k j : Nat) : optK k (j + 1) = optK k j ++ [⟨(k : Int), (j : Int) + 1⟩] := by
  unfold optK; rw [List.range_succ, List.map_append]; try rfl
theorem optK_zero (k : Nat) : optK k 0 = [] := rfl
theorem optK_in {C R q j : Nat} (hq : q < 4) (hj : j < sideF C R ((q + 1 : Nat) : Int) / 2) : (⟨((q + 1 : Nat) : Int), (j : Int) + 1⟩ : Fold) ∈ optsF C R :=
  optsF_mem.2 ⟨show 1 ≤ ((q + 1 : Nat) : Int) ∧ ((q + 1 : Nat) : Int) ≤ 4 by omega, show 1 ≤ (j : Int) + 1 by omega, show 2 * ((j : Int) + 1) ≤ (sideF C R ((q + 1 : Nat) : Int) : Int) by omega⟩
theorem optTo_len {C R : Nat} (hC : C ≤ 8) (hR : R ≤ 8) : ∀ q, (optTo C R q).length ≤ 4 * q
  | 0 => Nat.le_refl _
  | q + 1 => by
    have ih := optTo_len hC hR q
    have : sideF C R ((q + 1 : Nat) : Int) ≤ 8 := by unfold sideF; split <;> omega
    rw [optTo_succ, List.length_append]
    unfold optK
    rw [List.length_map, List.length_range]
    omega
def MorePost (w : World) (K : List FN) (e : Ending) (w' : World) : Prop :=
  ∃ (a : Option Addr) (n c : Nat) (X : List FS), e = .returned (.slice a n c) ∧ n = X.length ∧ X.map FS.node = K ∧ RowsG 4 FS.vs w' a X ∧ (∀ x ∈ X, FRow w' x) ∧ (∀ x ∈ X, x.frm w.heap.size) ∧ (a = none → c = 0) ∧ Below w.heap.size w w'
structure MoEnv (w : World) (C R : Nat) (A : Option Addr) (pn cA : Nat) (b : Option Addr) (m d : Nat) (wr : World) : Prop where
  bx : BoxAt wr w.heap.size #[.int .i64 C, .int .i64 R, .slice A pn cA, .slice b m d] 74
  low : Below w.heap.size w wr
theorem MoEnv.below {w : World} {C R : Nat} {A : Option Addr} {pn cA : Nat} {b : Option Addr} {m d : Nat} {wr w1 : World} (h : MoEnv w C R A pn cA b m d wr) (hb : Below wr.heap.size wr w1) : MoEnv w C R A pn cA b m d w1 :=
  ⟨h.bx.below hb, h.low.trans (hb.mono h.low.size)⟩
theorem half_nat (n : Nat) : (n : Int).tdiv 2 = ((n / 2 : Nat) : Int) := by
  rw [show ((n / 2 : Nat) : Int) = (n : Int) / 2 by omega, Int.tdiv_eq_ediv_of_nonneg (by omega)]
theorem side_int (C R : Nat) (k : Int) : alongI C R k = (sideF C R k : Int) := by unfold alongI sideF; split <;> rfl
set_option maxRecDepth 100000 in
set_option maxHeartbeats 8000000 in
theorem oneMore_fs (C R : Nat) (A : Option Addr) (pn cA : Nat) (Ps : List PS) (b : Option Addr) (m d : Nat) (L : List Fold) (c0 r0 : Int) (w : World) (hx : FRow w ⟨C, R, A, pn, cA, Ps, b, m, d, L⟩) (hok : NOk c0 r0 ⟨C, R, Ps.map (·.l), L⟩) (hL : L.length ≤ 100) :
    Calls Try.prog 29 #[.agg #[.int .i64 C, .int .i64 R, .slice A pn cA, .slice b m d]] w (MorePost w (kidsF ⟨C, R, Ps.map (·.l), L⟩)) := by
  obtain ⟨w0, hw0⟩ : ∃ w0, w0 = w.alloc (.cells #[.int .i64 C, .int .i64 R, .slice A pn cA, .slice b m d] 74) := ⟨_, rfl⟩
  have E0 : MoEnv w C R A pn cA b m d w0 := by
    rw [hw0]; exact ⟨BoxAt.new w _ _, (Below.refl w.heap.size w).alloc (Nat.le_refl _) _⟩
  have X0 : MorX (w.heap.size + 1) w.heap.size ((optTo C R 0).map (kidF ⟨C, R, Ps.map (·.l), L⟩)) [] (.slice none 0 0) w0 := MorX.nil _ _ _
  have W0 := Lib.hid hw0; have HX := Lib.hid hx; have HOK := Lib.hid hok; have HLL : Hid (L.length ≤ 1000000) := Lib.hid (by omega)
  have hC8 : 1 ≤ C ∧ C ≤ 8 := hok.hC
  have hR8 : 1 ≤ R ∧ R ≤ 8 := hok.hR
  obtain ⟨nd, hnd⟩ : ∃ nd : FN, nd = ⟨C, R, Ps.map (·.l), L⟩ := ⟨_, rfl⟩
  have HND := Lib.hid hnd
  rw [← hnd] at X0 ⊢
  clear hw0 hx hok hnd hL
  go_enter Try.func29, Try.ntmps29
  go_wp2_with fail
  rw [← W0.out]
  go_loopw [3, 4] (fun v i wr => ∃ (q kd : Nat) (X : List FS), kd ≤ 5 ∧ Hid (kd = q + 1) ∧ i = .int .i64 (kd : Int) ∧ MoEnv w C R A pn cA b m d wr ∧ Hid (MorX (w.heap.size + 1) w.heap.size ((optTo C R q).map (kidF nd)) X v wr)) (fun _ i _ => 6 - (intOf i).toNat)
  case atStart => exact ⟨0, 1, [], by omega, Lib.hid rfl, rfl, E0, Lib.hid X0⟩
  case round =>
    obtain ⟨q, kd, X, hq4, HKD, rfl, E, HMX⟩ := hrel
    clear E0 X0
    by_cases hlt : kd ≤ 4
    · have hqI : (kd : Int) ≤ 4 := by omega
      have d0 := E.bx.cell 0; have d1 := E.bx.cell 1
      have hbl := E.bx.lt
      simp at d0 d1
      obtain ⟨sd, hsd⟩ : ∃ sd, sd = sideF C R (kd : Int) / 2 := ⟨_, rfl⟩
      have hsd8 : sd ≤ 4 := by
        rw [hsd]; unfold sideF; split <;> omega
      have HSD := Lib.hid hsd
      have HAL : Hid (alongI C R (kd : Int) = (sideF C R (kd : Int) : Nat)) := Lib.hid (side_int C R _)
      obtain ⟨sf, hsf⟩ : ∃ sf, sf = sideF C R (kd : Int) := ⟨_, rfl⟩
      have HSF := Lib.hid hsf
      rw [← hsf] at HAL
      have hsf8 : sf ≤ 8 := by rw [hsf]; unfold sideF; split <;> omega
      have HTD : Hid ((sf : Int).tdiv 2 = (sd : Int)) := Lib.hid (by rw [half_nat, hsd, hsf])
      clear hsd hsf
      have htd := HTD.out
      go_wp2_with fail
      refine (along_any _ _ _ _).mono ?_
      rintro e w1 ⟨rfl, hb1⟩
      rw [HAL.out]
      have E1 := E.below hb1
      have HM1 : Hid (MorX (w.heap.size + 1) w.heap.size ((optTo C R q).map (kidF nd) ++ (optK kd 0).map (kidF nd)) X _ w1) := Lib.hid (by rw [optK_zero, List.map_nil, List.append_nil]; exact HMX.out.below hb1)
      clear d0 d1 hb1 E HMX hbl
      go_wp2_with fail
      go_loopw [3, 17] (fun v i wr => ∃ (j : Nat) (X : List FS), j ≤ sd ∧ i = .int .i64 (j : Int) ∧ MoEnv w C R A pn cA b m d wr ∧ Hid (MorX (w.heap.size + 1) w.heap.size ((optTo C R q).map (kidF nd) ++ (optK kd j).map (kidF nd)) X v wr)) (fun _ i _ => sd - (intOf i).toNat)
      case atStart => exact ⟨0, X, Nat.zero_le _, rfl, E1, HM1⟩
      case round =>
        obtain ⟨j, X, hj, rfl, E, HMX⟩ := hrel
        clear E1 HM1
        by_cases hjl : j < sd
        · have hjI : (j : Int) < (sd : Int) := by omega
          obtain ⟨f, hf⟩ : ∃ f : Fold, f = ⟨(kd : Int), (j : Int) + 1⟩ := ⟨_, rfl⟩
          have hfm : f ∈ optsF C R := by
            rw [hf, HKD.out]
            refine optK_in (by have := HKD.out; omega) ?_
            rw [← HKD.out, ← HSD.out]; exact hjl
          have kk := HOK.out.kidOk hfm
          have ke : foldErr C R f = 0 := kk.err
          obtain ⟨C2, hC2⟩ : ∃ n : Nat, n = (afterC C f).toNat := ⟨_, rfl⟩
          obtain ⟨R2, hR2⟩ : ∃ n : Nat, n = (afterR R f).toNat := ⟨_, rfl⟩
          have hC2' : afterC C f = (C2 : Int) := by rw [hC2]; exact kk.eC
          have hR2' : afterR R f = (R2 : Int) := by rw [hR2]; exact kk.eR
          have HFD : Hid (∀ W, PlacesAt W A Ps → Calls Try.prog 47 #[.agg #[.int .i64 C, .int .i64 R, .slice A pn cA], .agg #[.int .i64 (kd : Int), .int .i64 ((j : Int) + 1)]] W (FoldPost W C2 R2 (outF C R C2 R2 f (Ps.map (·.l))))) := Lib.hid (fun W hW => by
            have hok := HOK.out
            have := folded_any C R C2 R2 A pn cA f Ps W hok.hC hok.hR ke hC2' hR2' HX.out.n hW (by have := hok.pile.len; rw [List.length_map] at this; exact this) (fun x hx => hok.pile.pos _ (List.mem_map.2 ⟨x, hx, rfl⟩)) hok.pile.sum (fun x hx => hok.pile.bits _ (List.mem_map.2 ⟨x, hx, rfl⟩))
            rw [accF_out hok.hC hok.hR ke hC2' hR2'] at this
            rw [hf] at this ⊢
            exact this)
          have HKID : Hid (kidF nd f = ⟨C2, R2, outF C R C2 R2 f (Ps.map (·.l)), L ++ [f]⟩) := Lib.hid (by rw [HND.out, hC2, hR2]; try rfl)
          have HNK : Hid (NOk c0 r0 (kidF nd f)) := Lib.hid (by rw [HND.out]; exact HOK.out.kid hfm)
          have HF := Lib.hid hf
          have HXL : Hid (X.length ≤ 1000000) := Lib.hid (by
            have h1 := congrArg List.length HMX.out.nodes
            rw [List.length_map, List.length_append, List.length_map, List.length_map] at h1
            have h2 := optTo_len hC8.2 hR8.2 q
            have h3 : (optK kd j).length = j := by unfold optK; rw [List.length_map, List.length_range]
            have := HKD.out
            omega)
          have HPOS : Hid (∀ Ps2 : List PS, Ps2.map (·.l) = outF C R C2 R2 f (Ps.map (·.l)) → 0 < Ps2.length ∧ ∀ y ∈ Ps2, 0 < y.l.length) := Lib.hid (fun Ps2 e => by
            have hk := HNK.out
            rw [HKID.out] at hk
            have hp := hk.pile
            have h1 : (outF C R C2 R2 f (Ps.map (·.l))).length = C2 * R2 := hp.len
            have h2 : 1 * 1 ≤ C2 * R2 := Nat.mul_le_mul hk.hC.1 hk.hR.1
            refine ⟨by rw [← e, List.length_map] at h1; omega, fun y hy => ?_⟩
            exact hp.pos y.l (by show y.l ∈ outF C R C2 R2 f (Ps.map (·.l)); rw [← e]; exact List.mem_map.2 ⟨y, hy, rfl⟩))
          clear hf hfm kk ke hC2 hR2 hC2' hR2'
          have d0 := E.bx.cell 0; have d1 := E.bx.cell 1; have d2 := E.bx.cell 2; have d3 := E.bx.cell 3
          have hbl := E.bx.lt
          simp at d0 d1 d2 d3
          go_wp2_with fail
          obtain ⟨w8, hw8⟩ : ∃ w8, w8 = wr.alloc (.cells #[.int .i64 (kd : Int), .int .i64 ((j : Int) + 1)] 41) := ⟨_, rfl⟩
          obtain ⟨gf, hgf⟩ : ∃ gf, gf = wr.heap.size := ⟨_, rfl⟩
          have bf : BoxAt w8 gf #[.int .i64 (kd : Int), .int .i64 ((j : Int) + 1)] 41 := by rw [hw8, hgf]; exact BoxAt.new _ _ _
          have hb8 : Below wr.heap.size wr w8 := by rw [hw8]; exact (Below.refl _ _).alloc (Nat.le_refl _) _
          have E8 := E.below hb8
          have h8s : wr.heap.size ≤ w8.heap.size := hb8.size
          rw [← hw8, ← hgf]
          clear hw8 hgf d0 d1 d2 d3 hbl
          have d0 := E8.bx.cell 0; have d1 := E8.bx.cell 1; have d2 := E8.bx.cell 2; have d3 := E8.bx.cell 3
          have f0 := bf.cell 0; have f1 := bf.cell 1
          have hbl := E8.bx.lt; have hfl := bf.lt
          simp at d0 d1 d2 d3 f0 f1
          have hP8 : PlacesAt w8 A Ps := HX.out.pl.below E8.low
          have hL8 : RowsAt 2 Fold.l w8 b L := HX.out.fo.below E8.low
          have HM : Hid (m = L.length) := Lib.hid HX.out.m
          have HBD : Hid (b = none → d = 0) := Lib.hid HX.out.bd
          have hq := (Below.refl w8.heap.size w8).drew
          have j0 := d0; have j1 := d1; have j2 := d2; have j3 := d3; have j4 := f0; have j5 := f1
          go_region_held3 (fun w' => w'.cell? ⟨w.heap.size, 0, none⟩ = some (.int .i64 C) ∧ w'.cell? ⟨w.heap.size, 1, none⟩ = some (.int .i64 R) ∧ w'.cell? ⟨w.heap.size, 2, none⟩ = some (.slice A pn cA) ∧ w'.cell? ⟨w.heap.size, 3, none⟩ = some (.slice b m d) ∧ w'.cell? ⟨gf, 0, none⟩ = some (.int .i64 (kd : Int)) ∧ w'.cell? ⟨gf, 1, none⟩ = some (.int .i64 ((j : Int) + 1))) (first | exact ⟨j0, j1, j2, j3, j4, j5⟩ | go_keep)
            (first
              | (go_at_call 47
                 refine (HFD.out _ (by first | exact hP8.below hq | exact (hP8.below hq).alloc _)).mono ?_
                 rintro e v1 ⟨A2, n2, cp2, Ps2, rfl, hn2, hP2, hF2, hM2, hbv⟩
                 have HN2 := Lib.hid hn2; have HM2 := Lib.hid hM2
                 have hq1 : Below w8.heap.size w8 v1 := by first | exact keep_same hq hbv | exact keep_newD hbv | exact keep_new hq hbv
                 have hF2 : FromB w8.heap.size A2 Ps2 := hF2.mono (by simp)
                 (first
                   | have hfr : RowsAt 2 Fold.l v1 (some ⟨w8.heap.size, 0, none⟩) [⟨(kd : Int), (j : Int) + 1⟩] := (RowsAt.below (w := (w8.alloc _).drew) (fold_lit w8 ⟨(kd : Int), (j : Int) + 1⟩) hbv)
                   | have hfr : RowsAt 2 Fold.l v1 (some ⟨w8.heap.size, 0, none⟩) [⟨(kd : Int), (j : Int) + 1⟩] := (RowsAt.below (w := (w8.drew.alloc _)) (fold_lit w8.drew ⟨(kd : Int), (j : Int) + 1⟩) hbv)
                   | skip)
                 have hq := hq1
                 have j0 := (hq.cell (p := ⟨w.heap.size, 0, none⟩) hbl).trans d0; have j1 := (hq.cell (p := ⟨w.heap.size, 1, none⟩) hbl).trans d1; have j2 := (hq.cell (p := ⟨w.heap.size, 2, none⟩) hbl).trans d2; have j3 := (hq.cell (p := ⟨w.heap.size, 3, none⟩) hbl).trans d3; have j4 := (hq.cell (p := ⟨gf, 0, none⟩) hfl).trans f0; have j5 := (hq.cell (p := ⟨gf, 1, none⟩) hfl).trans f1
                 clear hn2 hM2)
              | (go_at_call 48
                 refine (cloneFold_n b m L d _ HM.out (by first | exact hL8.below hq | exact (hL8.below hq).alloc _) HLL.out HBD.out).mono ?_
                 rintro e v2 ⟨vv, rfl, hO2, hbv⟩
                 have h12 : Below v1.heap.size v1 v2 := by first | exact hbv | exact keep_new (Below.refl _ _) hbv
                 have hO2 := hO2.mono (B' := v1.heap.size) (by simp)
                 (first
                   | have hfr := hfr.below h12
                   | have hfr : RowsAt 2 Fold.l v2 (some ⟨v1.heap.size, 0, none⟩) [⟨(kd : Int), (j : Int) + 1⟩] := (RowsAt.below (w := v1.alloc _) (fold_lit v1 ⟨(kd : Int), (j : Int) + 1⟩) hbv)
                   | skip)
                 have hq := keep_same hq1 h12
                 have j0 := (hq.cell (p := ⟨w.heap.size, 0, none⟩) hbl).trans d0; have j1 := (hq.cell (p := ⟨w.heap.size, 1, none⟩) hbl).trans d1; have j2 := (hq.cell (p := ⟨w.heap.size, 2, none⟩) hbl).trans d2; have j3 := (hq.cell (p := ⟨w.heap.size, 3, none⟩) hbl).trans d3; have j4 := (hq.cell (p := ⟨gf, 0, none⟩) hfl).trans f0; have j5 := (hq.cell (p := ⟨gf, 1, none⟩) hfl).trans f1)
              | (refine step_appL tFold fold_l _ (by rfl) _ _ (by rfl) v1.heap.size vv L (by rfl) (by first | exact hO2 | exact hO2.alloc _) _ [⟨(kd : Int), (j : Int) + 1⟩] 1 _ rfl (by rfl) (by first | exact hfr | exact fold_lit v2 ⟨(kd : Int), (j : Int) + 1⟩) (fun e => by cases e) HLL.out (by simp) (by first | exact h12.size | exact Nat.le_trans h12.size (by simp)) ?_
                 intro v3 w3 hO3 hg3 hb3 ho3
                 have h13 : Below v1.heap.size v1 w3 := by first | exact h12.trans hb3 | exact (h12.alloc h12.size _).trans hb3
                 have hq := keep_same hq1 h13
                 have j0 := (hq.cell (p := ⟨w.heap.size, 0, none⟩) hbl).trans d0; have j1 := (hq.cell (p := ⟨w.heap.size, 1, none⟩) hbl).trans d1; have j2 := (hq.cell (p := ⟨w.heap.size, 2, none⟩) hbl).trans d2; have j3 := (hq.cell (p := ⟨w.heap.size, 3, none⟩) hbl).trans d3; have j4 := (hq.cell (p := ⟨gf, 0, none⟩) hfl).trans f0; have j5 := (hq.cell (p := ⟨gf, 1, none⟩) hfl).trans f1
                 obtain ⟨b3, d3', e3, -, -, -, -, -⟩ := hO3.rows fold_l
                 obtain ⟨m3, hm3⟩ : ∃ m3, m3 = (L ++ [Fold.mk (kd : Int) ((j : Int) + 1)]).length := ⟨_, rfl⟩
                 rw [← hm3] at e3
                 subst e3
                 have HM3 := Lib.hid hm3
                 clear hm3)
              | (have hP3 := hP2.below h13
                 have hx3 : FRow w3 ⟨C2, R2, A2, n2, cp2, Ps2, b3, m3, d3', L ++ [⟨(kd : Int), (j : Int) + 1⟩]⟩ := FRow.made HN2.out hP3 (HPOS.out Ps2 HM2.out).1 (HPOS.out Ps2 HM2.out).2 hO3 HM3.out
                 have hfrm : (FS.mk C2 R2 A2 n2 cp2 Ps2 b3 m3 d3' (L ++ [⟨(kd : Int), (j : Int) + 1⟩])).frm wr.heap.size := (frm_made hF2 hO3 hq1.size).mono h8s
                 have hwb : w.heap.size + 1 ≤ w3.heap.size := by have := hq.size; omega
                 refine step_appG tFs fs_len fs_one _ (by rfl) _ _ (by rfl) (w.heap.size + 1) _ X (by rfl) (((HMX.out.below hb8).below (hq.mono (Nat.le_refl _))).own.alloc _) _ [⟨C2, R2, A2, n2, cp2, Ps2, b3, m3, d3', L ++ [⟨(kd : Int), (j : Int) + 1⟩]⟩] 1 _ rfl (by rfl) (rowsG_one fs_len w3 _ _) (fun e => by cases e) HXL.out (by simp) (by simp; omega) ?_
                 intro v4 w4 hO4 hg4 hb4 ho4
                 have hqa : Below w8.heap.size w8 (w3.alloc (.cells #[.int .i64 C2, .int .i64 R2, .slice A2 n2 cp2, .slice b3 m3 d3'] 74)) := hq.alloc hq.size _
                 have bf4 : BoxAt w4 gf #[.int .i64 (kd : Int), .int .i64 ((j : Int) + 1)] 41 := (bf.below hqa).grow (((HMX.out.below hb8).below (hq.mono (Nat.le_refl _))).own.alloc _) (by decide) hg4
                 have j0 := ((hb4.cell (p := ⟨w.heap.size, 0, none⟩) (Nat.lt_succ_self _)).trans (hqa.cell (p := ⟨w.heap.size, 0, none⟩) hbl)).trans d0; have j1 := ((hb4.cell (p := ⟨w.heap.size, 1, none⟩) (Nat.lt_succ_self _)).trans (hqa.cell (p := ⟨w.heap.size, 1, none⟩) hbl)).trans d1; have j2 := ((hb4.cell (p := ⟨w.heap.size, 2, none⟩) (Nat.lt_succ_self _)).trans (hqa.cell (p := ⟨w.heap.size, 2, none⟩) hbl)).trans d2; have j3 := ((hb4.cell (p := ⟨w.heap.size, 3, none⟩) (Nat.lt_succ_self _)).trans (hqa.cell (p := ⟨w.heap.size, 3, none⟩) hbl)).trans d3
                 have j4 := bf4.cell 0; have j5 := bf4.cell 1
                 simp at j4 j5))
          all_goals
            have hb3' : Below wr.heap.size wr (w3.alloc (.cells #[.int .i64 C2, .int .i64 R2, .slice A2 n2 cp2, .slice b3 m3 d3'] 74)) := (hb8.trans (hq.mono h8s)).alloc (by have := hq.size; omega) _
            have HMN : Hid (MorX (w.heap.size + 1) w.heap.size ((optTo C R q).map (kidF nd) ++ (optK kd (j + 1)).map (kidF nd)) (X ++ [⟨C2, R2, A2, n2, cp2, Ps2, b3, m3, d3', L ++ [⟨(kd : Int), (j : Int) + 1⟩]⟩]) v4 w4) := Lib.hid (by
              have h := HMX.out.app (X2 := [⟨C2, R2, A2, n2, cp2, Ps2, b3, m3, d3', L ++ [⟨(kd : Int), (j : Int) + 1⟩]⟩]) hb3' (fun x hx => by rw [List.mem_singleton.1 hx]; exact hx3.alloc _) (fun x hx => by rw [List.mem_singleton.1 hx]; exact hfrm) E.low.size hO4 hg4 ho4
              have hn : FS.node ⟨C2, R2, A2, n2, cp2, Ps2, b3, m3, d3', L ++ [⟨(kd : Int), (j : Int) + 1⟩]⟩ = kidF nd f := by
                rw [HKID.out, HF.out]; unfold FS.node; simp only; rw [HM2.out, HF.out]
              rw [List.map_singleton, hn, List.append_assoc, HF.out] at h
              rw [optK_succ, List.map_append]
              exact h)
            have E4 : MoEnv w C R A pn cA b m d w4 :=
              ⟨((E.bx.below hb3')).grown hg4 (fun e => by have := (HMX.out.own.lt _ e.symm).1; omega), (E.low.trans (hb3'.mono E.low.size)).trans (hb4.mono (by omega))⟩
            clear E HMX
            go_wp2_with fail
            go_roundw
            case rel => exact ⟨j + 1, _, by omega, by go_num, E4, HMN⟩
            case measure => simp [intOf]; omega
        · have hjs : j = sd := by omega
          have hjI : ¬ (j : Int) < (sd : Int) := by omega
          go_wp2_with fail
          go_roundw
          case rel =>
            refine ⟨q + 1, kd + 1, X, by omega, Lib.hid (by rw [HKD.out]), by go_num, E, Lib.hid ?_⟩
            have := HMX.out
            rw [hjs, ← List.map_append, HSD.out, HKD.out, ← optTo_succ] at this
            exact this
          case measure => simp [intOf]; omega
    · have hq : q = 4 := by have := HKD.out; omega
      subst hq
      have hqI : ¬ (kd : Int) ≤ 4 := by omega
      obtain ⟨va, vc, ev, hrow, hnil, -⟩ := HMX.out.rowsG
      obtain ⟨vn, hvn⟩ : ∃ vn, vn = X.length := ⟨_, rfl⟩
      rw [← hvn] at ev
      subst ev
      have HVN := Lib.hid hvn
      clear hvn
      go_wp2_with fail
      go_ret
      exact ⟨va, vn, vc, X, rfl, HVN.out, by rw [HMX.out.nodes, optTo_four, HND.out]; try rfl, hrow, HMX.out.rows, HMX.out.low, hnil, E.low⟩
end Go.Proofs.Ytmolejpbpcodbaa

namespace Go.Proofs.Ytmolejpbpcodbaa
open Go.RowKit

theorem sch_pages {m : Int} : ∀ (L : List Cell) (S : List Int) (i : Int), (schErr m L S i).2 = 0 → ∀ x ∈ L, (1 ≤ x.f ∧ x.f ≤ m) ∧ 1 ≤ x.b ∧ x.b ≤ m
  | [], _, _, _, x, hx => by cases hx
  | y :: L, S, i, h, x, hx => by
    unfold schErr at h
    by_cases h1 : cellB m y = false
    · rw [if_pos h1] at h; exact absurd h (by simp)
    · rw [if_neg h1] at h
      by_cases h2 : dblB S y = true
      · rw [if_pos h2] at h; exact absurd h (by simp)
      · rw [if_neg h2] at h
        rcases List.mem_cons.1 hx with rfl | hx
        · simp [cellB, pageB, inB] at h1
          omega
        · exact sch_pages L _ _ h x hx
theorem checkSc_pages {C R : Int} {L : List Cell} (h : (checkSc C R L).2 = 0) (hl : L.length ≤ 64) : ∀ x ∈ L, -1000 ≤ x.f ∧ x.f ≤ 1000 ∧ -1000 ≤ x.b ∧ x.b ≤ 1000 := by
  have h1 := scOk h
  unfold checkSc at h
  rw [if_neg (by simp [h1])] at h
  intro x hx
  have := sch_pages _ _ _ h x hx
  omega
theorem sides_nine : ∀ c, c < 9 → ∀ r, r < 9 → c * r ≤ 12 → c + r ≤ 9 := by decide
/-- What folds are found, and the error. -/
def rootF (C R : Nat) : FN := ⟨C, R, flatP C (C * R), []⟩
def findB (C R : Int) (S : List Cell) : Option (List Fold) := bfs C.toNat S 10 [rootF C.toNat R.toNat]
def findE (C R : Int) (S : List Cell) : Int := if (checkSc C R S).2 ≠ 0 then (checkSc C R S).2 else if 16 < S.length then 8 else if (findB C R S).isSome = true then 0 else 12
def findP (C R : Int) (S : List Cell) : List Fold := if (checkSc C R S).2 ≠ 0 then [] else if 16 < S.length then [] else (findB C R S).getD []
def FindsPost (w : World) (q : Int) (P : List Fold) (e : Ending) (w' : World) : Prop :=
  ∃ (a : Option Addr) (n c : Nat), e = .returned (.tuple #[.slice a n c, .int .i64 q]) ∧ n = P.length ∧ RowsAt 2 Fold.l w' a P ∧ (a = none → c = 0) ∧ Below w.heap.size w w'
structure FdEnv (w : World) (cn rn : Nat) (a : Option Addr) (n c : Nat) (wr : World) : Prop where
  bs : BoxAt wr w.heap.size #[.int .i64 cn, .int .i64 rn, .slice a n c] 24
  low : Below w.heap.size w wr
theorem FdEnv.below {w : World} {cn rn : Nat} {a : Option Addr} {n c : Nat} {wr w1 : World} (h : FdEnv w cn rn a n c wr) (hb : Below wr.heap.size wr w1) : FdEnv w cn rn a n c w1 :=
  ⟨h.bs.below hb, h.low.trans (hb.mono h.low.size)⟩
/-- The foldings of a level. -/
structure LvX (cn rn : Nat) (S : List Cell) (k : Nat) (X : List FS) : Prop where
  ok : ∀ x ∈ X, NOk (cn : Int) rn x.node
  len : ∀ x ∈ X, x.L.length = k
  sides : ∀ x ∈ X, x.C + x.R + k ≤ 9
  found : bfs (cn : Int) S (10 - k) (X.map FS.node) = bfs (cn : Int) S 10 [rootF cn rn]
  tot : totL (10 - k) (X.map FS.node) ≤ 900000
section
variable {cn rn : Nat} {S : List Cell} {k : Nat} {X : List FS}
theorem totL_take (n j : Nat) (L : List FN) : totL n (L.take j) ≤ totL n L := by
  conv => rhs; rw [← List.take_append_drop j L]
  rw [totL_app]; omega
theorem LvX.few (h : LvX cn rn S k X) (hk : k < 10) (j : Nat) : (nextF cn S ((X.map FS.node).take j)).length ≤ 900000 := by
  refine Nat.le_trans (totL_len (10 - (k + 1)) _) (Nat.le_trans (totL_next _ _) ?_)
  rw [show 10 - (k + 1) + 1 = 10 - k by omega]
  exact Nat.le_trans (totL_take _ _ _) h.tot
theorem LvX.next (h : LvX cn rn S k X) (hk : k < 10) (hh : hit cn S (X.map FS.node) = none) {Y : List FS} (hY : Y.map FS.node = nextF cn S (X.map FS.node)) : LvX cn rn S (k + 1) Y := by
  have hok : ∀ x ∈ X.map FS.node, NOk (cn : Int) rn x := fun x hx => by
    obtain ⟨z, hz, rfl⟩ := List.mem_map.1 hx; exact h.ok z hz
  have hmem : ∀ y ∈ Y, ∃ x ∈ X, ∃ f ∈ optsF x.C x.R, y.node = kidF x.node f := fun y hy => by
    have h1 : y.node ∈ nextF cn S (X.map FS.node) := by rw [← hY]; exact List.mem_map_of_mem hy
    unfold nextF at h1
    obtain ⟨z, hz, hyz⟩ := List.mem_flatMap.1 h1
    obtain ⟨x, hx, rfl⟩ := List.mem_map.1 (List.mem_filter.1 hz).1
    obtain ⟨f, hf, e⟩ := List.mem_map.1 hyz
    exact ⟨x, hx, f, hf, e.symm⟩
  refine ⟨?_, ?_, ?_, ?_, ?_⟩
  · intro y hy
    obtain ⟨x, hx, f, hf, e⟩ := hmem y hy
    rw [e]; exact (h.ok x hx).kid hf
  · intro y hy
    obtain ⟨x, hx, f, hf, e⟩ := hmem y hy
    have e2 := congrArg (fun z : FN => z.L.length) e
    have e3 : y.L.length = (x.L ++ [f]).length := e2
    rw [e3, List.length_append, h.len x hx]; try rfl
  · intro y hy
    obtain ⟨x, hx, f, hf, e⟩ := hmem y hy
    have kk := (h.ok x hx).kidOk hf
    have e1 := congrArg FN.C e
    have e2 := congrArg FN.R e
    have e1 : y.C = (afterC x.C f).toNat := e1
    have e2 : y.R = (afterR x.R f).toNat := e2
    have := h.sides x hx
    have h1 : ((afterC x.C f).toNat : Int) + (afterR x.R f).toNat + f.c = x.C + x.R := kk.sum
    have := kk.c1
    omega
  · have e : bfs (cn : Int) S (10 - k) (X.map FS.node) = (hit (cn : Int) S (X.map FS.node)).or (bfs (cn : Int) S (10 - (k + 1)) (nextF (cn : Int) S (X.map FS.node))) := by
      rw [show 10 - k = (10 - (k + 1)) + 1 by omega]; try rfl
    rw [hh] at e
    rw [hY, ← h.found, e]; try rfl
  · rw [hY]
    refine Nat.le_trans (totL_next _ _) ?_
    rw [show 10 - (k + 1) + 1 = 10 - k by omega]; exact h.tot
theorem next_snoc {L : List FN} {x : FN} : nextF (cn : Int) S (L ++ [x]) = nextF cn S L ++ (if mayN cn S x = true then kidsF x else []) := by
  unfold nextF
  rw [List.filter_append, List.flatMap_append]
  congr 1
  by_cases hm : mayN cn S x = true
  · rw [if_pos hm, List.filter_cons, if_pos hm]; simp
  · rw [if_neg hm, List.filter_cons, if_neg hm]; try rfl
theorem hit_snoc {L : List FN} {x : FN} (h : hit (cn : Int) S L = none) (hx : (mayN cn S x && readB cn S x) = false) : hit (cn : Int) S (L ++ [x]) = none := by
  unfold hit at h ⊢
  rw [List.findSome?_append, h, List.findSome?_cons, if_neg (by rw [hx]; simp)]; rfl
theorem hit_found {L M : List FN} {x : FN} (h : hit (cn : Int) S L = none) (hx : (mayN cn S x && readB cn S x) = true) : hit (cn : Int) S (L ++ x :: M) = some x.L := by
  unfold hit at h ⊢
  rw [List.findSome?_append, h, List.findSome?_cons, if_pos hx]; try rfl
end
theorem finds_end {cn : Nat} {S : List Cell} {n : Nat} {l : List Fold} {L : List FN} (h : hit (cn : Int) S L = some l) : bfs cn S (n + 1) L = some l := by
  unfold bfs; rw [h]; try rfl
theorem RowsG.fs {w : World} {a : Option Addr} {X : List FS} (h : RowsG 4 FS.vs w a X) {k : Nat} (hk : k < X.length) {C R : Nat} {A : Option Addr} {pn cA : Nat} {Ps : List PS} {b : Option Addr} {m d : Nat} {L : List Fold} (e : X[k] = ⟨C, R, A, pn, cA, Ps, b, m, d, L⟩) :
    ∃ ad, a = some ad ∧ ad.block < w.heap.size ∧ w.cell? (ad.add (k * 4)) = some (.int .i64 C) ∧ w.cell? ⟨(ad.add (k * 4)).block, (ad.add (k * 4)).off + 1, none⟩ = some (.int .i64 R) ∧ w.cell? ⟨(ad.add (k * 4)).block, (ad.add (k * 4)).off + 2, none⟩ = some (.slice A pn cA) ∧ w.cell? ⟨(ad.add (k * 4)).block, (ad.add (k * 4)).off + 3, none⟩ = some (.slice b m d) := by
  obtain ⟨ad, e1, hlt, hs⟩ := h k hk
  rw [e] at hs
  exact ⟨ad, e1, hlt, hs 0 (by decide), hs 1 (by decide), hs 2 (by decide), hs 3 (by decide)⟩
set_option maxRecDepth 100000 in
set_option maxHeartbeats 8000000 in
theorem foldsFor_ok (cn rn : Nat) (a : Option Addr) (S : List Cell) (n c : Nat) (w : World) (hn : n = S.length) (hS : RowsAt 4 Cell.l w a S) (hsc : (checkSc cn rn S).2 = 0) (hl : S.length ≤ 12) :
    Calls Try.prog 8 #[.agg #[.int .i64 cn, .int .i64 rn, .slice a n c]] w (FindsPost w (if (findB cn rn S).isSome = true then 0 else 12) ((findB cn rn S).getD [])) := by
  obtain ⟨o, ho⟩ : ∃ o, o = findB cn rn S := ⟨_, rfl⟩
  have HO : Hid (bfs (cn : Int) S 10 [rootF cn rn] = o) := Lib.hid (by rw [ho]; unfold findB; rw [Int.toNat_natCast, Int.toNat_natCast])
  have HN := Lib.hid hn
  obtain ⟨p1, hp1⟩ : ∃ x, (checkSc cn rn S).1 = x := ⟨_, rfl⟩
  have HSC := Lib.hid hsc; have HP1 := Lib.hid hp1
  obtain ⟨cn', rn', hs⟩ := sc_side hsc
  obtain ⟨e1, e2, h8, r8, hlen⟩ := hs
  obtain rfl : cn = cn' := by omega
  obtain rfl : rn = rn' := by omega
  have HSR : Hid (ScR cn rn S n) := Lib.hid ⟨h8, r8, hn, hlen, checkSc_bits hsc⟩
  have HPG := Lib.hid (checkSc_pages hsc (by omega))
  have hnn : n ≤ 12 := by omega
  have HSD : Hid (cn + rn ≤ 9) := Lib.hid (sides_nine cn (by omega) rn (by omega) (by omega))
  have HTT : Hid (tot 10 cn rn ≤ 900000) := Lib.hid (tot_small cn (by omega) rn (by omega) (by omega))
  have H88 := Lib.hid (And.intro h8 r8)
  have hsz : ∀ w, Calls Try.prog 26 #[.agg #[.int .i64 cn, .int .i64 rn, .slice a n c]] w (AggPost (.agg #[.int .i64 cn, .int .i64 rn]) w) := fun w => sizeOfScheme_any cn rn _ ⟨a, n, c, rfl⟩ w
  have HSZ := Lib.hid hsz
  have hLL : Hid (S.length ≤ 1000000) := Lib.hid (by omega)
  obtain ⟨w0, hw0⟩ : ∃ w0, w0 = w.alloc (.cells #[.int .i64 cn, .int .i64 rn, .slice a n c] 24) := ⟨_, rfl⟩
  have E0 : FdEnv w cn rn a n c w0 := by
    rw [hw0]; exact ⟨BoxAt.new w _ _, (Below.refl w.heap.size w).alloc (Nat.le_refl _) _⟩
  have W0 := Lib.hid hw0
  rw [← ho]
  obtain ⟨EE, hEE⟩ : ∃ EE : Int, EE = if o.isSome = true then 0 else 12 := ⟨_, rfl⟩
  have HEE := Lib.hid hEE
  rw [← hEE]
  clear hEE hw0 ho hn hsc hp1 hl h8 r8 hlen e1 e2 hsz
  go_enter Try.func8, Try.ntmps8
  go_wp2_with fail
  rw [← W0.out]
  refine (scN cn rn a n S c _ HN.out (hS.below E0.low) hLL.out HP1.out HSC.out).mono ?_
  rintro e w1 ⟨rfl, hb1⟩
  have E1 := E0.below hb1
  clear hb1 E0
  have s0 := E1.bs.cell 0; have s1 := E1.bs.cell 1; have s2 := E1.bs.cell 2
  simp at s0 s1 s2
  have hnI : ¬ (16 : Int) < (n : Int) := by omega
  go_wp2_with fail
  refine (HSZ.out _).mono ?_
  rintro e w2 ⟨rfl, hb2⟩
  have E2 := E1.below hb2
  clear hb2 E1 s0 s1 s2
  go_wp2_with fail
  refine (flat_any cn rn _ H88.out.1 H88.out.2).mono ?_
  rintro e w3 ⟨A, nA, cA, Ps, rfl, hnA, hPA, hFA, hMA, hb3⟩
  have E3 := E2.below hb3
  have HNA := Lib.hid hnA; have HMA := Lib.hid hMA; have HPA := Lib.hid hPA
  clear hb3 E2 hnA hMA hPA hFA
  have hroot : FS.node ⟨cn, rn, A, nA, cA, Ps, none, 0, 0, []⟩ = rootF cn rn := by unfold FS.node rootF; simp only; rw [HMA.out]
  have hrok : NOk (cn : Int) rn (rootF cn rn) := NOk.flat H88.out.1 H88.out.2
  have hpos : 0 < Ps.length ∧ ∀ y ∈ Ps, 0 < y.l.length := by
    have hp := hrok.pile
    have h1 : (flatP cn (cn * rn)).length = cn * rn := hp.len
    have h2 : 1 * 1 ≤ cn * rn := Nat.mul_le_mul hrok.hC.1 hrok.hR.1
    refine ⟨by rw [← HMA.out, List.length_map] at h1; omega, fun y hy => hp.pos y.l ?_⟩
    show y.l ∈ flatP cn (cn * rn)
    rw [← HMA.out]; exact List.mem_map.2 ⟨y, hy, rfl⟩
  have hr0 : FRow w3 ⟨cn, rn, A, nA, cA, Ps, none, 0, 0, []⟩ := FRow.made (B := w3.heap.size) HNA.out HPA.out hpos.1 hpos.2 (OwnR.nil _ _) rfl
  have hg0 : RowsG 4 FS.vs (w3.alloc (.cells #[.int .i64 cn, .int .i64 rn, .slice A nA cA, .slice none 0 0] 74)) (some ⟨w3.heap.size, 0, none⟩) [⟨cn, rn, A, nA, cA, Ps, none, 0, 0, []⟩] := rowsG_one fs_len w3 _ _
  have HL0 : Hid (LvX cn rn S 0 [⟨cn, rn, A, nA, cA, Ps, none, 0, 0, []⟩]) := Lib.hid (by
    refine ⟨?_, ?_, ?_, ?_, ?_⟩
    · intro x hx; rw [List.mem_singleton.1 hx, hroot]; exact hrok
    · intro x hx; rw [List.mem_singleton.1 hx]; try rfl
    · intro x hx; rw [List.mem_singleton.1 hx]; exact HSD.out
    · rw [List.map_singleton, hroot]
    · rw [List.map_singleton, hroot]
      show tot 10 cn rn + 0 ≤ 900000
      exact HTT.out)
  have HR0 : Hid (∀ x ∈ [FS.mk cn rn A nA cA Ps none 0 0 []], FRow (w3.alloc (.cells #[.int .i64 cn, .int .i64 rn, .slice A nA cA, .slice none 0 0] 74)) x) := Lib.hid (fun x hx => by rw [List.mem_singleton.1 hx]; exact hr0.alloc _)
  have E4 := E3.below ((Below.refl w3.heap.size w3).alloc (Nat.le_refl _) (.cells #[.int .i64 cn, .int .i64 rn, .slice A nA cA, .slice none 0 0] 74))
  clear hroot hrok hpos hr0 E3
  go_wp2_with fail
  go_loopg [6] 12 (fun gk v6 wr => ∃ (k : Nat) (X : List FS) (aX : Option Addr) (nX cX : Nat), k ≤ 10 ∧ gk = 12 - k ∧ v6 = .slice aX nX cX ∧ Hid (nX = X.length) ∧ RowsG 4 FS.vs wr aX X ∧ Hid (∀ x ∈ X, FRow wr x) ∧ Hid (LvX cn rn S k X) ∧ FdEnv w cn rn a n c wr)
  case atStart => exact ⟨0, _, _, _, _, by omega, rfl, rfl, Lib.hid rfl, hg0, HR0, HL0, E4⟩
  case round =>
    obtain ⟨k, X, aX, nX, cX, hk, hgk, rfl, HNX, hgX, HRX, HLX, E⟩ := hrel
    clear hg0 HR0 HL0 E4
    by_cases hlt : 0 < nX
    · have hlI : (0 : Int) < (nX : Int) := by omega
      have hk8 : k < 10 := by
        have hx0 : 0 < X.length := by have := HNX.out; omega
        have h1 := HLX.out.sides _ (List.getElem_mem hx0)
        have h2 := HLX.out.ok _ (List.getElem_mem hx0)
        have h3 : 1 ≤ X[0].C := h2.hC.1
        have h4 : 1 ≤ X[0].R := h2.hR.1
        omega
      have hnX : nX ≤ 900000 := by
        have h1 := totL_len (10 - k) (X.map FS.node)
        rw [List.length_map] at h1
        have h2 := HLX.out.tot
        have h3 := HNX.out
        omega
      obtain ⟨wo, hwo⟩ : ∃ wo : World, wo = wr := ⟨_, rfl⟩
      have HGX : Hid (RowsG 4 FS.vs wo aX X) := Lib.hid (by rw [hwo]; exact hgX)
      have HRW : Hid (∀ x ∈ X, FRow wo x) := Lib.hid (by rw [hwo]; exact HRX.out)
      have hwl : w.heap.size < wo.heap.size := by rw [hwo]; exact E.bs.lt
      have E5 : FdEnv w cn rn a n c wo := by rw [hwo]; exact E
      have HM0 : Hid (MorX wo.heap.size wo.heap.size (nextF cn S ((X.map FS.node).take 0)) [] (.slice none 0 0) wo) := Lib.hid (MorX.nil _ _ _)
      rw [← hwo]
      clear hwo hgX HRX E
      go_wp2_with fail
      go_loopw [7, 32] (fun v i wr => ∃ (j : Nat) (Y : List FS), j ≤ nX ∧ i = .int .i64 (j : Int) ∧ FdEnv w cn rn a n c wr ∧ Below wo.heap.size wo wr ∧ Hid (MorX wo.heap.size wo.heap.size (nextF cn S ((X.map FS.node).take j)) Y v wr) ∧ Hid (hit (cn : Int) S ((X.map FS.node).take j) = none)) (fun _ i _ => nX - (intOf i).toNat)
      case atStart => exact ⟨0, [], Nat.zero_le _, rfl, E5, Below.refl _ _, HM0, Lib.hid rfl⟩
      case round =>
        obtain ⟨j, Y, hj, rfl, E, hbo, HMY, HH⟩ := hrel
        clear E5 HM0
        by_cases hjl : j < nX
        · have hjI : (j : Int) < (nX : Int) := by omega
          have hjX : j < X.length := by have := HNX.out; omega
          have hjm : j < (X.map FS.node).length := by rw [List.length_map]; exact hjX
          obtain ⟨x, hx⟩ : ∃ x, x = X[j] := ⟨_, rfl⟩
          have hmem : x ∈ X := by rw [hx]; exact List.getElem_mem hjX
          have HXOK : Hid (NOk (cn : Int) rn x.node) := Lib.hid (HLX.out.ok x hmem)
          have HXR : Hid (FRow wo x) := Lib.hid (HRW.out x hmem)
          have HXL : Hid (x.L.length ≤ 100) := Lib.hid (by have := HLX.out.len x hmem; omega)
          have HTK : Hid ((X.map FS.node).take (j + 1) = (X.map FS.node).take j ++ [x.node]) := Lib.hid (by
            rw [List.take_succ_eq_append_getElem hjm, List.getElem_map, hx])
          have HDR : Hid (X.map FS.node = (X.map FS.node).take j ++ x.node :: (X.map FS.node).drop (j + 1)) := Lib.hid (by
            conv => lhs; rw [← List.take_append_drop j (X.map FS.node)]
            rw [List.drop_eq_getElem_cons hjm, List.getElem_map, hx])
          obtain ⟨C, R, A2, pn, cA2, Ps2, b, m, d, L⟩ := x
          obtain ⟨ad, rfl, had, x0, x1, x2, x3⟩ := (HGX.out.below hbo).fs hjX hx.symm
          obtain ⟨nd, hnd⟩ : ∃ nd, nd = FS.node ⟨C, R, A2, pn, cA2, Ps2, b, m, d, L⟩ := ⟨_, rfl⟩
          have HND := Lib.hid hnd
          obtain ⟨mb, hmb⟩ : ∃ mb, mb = mayN cn S nd := ⟨_, rfl⟩
          obtain ⟨rb, hrb⟩ : ∃ rb, rb = readB cn S nd := ⟨_, rfl⟩
          have HMB := Lib.hid hmb; have HRB := Lib.hid hrb
          rw [← hnd] at HTK HDR
          have hma := fun W hW hSW => mayBe_fs C R A2 pn cA2 Ps2 b m d L cn rn a S n c W hW HXOK.out HSR.out HPG.out hSW
          have hre := fun W hW hSW => isRead_fs C R A2 pn cA2 Ps2 b m d L cn rn a S n c W hW HXOK.out HSR.out hSW
          rw [show (FN.mk C R (Ps2.map (·.l)) L) = nd from HND.out.symm] at hma hre
          rw [← hmb] at hma; rw [← hrb] at hre
          have hmo := fun W hW => oneMore_fs C R A2 pn cA2 Ps2 b m d L cn rn W hW HXOK.out HXL.out
          rw [show (FN.mk C R (Ps2.map (·.l)) L) = nd from HND.out.symm] at hmo
          have HMA2 := Lib.hid hma; have HRE := Lib.hid hre; have HMO := Lib.hid hmo
          have hxr := HXR.out.below hbo
          have hSr := hS.below E.low
          have bb := BoxAt.new wr #[.int .i64 C, .int .i64 R, .slice A2 pn cA2, .slice b m d] 74
          have hba := (Below.refl wr.heap.size wr).alloc (Nat.le_refl _) (.cells #[.int .i64 C, .int .i64 R, .slice A2 pn cA2, .slice b m d] 74)
          have Ea := E.below hba
          clear hx hmem hnd hmb hrb hma hre hmo hjm
          have s0 := Ea.bs.cell 0; have s1 := Ea.bs.cell 1; have s2 := Ea.bs.cell 2
          simp at s0 s1 s2
          go_wp2_with fail
          refine (HMA2.out _ (hxr.below hba) (hSr.below hba)).mono ?_
          rintro e w5 ⟨rfl, hb5⟩
          have E5 := Ea.below hb5
          have h5 : Below wr.heap.size wr w5 := hba.trans (hb5.mono hba.size)
          have bb5 := bb.below hb5
          clear hb5 Ea bb hba s0 s1 s2 x0 x1 x2 x3
          have s0 := E5.bs.cell 0; have s1 := E5.bs.cell 1; have s2 := E5.bs.cell 2
          have q0 := bb5.cell 0; have q1 := bb5.cell 1; have q2 := bb5.cell 2; have q3 := bb5.cell 3
          simp at s0 s1 s2 q0 q1 q2 q3
          cases mb with
          | false =>
            go_wp2_with fail
            go_roundw
            case rel =>
              refine ⟨j + 1, Y, by omega, by go_num, E5, hbo.trans (h5.mono hbo.size), Lib.hid ?_, Lib.hid ?_⟩
              · rw [HTK.out, next_snoc, ← HMB.out, if_neg (by simp), List.append_nil]; exact HMY.out.below h5
              · rw [HTK.out]; exact hit_snoc HH.out (by rw [← HMB.out]; try rfl)
            case measure => simp [intOf]; omega
          | true =>
            go_wp2_with fail
            refine (HRE.out _ (hxr.below h5) (hSr.below h5)).mono ?_
            rintro e w6 ⟨rfl, hb6⟩
            have E6 := E5.below hb6
            have h6 : Below wr.heap.size wr w6 := h5.trans (hb6.mono h5.size)
            have bb6 := bb5.below hb6
            clear hb6 E5 bb5 h5 s0 s1 s2 q0 q1 q2 q3
            have q0 := bb6.cell 0; have q1 := bb6.cell 1; have q2 := bb6.cell 2; have q3 := bb6.cell 3
            simp at q0 q1 q2 q3
            cases rb with
            | true =>
              have HOO : Hid (o = some L) := Lib.hid (by
                have h1 := HLX.out.found
                rw [HO.out] at h1
                rw [← h1, show 10 - k = (10 - (k + 1)) + 1 by omega]
                refine finds_end ?_
                rw [HDR.out, hit_found HH.out (by rw [← HMB.out, ← HRB.out]; try rfl), HND.out]; rfl)
              have HE0 : Hid (EE = 0) := Lib.hid (by rw [HEE.out, HOO.out]; try rfl)
              have hxr6 := hxr.below h6
              have HFO : Hid (RowsAt 2 Fold.l w6 b L) := Lib.hid hxr6.fo
              have HFM : Hid (m = L.length) := Lib.hid hxr6.m
              have HFD : Hid (b = none → d = 0) := Lib.hid hxr6.bd
              clear hxr6 hxr
              go_wp2_with fail
              go_ret2
              exact ⟨b, m, d, by rw [HE0.out]; try rfl, by rw [HOO.out]; exact HFM.out, by rw [HOO.out]; exact HFO.out, HFD.out, E6.low⟩
            | false =>
              go_wp2_with fail
              refine (HMO.out _ (hxr.below h6)).mono ?_
              rintro e w7 ⟨a7, n7, c7, Z, rfl, hn7, hZ, hg7, hr7, hf7, hnil7, hb7⟩
              have E7 := E6.below hb7
              have h7 : Below wr.heap.size wr w7 := h6.trans (hb7.mono h6.size)
              have HN7 := Lib.hid hn7; have HZN := Lib.hid hZ
              have HYL : Hid (Y.length ≤ 1000000) := Lib.hid (by
                have h1 := congrArg List.length HMY.out.nodes
                rw [List.length_map] at h1
                have := HLX.out.few hk8 j
                omega)
              have HZL : Hid (Z.length ≤ 1000000) := Lib.hid (by
                have h1 := congrArg List.length HZN.out
                rw [List.length_map] at h1
                have h2 : (nextF (cn : Int) S ((X.map FS.node).take (j + 1))).length ≤ 900000 := HLX.out.few hk8 (j + 1)
                rw [HTK.out, next_snoc, ← HMB.out, if_pos rfl, List.length_append] at h2
                omega)
              have HRZ : Hid (∀ x ∈ Z, FRow w7 x) := Lib.hid hr7
              have HFZ : Hid (∀ x ∈ Z, x.frm wr.heap.size) := Lib.hid (fun x hx => (hf7 x hx).mono h6.size)
              have HO7 : Hid (OwnG 4 74 FS.vs w7 wo.heap.size _ Y) := Lib.hid (HMY.out.below h7).own
              have hwo7 : wo.heap.size ≤ w7.heap.size := Nat.le_trans hbo.size h7.size
              clear hn7 hZ hr7 hf7 hb7 E6 q0 q1 q2 q3 bb6 hxr hSr
              go_wp2_with (at_builtin; refine wpList_appG tFs fs_len fs_one _ rfl _ _ rfl wo.heap.size _ Y rfl HO7.out a7 Z n7 c7 HN7.out rfl hg7 hnil7 HYL.out HZL.out hwo7 ?_; intro v8 w8 hO8 hg8 hb8 ho8)
              have HMN : Hid (MorX wo.heap.size wo.heap.size (nextF cn S ((X.map FS.node).take (j + 1))) (Y ++ Z) v8 w8) := Lib.hid (by
                have h := HMY.out.app h7 HRZ.out HFZ.out hbo.size hO8 hg8 ho8
                rw [HTK.out, next_snoc, ← HMB.out, if_pos rfl, ← HZN.out]
                exact h)
              have E8 : FdEnv w cn rn a n c w8 := ⟨E7.bs.grown hg8 (fun e => by have := (HO7.out.lt _ e.symm).1; omega), E7.low.trans (hb8.mono (Nat.le_of_lt hwl))⟩
              have hb8o : Below wo.heap.size wo w8 := (hbo.trans (h7.mono hbo.size)).trans hb8
              clear E7 E HMY
              go_roundw
              case rel =>
                refine ⟨j + 1, Y ++ Z, by omega, by go_num, E8, hb8o, HMN, Lib.hid ?_⟩
                rw [HTK.out]; exact hit_snoc HH.out (by rw [← HMB.out, ← HRB.out]; try rfl)
              case measure => simp [intOf]; omega
        · have hjI : ¬ (j : Int) < (nX : Int) := by omega
          have hjn : j = X.length := by have := HNX.out; omega
          have htk : (X.map FS.node).take j = X.map FS.node := List.take_of_length_le (by rw [List.length_map]; omega)
          obtain ⟨va, vc, ev, hrow, hnil, -⟩ := HMY.out.rowsG
          obtain ⟨vn, hvn⟩ : ∃ vn, vn = Y.length := ⟨_, rfl⟩
          rw [← hvn] at ev
          subst ev
          have HVN := Lib.hid hvn
          have HLN : Hid (LvX cn rn S (k + 1) Y) := Lib.hid (HLX.out.next hk8 (by have := HH.out; rw [htk] at this; exact this) (by rw [HMY.out.nodes, htk]))
          have HRY := Lib.hid HMY.out.rows
          clear hvn
          go_wp2_with fail
          go_roundg (12 - (k + 1))
          case measure => omega
          case rel => exact ⟨k + 1, Y, va, vn, vc, by omega, rfl, rfl, HVN, hrow, HRY, HLN, E⟩
    · have hlI : ¬ (0 : Int) < (nX : Int) := by omega
      have HX0 : Hid (o = none) := Lib.hid (by
        have h1 : X = [] := List.length_eq_zero_iff.1 (by have := HNX.out; omega)
        have h2 := HLX.out.found
        rw [h1, List.map_nil, bfs_none, HO.out] at h2
        exact h2.symm)
      have HE0 : Hid (EE = 12) := Lib.hid (by rw [HEE.out, HX0.out]; try rfl)
      have h0 : nX = 0 := by omega
      subst h0
      go_wp2_with fail
      go_ret2
      exact ⟨none, 0, 0, by rw [HE0.out]; try rfl, by rw [HX0.out]; try rfl, by rw [HX0.out]; exact RowsAt.nil _ _, fun _ => rfl, E.low⟩
set_option maxRecDepth 100000 in
set_option maxHeartbeats 4000000 in
theorem foldsFor_any (C R : Int) (a : Option Addr) (S : List Cell) (n c : Nat) (w : World) (hn : n = S.length) (hS : RowsAt 4 Cell.l w a S) (hl : S.length ≤ 1000000) (hne : ¬ (13 ≤ S.length ∧ S.length ≤ 16)) :
    Calls Try.prog 8 #[.agg #[.int .i64 C, .int .i64 R, .slice a n c]] w (FindsPost w (findE C R S) (findP C R S)) := by
  by_cases h0 : (checkSc C R S).2 = 0
  · by_cases h16 : 16 < S.length
    · have HE : Hid (findE C R S = 8) := Lib.hid (by unfold findE; rw [if_neg (by simp [h0]), if_pos h16])
      have HP : Hid (findP C R S = []) := Lib.hid (by unfold findP; rw [if_neg (by simp [h0]), if_pos h16])
      rw [HE.out, HP.out]
      obtain ⟨p1, hp1⟩ : ∃ x, (checkSc C R S).1 = x := ⟨_, rfl⟩
      have HN := Lib.hid hn; have HL := Lib.hid hl; have H0 := Lib.hid h0; have HP1 := Lib.hid hp1
      have hnI : (16 : Int) < (n : Int) := by omega
      have bx := BoxAt.new w #[.int .i64 C, .int .i64 R, .slice a n c] 24
      have hB := (Below.refl w.heap.size w).alloc (Nat.le_refl _) (.cells #[.int .i64 C, .int .i64 R, .slice a n c] 24)
      clear hn hl h0 hp1 h16 hne
      go_enter Try.func8, Try.ntmps8
      go_wp2_with fail
      refine (scN C R a n S c _ HN.out (hS.alloc _) HL.out HP1.out H0.out).mono ?_
      rintro e w1 ⟨rfl, hb1⟩
      have bx1 := bx.below hb1
      have hB1 := hB.trans (hb1.mono (B' := w.heap.size) hB.size)
      clear hb1 bx hB
      have s0 := bx1.cell 0; have s1 := bx1.cell 1; have s2 := bx1.cell 2
      simp at s0 s1 s2
      go_wp2_with fail
      go_ret2
      exact ⟨none, 0, 0, rfl, rfl, RowsAt.nil _ _, fun _ => rfl, hB1⟩
    · obtain ⟨cn, rn, hs⟩ := sc_side h0
      obtain ⟨rfl, rfl, h8, r8, hlen⟩ := hs
      have HE : findE cn rn S = if (findB cn rn S).isSome = true then 0 else 12 := by unfold findE; rw [if_neg (by simp [h0]), if_neg h16]
      have HP : findP cn rn S = (findB cn rn S).getD [] := by unfold findP; rw [if_neg (by simp [h0]), if_neg h16]
      rw [HE, HP]
      exact foldsFor_ok cn rn a S n c w hn hS h0 (by omega)
  · obtain ⟨q1, hq1⟩ : ∃ x, (checkSc C R S).2 = x := ⟨_, rfl⟩
    have HE : Hid (findE C R S = q1) := Lib.hid (by unfold findE; rw [if_pos h0, hq1])
    have HP : Hid (findP C R S = []) := Lib.hid (by unfold findP; rw [if_pos h0])
    rw [HE.out, HP.out]
    obtain ⟨p1, hp1⟩ : ∃ x, (checkSc C R S).1 = x := ⟨_, rfl⟩
    have HN := Lib.hid hn; have HL := Lib.hid hl; have HQ1 := Lib.hid hq1; have HP1 := Lib.hid hp1
    rw [hq1] at h0
    have hd : (q1 == 0) = false := by simpa using h0
    have hd2 : (q1 != 0) = true := by simpa using h0
    have hB := (Below.refl w.heap.size w).alloc (Nat.le_refl _) (.cells #[.int .i64 C, .int .i64 R, .slice a n c] 24)
    clear hn hl hq1 hp1 hne
    go_enter Try.func8, Try.ntmps8
    go_wp2_with fail
    refine (scN C R a n S c _ HN.out (hS.alloc _) HL.out HP1.out HQ1.out).mono ?_
    rintro e w1 ⟨rfl, hb1⟩
    have hB1 := hB.trans (hb1.mono (B' := w.heap.size) hB.size)
    clear hb1 hB
    go_wp2_with fail
    go_ret2
    exact ⟨none, 0, 0, rfl, rfl, RowsAt.nil _ _, fun _ => rfl, hB1⟩
end Go.Proofs.Ytmolejpbpcodbaa
