/-
  Package press: a tree that is accepted proves: no right order takes less (maths).
-/
import Derived.Test.YtpplcbpnojggcaaBX
import Derived.Deep.RegionHeld3

namespace Go.Proofs.Ytpplcbpnojggcaa
open Go.RowKit Go.Maps Go.Shelf

theorem get_pre {O S : List Int} {j : Nat} (h : j < O.length) : (O ++ S).getD j 0 = O.getD j 0 := by
  rw [List.getD_eq_getElem?_getD, List.getD_eq_getElem?_getD, List.getElem?_append_left h]
theorem set_getDI {M : List Int} {i j : Nat} {v : Int} (hi : i < M.length) : (M.set i v).getD j 0 = if i = j then v else M.getD j 0 := by
  rw [List.getD_eq_getElem?_getD, List.getD_eq_getElem?_getD, List.getElem?_set]
  by_cases e : i = j
  · subst e; rw [if_pos rfl, if_pos hi, if_pos rfl]; rfl
  · rw [if_neg e, if_neg e]
theorem beg_pre {x : Cols} {O P E E' : List Int} {c : Nat} {e0 : Int} : ∀ k, (∀ j, j < k → P.getD j 0 = O.getD j 0 ∧ E'.getD j 0 = E.getD j 0) → begK x P E' c e0 k = begK x O E c e0 k
  | 0, _ => rfl
  | k + 1, h => by
    unfold begK
    rw [beg_pre k (fun j hj => h j (by omega)), (h k (by omega)).1, (h k (by omega)).2]
theorem ord_pre {x : Cols} {O S : List Int} : ∀ k, k ≤ O.length → (ordK x (O ++ S) k).2 = (ordK x O k).2 ∧ ∀ j, j < k → (ordK x (O ++ S) k).1.getD j 0 = (ordK x O k).1.getD j 0
  | 0, _ => ⟨rfl, fun j hj => by omega⟩
  | k + 1, hk => by
    obtain ⟨h1, h2⟩ := ord_pre (x := x) (O := O) (S := S) k (by omega)
    have hb : begK x (O ++ S) (ordK x (O ++ S) k).1 ((O ++ S).getD k 0).toNat (ordK x (O ++ S) k).2 k = begK x O (ordK x O k).1 (O.getD k 0).toNat (ordK x O k).2 k := by
      rw [get_pre (by omega), h1]
      exact beg_pre k (fun j hj => ⟨get_pre (by omega), h2 j hj⟩)
    unfold ordK
    dsimp only
    rw [hb, get_pre (by omega)]
    refine ⟨rfl, fun j hj => ?_⟩
    rw [set_getDI (by rw [ord_len, List.length_append]; omega), set_getDI (by rw [ord_len]; omega)]
    split
    · rfl
    · exact h2 j (by omega)
theorem clashK_pre {x : Cols} {O S : List Int} {c : Nat} : ∀ k, k ≤ O.length → clashK x (O ++ S) c k = clashK x O c k
  | 0, _ => rfl
  | k + 1, hk => by unfold clashK; rw [clashK_pre k (by omega), get_pre (by omega)]
theorem clashO_pre {x : Cols} {O S : List Int} : ∀ k, k ≤ O.length → clashO x (O ++ S) k = clashO x O k
  | 0, _ => rfl
  | k + 1, hk => by unfold clashO; rw [clashO_pre k (by omega), get_pre (by omega), clashK_pre k (by omega)]
theorem beg_ge {x : Cols} {O E : List Int} {c : Nat} {e0 : Int} : ∀ k, e0 ≤ begK x O E c e0 k
  | 0 => Int.le_refl _
  | k + 1 => by unfold begK; have := beg_ge (x := x) (O := O) (E := E) (c := c) (e0 := e0) k; omega
theorem ord_ge {x : Cols} {O S : List Int} : ∀ d, d ≤ S.length → (ordK x (O ++ S) O.length).2 + (S.take d).foldl (fun s y => s + x.m.getD y.toNat 0) 0 ≤ (ordK x (O ++ S) (O.length + d)).2
  | 0, _ => by simp
  | d + 1, hd => by
    have ih := ord_ge (x := x) (O := O) (S := S) d (by omega)
    rw [fold_step (show d < S.length by omega)]
    have e9 : (ordK x (O ++ S) (O.length + (d + 1))).2 = begK x (O ++ S) (ordK x (O ++ S) (O.length + d)).1 ((O ++ S).getD (O.length + d) 0).toNat (ordK x (O ++ S) (O.length + d)).2 (O.length + d) + x.m.getD ((O ++ S).getD (O.length + d) 0).toNat 0 := rfl
    rw [e9]
    have h1 := beg_ge (x := x) (O := O ++ S) (E := (ordK x (O ++ S) (O.length + d)).1) (c := ((O ++ S).getD (O.length + d) 0).toNat) (e0 := (ordK x (O ++ S) (O.length + d)).2) (O.length + d)
    have h2 : (O ++ S).getD (O.length + d) 0 = S[d] := by
      rw [List.getD_eq_getElem?_getD, List.getElem?_append_right (by omega), show O.length + d - O.length = d by omega, List.getElem?_eq_getElem (by omega)]; rfl
    rw [h2] at h1 ⊢
    omega
/-- The minutes of what is left: one colour less. -/
theorem rest_more {m : List Int} (O : List Int) (c : Nat) (hc : (c : Int) ∉ O) : ∀ k, (leftK (O ++ [(c : Int)]) k).foldl (fun s y => s + m.getD y.toNat 0) 0 + (if c < k then m.getD c 0 else 0) = (leftK O k).foldl (fun s y => s + m.getD y.toNat 0) 0
  | 0 => by simp [leftK]
  | k + 1 => by
    have ih := rest_more (m := m) O c hc k
    unfold leftK
    rw [contains_snoc]
    by_cases hk : k = c
    · subst hk
      have h1 : O.contains (k : Int) = false := by
        rw [Bool.eq_false_iff]; exact fun h => hc (List.contains_iff_mem.1 h)
      rw [h1]
      simp only [Bool.false_or, beq_self_eq_true, if_true]
      rw [if_neg (by omega)] at ih
      rw [if_pos (by omega), if_neg (by simp), List.foldl_append]
      show _ = List.foldl _ 0 (leftK O k) + m.getD ((k : Int)).toNat 0
      rw [show ((k : Int)).toNat = k by omega, ← ih]; omega
    · have h2 : ((k : Int) == (c : Int)) = false := by rw [beq_eq_false_iff_ne]; omega
      rw [h2, Bool.or_false]
      have h3 : (if c < k + 1 then m.getD c 0 else 0) = (if c < k then m.getD c 0 else 0) := by
        by_cases h : c < k
        · rw [if_pos h, if_pos (by omega)]
        · rw [if_neg h, if_neg (by omega)]
      rw [h3]
      split
      · exact ih
      · rw [List.foldl_append, List.foldl_append]
        show List.foldl _ 0 (leftK (O ++ [(c : Int)]) k) + _ + _ = List.foldl _ 0 (leftK O k) + _
        omega
theorem rest_all {x : Cols} : ∀ (S O : List Int), (leftK O x.m.length).length = S.length → (O ++ S).Nodup → (∀ y ∈ S, 0 ≤ y ∧ y < x.m.length) → S.foldl (fun s y => s + x.m.getD y.toNat 0) 0 = restI x O
  | [], O, hl, _, _ => by
    unfold restI
    rw [List.eq_nil_of_length_eq_zero hl]
  | s :: S, O, hl, hnd, hin => by
    have hs := hin s List.mem_cons_self
    obtain ⟨c, rfl⟩ : ∃ c : Nat, s = c := ⟨s.toNat, by omega⟩
    have hc : (c : Int) ∉ O := fun h => by
      rw [List.nodup_append] at hnd
      exact hnd.2.2 _ h _ List.mem_cons_self rfl
    have h1 := rest_more (m := x.m) O c hc x.m.length
    have h2 := leftK_more O c hc x.m.length
    rw [if_pos (by omega)] at h1 h2
    have e : (O ++ [(c : Int)]) ++ S = O ++ (c : Int) :: S := by simp
    have ih := rest_all S (O ++ [(c : Int)]) (by rw [List.length_cons] at hl; omega) (by rw [e]; exact hnd) (fun y hy => hin y (List.mem_cons_of_mem _ hy))
    rw [List.foldl_cons, fold_from (fun y : Int => x.m.getD y.toNat 0), ih]
    unfold restI
    rw [← h1, show ((c : Int)).toNat = c by omega]
    omega
theorem fe_zero {g : Nat → Int × Int} : ∀ n i, (fe g n i).2 = 0 → ∀ j, i ≤ j → j < i + n → (g j).2 = 0
  | 0, i, _, j, h1, h2 => by omega
  | n + 1, i, h, j, h1, h2 => by
    by_cases hg : (g i).2 = 0
    · rw [fe_go hg] at h
      rcases Nat.lt_or_ge i j with h3 | h3
      · exact fe_zero n (i + 1) h j h3 (by omega)
      · obtain rfl : j = i := by omega
        exact hg
    · rw [fe_stop hg] at h; exact absurd h hg
theorem leaf_proves {x : Cols} {bd : Int} {kind : Int} {O S : List Int} (hh : holdB x bd kind O = true) (hl : (leftK O x.m.length).length = S.length) (hnd : (O ++ S).Nodup) (hin : ∀ y ∈ S, 0 ≤ y ∧ y < x.m.length) (hm : (minsE x (O ++ S)).2 = 0) : bd ≤ (minsE x (O ++ S)).1 := by
  have hcl : clashO x (O ++ S) (O ++ S).length = false := by
    cases hc : clashO x (O ++ S) (O ++ S).length
    · rfl
    · unfold minsE at hm; rw [if_pos hc] at hm; exact absurd hm (by decide)
  have hcO : clashO x O O.length = false := by
    cases hc : clashO x O O.length
    · rfl
    · rw [← clashO_pre (S := S) O.length (Nat.le_refl _)] at hc
      rw [clashO_mono hc (O ++ S).length (by simp)] at hcl; cases hcl
  have hmO : minsE x O = ((ordK x O O.length).2, 0) := by unfold minsE; rw [if_neg (fun h => by rw [hcO] at h; cases h)]
  have hmP : minsE x (O ++ S) = ((ordK x (O ++ S) (O ++ S).length).2, 0) := by unfold minsE; rw [if_neg (fun h => by rw [hcl] at h; cases h)]
  unfold holdB at hh
  rw [hmO] at hh
  split at hh
  · cases hh
  · have h1 : bd ≤ (ordK x O O.length).2 + restI x O := by simpa using hh
    have h2 := ord_ge (x := x) (O := O) (S := S) S.length (Nat.le_refl _)
    rw [List.take_length, (ord_pre (x := x) (O := O) (S := S) O.length (Nat.le_refl _)).1, rest_all S O hl hnd hin] at h2
    rw [hmP, List.length_append]
    dsimp only
    omega
theorem leaf_hold {x : Cols} {bd : Int} {T : List Nd} {at_ : Nat} {O : List Int} (hne : ndE x bd T at_ O = 0) (hk : (T.getD at_ noNd).kind ≠ 0) : holdB x bd (T.getD at_ noNd).kind O = true := by
  unfold ndE at hne
  by_cases h1 : inB (T.getD at_ noNd).kind 0 2 = false
  · rw [if_pos h1] at hne; exact absurd hne (by decide)
  · rw [if_neg h1, if_pos hk] at hne
    cases hh : holdB x bd (T.getD at_ noNd).kind O
    · rw [hh] at hne; exact absurd hne (by decide)
    · rfl
theorem tree_proves {x : Cols} {bd : Int} {T : List Nd} : ∀ (f at_ : Nat) (O S : List Int), (leftK O x.m.length).length = f → S.length = f → (O ++ S).Nodup → (∀ y ∈ S, 0 ≤ y ∧ y < x.m.length) → (chk x bd T f at_ O).2 = 0 → (minsE x (O ++ S)).2 = 0 → bd ≤ (minsE x (O ++ S)).1 := by
  intro f
  induction f with
  | zero =>
    intro at_ O S hf hS hnd hin hc hm
    by_cases hne : ndE x bd T at_ O = 0
    · by_cases hk : (T.getD at_ noNd).kind = 0
      · exfalso
        unfold ndE at hne
        rw [hk, if_neg (by decide), if_neg (by simp), if_pos (Or.inl hf)] at hne
        exact absurd hne (by decide)
      · refine leaf_proves (kind := (T.getD at_ noNd).kind) ?_ (by omega) hnd hin hm
        exact leaf_hold hne hk
    · rw [chk_err hne] at hc; exact absurd hc hne
  | succ f ih =>
    intro at_ O S hf hS hnd hin hc hm
    by_cases hne : ndE x bd T at_ O = 0
    · by_cases hk : (T.getD at_ noNd).kind = 0
      · obtain ⟨s, S', rfl⟩ : ∃ s S', S = s :: S' := by
          cases S with
          | nil => simp at hS
          | cons s S' => exact ⟨s, S', rfl⟩
        have hs := hin s List.mem_cons_self
        obtain ⟨c, rfl⟩ : ∃ c : Nat, s = c := ⟨s.toNat, by omega⟩
        have hcO : (c : Int) ∉ O := fun h => by
          rw [List.nodup_append] at hnd
          exact hnd.2.2 _ h _ List.mem_cons_self rfl
        have hmem := leftK_mem hcO x.m.length (by omega)
        obtain ⟨i, hi, ei⟩ := List.getElem_of_mem hmem
        unfold chk at hc
        rw [if_neg (fun h => h hne), if_neg (fun h => h hk)] at hc
        have hg := fe_zero _ _ hc i (Nat.zero_le _) (by omega)
        (try dsimp only at hg)
        rw [getD_eqI hi, ei] at hg
        have h2 := leftK_more O c hcO x.m.length
        rw [if_pos (by omega)] at h2
        have e : (O ++ [(c : Int)]) ++ S' = O ++ (c : Int) :: S' := by simp
        have h3 := ih _ (O ++ [(c : Int)]) S' (by omega) (by simpa using hS) (by rw [e]; exact hnd) (fun y hy => hin y (List.mem_cons_of_mem _ hy)) hg (by rw [e]; exact hm)
        rw [e] at h3
        exact h3
      · refine leaf_proves (kind := (T.getD at_ noNd).kind) ?_ (by omega) hnd hin hm
        exact leaf_hold hne hk
    · rw [chk_err hne] at hc; exact absurd hc hne
/-- What is accepted proves. -/
theorem proves {x : Cols} {bd : Int} {T : List Nd} {O : List Int} (h1 : (cctF x bd T).2 = 0) (h2 : (omE x O).2 = 0) : bd ≤ (omE x O).1 := by
  unfold cctF at h1
  split at h1
  · rename_i h; exact absurd h1 h
  · rename_i h
    unfold omE at h2 ⊢
    rw [if_neg h] at h2 ⊢
    split at h2
    · rename_i h3; exact absurd h2 h3
    · rename_i h3
      rw [if_neg h3]
      have h3 : ordErr x.m.length O = 0 := Classical.byContradiction h3
      obtain ⟨q1, q2, q3⟩ := ord_right h3
      unfold ctR at h1
      split at h1
      · exact absurd h1 (by decide)
      · split at h1
        · exact absurd h1 (by decide)
        · exact tree_proves x.m.length 0 [] O (leftK_nil _) q1 (by simpa using q2) q3 h1 (by simpa using h2)
end Go.Proofs.Ytpplcbpnojggcaa

namespace Go.Proofs.Ytpplcbpnojggcaa
section
open Go.ChangeShapes Go.WideShapes Go.Deep Go.Joins Go.RowKit
variable {H : Type} {enc : TypeId × Value → H} {w : World}
theorem cellsProof : Try.prog.cellsOf 101 = 2 := by kernel_rfl
theorem cellsTree9 : Try.prog.cellsOf 89 = 1 := by kernel_rfl
set_option maxRecDepth 100000 in
theorem open_proof {r : Reach} {b0 : Nat} {v : Value} {d : DataW H} {p : List MemPlace} (hv : Value.okWide Try.prog w r b0 101 v) (h : DataW.Trod enc Try.prog w 0 (fun _ => true) true 101 v d p) :
    ∃ (m : Int) (a : Option Addr) (c : Nat) (L : List Nd), v = .agg #[.int .i64 m, .slice a L.length c] ∧ OkI m ∧ (L.length ≤ c ∧ c ≤ maxLen ∧ NodesAt w a L ∧ ∀ y ∈ L, (y.a = none → y.c = 0) ∧ y.nx.length ≤ y.c ∧ y.c ≤ maxLen) := by
  obtain ⟨cs, rfl, hsz⟩ := okWide_struct Try.underlying101 hv
  obtain ⟨k⟩ := cs
  match k, hsz.trans cellsProof with
  | [c0, c1], _ =>
    obtain ⟨fuel, hf⟩ := h
    obtain ⟨y0, y1, n, _, _, h0, h1⟩ := trod_struct2 Try.underlying101 (by simpa [Value.cells] using hf)
    obtain ⟨x0, rfl, w0⟩ := int_read (n := n) (c := c0) (y := y0) (by simpa [cellsInt] using h0)
    obtain ⟨a1, n1, l1, rfl, p1, p2, p3, -, p5⟩ := open_tree (n := n) (v := c1) (x := y1) (by simpa [cellsInt, cellsTree9] using h1)
    exact ⟨x0, a1, n1, l1, rfl, w0, p1, p2, p3, p5⟩
end
section
open Go.RowKit Go.Maps Go.Shelf
set_option maxRecDepth 100000 in
set_option maxHeartbeats 8000000 in
theorem proves_walk (x : Cols) (bd : Int) (a : Option Addr) (T : List Nd) (tc : Nat) (oa : Option Addr) (O : List Int) (oc : Nat) (w : World) (hx : ColsAt w x) (hin : ColsIn x) (hLL : T.length ≤ tc ∧ tc ≤ maxLen ∧ NodesAt w a T ∧ ∀ y ∈ T, (y.a = none → y.c = 0) ∧ y.nx.length ≤ y.c ∧ y.c ≤ maxLen) (hO : RowsAt 1 intL w oa O) (hoc : O.length ≤ oc) (hom : oc ≤ maxLen) (hon : oa = none → oc = 0) :
    Calls Try.prog 11 #[x.v, .agg #[.int .i64 bd, .slice a T.length tc], .slice oa O.length oc] w (AggPost (.bool true) w) := by
  obtain ⟨hlc, hcm, hT, hok⟩ := hLL
  have hl := Nat.le_trans hlc hcm
  have hol := Nat.le_trans hoc hom
  have hmm := Nat.le_trans hin.mlen hin.mcap
  have hTT := Nat.le_trans hin.tlen hin.tcap
  have hsz : ∀ r ∈ x.T, r.l.length ≤ maxLen := fun r hr => Nat.le_trans (hin.tok r hr).2.1 (hin.tok r hr).2.2.1
  have hnl : ∀ z ∈ T, z.nx.length ≤ maxLen := fun z hz => Nat.le_trans (hok z hz).2.1 (hok z hz).2.2
  have HFW := Lib.hid (fun W h => few_any x W h hmm hTT hsz)
  have HSL := Lib.hid (fun W h => slim_any T a tc W h hl hnl)
  have HCP0 := Lib.hid (fun (hf : fewP x) W h => copyColours_any x W h (Nat.le_trans hf.1 (by decide)) (Nat.le_trans hf.2.2.1 (by decide)) hin.mnil (fun r hr => Nat.le_trans (hf.2.2.2 r hr) (by decide)) (fun r hr => (hin.tok r hr).1))
  have HCT0 := Lib.hid (fun (hs : T.length ≤ 3002 ∧ ∀ z ∈ T, z.nx.length ≤ 8) W h => copyTree_any T a tc W h hs.1 (fun z hz => Nat.le_trans (hs.2 z hz) (by decide)) (fun z hz => (hok z hz).1))
  have HCI0 := Lib.hid (fun (h9 : O.length ≤ 9) W h => copyInts_any oa O O.length oc W rfl h (Nat.le_trans h9 (by decide)) hon)
  have HPT : Hid (∀ (y : Cols) (T' : List Nd) (hs : SameC x y) (ht : SameN T T') a4 c4 W, NodesAt W a4 T' → ColsAt W y → Calls Try.prog 55 #[y.v, .int .i64 bd, .slice a4 T'.length c4] W (TwoPost (cctF x bd T) W)) := Lib.hid (fun y T' hs ht a4 c4 W h h2 => by
    have h9 := checkColourTree_any y bd T' a4 c4 W h h2 (by rw [hs.m]; exact hmm) (by rw [hs.len]; exact hTT)
    have e : cctF y bd T' = cctF x bd T := by unfold cctF; rw [hs.err, ctR_same hs ht]
    rw [e] at h9; exact h9)
  have HOM0 : Hid (∀ (hf : fewP x) (y : Cols) (hs : SameC x y) a4 c4 W, ColsAt W y → RowsAt 1 intL W a4 O → O.length ≤ c4 → Calls Try.prog 45 #[y.v, .slice a4 O.length c4] W (TwoPost (omE x O) W)) := Lib.hid (fun hf y hs a4 c4 W h h2 h3 => by
    have h9 := orderMinutes_any y O a4 O.length c4 W rfl h (by rw [hs.m]; exact Nat.le_trans hf.1 (by decide)) (by rw [hs.len]; exact hTT) h2 h3 hol
    rw [hs.om O] at h9; exact h9)
  have HPR := Lib.hid (fun h1 h2 => proves (x := x) (bd := bd) (T := T) (O := O) h1 h2)
  obtain ⟨FP, hFP⟩ : ∃ FP, FP = fewP x := ⟨_, rfl⟩
  obtain ⟨SP, hSP⟩ : ∃ SP, SP = (T.length ≤ 3002 ∧ ∀ z ∈ T, z.nx.length ≤ 8) := ⟨_, rfl⟩
  have HFX := Lib.hid (show FP → fewP x from fun h => by rw [hFP] at h; exact h)
  have HSX := Lib.hid (show SP → (T.length ≤ 3002 ∧ ∀ z ∈ T, z.nx.length ≤ 8) from fun h => by rw [hSP] at h; exact h)
  rw [← hFP] at HFW
  rw [← hSP] at HSL
  have HX := Lib.hid hx; have HT := Lib.hid hT; have HO := Lib.hid hO
  have hbx := (BoxAt.new w #[.slice x.ma x.m.length x.mc, .slice x.da x.T.length x.dc] 78).alloc (.cells #[.int .i64 bd, .slice a T.length tc] 101)
  have hby := BoxAt.new (w.alloc (.cells #[.slice x.ma x.m.length x.mc, .slice x.da x.T.length x.dc] 78)) #[.int .i64 bd, .slice a T.length tc] 101
  rw [World.size_alloc] at hby
  have hbw := ((Below.refl w.heap.size w).alloc (Nat.le_refl _) (.cells #[.slice x.ma x.m.length x.mc, .slice x.da x.T.length x.dc] 78)).alloc (by simp) (.cells #[.int .i64 bd, .slice a T.length tc] 101)
  have BX0 := Lib.hid hbx; have BY0 := Lib.hid hby; have HB0 := Lib.hid hbw
  clear hFP hSP hl hmm hTT hsz hnl hx hin hT hlc hcm hok hbx hbw hby hO hoc hom hon hol
  obtain ⟨r, hr⟩ : ∃ r, r = cctF x bd T := ⟨_, rfl⟩
  obtain ⟨s, hs⟩ : ∃ s, s = omE x O := ⟨_, rfl⟩
  rw [← hr] at HPT HPR
  rw [← hs] at HOM0 HPR
  obtain ⟨r1, r2⟩ := r
  obtain ⟨s1, s2⟩ := s
  have HPR : Hid (r2 = 0 → s2 = 0 → bd ≤ s1) := HPR
  clear hr hs
  show Calls _ _ #[.agg #[.slice x.ma x.m.length x.mc, .slice x.da x.T.length x.dc], .agg #[.int .i64 bd, .slice a T.length tc], .slice oa O.length oc] _ _
  have HFW : Hid (∀ W, ColsAt W x → Calls Try.prog 44 #[.agg #[.slice x.ma x.m.length x.mc, .slice x.da x.T.length x.dc]] W (FewPost FP W)) := HFW
  have HCP0 : Hid (∀ (hf : fewP x) W, ColsAt W x → Calls Try.prog 46 #[.agg #[.slice x.ma x.m.length x.mc, .slice x.da x.T.length x.dc]] W (CCPost x W)) := HCP0
  go_enter Try.func11, Try.ntmps11
  by_cases h9 : 9 < O.length
  · have h9' : (9 : Int) < (O.length : Int) := by omega
    clear h9
    go_wp2_with (first
      | (go_at_call 17; refine (awake_any _).mono ?_; rintro e w1 ⟨rfl, hb1⟩; have HB1 := Lib.hid (HB0.out.trans (hb1.mono HB0.out.size)); have BX1 := Lib.hid (BX0.out.below hb1); have BY1 := Lib.hid (BY0.out.below hb1); have k0 : w1.cell? ⟨w.heap.size, 0, none⟩ = some (.slice x.ma x.m.length x.mc) := BX1.out.cell 0; have k1 : w1.cell? ⟨w.heap.size, 1, none⟩ = some (.slice x.da x.T.length x.dc) := BX1.out.cell 1; have k2 : w1.cell? ⟨w.heap.size + 1, 0, none⟩ = some (.int .i64 bd) := BY1.out.cell 0; have k3 : w1.cell? ⟨w.heap.size + 1, 1, none⟩ = some (.slice a T.length tc) := BY1.out.cell 1; clear hb1)
      | (go_at_call 44; refine (HFW.out _ (HX.out.below HB1.out)).mono ?_; rintro e w2 ⟨⟨bb, rfl, hbb⟩, hb2⟩; have HB2 := Lib.hid (HB1.out.trans (hb2.mono HB1.out.size)); have BX2 := Lib.hid (BX1.out.below hb2); have BY2 := Lib.hid (BY1.out.below hb2); have k0 : w2.cell? ⟨w.heap.size, 0, none⟩ = some (.slice x.ma x.m.length x.mc) := BX2.out.cell 0; have k1 : w2.cell? ⟨w.heap.size, 1, none⟩ = some (.slice x.da x.T.length x.dc) := BX2.out.cell 1; have k2 : w2.cell? ⟨w.heap.size + 1, 0, none⟩ = some (.int .i64 bd) := BY2.out.cell 0; have k3 : w2.cell? ⟨w.heap.size + 1, 1, none⟩ = some (.slice a T.length tc) := BY2.out.cell 1; clear hb2; cases bb)
      | (go_at_call 58; refine (HSL.out _ (HT.out.below HB2.out)).mono ?_; rintro e w3 ⟨⟨b3, rfl, hb3⟩, rfl⟩; cases b3))
    all_goals go_ret
    all_goals exact ⟨rfl, HB2.out⟩
  have h9' : ¬ (9 : Int) < (O.length : Int) := by omega
  have h9x := decide_eq_false h9'
  have HCI := Lib.hid (fun W h => HCI0.out (by omega) W h)
  clear h9 HCI0
  go_wp2_with (first
    | (go_at_call 17; refine (awake_any _).mono ?_; rintro e w1 ⟨rfl, hb1⟩; have HB1 := Lib.hid (HB0.out.trans (hb1.mono HB0.out.size)); have BX1 := Lib.hid (BX0.out.below hb1); have BY1 := Lib.hid (BY0.out.below hb1); have k0 : w1.cell? ⟨w.heap.size, 0, none⟩ = some (.slice x.ma x.m.length x.mc) := BX1.out.cell 0; have k1 : w1.cell? ⟨w.heap.size, 1, none⟩ = some (.slice x.da x.T.length x.dc) := BX1.out.cell 1; have k2 : w1.cell? ⟨w.heap.size + 1, 0, none⟩ = some (.int .i64 bd) := BY1.out.cell 0; have k3 : w1.cell? ⟨w.heap.size + 1, 1, none⟩ = some (.slice a T.length tc) := BY1.out.cell 1; clear hb1)
    | (go_at_call 44; refine (HFW.out _ (HX.out.below HB1.out)).mono ?_; rintro e w2 ⟨⟨bb, rfl, hbb⟩, hb2⟩; have HB2 := Lib.hid (HB1.out.trans (hb2.mono HB1.out.size)); have BX2 := Lib.hid (BX1.out.below hb2); have BY2 := Lib.hid (BY1.out.below hb2); have k0 : w2.cell? ⟨w.heap.size, 0, none⟩ = some (.slice x.ma x.m.length x.mc) := BX2.out.cell 0; have k1 : w2.cell? ⟨w.heap.size, 1, none⟩ = some (.slice x.da x.T.length x.dc) := BX2.out.cell 1; have k2 : w2.cell? ⟨w.heap.size + 1, 0, none⟩ = some (.int .i64 bd) := BY2.out.cell 0; have k3 : w2.cell? ⟨w.heap.size + 1, 1, none⟩ = some (.slice a T.length tc) := BY2.out.cell 1; clear hb2; cases bb)
    | (go_at_call 58; refine (HSL.out _ (HT.out.below HB2.out)).mono ?_; rintro e w3 ⟨⟨b3, rfl, hb3⟩, rfl⟩; cases b3))
  · go_ret
    exact ⟨rfl, HB2.out⟩
  · go_ret
    exact ⟨rfl, HB2.out⟩
  have HF9 := Lib.hid (HFX.out (by first | exact hbb | exact hbb rfl | simpa using hbb))
  have HS9 := Lib.hid (HSX.out (by first | exact hb3 | exact hb3 rfl | simpa using hb3))
  clear hbb hb3
  have HCP := Lib.hid (fun W h => HCP0.out HF9.out W h)
  have HCT := Lib.hid (fun W h => HCT0.out HS9.out W h)
  have HOM := Lib.hid (fun y hs a4 c4 W h h2 h3 => HOM0.out HF9.out y hs a4 c4 W h h2 h3)
  clear HCP0 HCT0 HOM0 HFX HSX HFW HSL
  have HB3 := Lib.hid HB2.out.drew; have BX3 := Lib.hid BX2.out.drew; have BY3 := Lib.hid BY2.out.drew
  go_region_held3 (fun w' => w'.cell? ⟨w.heap.size, 0, none⟩ = some (.slice x.ma x.m.length x.mc) ∧ w'.cell? ⟨w.heap.size, 1, none⟩ = some (.slice x.da x.T.length x.dc) ∧ w'.cell? ⟨w.heap.size + 1, 0, none⟩ = some (.int .i64 bd) ∧ w'.cell? ⟨w.heap.size + 1, 1, none⟩ = some (.slice a T.length tc)) (first | exact ⟨k0, k1, k2, k3⟩ | go_keep)
    (first
      | (go_at_call 46; refine (HCP.out _ (HX.out.below HB3.out)).mono ?_; rintro e w4 ⟨y, rfl, hs4, hc4, hb4⟩; have HS4 := Lib.hid hs4; have HC4 := Lib.hid hc4; have HB4 := Lib.hid (HB3.out.trans (hb4.mono HB3.out.size)); have BX4 := Lib.hid (BX3.out.below hb4); have BY4 := Lib.hid (BY3.out.below hb4); have k0 : w4.cell? ⟨w.heap.size, 0, none⟩ = some (.slice x.ma x.m.length x.mc) := BX4.out.cell 0; have k1 : w4.cell? ⟨w.heap.size, 1, none⟩ = some (.slice x.da x.T.length x.dc) := BX4.out.cell 1; have k2 : w4.cell? ⟨w.heap.size + 1, 0, none⟩ = some (.int .i64 bd) := BY4.out.cell 0; have k3 : w4.cell? ⟨w.heap.size + 1, 1, none⟩ = some (.slice a T.length tc) := BY4.out.cell 1; clear hb4 hs4 hc4)
      | (go_at_call 56; refine (HCT.out _ (HT.out.below HB4.out)).mono ?_; rintro e w5 ⟨a5, c5, T', rfl, hs5, hn5, hb5⟩; have HN5 := Lib.hid hn5; have HST := Lib.hid hs5; have HC5 := Lib.hid (HC4.out.below hb5); have HB5 := Lib.hid (HB4.out.trans (hb5.mono HB4.out.size)); have BX5 := Lib.hid (BX4.out.below hb5); have BY5 := Lib.hid (BY4.out.below hb5); have k0 : w5.cell? ⟨w.heap.size, 0, none⟩ = some (.slice x.ma x.m.length x.mc) := BX5.out.cell 0; have k1 : w5.cell? ⟨w.heap.size, 1, none⟩ = some (.slice x.da x.T.length x.dc) := BX5.out.cell 1; have k2 : w5.cell? ⟨w.heap.size + 1, 0, none⟩ = some (.int .i64 bd) := BY5.out.cell 0; have k3 : w5.cell? ⟨w.heap.size + 1, 1, none⟩ = some (.slice a T.length tc) := BY5.out.cell 1; clear hb5 hs5 hn5)
      | (go_at_call 55; refine (HPT.out y T' HS4.out HST.out a5 c5 _ HN5.out HC5.out).mono ?_; rintro e w6 ⟨rfl, hb6⟩; have HB6 := Lib.hid (HB5.out.trans (hb6.mono HB5.out.size)); have BX6 := Lib.hid (BX5.out.below hb6); have BY6 := Lib.hid (BY5.out.below hb6); have k0 : w6.cell? ⟨w.heap.size, 0, none⟩ = some (.slice x.ma x.m.length x.mc) := BX6.out.cell 0; have k1 : w6.cell? ⟨w.heap.size, 1, none⟩ = some (.slice x.da x.T.length x.dc) := BX6.out.cell 1; have k2 : w6.cell? ⟨w.heap.size + 1, 0, none⟩ = some (.int .i64 bd) := BY6.out.cell 0; have k3 : w6.cell? ⟨w.heap.size + 1, 1, none⟩ = some (.slice a T.length tc) := BY6.out.cell 1; clear hb6))
  by_cases h1 : r2 = 0
  · by_cases h2 : s2 = 0
    · have h3 := HPR.out h1 h2
      have h3' := decide_eq_true h3
      subst h1; subst h2
      go_wp2_with (first
        | (go_at_call 46; refine (HCP.out _ (HX.out.below HB6.out)).mono ?_; rintro e w7 ⟨z, rfl, hs7, hc7, hb7⟩; have HS7 := Lib.hid hs7; have HC7 := Lib.hid hc7; have HB7 := Lib.hid (HB6.out.trans (hb7.mono HB6.out.size)); have BX7 := Lib.hid (BX6.out.below hb7); have BY7 := Lib.hid (BY6.out.below hb7); have k0 : w7.cell? ⟨w.heap.size, 0, none⟩ = some (.slice x.ma x.m.length x.mc) := BX7.out.cell 0; have k1 : w7.cell? ⟨w.heap.size, 1, none⟩ = some (.slice x.da x.T.length x.dc) := BX7.out.cell 1; have k2 : w7.cell? ⟨w.heap.size + 1, 0, none⟩ = some (.int .i64 bd) := BY7.out.cell 0; have k3 : w7.cell? ⟨w.heap.size + 1, 1, none⟩ = some (.slice a T.length tc) := BY7.out.cell 1; clear hb7 hs7 hc7)
        | (go_at_call 47; refine (HCI.out _ (HO.out.below HB7.out)).mono ?_; rintro e w8 ⟨v8, rfl, hO8, hb8⟩; obtain ⟨a8, c8, e8, hr8, hc8, -⟩ := hO8.rows int_l; subst e8; have HC8 := Lib.hid (HC7.out.below hb8); have HR8 := Lib.hid hr8; have HB8 := Lib.hid (HB7.out.trans (hb8.mono HB7.out.size)); have BX8 := Lib.hid (BX7.out.below hb8); have BY8 := Lib.hid (BY7.out.below hb8); have k0 : w8.cell? ⟨w.heap.size, 0, none⟩ = some (.slice x.ma x.m.length x.mc) := BX8.out.cell 0; have k1 : w8.cell? ⟨w.heap.size, 1, none⟩ = some (.slice x.da x.T.length x.dc) := BX8.out.cell 1; have k2 : w8.cell? ⟨w.heap.size + 1, 0, none⟩ = some (.int .i64 bd) := BY8.out.cell 0; have k3 : w8.cell? ⟨w.heap.size + 1, 1, none⟩ = some (.slice a T.length tc) := BY8.out.cell 1; clear hb8 hO8 hr8)
        | (go_at_call 45; refine (HOM.out z HS7.out a8 c8 _ HC8.out HR8.out hc8).mono ?_; rintro e w9 ⟨rfl, hb9⟩; have HB9 := Lib.hid (HB8.out.trans (hb9.mono HB8.out.size)); have BX9 := Lib.hid (BX8.out.below hb9); have BY9 := Lib.hid (BY8.out.below hb9); have k0 : w9.cell? ⟨w.heap.size, 0, none⟩ = some (.slice x.ma x.m.length x.mc) := BX9.out.cell 0; have k1 : w9.cell? ⟨w.heap.size, 1, none⟩ = some (.slice x.da x.T.length x.dc) := BX9.out.cell 1; have k2 : w9.cell? ⟨w.heap.size + 1, 0, none⟩ = some (.int .i64 bd) := BY9.out.cell 0; have k3 : w9.cell? ⟨w.heap.size + 1, 1, none⟩ = some (.slice a T.length tc) := BY9.out.cell 1; clear hb9))
      go_ret
      exact ⟨rfl, HB9.out⟩
    · have h2' : (s2 != 0) = true := by simpa using h2
      subst h1
      clear h2
      go_wp2_with (first
        | (go_at_call 46; refine (HCP.out _ (HX.out.below HB6.out)).mono ?_; rintro e w7 ⟨z, rfl, hs7, hc7, hb7⟩; have HS7 := Lib.hid hs7; have HC7 := Lib.hid hc7; have HB7 := Lib.hid (HB6.out.trans (hb7.mono HB6.out.size)); have BX7 := Lib.hid (BX6.out.below hb7); have BY7 := Lib.hid (BY6.out.below hb7); have k0 : w7.cell? ⟨w.heap.size, 0, none⟩ = some (.slice x.ma x.m.length x.mc) := BX7.out.cell 0; have k1 : w7.cell? ⟨w.heap.size, 1, none⟩ = some (.slice x.da x.T.length x.dc) := BX7.out.cell 1; have k2 : w7.cell? ⟨w.heap.size + 1, 0, none⟩ = some (.int .i64 bd) := BY7.out.cell 0; have k3 : w7.cell? ⟨w.heap.size + 1, 1, none⟩ = some (.slice a T.length tc) := BY7.out.cell 1; clear hb7 hs7 hc7)
        | (go_at_call 47; refine (HCI.out _ (HO.out.below HB7.out)).mono ?_; rintro e w8 ⟨v8, rfl, hO8, hb8⟩; obtain ⟨a8, c8, e8, hr8, hc8, -⟩ := hO8.rows int_l; subst e8; have HC8 := Lib.hid (HC7.out.below hb8); have HR8 := Lib.hid hr8; have HB8 := Lib.hid (HB7.out.trans (hb8.mono HB7.out.size)); have BX8 := Lib.hid (BX7.out.below hb8); have BY8 := Lib.hid (BY7.out.below hb8); have k0 : w8.cell? ⟨w.heap.size, 0, none⟩ = some (.slice x.ma x.m.length x.mc) := BX8.out.cell 0; have k1 : w8.cell? ⟨w.heap.size, 1, none⟩ = some (.slice x.da x.T.length x.dc) := BX8.out.cell 1; have k2 : w8.cell? ⟨w.heap.size + 1, 0, none⟩ = some (.int .i64 bd) := BY8.out.cell 0; have k3 : w8.cell? ⟨w.heap.size + 1, 1, none⟩ = some (.slice a T.length tc) := BY8.out.cell 1; clear hb8 hO8 hr8)
        | (go_at_call 45; refine (HOM.out z HS7.out a8 c8 _ HC8.out HR8.out hc8).mono ?_; rintro e w9 ⟨rfl, hb9⟩; have HB9 := Lib.hid (HB8.out.trans (hb9.mono HB8.out.size)); have BX9 := Lib.hid (BX8.out.below hb9); have BY9 := Lib.hid (BY8.out.below hb9); have k0 : w9.cell? ⟨w.heap.size, 0, none⟩ = some (.slice x.ma x.m.length x.mc) := BX9.out.cell 0; have k1 : w9.cell? ⟨w.heap.size, 1, none⟩ = some (.slice x.da x.T.length x.dc) := BX9.out.cell 1; have k2 : w9.cell? ⟨w.heap.size + 1, 0, none⟩ = some (.int .i64 bd) := BY9.out.cell 0; have k3 : w9.cell? ⟨w.heap.size + 1, 1, none⟩ = some (.slice a T.length tc) := BY9.out.cell 1; clear hb9))
      go_ret
      exact ⟨rfl, HB9.out⟩
  · have h1' : (r2 != 0) = true := by simpa using h1
    clear h1
    go_wp2_with (first
      | (go_at_call 46; refine (HCP.out _ (HX.out.below HB6.out)).mono ?_; rintro e w7 ⟨z, rfl, hs7, hc7, hb7⟩; have HS7 := Lib.hid hs7; have HC7 := Lib.hid hc7; have HB7 := Lib.hid (HB6.out.trans (hb7.mono HB6.out.size)); have BX7 := Lib.hid (BX6.out.below hb7); have BY7 := Lib.hid (BY6.out.below hb7); have k0 : w7.cell? ⟨w.heap.size, 0, none⟩ = some (.slice x.ma x.m.length x.mc) := BX7.out.cell 0; have k1 : w7.cell? ⟨w.heap.size, 1, none⟩ = some (.slice x.da x.T.length x.dc) := BX7.out.cell 1; have k2 : w7.cell? ⟨w.heap.size + 1, 0, none⟩ = some (.int .i64 bd) := BY7.out.cell 0; have k3 : w7.cell? ⟨w.heap.size + 1, 1, none⟩ = some (.slice a T.length tc) := BY7.out.cell 1; clear hb7 hs7 hc7)
      | (go_at_call 47; refine (HCI.out _ (HO.out.below HB7.out)).mono ?_; rintro e w8 ⟨v8, rfl, hO8, hb8⟩; obtain ⟨a8, c8, e8, hr8, hc8, -⟩ := hO8.rows int_l; subst e8; have HC8 := Lib.hid (HC7.out.below hb8); have HR8 := Lib.hid hr8; have HB8 := Lib.hid (HB7.out.trans (hb8.mono HB7.out.size)); have BX8 := Lib.hid (BX7.out.below hb8); have BY8 := Lib.hid (BY7.out.below hb8); have k0 : w8.cell? ⟨w.heap.size, 0, none⟩ = some (.slice x.ma x.m.length x.mc) := BX8.out.cell 0; have k1 : w8.cell? ⟨w.heap.size, 1, none⟩ = some (.slice x.da x.T.length x.dc) := BX8.out.cell 1; have k2 : w8.cell? ⟨w.heap.size + 1, 0, none⟩ = some (.int .i64 bd) := BY8.out.cell 0; have k3 : w8.cell? ⟨w.heap.size + 1, 1, none⟩ = some (.slice a T.length tc) := BY8.out.cell 1; clear hb8 hO8 hr8)
      | (go_at_call 45; refine (HOM.out z HS7.out a8 c8 _ HC8.out HR8.out hc8).mono ?_; rintro e w9 ⟨rfl, hb9⟩; have HB9 := Lib.hid (HB8.out.trans (hb9.mono HB8.out.size)); have BX9 := Lib.hid (BX8.out.below hb9); have BY9 := Lib.hid (BY8.out.below hb9); have k0 : w9.cell? ⟨w.heap.size, 0, none⟩ = some (.slice x.ma x.m.length x.mc) := BX9.out.cell 0; have k1 : w9.cell? ⟨w.heap.size, 1, none⟩ = some (.slice x.da x.T.length x.dc) := BX9.out.cell 1; have k2 : w9.cell? ⟨w.heap.size + 1, 0, none⟩ = some (.int .i64 bd) := BY9.out.cell 0; have k3 : w9.cell? ⟨w.heap.size + 1, 1, none⟩ = some (.slice a T.length tc) := BY9.out.cell 1; clear hb9))
    go_ret
    exact ⟨rfl, HB9.out⟩
end
end Go.Proofs.Ytpplcbpnojggcaa
