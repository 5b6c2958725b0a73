/-
  Folds as words: how they are written and read. No program is walked here.
-/
import Derived.Test.YtgoandhlcekmiaaGreatDoorKR
import Derived.Test.YtgoandhlcekmiaaGreatDoorKC
import Derived.Lib.Join
import Derived.Test.YtgoandhlcekmiaaGreatDoorShelf
import Derived.Lib.AppendIntMem
import Derived.Lib.ItoaLen
import Derived.Lib.AtoiAllCases
import Derived.Deep.CutRange
import Derived.Laws.IdiomStrings
namespace Go.Proofs.YtgoandhlcekmiaaGreatDoor

def letM (k : Int) : UInt8 := if k = 1 then 76 else if k = 2 then 82 else if k = 3 then 85 else if k = 4 then 68 else if k = 5 then 79 else if k = 6 then 84 else 63
def wordM (f : Fold) : List UInt8 := letM f.k :: if f.k = 5 ∨ f.k = 6 then [] else Lib.itoa f.c
def fmtM (L : List Fold) : List UInt8 := Lib.join (L.map wordM) [32]
def kindM (c : UInt8) : Int := if c = 76 then 1 else if c = 82 then 2 else if c = 85 then 3 else if c = 68 then 4 else if c = 79 then 5 else if c = 84 then 6 else 0
def readM : List UInt8 → Option Fold
  | [] => none
  | c :: r => if kindM c = 5 ∨ kindM c = 6 then (if r = [] then some ⟨kindM c, 0⟩ else none) else match numI r 2 with
    | some v => if 0 < kindM c ∧ 0 ≤ v then some ⟨kindM c, v⟩ else none
    | none => none
def allM : List (List UInt8) → Option (List Fold)
  | [] => some []
  | t :: r => match readM t with
    | none => none
    | some f => (allM r).map (f :: ·)
def parseM (t : List UInt8) : List Fold × Int := if t = [] then ([], 0) else if 12 < (splitOn 32 t).length then ([], 8) else match allM (splitOn 32 t) with
  | some l => (l, 0)
  | none => ([], 7)
theorem parseM_empty : parseM [] = ([], 0) := rfl
theorem parseM_large {t : List UInt8} (h0 : t ≠ []) (h : 12 < (splitOn 32 t).length) : parseM t = ([], 8) := by unfold parseM; rw [if_neg h0, if_pos h]
theorem parseM_none {t : List UInt8} (h0 : t ≠ []) (h : ¬ 12 < (splitOn 32 t).length) (ha : allM (splitOn 32 t) = none) : parseM t = ([], 7) := by unfold parseM; rw [if_neg h0, if_neg h, ha]
theorem parseM_some {t : List UInt8} {l : List Fold} (h0 : t ≠ []) (h : ¬ 12 < (splitOn 32 t).length) (ha : allM (splitOn 32 t) = some l) : parseM t = (l, 0) := by unfold parseM; rw [if_neg h0, if_neg h, ha]
theorem allM_stop {L : List (List UInt8)} {k : Nat} (hk : k < L.length) (h : readM L[k] = none) : allM (L.drop k) = none := by
  rw [List.drop_eq_getElem_cons hk]; unfold allM; rw [h]
theorem allM_go {L : List (List UInt8)} {k : Nat} {f : Fold} {D : List Fold} (hk : k < L.length) (h : readM L[k] = some f) : (allM (L.drop k)).map (D ++ ·) = (allM (L.drop (k + 1))).map ((D ++ [f]) ++ ·) := by
  have e : allM (L.drop k) = (allM (L.drop (k + 1))).map (f :: ·) := by
    rw [List.drop_eq_getElem_cons hk]
    show (match readM L[k] with | none => none | some f => (allM (L.drop (k + 1))).map (f :: ·)) = _
    rw [h]
  rw [e, Option.map_map]
  cases allM (L.drop (k + 1)) with
  | none => rfl
  | some l => simp
theorem allM_end {L : List (List UInt8)} {k : Nat} {D : List Fold} (hk : L.length ≤ k) (h : allM L = (allM (L.drop k)).map (D ++ ·)) : allM L = some D := by
  rw [h, List.drop_of_length_le hk]; simp [allM]
/-- A fold that a word tells. -/
def FoldR (f : Fold) : Prop := (1 ≤ f.k ∧ f.k ≤ 6) ∧ (0 ≤ f.c ∧ f.c ≤ 9) ∧ (5 ≤ f.k → f.c = 0)
theorem kind_let : ∀ n, n < 7 → 0 < n → kindM (letM (n : Nat)) = n := by decide
theorem read_word {f : Fold} (h : FoldR f) : readM (wordM f) = some f := by
  obtain ⟨⟨h1, h2⟩, ⟨h3, h4⟩, h5⟩ := h
  obtain ⟨k, c⟩ := f
  obtain ⟨n, rfl⟩ : ∃ n : Nat, k = n := ⟨k.toNat, by simp only at h1 h2; omega⟩
  simp only at h1 h2 h3 h4 h5
  have hk := kind_let n (by omega) (by omega)
  unfold wordM readM
  show (if kindM (letM n) = 5 ∨ kindM (letM n) = 6 then _ else _) = _
  rw [hk]
  by_cases hn : (n : Int) = 5 ∨ (n : Int) = 6
  · rw [if_pos hn, if_pos hn, if_pos rfl, h5 (by omega)]
  · rw [if_neg hn, if_neg hn]
    have hlen : (trimM (Lib.itoa c)).length ≤ 2 := itoa_len (k := 1) (by omega)
    rw [numI_itoa hlen]
    show (if 0 < (n : Int) ∧ 0 ≤ c then _ else _) = _
    rw [if_pos ⟨by omega, h3⟩]
theorem itoa_clean (v : Int) : ∀ b ∈ Lib.itoa v, b ≠ 32 := by
  intro b hb
  have hd : ∀ b ∈ Lib.decDigits v.natAbs, b ≠ 32 := fun b hb e => by
    obtain ⟨d, h⟩ := dg_digit b hb
    have := (dig_inv h).2.2
    rw [e] at this
    have : (32 : Nat) = 48 + d := this
    omega
  have ht := (trim_itoa v).1
  unfold trimM at ht
  split at ht
  · rename_i h45
    cases hi : Lib.itoa v with
    | nil => rw [hi] at hb; exact absurd hb List.not_mem_nil
    | cons a r =>
      rw [hi] at hb ht h45
      rcases List.mem_cons.1 hb with rfl | hb
      · intro e; rw [e] at h45; exact absurd (show (32 : UInt8) = 45 from h45) (by decide)
      · exact hd b (by rw [← ht]; exact hb)
  · exact hd b (by rw [← ht]; exact hb)
theorem let_clean (k : Int) : letM k ≠ 32 := by
  unfold letM
  split <;> first | decide | skip
  split <;> first | decide | skip
  split <;> first | decide | skip
  split <;> first | decide | skip
  split <;> first | decide | skip
  split <;> decide
theorem word_clean (f : Fold) : ∀ b ∈ wordM f, b ≠ 32 := by
  intro b hb
  rcases List.mem_cons.1 hb with rfl | hb
  · exact let_clean _
  · split at hb
    · exact absurd hb List.not_mem_nil
    · exact itoa_clean _ b hb
theorem split_clean {m : UInt8} : ∀ {x : List UInt8}, (∀ b ∈ x, b ≠ m) → splitOn m x = [x]
  | [], _ => rfl
  | c :: r, h => by
    unfold splitOn
    rw [if_neg (h c List.mem_cons_self), split_clean fun b hb => h b (List.mem_cons_of_mem _ hb)]
theorem split_app {m : UInt8} {y : List UInt8} : ∀ {x : List UInt8}, (∀ b ∈ x, b ≠ m) → splitOn m (x ++ m :: y) = x :: splitOn m y
  | [], _ => by
    show splitOn m (m :: y) = _
    rw [splitOn, if_pos rfl]
  | c :: r, h => by
    show splitOn m (c :: (r ++ m :: y)) = _
    rw [splitOn, if_neg (h c List.mem_cons_self), split_app fun b hb => h b (List.mem_cons_of_mem _ hb)]
theorem join_one (x : List UInt8) (s : List UInt8) : Lib.join [x] s = x := by simp [Lib.join, List.intercalate, List.intersperse]
theorem join_cons (x y : List UInt8) (r : List (List UInt8)) (s : List UInt8) : Lib.join (x :: y :: r) s = x ++ s ++ Lib.join (y :: r) s := by simp [Lib.join, List.intercalate, List.intersperse]
theorem split_join {m : UInt8} : ∀ {L : List (List UInt8)}, L ≠ [] → (∀ x ∈ L, ∀ b ∈ x, b ≠ m) → splitOn m (Lib.join L [m]) = L
  | [], h, _ => absurd rfl h
  | [x], _, h => by rw [join_one]; exact split_clean (h x List.mem_cons_self)
  | x :: y :: r, _, h => by
    rw [join_cons, List.append_assoc, List.singleton_append, split_app (h x List.mem_cons_self), split_join (by simp) fun z hz => h z (List.mem_cons_of_mem _ hz)]
theorem fmt_empty {L : List Fold} (h : L ≠ []) : fmtM L ≠ [] := by
  unfold fmtM
  match L with
  | [] => exact absurd rfl h
  | [f] =>
    rw [List.map_cons, List.map_nil, join_one]; unfold wordM; simp
  | f :: g :: r =>
    rw [List.map_cons, List.map_cons, join_cons]; unfold wordM; simp
theorem allM_words : ∀ {L : List Fold}, (∀ f ∈ L, FoldR f) → allM (L.map wordM) = some L
  | [], _ => rfl
  | f :: r, h => by
    show (match readM (wordM f) with | none => none | some g => (allM (r.map wordM)).map (g :: ·)) = _
    rw [read_word (h f List.mem_cons_self), allM_words fun g hg => h g (List.mem_cons_of_mem _ hg)]
    rfl
/-- What is written of right folds is read back. -/
theorem parse_fmt {L : List Fold} (h : ∀ f ∈ L, FoldR f) (hl : L.length ≤ 12) : parseM (fmtM L) = (L, 0) := by
  by_cases h0 : L = []
  · subst h0; rfl
  · have hs : splitOn 32 (fmtM L) = L.map wordM := split_join (by simpa using h0) fun x hx => by
      obtain ⟨f, -, rfl⟩ := List.mem_map.1 hx
      exact word_clean f
    exact parseM_some (fmt_empty h0) (by rw [hs, List.length_map]; omega) (by rw [hs]; exact allM_words h)
theorem folds_right : ∀ {L : List Fold} {C R i : Int}, (1 ≤ C ∧ C ≤ 8) → (1 ≤ R ∧ R ≤ 8) → (foldsErr C R L i).2 = 0 → ∀ f ∈ L, FoldR f
  | [], _, _, _, _, _, _ => fun f hf => absurd hf List.not_mem_nil
  | g :: r, C, R, i, hC, hR, h => by
    by_cases he : foldErr C R g = 0
    · have h : (foldsErr (afterC C g) (afterR R g) r (i + 1)).2 = 0 := by
        have e : foldsErr C R (g :: r) i = foldsErr (afterC C g) (afterR R g) r (i + 1) := by
          show (if _ then _ else _) = _
          rw [if_neg (by simp [he])]
        rw [← e]; exact h
      obtain ⟨a1, a2⟩ := after_ok hC hR he
      obtain ⟨b1, b2, b3, b4, -, -⟩ := fold_ok hC hR he
      intro f hf
      rcases List.mem_cons.1 hf with rfl | hf
      · exact ⟨b1, ⟨b2.1, by omega⟩, b4⟩
      · exact folds_right (by omega) (by omega) h f hf
    · have e : foldsErr C R (g :: r) i = (i, foldErr C R g) := by
        show (if _ then _ else _) = _
        rw [if_pos he]
      rw [e] at h
      exact absurd h he
theorem right_back {C R : Int} {L : List Fold} (h : (checkFo C R L).2 = 0) : parseM (fmtM L) = (L, 0) := by
  obtain ⟨h1, h2, h3⟩ := checkFo_ok h
  obtain ⟨a, b, -⟩ := side_ok h1
  exact parse_fmt (folds_right a b h3) h2
theorem allM_len : ∀ {X : List (List UInt8)} {L : List Fold}, allM X = some L → L.length = X.length
  | [], L, h => by cases h; rfl
  | t :: r, L, h => by
    have h : (match readM t with | none => none | some f => (allM r).map (f :: ·)) = some L := h
    cases hr : readM t with
    | none => rw [hr] at h; cases h
    | some f =>
      rw [hr] at h
      obtain ⟨M, hM, rfl⟩ := Option.map_eq_some_iff.1 h
      rw [List.length_cons, allM_len hM]; try rfl
theorem parseM_len (t : List UInt8) : (parseM t).1.length ≤ 12 := by
  unfold parseM
  split
  · exact Nat.zero_le _
  · split
    · exact Nat.zero_le _
    · split
      · rename_i h12 _ l hl
        show l.length ≤ 12
        rw [allM_len hl]; omega
      · exact Nat.zero_le _
end Go.Proofs.YtgoandhlcekmiaaGreatDoor

namespace Go.Proofs.YtgoandhlcekmiaaGreatDoor
open Go.RowKit

structure WF (w : World) : Prop where
  lt : 1 < w.heap.size
  tab : Lib.TabIs Tryz.prog w "internal/strconv.uint64pow10" .u64 Lib.pow10Tab
  m : ∃ m, w.cell? ⟨0, 0, none⟩ = some (.int .i64 m)
  err : ∃ ev, w.cell? ⟨4, 0, none⟩ = some ev ∧ (ev = .nilIface ∨ ∃ te pe, ev = .iface te pe)
theorem gPow : Tryz.prog.globalNamed "internal/strconv.uint64pow10" = some 1 := by kernel_rfl
theorem cell_ltF {w : World} {p : Addr} {v : Value} (h : w.cell? p = some v) : p.block < w.heap.size := by
  rcases Nat.lt_or_ge p.block w.heap.size with h1 | h1
  · exact h1
  · unfold World.cell? at h
    rw [Array.getElem?_eq_none h1] at h
    cases h
theorem WF.below {w w' : World} (h : WF w) (hb : Below w.heap.size w w') : WF w' := by
  refine ⟨Nat.lt_of_lt_of_le h.lt hb.size, var?_below hb gPow h.lt h.tab, ?_, ?_⟩
  · obtain ⟨m, hm⟩ := h.m
    exact ⟨m, ((bcell hb).1 _ _ (cell_ltF hm)).trans hm⟩
  · obtain ⟨ev, he, h2⟩ := h.err
    exact ⟨ev, ((bcell hb).1 _ _ (cell_ltF he)).trans he, h2⟩
theorem WF.alloc {w : World} (h : WF w) (o : Obj) : WF (w.alloc o) := h.below ((Below.refl _ _).alloc (Nat.le_refl _) o)

theorem OkI.of {n : Int} (h : -9223372036854775808 ≤ n ∧ n ≤ 9223372036854775807) : OkI n := by
  have h1 : IntKind.i64.min = -9223372036854775808 := by decide
  have h2 : IntKind.i64.max = 9223372036854775807 := by decide
  exact (Lit.wf_int_iff .i64 n).2 (by omega)
theorem itoaB_any (n : Int) (h : OkI n) (w : World) (hP : WF w) :
    Calls Tryz.prog 61 #[.int .i64 n] w fun e w' => e = .returned (.string (bs (Lib.itoa n))) ∧ Below w.heap.size w w' := by
  obtain ⟨h1, h2⟩ := h.le
  refine (Tryz.strconv_Itoa n h2 h1 w hP.tab).mono ?_
  rintro e w' ⟨rfl, k, os, rfl⟩
  exact ⟨rfl, Lib.below_grow _ w (Nat.le_refl _) k os⟩
theorem bs_len {l : List UInt8} {n : Nat} (h : l.length ≤ n) : (bs l).size ≤ n := by rw [bs_size]; exact h
theorem itoa_len21 {n : Int} (h : OkI n) : (Lib.itoa n).length ≤ 21 := by
  obtain ⟨h1, h2⟩ := h.le
  exact Lib.itoa_length_le n h2 h1
theorem bs_beq (l : List UInt8) (s : ByteArray) : ((bs l).toList == s.toList) = decide (l = s.data.toList) := by
  rw [Lib.toList_data, Lib.toList_data, bs_data, Bool.eq_iff_iff, beq_iff_eq, decide_eq_true_iff]
theorem trim_lib (t : List UInt8) : Lib.trimPrefix t [45] = trimM t := by
  unfold Lib.trimPrefix trimM
  cases t with
  | nil => rfl
  | cons c r =>
    show (if Lib.hasPrefix (c :: r) [45] = true then r else c :: r) = if c = 45 then r else c :: r
    by_cases h : c = 45
    · subst h; rfl
    · rw [if_neg h, if_neg]
      intro e
      unfold Lib.hasPrefix at e
      simp [List.isPrefixOf] at e
      exact h e.symm
theorem trim_len (t : List UInt8) : t.length ≤ (trimM t).length + 1 := by
  unfold trimM; split
  · cases t <;> simp
  · omega

/-- What is read of a number. -/
def NumPostW (w : World) (o : Option Int) (e : Ending) (w' : World) : Prop := ∃ x : Int, e = .returned (.tuple #[.int .i64 x, .bool o.isSome]) ∧ (∀ v, o = some v → x = v) ∧ Below w.heap.size w w'
set_option maxRecDepth 100000 in
set_option maxHeartbeats 4000000 in
theorem numberOf_any (s : ByteArray) (d : Nat) (w : World) (hd : d ≤ 17) (hs : s.size ≤ 1000000) (hP : WF w) :
    Calls Tryz.prog 69 #[.string s, .int .i64 (d : Int)] w (NumPostW w (numI s.data.toList d)) := by
  obtain ⟨t, ht⟩ : ∃ t, t = s.data.toList := ⟨_, rfl⟩
  have hlen : t.length = s.size := by rw [ht]; exact Array.length_toList
  have HTR := Lib.hid (fun w => Tryz.strings_TrimPrefix s ⟨#[45]⟩ w)
  have etr : (⟨(Lib.trimPrefix s.data.toList [45]).toArray⟩ : ByteArray) = bs (trimM t) := by rw [← ht, trim_lib]; try rfl
  obtain ⟨n, hn⟩ : ∃ n, n = (trimM t).length := ⟨_, rfl⟩
  have hbz : (bs (trimM t)).size = n := by rw [bs_size, hn]
  have hn1 := trim_len t
  have hn2 : n ≤ t.length := by
    rw [hn]; unfold trimM; split
    · rw [List.length_tail]; omega
    · exact Nat.le_refl _
  obtain ⟨o, ho⟩ : ∃ o, o = numI t d := ⟨_, rfl⟩
  rw [← ht, ← ho]
  have HET := Lib.hid etr
  obtain ⟨b0, hb0⟩ : ∃ b0, b0 = bs (trimM t) := ⟨_, rfl⟩
  rw [← hb0] at hbz HET
  have hbI : (b0.size : Int) = n := by rw [hbz]
  clear hb0
  by_cases hdn : d < n
  · have HO := Lib.hid (show o = none by rw [ho]; exact num_long (by rw [← hn]; exact hdn))
    have hI : (n : Int) > (d : Int) := by omega
    clear ho etr hdn hn ht hlen hn1 hn2 hbz
    go_enter Tryz.func69, Tryz.ntmps69
    go_wp2_with (go_at_call 89; refine (HTR.out _).mono ?_; rintro e w ⟨rfl, rfl⟩; simp only [HET.out])
    go_ret2
    exact ⟨0, by rw [HO.out]; try rfl, (fun v hv => by have h := HO.out; rw [h] at hv; cases hv), Below.refl _ _⟩
  have hI : ¬ (n : Int) > (d : Int) := by omega
  have h18 : t.length ≤ 18 := by omega
  have hall := Lib.atoiAll_short t h18
  rw [ht] at hall
  rw [← ht] at hall
  cases ha : Lib.atoi t with
  | none =>
    have HO := Lib.hid (show o = none by rw [ho]; unfold numI; rw [ha])
    rw [ha] at hall
    obtain ⟨ev, hev, hev2⟩ := hP.err
    have HAT := Lib.hid (Tryz.strconv_Atoi_syntax s (by omega) (by rw [← ht]; exact hall) ev w hev hev2)
    clear ho etr hall hdn hn ht hlen hn1 hn2 hbz ha
    go_enter Tryz.func69, Tryz.ntmps69
    go_wp2_with (go_at_call 89; refine (HTR.out _).mono ?_; rintro e w ⟨rfl, rfl⟩; simp only [HET.out])
    refine HAT.out.mono ?_
    rintro e w1 ⟨N, rfl, -, -, hB⟩
    go_wp2_with fail
    go_ret2
    exact ⟨0, by rw [HO.out]; try rfl, (fun v hv => by have h := HO.out; rw [h] at hv; cases hv), hB⟩
  | some v =>
    rw [ha] at hall
    have hv := Lib.atoiAll_bounds (l := t) (v := v) hall
    have hok : OkI v := OkI.of hv
    have HAT := Lib.hid (Tryz.strconv_Atoi_ok s (by omega) v (by rw [← ht]; exact hall) w)
    obtain ⟨q, hq⟩ : ∃ q, q = decide (Lib.itoa v = t) := ⟨_, rfl⟩
    have hbe : ((bs (Lib.itoa v)).toList == s.toList) = q := by
      rw [hq, ht]; exact bs_beq _ _
    have HO := Lib.hid (show o.isSome = q ∧ ∀ x, o = some x → v = x by
      rw [ho, hq]; unfold numI; rw [ha]
      by_cases e : Lib.itoa v = t
      · have e2 : Lib.itoa v = t ∧ (trimM t).length ≤ d := ⟨e, by rw [← hn]; omega⟩
        simp only [if_pos e2]
        exact ⟨by simp [e], fun x hx => Option.some.inj hx⟩
      · have e2 : ¬ (Lib.itoa v = t ∧ (trimM t).length ≤ d) := fun h => e h.1
        simp only [if_neg e2]
        exact ⟨by simp [e], fun x hx => by cases hx⟩)
    clear ho etr hall hdn hq hn ht hlen hn1 hn2 hbz ha
    go_enter Tryz.func69, Tryz.ntmps69
    go_wp2_with (go_at_call 89; refine (HTR.out _).mono ?_; rintro e w ⟨rfl, rfl⟩; simp only [HET.out])
    refine HAT.out.mono ?_
    rintro e w1 ⟨rfl, hw⟩
    have hB : Below w.heap.size w w1 := by
      rcases hw with rfl | ⟨t, rfl⟩
      · exact Below.refl _ _
      · exact ⟨rfl, rfl, rfl, by rw [Lib.bytesWorld_size]; omega, fun j hj => Lib.bytesWorld_at_old w _ t j hj⟩
    have hP1 := hP.below hB
    go_wp2_with (go_at_call 61; refine (itoaB_any _ hok _ hP1).mono ?_; rintro e w2 ⟨rfl, hb2⟩)
    go_ret2
    exact ⟨v, by rw [HO.out.1]; try rfl, HO.out.2, hB.trans (hb2.mono (B' := w.heap.size) hB.size)⟩
/-- A text is returned. -/
def StrPost (w : World) (t : List UInt8) (e : Ending) (w' : World) : Prop := e = .returned (.string (bs t)) ∧ Below w.heap.size w w'
theorem bs_app (a b : List UInt8) : bs a ++ bs b = bs (a ++ b) := by
  have h : (bs a ++ bs b).data.toList = (bs (a ++ b)).data.toList := by rw [ByteArray.data_append]; simp [bs]
  rw [← data_bs (bs a ++ bs b), h, data_bs]
theorem bs_add (a b : List UInt8) (h : a.length + b.length ≤ 1000000) (W : World) : (Op.stringOp .add (bs a) (bs b)).run Tryz.prog W = .ok (.string (bs (a ++ b))) W := by
  have h1 : ¬ ((9223372036854775807 : Int) < ((bs a).size : Int) + ((bs b).size : Int)) := by rw [bs_size, bs_size]; omega
  simp [Op.stringOp, h1, bs_app]
end Go.Proofs.YtgoandhlcekmiaaGreatDoor

namespace Go.Proofs.YtgoandhlcekmiaaGreatDoor
open Go.RowKit Go.Maps

def preTo (p : List UInt8) (P : List (List UInt8)) : List (List UInt8) := (p ++ P.headD []) :: P.tail
theorem splitOn_form {m : UInt8} (l : List UInt8) : splitOn m l = (splitOn m l).headD [] :: (splitOn m l).tail := by
  cases h : splitOn m l with
  | nil => exact absurd h (splitOn_ne m l)
  | cons a r => rfl
theorem preTo_nil {m : UInt8} (l : List UInt8) : preTo [] (splitOn m l) = splitOn m l := (splitOn_form l).symm
theorem splitOn_cons_ne {m c : UInt8} {r : List UInt8} (h : c ≠ m) : splitOn m (c :: r) = preTo [c] (splitOn m r) := by
  rw [splitOn, if_neg h]
  cases h2 : splitOn m r with
  | nil => exact absurd h2 (splitOn_ne m r)
  | cons a t => rfl
theorem splitOn_cons_eq {m : UInt8} {r : List UInt8} : splitOn m (m :: r) = [] :: splitOn m r := by rw [splitOn, if_pos rfl]
theorem ext_bytes (s : ByteArray) {f k : Nat} : (s.extract f k).data.toList = (s.data.toList.take k).drop f := by
  rw [ByteArray.data_extract, Array.toList_extract, List.extract_eq_take_drop, List.drop_take]
theorem ext_push (s : ByteArray) {f k : Nat} (hf : f ≤ k) (h : k < s.size) : (s.extract f (k + 1)).data.toList = (s.extract f k).data.toList ++ [s[k]] := by
  have hl : k < s.data.toList.length := by rw [Array.length_toList]; exact h
  rw [ext_bytes, ext_bytes, List.take_succ_eq_append_getElem hl, List.drop_append_of_le_length (by rw [List.length_take]; omega)]
  rfl
theorem drop_consB (s : ByteArray) (k : Nat) (h : k < s.size) : s.data.toList.drop k = s[k] :: s.data.toList.drop (k + 1) := by
  have hl : k < s.data.toList.length := by rw [Array.length_toList]; exact h
  rw [List.drop_eq_getElem_cons hl]; try rfl
def CutPost (w : World) (m : UInt8) (s : ByteArray) (e : Ending) (w' : World) : Prop :=
  Below w.heap.size w w' ∧ ∃ v, e = .returned v ∧ OwnG 1 9 tx w' w.heap.size v ((splitOn m s.data.toList).map bs)
end Go.Proofs.YtgoandhlcekmiaaGreatDoor
