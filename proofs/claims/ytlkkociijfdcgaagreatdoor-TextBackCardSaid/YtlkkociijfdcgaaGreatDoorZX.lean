/-
  Marked words: the reference's reading of them, byte by byte.
-/
import Derived.Test.YtlkkociijfdcgaaGreatDoorV6
namespace Go.Proofs.YtlkkociijfdcgaaGreatDoor
open Go.RowKit Go.Maps

def goodB (L : Bool) (c : UInt8) : Bool := (!L || smallB (c.toNat : Int)) && prB (c.toNat : Int)
/-- prev: at the beginning, or behind a mark. -/
def refMk (m : UInt8) (L : Bool) : Bool → List UInt8 → List Int → List UInt8 → Option (List UInt8 × List Int)
  | _, w, ps, [] => some (w, ps)
  | prev, w, ps, c :: r => if c = m then (if prev = true ∨ r = [] then none else refMk m L true w (ps ++ [(w.length : Int)]) r) else if goodB L c = true then refMk m L false (w ++ [c]) ps r else none
/-- What it asks of the rest. -/
def mkOk (m : UInt8) (L : Bool) (prev : Bool) (l : List UInt8) : Bool :=
  (!prev || !((splitOn m l).headD []).isEmpty) && !((splitOn m l).tail.any List.isEmpty) && l.all fun c => decide (c = m) || goodB L c
theorem splitOn_cons_eq (m : UInt8) (r : List UInt8) : splitOn m (m :: r) = [] :: splitOn m r := by rw [splitOn, if_pos rfl]
theorem splitOn_cons_ne {m c : UInt8} (h : ¬ c = m) (r : List UInt8) : splitOn m (c :: r) = (c :: (splitOn m r).headD []) :: (splitOn m r).tail := by
  rw [splitOn, if_neg h]
  have := splitOn_ne m r
  cases e : splitOn m r with
  | nil => exact absurd e this
  | cons x t => rfl
theorem splitOn_form (m : UInt8) (r : List UInt8) : splitOn m r = (splitOn m r).headD [] :: (splitOn m r).tail := by
  have := splitOn_ne m r
  cases e : splitOn m r with
  | nil => exact absurd e this
  | cons x t => rfl
theorem places_shift (a : Int) (c : UInt8) (h : List UInt8) (t : List (List UInt8)) : placesOf a ((c :: h) :: t) = placesOf (a + 1) (h :: t) := by
  cases t with
  | nil => rfl
  | cons q r =>
    show (a + ((c :: h).length : Nat)) :: placesOf (a + ((c :: h).length : Nat)) (q :: r) = (a + 1 + (h.length : Nat)) :: placesOf (a + 1 + (h.length : Nat)) (q :: r)
    have e : a + ((c :: h).length : Nat) = a + 1 + (h.length : Nat) := by simp only [List.length_cons]; omega
    rw [e]
theorem places_step (a : Int) (q : List UInt8) (r : List (List UInt8)) : placesOf a ([] :: q :: r) = a :: placesOf a (q :: r) := by
  show (a + (([] : List UInt8).length : Nat)) :: placesOf (a + (([] : List UInt8).length : Nat)) (q :: r) = _
  have e : a + (([] : List UInt8).length : Nat) = a := by simp
  rw [e]
theorem refMk_eq (m : UInt8) (L : Bool) : ∀ (l : List UInt8) (prev : Bool) (w : List UInt8) (ps : List Int), (prev = false ∨ l ≠ []) →
    refMk m L prev w ps l = if mkOk m L prev l = true then some (w ++ (splitOn m l).flatten, ps ++ placesOf w.length (splitOn m l)) else none
  | [], prev, w, ps, h => by
    rcases h with h | h
    · subst h
      rw [if_pos (by rfl)]
      show some (w, ps) = some (w ++ [], ps ++ [])
      rw [List.append_nil, List.append_nil]
    · exact absurd rfl h
  | c :: r, prev, w, ps, _ => by
    by_cases hc : c = m
    · subst hc
      rw [refMk, if_pos rfl]
      have hok : mkOk c L prev (c :: r) = (!prev && (!((splitOn c r).any List.isEmpty) && r.all fun x => decide (x = c) || goodB L x)) := by
        unfold mkOk
        rw [splitOn_cons_eq]
        simp only [List.headD_cons, List.isEmpty_nil, Bool.not_true, Bool.or_false, List.tail_cons, List.all_cons, decide_true, Bool.true_or, Bool.true_and, Bool.and_assoc]
      rw [hok]
      cases prev with
      | true => rw [if_pos (Or.inl rfl), if_neg (by simp)]
      | false =>
        by_cases hr : r = []
        · subst hr
          rw [if_pos (Or.inr rfl), if_neg (by simp [splitOn])]
        · rw [if_neg (by simp [hr]), refMk_eq c L r true w _ (Or.inr hr)]
          have hok2 : mkOk c L true r = (!((splitOn c r).any List.isEmpty) && r.all fun x => decide (x = c) || goodB L x) := by
            unfold mkOk
            have hne := splitOn_ne c r
            generalize splitOn c r = P at hne ⊢
            cases P with
            | nil => exact absurd rfl hne
            | cons x t => simp [Bool.and_assoc]
          rw [hok2, Bool.not_false, Bool.true_and]
          split
          · rw [splitOn_cons_eq, splitOn_form c r, places_step]
            simp
          · rfl
    · rw [refMk, if_neg hc]
      have hok : mkOk m L prev (c :: r) = (goodB L c && mkOk m L false r) := by
        unfold mkOk
        rw [splitOn_cons_ne hc]
        simp only [List.headD_cons, List.isEmpty_cons, Bool.not_false, Bool.or_true, List.tail_cons, List.all_cons, decide_eq_false hc, Bool.false_or, Bool.true_and, Bool.true_or]
        generalize goodB L c = g
        cases g <;> simp
      rw [hok]
      cases hg : goodB L c with
      | false => rw [if_neg (by decide), Bool.false_and, if_neg (by decide)]
      | true =>
        rw [if_pos rfl, refMk_eq m L r false (w ++ [c]) ps (Or.inl rfl), Bool.true_and]
        split
        · rw [splitOn_cons_ne hc, places_shift, ← splitOn_form m r]
          have e1 : ((w ++ [c]).length : Int) = (w.length : Int) + 1 := by simp
          rw [e1]
          have e2 : (splitOn m r).flatten = ((splitOn m r).headD [] :: (splitOn m r).tail).flatten := by rw [← splitOn_form]
          rw [e2]
          simp
        · rfl
theorem split_bytes (m : UInt8) (p : UInt8 → Bool) : ∀ l : List UInt8, (l.all fun c => decide (c = m) || p c) = (splitOn m l).flatten.all p
  | [] => rfl
  | c :: r => by
    have ih := split_bytes m p r
    by_cases hc : c = m
    · subst hc
      rw [splitOn_cons_eq, List.all_cons, ih]; simp
    · rw [splitOn_cons_ne hc, List.all_cons, ih, decide_eq_false hc, Bool.false_or]
      have e2 : (splitOn m r).flatten = ((splitOn m r).headD [] :: (splitOn m r).tail).flatten := by rw [← splitOn_form]
      rw [e2]
      simp
/-- The reference's reading, with its test of the length. -/
def refMT (m : UInt8) (L : Bool) (l : List UInt8) : Option (List UInt8 × List Int) := match refMk m L true [] [] l with
  | none => none
  | some x => if 1 ≤ x.1.length ∧ x.1.length ≤ 30 then some x else none
theorem nonempty_len : ∀ P : List (List UInt8), P.any List.isEmpty = false → P.length ≤ P.flatten.length
  | [], _ => Nat.le_refl _
  | x :: t, h => by
    rw [List.any_cons, Bool.or_eq_false_iff] at h
    have := nonempty_len t h.2
    have hx : 0 < x.length := by
      cases x with
      | nil => cases h.1
      | cons _ _ => simp
    simp only [List.length_cons, List.flatten_cons, List.length_append]
    omega
theorem all_and (p q : UInt8 → Bool) : ∀ l : List UInt8, (l.all fun c => p c && q c) = (l.all p && l.all q)
  | [] => rfl
  | c :: l => by
    rw [List.all_cons, List.all_cons, List.all_cons, all_and p q l]
    cases p c <;> cases q c <;> simp
theorem refMT_eq (m : UInt8) (L : Bool) (l : List UInt8) : refMT m L l = match cutAt m l with
    | none => none
    | some x => if isWordB ⟨x.1.toArray⟩ = true ∧ (L = true → areSmallB ⟨x.1.toArray⟩ = true) then some x else none := by
  have hsz : ∀ x : List UInt8, (⟨x.toArray⟩ : ByteArray).size = x.length := fun x => by show x.toArray.size = _; simp
  have hdl : ∀ x : List UInt8, (⟨x.toArray⟩ : ByteArray).data.toList = x := fun x => by simp
  have hgood : ∀ x : List UInt8, x.all (goodB L) = ((!L || x.all fun c => smallB (c.toNat : Int)) && x.all fun c => prB (c.toNat : Int)) := fun x => by
    have := all_and (fun c => !L || smallB (c.toNat : Int)) (fun c => prB (c.toNat : Int)) x
    unfold goodB
    rw [this]
    cases L <;> simp
  unfold refMT
  by_cases hl : l = []
  · subst hl
    rfl
  · rw [refMk_eq m L l true [] [] (Or.inr hl)]
    have hok : mkOk m L true l = (!((splitOn m l).any List.isEmpty) && (splitOn m l).flatten.all (goodB L)) := by
      unfold mkOk
      rw [split_bytes]
      have hne := splitOn_ne m l
      generalize splitOn m l = P at hne ⊢
      cases P with
      | nil => exact absurd rfl hne
      | cons x t => simp [Bool.and_assoc]
    rw [hok]
    have hlen := splitOn_len m l
    unfold cutAt
    cases he : (splitOn m l).any List.isEmpty with
    | true =>
      simp
    | false =>
      have hne := nonempty_len _ he
      rw [Bool.not_false, Bool.true_and]
      simp only [Bool.false_eq_true, if_false]
      have hw : isWordB ⟨(splitOn m l).flatten.toArray⟩ = (decide (1 ≤ (splitOn m l).flatten.length) && decide ((splitOn m l).flatten.length ≤ 30) && (splitOn m l).flatten.all fun c => prB (c.toNat : Int)) := by
        unfold isWordB allB; rw [hsz, hdl]
      have hs : areSmallB ⟨(splitOn m l).flatten.toArray⟩ = (splitOn m l).flatten.all fun c => smallB (c.toNat : Int) := by unfold areSmallB allB; rw [hdl]
      by_cases h59 : 59 < l.length
      · rw [if_pos h59]
        split
        · rfl
        · rename_i x hx
          split at hx
          · injection hx with hx
            subst hx
            rw [if_neg]
            rintro ⟨_, h2⟩
            have h3 : (splitOn m l).flatten.length ≤ 30 := by simpa using h2
            omega
          · cases hx
      · rw [if_neg h59]
        simp only [hw, hs, hgood]
        generalize ((splitOn m l).flatten.all fun c => prB (c.toNat : Int)) = g1
        generalize ((splitOn m l).flatten.all fun c => smallB (c.toNat : Int)) = g2
        cases g1 <;> cases g2 <;> cases L <;> simp
theorem refMT_exc (t : ByteArray) : refMT 45 true t.data.toList = entO excS t := by
  rw [refMT_eq]
  unfold entO
  show _ = (match cutAt 45 t.data.toList with | none => none | some x => if excR ⟨x.1.toArray⟩ x.2 = true then some x else none)
  cases cutAt 45 t.data.toList with
  | none => rfl
  | some x =>
    dsimp only
    unfold excR
    cases isWordB ⟨x.1.toArray⟩ <;> cases areSmallB ⟨x.1.toArray⟩ <;> simp
theorem refMT_bar (t : ByteArray) : (match refMT 124 false t.data.toList with | none => none | some x => if x.2.length = 0 then none else some x) = entO barS t := by
  rw [refMT_eq]
  unfold entO
  show _ = (match cutAt 124 t.data.toList with | none => none | some x => if barR ⟨x.1.toArray⟩ x.2 = true then some x else none)
  cases cutAt 124 t.data.toList with
  | none => rfl
  | some x =>
    dsimp only
    unfold barR
    cases isWordB ⟨x.1.toArray⟩ with
    | false => simp
    | true =>
      by_cases h : x.2.length = 0
      · simp [h]
      · have : 0 < x.2.length := by omega
        simp [h, this]
end Go.Proofs.YtlkkociijfdcgaaGreatDoor
/-
  The reference's readMarked.
-/
namespace Go.Proofs.YtlkkociijfdcgaaGreatDoor
open Go.RowKit Go.Maps

def isPrev (m : UInt8) (s : ByteArray) (k : Nat) : Bool := decide (k = 0) || (s.data.toList.getD (k - 1) 0 == m)
def MkPost (w : World) (m : UInt8) (L : Bool) (s : ByteArray) (e : Ending) (w' : World) : Prop :=
  Below w.heap.size w w' ∧ match refMk m L true [] [] s.data.toList with
    | none => e = .returned (.tuple #[.string ⟨#[]⟩, .slice none 0 0, .bool false])
    | some x => ∃ v, e = .returned (.tuple #[.string ⟨x.1.toArray⟩, v, .bool (inB x.1.length 1 30)]) ∧ IRow w' w.heap.size v x.2
theorem bytes_eq2 {s : ByteArray} {l : List UInt8} (h : s.data.toList = l) : s = ⟨l.toArray⟩ := by
  cases s with
  | mk d => simp at h; rw [← h]
theorem byte_at {s : ByteArray} {k : Nat} (h : k < s.size) : s.data.toList.drop k = s.data.toList.getD k 0 :: s.data.toList.drop (k + 1) := by
  have hl : k < s.data.toList.length := by rw [Array.length_toList]; exact h
  rw [List.drop_eq_getElem_cons hl, List.getD_eq_getElem?_getD, List.getElem?_eq_getElem hl]
  rfl

theorem push_byte (l : List UInt8) {s : ByteArray} {k : Nat} (h : k < s.size) : (⟨l.toArray⟩ : ByteArray) ++ s.extract k (k + 1) = ⟨(l ++ [s[k]]).toArray⟩ := by
  refine bytes_eq2 ?_
  have hl : k < s.data.toList.length := by rw [Array.length_toList]; exact h
  rw [ByteArray.data_append, Array.toList_append, ByteArray.data_extract, Array.toList_extract, List.extract_eq_take_drop, List.drop_eq_getElem_cons hl, Nat.add_sub_cancel_left]
  rfl
set_option maxRecDepth 100000 in
set_option maxHeartbeats 2000000 in
theorem readMarked_any (m : UInt8) (L : Bool) (s : ByteArray) (w : World) (hs : s.size ≤ 1000) :
    Calls Tryz.prog 122 #[.string s, .int .u8 m.toNat, .bool L] w (MkPost w m L s) := by
  go_enter Tryz.func122, Tryz.ntmps122
  go_wp2_with fail
  go_loopw [9, 10, 11] (fun v9 v10 i wr => ∃ (k : Nat) (x : List UInt8 × List Int), k ≤ s.size ∧ i = .int .i64 k ∧ v9 = .string ⟨x.1.toArray⟩ ∧ IRow wr w.heap.size v10 x.2 ∧ x.1.length ≤ k ∧ x.2.length ≤ k ∧ Hid (refMk m L true [] [] s.data.toList = refMk m L (isPrev m s k) x.1 x.2 (s.data.toList.drop k)) ∧ Below w.heap.size w wr) (fun _ _ i _ => s.size - (intOf i).toNat)
  case atStart => exact ⟨0, ([], []), Nat.zero_le _, rfl, rfl, IRow.nil _ _, Nat.le_refl _, Nat.le_refl _, Lib.hid rfl, Below.refl _ _⟩
  case round =>
    obtain ⟨k, x, hk, rfl, rfl, hI, hx1, hx2, HR, hB⟩ := hrel
    obtain ⟨A, d, rfl, hIA, hxd, hAd⟩ := hI.shape
    by_cases hlt : k < s.size
    · have hkl : (k : Int) < (s.size : Int) := by omega
      have HD := Lib.hid (drop_cons s k hlt)
      by_cases hm : s[k] = m
      · have hb : ((s[k].toNat : Int) == (m.toNat : Int)) = true := by rw [hm]; simp
        have HR2 := Lib.hid (show refMk m L true [] [] s.data.toList = (if isPrev m s k = true ∨ s.data.toList.drop (k + 1) = [] then none else refMk m L true x.1 (x.2 ++ [(x.1.length : Int)]) (s.data.toList.drop (k + 1))) by rw [HR.out, HD.out, refMk, if_pos hm])
        have HPV := Lib.hid (show isPrev m s (k + 1) = true by
          have hl3 : k < s.data.toList.length := by rw [Array.length_toList]; exact hlt
          unfold isPrev
          rw [Nat.add_sub_cancel, List.getD_eq_getElem?_getD, List.getElem?_eq_getElem hl3]
          have e : s.data.toList[k] = m := hm
          simp [e])
        clear hm
        cases k with
        | zero =>
          have HE := Lib.hid (HR2.out.trans (if_pos (Or.inl (show isPrev m s 0 = true from rfl))))
          have h00 : ((0 : Int) == 0) = true := rfl
          rw [show ((0 : Nat) : Int) = 0 from rfl] at *
          go_wp2
          go_ret3
          exact ⟨hB, by rw [HE.out]; try rfl⟩
        | succ q =>
          have hq0 : ((q : Int) + 1 == 0) = false := by rw [beq_eq_false_iff_ne]; omega
          have hw : IntKind.i64.wrap ((s.size : Int) - 1) = (s.size : Int) - 1 := by rw [IntKind.wrap_i64] <;> omega
          by_cases hl : q + 1 = s.size - 1
          · have HE := Lib.hid (HR2.out.trans (if_pos (Or.inr (List.drop_of_length_le (by rw [Array.length_toList]; show s.size ≤ _; omega)))))
            have hl2 : ((q : Int) + 1 == (s.size : Int) - 1) = true := by rw [beq_iff_eq]; omega
            clear hl
            go_wp2
            go_ret3
            exact ⟨hB, by rw [HE.out]; try rfl⟩
          · have hl2 : ((q : Int) + 1 == (s.size : Int) - 1) = false := by rw [beq_eq_false_iff_ne]; omega
            have hw2 : IntKind.i64.wrap (((q + 1 : Nat) : Int) - 1) = (q : Int) := by rw [IntKind.wrap_i64] <;> omega
            have hql : (q : Int) < (s.size : Int) := by omega
            have hqn : q < s.size := by omega
            have hdne : s.data.toList.drop (q + 1 + 1) ≠ [] := by
              intro h
              have := congrArg List.length h
              rw [List.length_drop, Array.length_toList] at this
              have h2 : s.data.size = s.size := rfl
              simp at this
              omega
            have hpv : isPrev m s (q + 1) = (s[q] == m) := by
              have hl3 : q < s.data.toList.length := by rw [Array.length_toList]; exact hqn
              unfold isPrev
              rw [decide_eq_false (by omega), Bool.false_or, Nat.add_sub_cancel, List.getD_eq_getElem?_getD, List.getElem?_eq_getElem hl3]
              rfl
            by_cases hp : s[q] = m
            · have HE := Lib.hid (HR2.out.trans (if_pos (Or.inl (by rw [hpv, hp]; simp))))
              have hpb : ((s[q].toNat : Int) == (m.toNat : Int)) = true := by rw [hp]; simp
              clear hl hp hpv hdne
              go_wp2
              go_ret3
              exact ⟨hB, by rw [HE.out]; try rfl⟩
            · have HE := Lib.hid (HR2.out.trans (if_neg (by rw [hpv]; simp [hp, hdne])))
              have hpb : ((s[q].toNat : Int) == (m.toNat : Int)) = false := by
                rw [beq_eq_false_iff_ne]
                intro e
                exact hp (UInt8.toNat_inj.1 (by omega))
              clear hl hp hpv hdne
              go_wp2_with (at_builtin; refine wpList_app1 wr _ rfl _ _ rfl w.heap.size _ x.2 rfl hI rfl (by omega) (by have := hB.size; omega) ?_; intro g9 c9 w9 hrow9 hgrow9 hb9)
              go_roundw
              case rel => exact ⟨q + 1 + 1, (x.1, x.2 ++ [(x.1.length : Int)]), by omega, by go_num, rfl, (by simpa using hrow9), by show x.1.length ≤ _; omega, by simp; omega, Lib.hid (by rw [HPV.out]; exact HE.out), hB.trans hb9⟩
              case measure => simp [intOf]; omega
      · have hb : ((s[k].toNat : Int) == (m.toNat : Int)) = false := by
          rw [beq_eq_false_iff_ne]
          intro e
          exact hm (UInt8.toNat_inj.1 (by omega))
        have HPV := Lib.hid (show isPrev m s (k + 1) = false by
          have hl3 : k < s.data.toList.length := by rw [Array.length_toList]; exact hlt
          unfold isPrev
          rw [Nat.add_sub_cancel, List.getD_eq_getElem?_getD, List.getElem?_eq_getElem hl3]
          have e : (s.data.toList[k] == m) = false := beq_eq_false_iff_ne.2 hm
          show (decide (k + 1 = 0) || (s.data.toList[k] == m)) = false
          rw [e, decide_eq_false (by omega)]
          rfl)
        have HR2 := Lib.hid (show refMk m L true [] [] s.data.toList = (if goodB L s[k] = true then refMk m L false (x.1 ++ [s[k]]) x.2 (s.data.toList.drop (k + 1)) else none) by rw [HR.out, HD.out, refMk, if_neg hm])
        have HPB := Lib.hid (push_byte x.1 hlt)
        have hsz : (⟨x.1.toArray⟩ : ByteArray).size = x.1.length := by show x.1.toArray.size = _; simp
        clear hm
        cases hp : prB (s[k].toNat : Int)
        · have HE := Lib.hid (HR2.out.trans (if_neg (by unfold goodB; rw [hp]; simp)))
          cases L
          all_goals
            go_wp2_with (first | (go_at_call 139; refine (refSmall_any _ _).mono ?_; rintro e w' ⟨rfl, rfl⟩) | (go_at_call 101; refine (refByte_any _ _).mono ?_; rintro e w' ⟨rfl, rfl⟩))
            all_goals go_ret3
            all_goals exact ⟨hB, by rw [HE.out]; try rfl⟩
        · cases hL : (!L || smallB (s[k].toNat : Int))
          · have HE := Lib.hid (HR2.out.trans (if_neg (by unfold goodB; rw [hL]; simp)))
            obtain ⟨rfl, hsm⟩ : L = true ∧ smallB (s[k].toNat : Int) = false := by
              cases L
              · cases hL
              · exact ⟨rfl, by simpa using hL⟩
            clear hL
            go_wp2_with (first | (go_at_call 139; refine (refSmall_any _ _).mono ?_; rintro e w' ⟨rfl, rfl⟩) | (go_at_call 101; refine (refByte_any _ _).mono ?_; rintro e w' ⟨rfl, rfl⟩))
            go_ret3
            exact ⟨hB, by rw [HE.out]; try rfl⟩
          · have HE := Lib.hid (HR2.out.trans (if_pos (by unfold goodB; rw [hL, hp]; try rfl)))
            cases L
            · clear hL
              go_wp2_with (first | (go_at_call 139; refine (refSmall_any _ _).mono ?_; rintro e w' ⟨rfl, rfl⟩) | (go_at_call 101; refine (refByte_any _ _).mono ?_; rintro e w' ⟨rfl, rfl⟩))
              go_roundw
              case rel => exact ⟨k + 1, (x.1 ++ [s[k]], x.2), by omega, by go_num, by rw [HPB.out], hI, by simp; omega, by show x.2.length ≤ _; omega, Lib.hid (by rw [HPV.out]; exact HE.out), hB⟩
              case measure => simp [intOf]; omega
            · have hsm : smallB (s[k].toNat : Int) = true := by simpa using hL
              clear hL
              go_wp2_with (first | (go_at_call 139; refine (refSmall_any _ _).mono ?_; rintro e w' ⟨rfl, rfl⟩) | (go_at_call 101; refine (refByte_any _ _).mono ?_; rintro e w' ⟨rfl, rfl⟩))
              go_roundw
              case rel => exact ⟨k + 1, (x.1 ++ [s[k]], x.2), by omega, by go_num, by rw [HPB.out], hI, by simp; omega, by show x.2.length ≤ _; omega, Lib.hid (by rw [HPV.out]; exact HE.out), hB⟩
              case measure => simp [intOf]; omega
    · obtain rfl : k = s.size := by omega
      have HE := Lib.hid (show refMk m L true [] [] s.data.toList = some (x.1, x.2) by rw [HR.out, List.drop_of_length_le (by rw [Array.length_toList]; exact Nat.le_refl _)]; rfl)
      have hsz : (⟨x.1.toArray⟩ : ByteArray).size = x.1.length := by show x.1.toArray.size = _; simp
      go_wp2_with (go_at_call 76; refine (within_any _ _ _ _).mono ?_; rintro e w' ⟨rfl, rfl⟩)
      go_ret3
      refine ⟨hB, ?_⟩
      rw [HE.out]
      exact ⟨_, rfl, hI⟩
end Go.Proofs.YtlkkociijfdcgaaGreatDoor
