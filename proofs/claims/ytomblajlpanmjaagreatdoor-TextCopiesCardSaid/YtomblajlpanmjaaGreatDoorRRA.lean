/-
  Package text: Print: the walk; maths of its text.
-/
import Derived.Test.YtomblajlpanmjaaGreatDoorQOP
import Derived.Test.YtomblajlpanmjaaGreatDoorZQR
import Derived.Test.YtomblajlpanmjaaGreatDoorQN
import Derived.Test.YtomblajlpanmjaaGreatDoorNT
import Derived.Test.YtomblajlpanmjaaGreatDoorQY
import Derived.Test.YtomblajlpanmjaaGreatDoorW9
import Derived.Laws.StructEq
import Derived.Test.YtomblajlpanmjaaGreatDoorQTU
namespace Go.Proofs.YtomblajlpanmjaaGreatDoor
open Go.RowKit Go.Maps Go.Shelf

theorem check_good {l : List CP} (h : (checkP l).2 = 0) : (∀ x ∈ l, gdP x) ∧ l.length ≤ 60 := by
  unfold checkP at h
  split at h
  · exact absurd (show (8 : Int) = 0 from h) (by decide)
  rename_i h60
  have hall : ∀ i, i < l.length → partErr (l.getD i noCP).kd (l.getD i noCP).l = 0 := by
    cases e : firstAt (isBadP l) (l.length - 0) 0 with
    | none =>
      intro i hi
      have h2 := firstAt_none e i (Nat.zero_le _) (by omega)
      unfold isBadP at h2
      simpa using h2
    | some j =>
      rw [e] at h
      have h1 := (firstAt_some e).1
      unfold isBadP at h1
      have h : partErr (l.getD j noCP).kd (l.getD j noCP).l = 0 := h
      rw [h] at h1; cases h1
  refine ⟨fun x hx => ?_, by omega⟩
  obtain ⟨i, hi, rfl⟩ := List.getElem_of_mem hx
  have h3 := hall i hi
  rw [List.getD_eq_getElem?_getD, List.getElem?_eq_getElem hi, Option.getD_some] at h3
  unfold partErr at h3
  split at h3
  · exact absurd h3 (by decide)
  rename_i k1
  split at h3
  · exact absurd h3 (by decide)
  rename_i k2
  split at h3
  · exact absurd h3 (by decide)
  rename_i k3
  split at h3
  · exact absurd h3 (by decide)
  rename_i k4
  split at h3
  · exact absurd h3 (by decide)
  rename_i k5
  have hne : l[i].l ≠ [] := fun e => k2 (by rw [e]; try rfl)
  refine ⟨by omega, hne, by omega, fun s hs => ?_, fun s hs => ?_⟩
  · obtain ⟨j, hj, rfl⟩ := List.getElem_of_mem hs
    have k5 : (firstAt (badTx l[i].l) (l[i].l.length - 0) 0).isSome = false := by simpa using k5
    cases e : firstAt (badTx l[i].l) (l[i].l.length - 0) 0 with
    | some q => rw [e] at k5; cases k5
    | none =>
      have h2 := firstAt_none e j (Nat.zero_le _) (by omega)
      unfold badTx at h2
      rw [List.getD_eq_getElem?_getD, List.getElem?_eq_getElem hj, Option.getD_some] at h2
      simpa using h2
  · have k4 : markB (l[i].l.getD 0 noTx) = false := by simpa using k4
    rw [List.getD_eq_getElem?_getD, hs, Option.getD_some] at k4
    exact k4
theorem join_lenQ : ∀ {L : List (List UInt8)}, (∀ x ∈ L, x.length ≤ 30) → (Lib.join L [32]).length ≤ 31 * L.length
  | [], _ => by simp [Lib.join, List.intercalate, List.intersperse]
  | [x], h => by rw [join_oneQ]; have := h x List.mem_cons_self; simp; omega
  | x :: y :: r, h => by
    have ih := join_lenQ (L := y :: r) (fun z hz => h z (List.mem_cons_of_mem _ hz))
    have h1 := h x List.mem_cons_self
    rw [join_consQ, List.length_append, List.length_append]
    simp only [List.length_cons, List.length_nil] at ih ⊢
    omega
theorem line_len {x : CP} (h : gdP x) : (lineC x).length ≤ 3131 := by
  have h1 := join_lenQ (L := headL x.kd ++ bytesL x.l) (fun y hy => by
    rcases List.mem_append.1 hy with hy | hy
    · rcases head_bytes hy with rfl | rfl <;> simp
    · unfold bytesL at hy
      obtain ⟨s, hs, rfl⟩ := List.mem_map.1 hy
      have h9 := (word_bytes (h.2.2.2.1 s hs)).1
      rw [show s.data.toList.length = s.size from Array.length_toList]; omega)
  have h2 : (headL x.kd).length ≤ 1 := by
    unfold headL
    split
    · simp
    · split <;> simp
  have h3 : x.l.length ≤ 100 := h.2.2.1
  have h4 : (bytesL x.l).length = x.l.length := by unfold bytesL; rw [List.length_map]
  rw [List.length_append, h4] at h1
  show (Lib.join _ _).length ≤ _
  omega
theorem prL_len : ∀ {l : List CP} (f : Bool), (∀ x ∈ l, gdP x) → (prL f l).length ≤ 3133 * l.length
  | [], _, _ => by simp [prL]
  | x :: r, f, h => by
    have ih := prL_len (l := r) false (fun y hy => h y (List.mem_cons_of_mem _ hy))
    have h1 := line_len (h x List.mem_cons_self)
    show (prK f x ++ prL false r).length ≤ _
    unfold prK
    rw [List.length_append, List.length_append, List.length_append]
    have h2 : (if f = true then ([] : List UInt8) else [10]).length ≤ 1 := by split <;> simp
    simp only [List.length_cons, List.length_nil]
    omega
/-- What was laid in rows of one's own, as it lies, with room. -/
theorem pown_parts2 {w : World} {B n : Nat} {v : Value} {l : List CP} {u : Value} (h : POwn w B v n l u) (hn : l.length = n) : ∃ A c l', v = .slice A n c ∧ PartsAt w A l' ∧ l'.length = n ∧ (∀ k, k < n → (l'.getD k noCP).kd = (l.getD k noCP).kd ∧ (l'.getD k noCP).l = (l.getD k noCP).l) ∧ ∀ k, k < n → (l'.getD k noCP).l.length ≤ (l'.getD k noCP).c ∧ ((l'.getD k noCP).l ≠ [] → ∃ g, (l'.getD k noCP).a = some ⟨g, 0, none⟩) := by
  obtain ⟨xs, ho, hx⟩ := h
  obtain ⟨l', hl', hp⟩ := exists_parts (P := fun j x => xs[j * 2]? = some (.int .i64 x.kd) ∧ xs[j * 2 + 1]? = some (.slice x.a x.l.length x.c) ∧ x.kd = (l.getD j noCP).kd ∧ x.l = (l.getD j noCP).l ∧ TextsAt w x.a x.l ∧ x.l.length ≤ x.c ∧ (x.l ≠ [] → ∃ g, x.a = some ⟨g, 0, none⟩)) n (fun j hj => by
    obtain ⟨v2, h1, h2, h3, -⟩ := hx j hj
    rcases h3.2 with ⟨e1, e2⟩ | ⟨g, cap, cur, e1, e2, e3, e4, -⟩
    · have h0 : (l.getD j noCP).l = [] := List.length_eq_zero_iff.1 e2
      refine ⟨⟨(l.getD j noCP).kd, none, 0, []⟩, h1, ?_, rfl, h0.symm, (fun k hk => absurd hk (Nat.not_lt_zero _)), Nat.le_refl _, fun h => absurd rfl h⟩
      rw [h2, e1]; try rfl
    · rw [e1] at h3 h2
      exact ⟨⟨(l.getD j noCP).kd, some ⟨g, 0, none⟩, cap, (l.getD j noCP).l⟩, h1, h2, rfl, rfl, texts_of_row h3, e4, fun _ => ⟨g, rfl⟩⟩)
  rcases ho.2 with ⟨e1, e2⟩ | ⟨g, cap, cur, e1, e2⟩
  · subst e2
    exact ⟨none, 0, l', e1, fun k hk => absurd hk (by omega), by omega, fun j hj => absurd hj (by omega), fun j hj => absurd hj (by omega)⟩
  · subst e1
    refine ⟨some ⟨g, 0, none⟩, cap, l', rfl, fun k hk => ?_, by omega, fun j hj => ⟨(hp j (by omega)).2.2.1, (hp j (by omega)).2.2.2.1⟩, fun j hj => (hp j (by omega)).2.2.2.2.2⟩
    obtain ⟨q1, q2, q3, q4, q5, -⟩ := hp k (by omega)
    refine ⟨_, rfl, (ho.lt g rfl).2, ⟨ho.cells (g := g) rfl (k * 2) _ q1, ?_⟩, q5⟩
    have := ho.cells (g := g) rfl (k * 2 + 1) _ q2
    have hA : (⟨g, 0, none⟩ : Addr).add (k * 2 + 1) = ⟨((⟨g, 0, none⟩ : Addr).add (k * 2)).block, ((⟨g, 0, none⟩ : Addr).add (k * 2)).off + 1, none⟩ := by
      unfold Addr.add
      rw [if_neg (by omega)]
      by_cases h0 : k * 2 = 0
      · rw [if_pos h0, h0]
      · rw [if_neg h0]; show (⟨g, 0 + (k * 2 + 1), none⟩ : Addr) = ⟨g, 0 + k * 2 + 1, none⟩; rw [Nat.add_assoc]
    rw [← hA]
    exact this
theorem bs_addT (a b : List UInt8) (h : a.length + b.length ≤ 1000000) (W : World) : (Op.stringOp .add (bs a) (bs b)).run Tryz.prog W = .ok (.string (bs (a ++ b))) W := by
  have h1 : ¬ ((9223372036854775807 : Int) < ((bs a).size : Int) + ((bs b).size : Int)) := by rw [bs_sizeQ, bs_sizeQ]; omega
  have h2 : bs a ++ bs b = bs (a ++ b) := by
    have h : (bs a ++ bs b).data.toList = (bs (a ++ b)).data.toList := by rw [ByteArray.data_append]; simp [bs]
    have e : ∀ s : ByteArray, bs s.data.toList = s := fun s => by unfold bs; simp
    rw [← e (bs a ++ bs b), h, e]
  simp [Op.stringOp, h1, h2]
/-- What Print answers. -/
def PrPost (w : World) (l : List CP) (e : Ending) (w' : World) : Prop := e = .returned (.tuple #[.string (if (checkP l).2 = 0 then bs (prL true l) else ⟨#[]⟩), .int .i64 (checkP l).2]) ∧ Below w.heap.size w w'
set_option maxRecDepth 100000 in
set_option maxHeartbeats 4000000 in
theorem textPrint_any (A : Option Addr) (l : List CP) (c : Nat) (w : World) (hX : PartsAt w A l) (hO : OkP l) (hcap : ∀ k, k < l.length → (l.getD k noCP).l.length ≤ (l.getD k noCP).c ∧ ((l.getD k noCP).l ≠ [] → ∃ g, (l.getD k noCP).a = some ⟨g, 0, none⟩)) :
    Calls Tryz.prog 21 #[.slice A l.length c] w (PrPost w l) := by
  have HCK := Lib.hid (CheckParts_any A l c w hX hO)
  obtain ⟨nn, er, hP⟩ : ∃ nn er, checkP l = (nn, er) := ⟨_, _, rfl⟩
  have HGD := Lib.hid (fun (h : er = 0) => check_good (l := l) (by rw [hP]; exact h))
  unfold PrPost
  rw [hP] at HCK ⊢
  dsimp only at HCK ⊢
  by_cases he : er = 0
  · subst he
    obtain ⟨hg, hl60⟩ := HGD.out rfl
    have HG := Lib.hid hg
    have HBD := Lib.hid (show ∀ k, k ≤ l.length → (prL true (l.take k)).length ≤ 200000 from fun k hk => by
      have h1 := prL_len (l := l.take k) true (fun x hx => hg x (List.mem_of_mem_take hx))
      rw [List.length_take] at h1; omega)
    rw [if_pos rfl]
    obtain ⟨R, hR⟩ : ∃ R, R = prL true l := ⟨_, rfl⟩
    have HR := Lib.hid hR
    obtain ⟨pr, hpr⟩ : ∃ pr : Nat → List UInt8, pr = fun k => prL true (l.take k) := ⟨_, rfl⟩
    have HPR := Lib.hid hpr
    have HST := Lib.hid (show ∀ k (hk : k < l.length), pr (k + 1) = pr k ++ prK (decide (k = 0)) l[k] from fun k hk => by rw [hpr]; exact prL_step hk)
    have HB1 := Lib.hid (show ∀ k, k ≤ l.length → (pr k).length ≤ 200000 from fun k hk => by rw [hpr]; exact HBD.out k hk)
    have HE := Lib.hid (show pr l.length = R by rw [hpr, hR]; show prL true (l.take l.length) = _; rw [List.take_length])
    have HZ := Lib.hid (show pr 0 = [] by rw [hpr]; try rfl)
    rw [← hR]
    have hll : l.length ≤ 60 := hl60
    have HX := Lib.hid hX; have HCP := Lib.hid hcap
    clear hg hR hpr HBD HPR HGD hP hX hO hcap hl60
    go_enter Tryz.func21, Tryz.ntmps21
    go_wp2_with (first | (go_at_call 19; refine HCK.out.mono ?_; rintro e w1 ⟨rfl, hb1⟩; have HW1 := Lib.hid hb1; have HX1 := Lib.hid (HX.out.below hb1); clear hb1))
    obtain ⟨b, hb⟩ : ∃ b, b = w1.heap.size := ⟨_, rfl⟩
    have HS0 : Hid (SB b b [] (w1.alloc (.cells #[.pointer none, .slice none 0 0] 115))) := Lib.hid (by rw [hb]; exact SB.new w1)
    have HW0 : Hid (Below b w1 (w1.alloc (.cells #[.pointer none, .slice none 0 0] 115))) := Lib.hid (by rw [hb]; exact (Below.refl _ w1).alloc (Nat.le_refl _) _)
    have HXB := Lib.hid (fun W (h : Below b w1 W) => show PartsAt W A l from HX1.out.below (by rw [← hb]; exact h))
    have HWB := Lib.hid (fun W (h : Below b w1 W) => show Below w.heap.size w W from HW1.out.trans (h.mono (by have := HW1.out.size; omega)))
    have HGB := Lib.hid (show ∀ k (hk : k < l.length) g, (l.getD k noCP).a = some ⟨g, 0, none⟩ → 0 < (l.getD k noCP).l.length → g < b from fun k hk g h1 h2 => by
      obtain ⟨-, -, -, -, ht⟩ := HX1.out k hk
      obtain ⟨ga, e1, hlt2, -⟩ := ht 0 h2
      rw [h1] at e1
      injection e1 with e1
      subst e1
      rw [hb]; exact hlt2)
    try rw [← hb]
    clear hb HX1 HX
    go_loopw [20] (fun i wr => ∃ k : Nat, k ≤ l.length ∧ i = .int .i64 k ∧ Hid (SB b b (pr k) wr) ∧ Hid (Below b w1 wr)) (fun i _ => l.length - (intOf i).toNat)
    case atStart => exact ⟨0, Nat.zero_le _, rfl, Lib.hid (by rw [HZ.out]; exact HS0.out), HW0⟩
    case round =>
      obtain ⟨k, hk, rfl, HS, HW⟩ := hrel
      clear HS0 HW0
      by_cases hlt : k < l.length
      · have hkI : (k : Int) < (l.length : Int) := by omega
        obtain ⟨ad, rfl, had, ⟨p0, p1⟩, htx⟩ := HXB.out wr HW.out k hlt
        have hgd := HG.out _ (List.getElem_mem hlt)
        have hcp := HCP.out k hlt
        have HNX := HST.out k hlt
        have eK : l.getD k noCP = l[k] := by rw [List.getD_eq_getElem?_getD, List.getElem?_eq_getElem hlt]; try rfl
        rw [eK] at p0 p1 htx hcp
        obtain ⟨x, ex⟩ : ∃ x, x = l[k] := ⟨_, rfl⟩
        rw [← ex] at p0 p1 htx hcp hgd HNX
        obtain ⟨kd, xa, xc, ws⟩ := x
        dsimp only at p0 p1 htx hcp
        obtain ⟨⟨hk1, hk3⟩, hne, hwl, hww, -⟩ := hgd
        dsimp only at hk1 hk3 hne hwl hww
        obtain ⟨hcp1, hcp2⟩ := hcp
        obtain ⟨g, rfl⟩ := hcp2 hne
        have hn0 : 0 < ws.length := List.length_pos_iff.2 hne
        have hln := HB1.out k hk
        have hbl := HS.out.lt
        obtain ⟨J, hJ⟩ : ∃ J, J = Lib.join (bytesL ws) [32] := ⟨_, rfl⟩
        have hJl : J.length ≤ 3100 := by
          rw [hJ]
          have h1 := join_lenQ (L := bytesL ws) (fun y hy => by
            unfold bytesL at hy
            obtain ⟨s, hs, rfl⟩ := List.mem_map.1 hy
            have h9 := (word_bytes (hww s hs)).1
            rw [show s.data.toList.length = s.size from Array.length_toList]; omega)
          have h4 : (bytesL ws).length = ws.length := by unfold bytesL; rw [List.length_map]
          rw [h4] at h1; omega
        have hgb : g < b := by
          obtain ⟨ga, e1, hlt2, -⟩ := htx 0 hn0
          injection e1 with e1
          subst e1
          exact HGB.out k hlt g (by rw [eK, ← ex]) (by rw [eK, ← ex]; exact hn0)
        have HJN := Lib.hid (fun W (h : Below b w1 W) => show Calls Tryz.prog 69 #[.slice (some ⟨g, 0, none⟩) ws.length xc, .string ⟨#[32]⟩] W fun e w' => e = .returned (.string (bs J)) ∧ Below W.heap.size W w' by
          have h2 := HXB.out W h k hlt
          rw [eK, ← ex] at h2
          obtain ⟨-, -, -, -, ht2⟩ := h2
          have h3 := Tryz.strings_Join g 0 xc ws ⟨#[32]⟩ W (fun j z hz => by
            obtain ⟨hj, e5⟩ := List.getElem?_eq_some_iff.1 hz
            obtain ⟨ga, e6, -, t6⟩ := ht2 j hj
            injection e6 with e6
            subst e6
            rw [List.getD_eq_getElem?_getD, hz, Option.getD_some] at t6
            rw [← t6, Nat.zero_add]
            congr 1
            unfold Addr.add
            by_cases h0 : j = 0
            · rw [if_pos h0, h0]
            · rw [if_neg h0]; show (⟨g, j, none⟩ : Addr) = ⟨g, 0 + j, none⟩; rw [Nat.zero_add]) (by
            obtain ⟨ga, e6, h6, -⟩ := ht2 0 hn0
            injection e6 with e6
            subst e6; exact h6) (by omega) hcp1 (by
            show (Lib.join (bytesL ws) [32]).length ≤ _
            rw [← hJ]; omega)
          have e7 : (⟨(Lib.join (ws.map (·.data.toList)) [32]).toArray⟩ : ByteArray) = bs J := by rw [hJ]; try rfl
          rw [e7] at h3
          exact h3)
        have hJ1 : ∀ W, (Op.stringOp .add (bs J) ⟨#[10]⟩).run Tryz.prog W = .ok (.string (bs (J ++ [10]))) W := fun W => bs_addT J [10] (by simp; omega) W
        have HSx : Hid (SB b b (pr k) (wr.alloc (.cells #[.int .i64 kd, .slice (some ⟨g, 0, none⟩) ws.length xc] 72))) := Lib.hid (HS.out.below ((Below.refl _ _).alloc (Nat.le_refl _) _))
        have HWx : Hid (Below b w1 (wr.alloc (.cells #[.int .i64 kd, .slice (some ⟨g, 0, none⟩) ws.length xc] 72))) := Lib.hid (HW.out.alloc (by omega) _)
        have HBx : Hid (BoxAt (wr.alloc (.cells #[.int .i64 kd, .slice (some ⟨g, 0, none⟩) ws.length xc] 72)) wr.heap.size #[.int .i64 kd, .slice (some ⟨g, 0, none⟩) ws.length xc] 72) := Lib.hid (BoxAt.new _ _ _)
        have hkb : wr.heap.size ≠ b := by omega
        have HMO := Lib.hid (fun W => markOf_any kd W)
        obtain ⟨mk, hmk⟩ : ∃ mk, mk = markW kd := ⟨_, rfl⟩
        have HMK := Lib.hid hmk
        rw [← hmk] at HMO
        clear hmk ex eK HXB hcp2 htx
        rcases (show kd = 1 ∨ kd ≠ 1 by omega) with h1 | h1
        · have hm0 : (mk.toList == ([] : List UInt8)) = true := by rw [HMK.out, h1, Lib.toList_data]; try rfl
          have hline : ∀ f, prK f ⟨kd, some ⟨g, 0, none⟩, xc, ws⟩ = (if f = true then [] else [10]) ++ (J ++ [10]) := fun f => by
            unfold prK lineC
            rw [show headL kd = [] by rw [h1]; try rfl, List.nil_append, ← hJ, List.append_assoc]
          rcases (show k = 0 ∨ k ≠ 0 by omega) with h0 | h0
          · have HN2 := Lib.hid (show pr (k + 1) = pr k ++ (J ++ [10]) by rw [HNX, hline, h0]; try rfl)
            have hkp : ¬ 0 < k := by omega
            have hkq : ¬ (0 : Int) < (k : Int) := by omega
            clear hline HNX h0 h1 hJ
            go_wp2_with (first
              | (go_at_call 68; refine (HMO.out _).mono ?_; rintro e w7 ⟨rfl, rfl⟩)
              | (go_at_call 69; refine (HJN.out _ HWx.out).mono ?_; rintro e w4 ⟨rfl, hb4⟩; have HS4 := Lib.hid (HSx.out.below hb4); have HW4 := Lib.hid (HWx.out.trans (hb4.mono (by have := HSx.out.lt; omega))); clear hb4)
              | (go_at_call 55; refine (sb_string b b (pr k) (J ++ [10]) _ HS4.out (by simp; omega) (by have := HS4.out.lt; omega)).mono ?_; rintro e w5 ⟨⟨kk2, rfl⟩, hs5, hb5, -⟩; have HS5 := Lib.hid hs5; have HW5 := Lib.hid (HW4.out.trans hb5); clear hs5 hb5))
            go_roundw
            case rel => exact ⟨k + 1, by omega, by go_num, Lib.hid (by rw [HN2.out]; exact HS5.out), HW5⟩
            case measure => simp [intOf]; omega
          · have HN2 := Lib.hid (show pr (k + 1) = (pr k ++ [10]) ++ (J ++ [10]) by rw [HNX, hline, show decide (k = 0) = false from decide_eq_false h0, if_neg (by simp), List.append_assoc])
            have hkp : 0 < k := by omega
            have hkq : (0 : Int) < (k : Int) := by omega
            clear hline HNX h0 h1 hJ
            go_wp2_with (first
              | (go_at_call 67; refine (sb_nl b b (pr k) _ HSx.out (by omega) (by have := HSx.out.lt; omega)).mono ?_; rintro e w2 ⟨rfl, hs2, hb2, ho2⟩; have HS2 := Lib.hid hs2; have HW2 := Lib.hid (HWx.out.trans hb2); have HB2 := Lib.hid (HBx.out.others ho2 hkb (by decide)); have k0 : w2.cell? ⟨wr.heap.size, 0, none⟩ = some (.int .i64 kd) := HB2.out.cell 0; have k1 : w2.cell? ⟨wr.heap.size, 1, none⟩ = some (.slice (some ⟨g, 0, none⟩) ws.length xc) := HB2.out.cell 1; have lk := HB2.out.lt; clear hs2 hb2 ho2)
              | (go_at_call 68; refine (HMO.out _).mono ?_; rintro e w7 ⟨rfl, rfl⟩)
              | (go_at_call 69; refine (HJN.out _ HW2.out).mono ?_; rintro e w4 ⟨rfl, hb4⟩; have HS4 := Lib.hid (HS2.out.below hb4); have HW4 := Lib.hid (HW2.out.trans (hb4.mono (by have := HS2.out.lt; omega))); clear hb4)
              | (go_at_call 55; refine (sb_string b b (pr k ++ [10]) (J ++ [10]) _ HS4.out (by simp; omega) (by have := HS4.out.lt; omega)).mono ?_; rintro e w5 ⟨⟨kk2, rfl⟩, hs5, hb5, -⟩; have HS5 := Lib.hid hs5; have HW5 := Lib.hid (HW4.out.trans hb5); clear hs5 hb5))
            go_roundw
            case rel => exact ⟨k + 1, by omega, by go_num, Lib.hid (by rw [HN2.out]; exact HS5.out), HW5⟩
            case measure => simp [intOf]; omega
        · obtain ⟨m, hm, hmh⟩ : ∃ m, mk = bs [m] ∧ headL kd = [[m]] := by
            rcases (show kd = 2 ∨ kd = 3 by omega) with h | h
            · exact ⟨35, by rw [HMK.out, h]; try rfl, by rw [h]; try rfl⟩
            · exact ⟨94, by rw [HMK.out, h]; try rfl, by rw [h]; try rfl⟩
          subst hm
          have hm0 : ((bs [m]).toList == ([] : List UInt8)) = false := by rw [Lib.toList_data]; try rfl
          have hM1 : ∀ W, (Op.stringOp .add (bs [m]) ⟨#[32]⟩).run Tryz.prog W = .ok (.string (bs [m, 32])) W := fun W => bs_addT [m] [32] (by simp) W
          have hline : ∀ f, prK f ⟨kd, some ⟨g, 0, none⟩, xc, ws⟩ = (if f = true then [] else [10]) ++ [m, 32] ++ (J ++ [10]) := fun f => by
            unfold prK lineC
            have e8 : Lib.join (headL kd ++ bytesL ws) [32] = [m, 32] ++ J := by
              rw [hmh, hJ]
              cases hw : bytesL ws with
              | nil => exact absurd (List.map_eq_nil_iff.1 hw) hne
              | cons y r => show Lib.join ([m] :: y :: r) [32] = _; rw [join_consQ]; try rfl
            show (if f = true then [] else [10]) ++ Lib.join (headL kd ++ bytesL ws) [32] ++ [10] = _
            rw [e8]; simp
          rcases (show k = 0 ∨ k ≠ 0 by omega) with h0 | h0
          · have HN2 := Lib.hid (show pr (k + 1) = (pr k ++ [m, 32]) ++ (J ++ [10]) by rw [HNX, hline, h0]; simp)
            have hkp : ¬ 0 < k := by omega
            have hkq : ¬ (0 : Int) < (k : Int) := by omega
            clear hline HNX h0 h1 hJ
            have ST1 : True := trivial
            go_wp2_with (first
              | (go_at_call 68; refine (HMO.out _).mono ?_; rintro e w7 ⟨rfl, rfl⟩)
              | (go_at_call 55; have ST0 := ST1; clear ST0 ST1; refine (sb_string b b (pr k) [m, 32] _ HSx.out (by simp; omega) (by have := HSx.out.lt; omega)).mono ?_; rintro e w3 ⟨⟨kk, rfl⟩, hs3, hb3, ho3⟩; have HS3 := Lib.hid hs3; have HW3 := Lib.hid (HWx.out.trans hb3); have HB3 := Lib.hid (HBx.out.others ho3 hkb (by decide)); have k0 : w3.cell? ⟨wr.heap.size, 0, none⟩ = some (.int .i64 kd) := HB3.out.cell 0; have k1 : w3.cell? ⟨wr.heap.size, 1, none⟩ = some (.slice (some ⟨g, 0, none⟩) ws.length xc) := HB3.out.cell 1; have lk := HB3.out.lt; clear hs3 hb3 ho3)
              | (go_at_call 69; refine (HJN.out _ HW3.out).mono ?_; rintro e w4 ⟨rfl, hb4⟩; have HS4 := Lib.hid (HS3.out.below hb4); have HW4 := Lib.hid (HW3.out.trans (hb4.mono (by have := HS3.out.lt; omega))); clear hb4)
              | (go_at_call 55; refine (sb_string b b ((pr k) ++ [m, 32]) (J ++ [10]) _ HS4.out (by simp; omega) (by have := HS4.out.lt; omega)).mono ?_; rintro e w5 ⟨⟨kk2, rfl⟩, hs5, hb5, -⟩; have HS5 := Lib.hid hs5; have HW5 := Lib.hid (HW4.out.trans hb5); clear hs5 hb5))
            go_roundw
            case rel => exact ⟨k + 1, by omega, by go_num, Lib.hid (by rw [HN2.out]; exact HS5.out), HW5⟩
            case measure => simp [intOf]; omega
          · have HN2 := Lib.hid (show pr (k + 1) = ((pr k ++ [10]) ++ [m, 32]) ++ (J ++ [10]) by rw [HNX, hline, show decide (k = 0) = false from decide_eq_false h0, if_neg (by simp)]; simp)
            have hkp : 0 < k := by omega
            have hkq : (0 : Int) < (k : Int) := by omega
            clear hline HNX h0 h1 hJ
            have ST1 : True := trivial
            go_wp2_with (first
              | (go_at_call 67; refine (sb_nl b b (pr k) _ HSx.out (by omega) (by have := HSx.out.lt; omega)).mono ?_; rintro e w2 ⟨rfl, hs2, hb2, ho2⟩; have HS2 := Lib.hid hs2; have HW2 := Lib.hid (HWx.out.trans hb2); have HB2 := Lib.hid (HBx.out.others ho2 hkb (by decide)); have k0 : w2.cell? ⟨wr.heap.size, 0, none⟩ = some (.int .i64 kd) := HB2.out.cell 0; have k1 : w2.cell? ⟨wr.heap.size, 1, none⟩ = some (.slice (some ⟨g, 0, none⟩) ws.length xc) := HB2.out.cell 1; have lk := HB2.out.lt; clear hs2 hb2 ho2)
              | (go_at_call 68; refine (HMO.out _).mono ?_; rintro e w7 ⟨rfl, rfl⟩)
              | (go_at_call 55; have ST0 := ST1; clear ST0 ST1; refine (sb_string b b (pr k ++ [10]) [m, 32] _ HS2.out (by simp; omega) (by have := HS2.out.lt; omega)).mono ?_; rintro e w3 ⟨⟨kk, rfl⟩, hs3, hb3, ho3⟩; have HS3 := Lib.hid hs3; have HW3 := Lib.hid (HW2.out.trans hb3); have HB3 := Lib.hid (HB2.out.others ho3 hkb (by decide)); have k0 : w3.cell? ⟨wr.heap.size, 0, none⟩ = some (.int .i64 kd) := HB3.out.cell 0; have k1 : w3.cell? ⟨wr.heap.size, 1, none⟩ = some (.slice (some ⟨g, 0, none⟩) ws.length xc) := HB3.out.cell 1; have lk := HB3.out.lt; clear hs3 hb3 ho3)
              | (go_at_call 69; refine (HJN.out _ HW3.out).mono ?_; rintro e w4 ⟨rfl, hb4⟩; have HS4 := Lib.hid (HS3.out.below hb4); have HW4 := Lib.hid (HW3.out.trans (hb4.mono (by have := HS3.out.lt; omega))); clear hb4)
              | (go_at_call 55; refine (sb_string b b ((pr k ++ [10]) ++ [m, 32]) (J ++ [10]) _ HS4.out (by simp; omega) (by have := HS4.out.lt; omega)).mono ?_; rintro e w5 ⟨⟨kk2, rfl⟩, hs5, hb5, -⟩; have HS5 := Lib.hid hs5; have HW5 := Lib.hid (HW4.out.trans hb5); clear hs5 hb5))
            go_roundw
            case rel => exact ⟨k + 1, by omega, by go_num, Lib.hid (by rw [HN2.out]; exact HS5.out), HW5⟩
            case measure => simp [intOf]; omega
      · obtain rfl : l.length = k := by omega
        have HTX := Lib.hid (sb_text b b (pr l.length) wr HS.out (by have := HS.out.lt; omega))
        rw [HE.out] at HTX
        go_wp2_with (first | (go_at_call 58; refine HTX.out.mono ?_; rintro e w2 ⟨rfl, hb2⟩))
        go_ret2
        exact ⟨rfl, HWB.out _ (HW.out.trans hb2)⟩
  · rw [if_neg he]
    have heb : (er != 0) = true := by simpa using he
    go_enter Tryz.func21, Tryz.ntmps21
    go_wp2_with (first | (go_at_call 19; refine HCK.out.mono ?_; rintro e w1 ⟨rfl, hb1⟩))
    go_ret2
    exact ⟨rfl, hb1⟩
end Go.Proofs.YtomblajlpanmjaaGreatDoor

namespace Go.Proofs.YtomblajlpanmjaaGreatDoor
open Go.RowKit Go.Maps Go.Shelf

theorem join_snocQ : ∀ (a : List (List UInt8)) (x s : List UInt8), a ≠ [] → Lib.join (a ++ [x]) s = Lib.join a s ++ s ++ x
  | [], _, _, h => absurd rfl h
  | [y], x, s, _ => by rw [List.singleton_append, join_consQ, join_oneQ, join_oneQ]
  | y :: z :: r, x, s, _ => by
    have ih := join_snocQ (z :: r) x s (by simp)
    rw [show (y :: z :: r) ++ [x] = y :: z :: (r ++ [x]) from rfl, join_consQ, join_consQ]
    rw [show (z :: r) ++ [x] = z :: (r ++ [x]) from rfl] at ih
    rw [ih]; simp
/-- A line under way. -/
def lnC (kd : Int) (ws : List ByteArray) (m : Nat) : List UInt8 := Lib.join (headL kd ++ (bytesL ws).take m) [32]
theorem join_nil {L : List (List UInt8)} (h : ∀ y ∈ L, y ≠ []) : Lib.join L [32] = [] ↔ L = [] := by
  constructor
  · intro e
    match L, h, e with
    | [], _, _ => rfl
    | [x], h, e => rw [join_oneQ] at e; exact absurd e (h x List.mem_cons_self)
    | x :: y :: r, _, e => rw [join_consQ] at e; simp at e
  · intro e; rw [e]; simp [Lib.join, List.intercalate, List.intersperse]
theorem lnC_step {kd : Int} {ws : List ByteArray} (hw : ∀ s ∈ ws, isWordB s = true) {m : Nat} (hm : m < ws.length) : (lnC kd ws m = [] → lnC kd ws (m + 1) = ws[m].data.toList) ∧ (lnC kd ws m ≠ [] → lnC kd ws (m + 1) = lnC kd ws m ++ [32] ++ ws[m].data.toList) := by
  have hne : ∀ y ∈ headL kd ++ (bytesL ws).take m, y ≠ [] := fun y hy e => by
    rcases List.mem_append.1 hy with hy | hy
    · rcases head_bytes hy with e3 | e3 <;> rw [e] at e3 <;> cases e3
    · have hy := List.mem_of_mem_take hy
      unfold bytesL at hy
      obtain ⟨s, hs, e3⟩ := List.mem_map.1 hy
      have h9 := (word_bytes (hw s hs)).1
      have : s.data.toList.length = s.size := Array.length_toList
      rw [e3, e] at this; simp at this; omega
  have hml : m < (bytesL ws).length := by unfold bytesL; rw [List.length_map]; exact hm
  have e : headL kd ++ (bytesL ws).take (m + 1) = (headL kd ++ (bytesL ws).take m) ++ [ws[m].data.toList] := by
    rw [List.take_succ_eq_append_getElem hml, List.append_assoc]
    congr 2
    simp [bytesL]
  unfold lnC
  rw [e]
  constructor
  · intro h
    rw [(join_nil hne).1 h, List.nil_append, join_oneQ]
  · intro h
    rw [join_snocQ _ _ _ (fun e2 => h ((join_nil hne).2 e2))]
theorem lnC_len {kd : Int} {ws : List ByteArray} (hw : ∀ s ∈ ws, isWordB s = true) (hl : ws.length ≤ 100) (m : Nat) : (lnC kd ws m).length ≤ 3200 := by
  have h1 := join_lenQ (L := headL kd ++ (bytesL ws).take m) (fun y hy => by
    rcases List.mem_append.1 hy with hy | hy
    · rcases head_bytes hy with rfl | rfl <;> simp
    · have hy := List.mem_of_mem_take hy
      unfold bytesL at hy
      obtain ⟨s, hs, rfl⟩ := List.mem_map.1 hy
      have h9 := (word_bytes (hw s hs)).1
      rw [show s.data.toList.length = s.size from Array.length_toList]; omega)
  have h2 : (headL kd).length ≤ 1 := by
    unfold headL
    split
    · simp
    · split <;> simp
  have h3 : ((bytesL ws).take m).length ≤ 100 := by
    rw [List.length_take]
    have h4 : (bytesL ws).length = ws.length := by unfold bytesL; rw [List.length_map]
    omega
  rw [List.length_append] at h1
  unfold lnC
  omega
set_option maxRecDepth 100000 in
set_option maxHeartbeats 4000000 in
theorem refPrint_any (A : Option Addr) (l : List CP) (c : Nat) (w : World) (hX : PartsAt w A l) (hg : ∀ x ∈ l, gdP x) (hl : l.length ≤ 60) :
    Calls Tryz.prog 24 #[.slice A l.length c] w fun e w' => e = .returned (.string (bs (prL true l))) ∧ w = w' := by
  have HG := Lib.hid hg; have HX := Lib.hid hX
  obtain ⟨pr, hpr⟩ : ∃ pr : Nat → List UInt8, pr = fun k => prL true (l.take k) := ⟨_, rfl⟩
  have HST := Lib.hid (show ∀ k (hk : k < l.length), pr (k + 1) = pr k ++ prK (decide (k = 0)) l[k] from fun k hk => by rw [hpr]; exact prL_step hk)
  have HB1 := Lib.hid (show ∀ k, k ≤ l.length → (pr k).length ≤ 200000 from fun k hk => by
    have h1 := prL_len (l := l.take k) true (fun x hx => hg x (List.mem_of_mem_take hx))
    rw [List.length_take] at h1
    rw [hpr]; show (prL true (l.take k)).length ≤ _; omega)
  have HE := Lib.hid (show pr l.length = prL true l by rw [hpr]; show prL true (l.take l.length) = _; rw [List.take_length])
  have HZ := Lib.hid (show pr 0 = [] by rw [hpr]; try rfl)
  obtain ⟨R, hR⟩ : ∃ R, R = prL true l := ⟨_, rfl⟩
  rw [← hR] at HE ⊢
  clear hpr hR hg hX
  go_enter Tryz.func24, Tryz.ntmps24
  go_wp2_with fail
  go_loop [3, 4] (fun s i => ∃ k : Nat, ∃ u : List UInt8, k ≤ l.length ∧ i = .int .i64 k ∧ s = .string (bs u) ∧ Hid (u = pr k)) (fun _ i => l.length - (intOf i).toNat)
  case atStart => exact ⟨0, [], Nat.zero_le _, rfl, rfl, Lib.hid HZ.out.symm⟩
  case round =>
    obtain ⟨k, u, hk, rfl, rfl, HU⟩ := hrel
    by_cases hlt : k < l.length
    · have hkI : (k : Int) < (l.length : Int) := by omega
      obtain ⟨ad, rfl, had, ⟨p0, p1⟩, htx⟩ := HX.out k hlt
      have hgd := HG.out _ (List.getElem_mem hlt)
      have HNX := Lib.hid (HST.out k hlt)
      have hul : u.length ≤ 200000 := by rw [HU.out]; exact HB1.out k hk
      have eK : l.getD k noCP = l[k] := by rw [List.getD_eq_getElem?_getD, List.getElem?_eq_getElem hlt]; try rfl
      rw [eK] at p0 p1 htx
      obtain ⟨x, ex⟩ : ∃ x, x = l[k] := ⟨_, rfl⟩
      rw [← ex] at p0 p1 htx hgd HNX
      obtain ⟨kd, xa, xc, ws⟩ := x
      dsimp only at p0 p1 htx
      obtain ⟨⟨hk1, hk3⟩, hne, hwl, hww, -⟩ := hgd
      dsimp only at hk1 hk3 hne hwl hww
      have HTX := Lib.hid htx; have HWW := Lib.hid hww
      have hwl : ws.length ≤ 100 := hwl
      obtain ⟨v, ev⟩ : ∃ v, v = u ++ (if decide (k = 0) = true then [] else [10]) := ⟨_, rfl⟩
      have hvl : v.length ≤ 200001 := by
        rw [ev, List.length_append]
        split
        · simp; omega
        · simp; omega
      have HK2 := Lib.hid (show pr (k + 1) = v ++ lnC kd ws ws.length ++ [10] by
        have e9 : lnC kd ws ws.length = lineC ⟨kd, xa, xc, ws⟩ := by
          unfold lnC lineC
          have e8 : (bytesL ws).take ws.length = bytesL ws := List.take_of_length_le (by unfold bytesL; rw [List.length_map]; exact Nat.le_refl _)
          rw [e8]
        rw [HNX.out, ev, HU.out, e9]
        unfold prK
        simp)
      have HLS := Lib.hid (fun m (hm : m < ws.length) => lnC_step (kd := kd) hww hm)
      have HLL := Lib.hid (fun m => lnC_len (kd := kd) hww hwl m)
      obtain ⟨ln, hln⟩ : ∃ ln : Nat → List UInt8, ln = lnC kd ws := ⟨_, rfl⟩
      have HL0 := Lib.hid (show ln 0 = Lib.join (headL kd) [32] by rw [hln]; show Lib.join (headL kd ++ (bytesL ws).take 0) [32] = _; simp)
      rw [← hln] at HLS HLL HK2
      have HEV := Lib.hid ev
      clear hln eK ex htx hww ev
      have hstart : (k = 0 ∧ v = u) ∨ (k ≠ 0 ∧ v = u ++ [10]) := by
        rcases (show k = 0 ∨ k ≠ 0 by omega) with h | h
        · left; refine ⟨h, ?_⟩; rw [HEV.out, if_pos (decide_eq_true h), List.append_nil]
        · right; refine ⟨h, ?_⟩; rw [HEV.out, if_neg (by simp [h])]
      have hkd : ((kd == 2) = true ∧ (kd == 3) = false ∧ ln 0 = [35]) ∨ ((kd == 2) = false ∧ (kd == 3) = true ∧ ln 0 = [94]) ∨ ((kd == 2) = false ∧ (kd == 3) = false ∧ ln 0 = []) := by
        rcases (show kd = 2 ∨ kd = 3 ∨ kd = 1 by omega) with h | h | h
        · left; rw [HL0.out, h]; exact ⟨rfl, rfl, by show Lib.join [[35]] [32] = _; rw [join_oneQ]⟩
        · right; left; rw [HL0.out, h]; exact ⟨rfl, rfl, by show Lib.join [[94]] [32] = _; rw [join_oneQ]⟩
        · right; right; rw [HL0.out, h]; exact ⟨rfl, rfl, by show Lib.join [] [32] = _; simp [Lib.join, List.intercalate, List.intersperse]⟩
      rcases hstart with ⟨h0, hv⟩ | ⟨h0, hv⟩
      · have hkp : ¬ 0 < k := by omega
        have hkq : ¬ (0 : Int) < (k : Int) := by omega
        subst hv
        clear h0 HEV
        rcases hkd with ⟨e2, e3, hz⟩ | ⟨e2, e3, hz⟩ | ⟨e2, e3, hz⟩
        all_goals
          have HZ0 := Lib.hid hz
          clear hz
          go_wp2_with fail
          go_loop [5, 6] (fun t j => ∃ m : Nat, ∃ y : List UInt8, m ≤ ws.length ∧ j = .int .i64 m ∧ t = .string (bs y) ∧ Hid (y = ln m)) (fun _ j => ws.length - (intOf j).toNat)
          case atStart => exact ⟨0, _, Nat.zero_le _, rfl, rfl, Lib.hid HZ0.out.symm⟩
          case round =>
            obtain ⟨m, y, hm, rfl, rfl, HY⟩ := hrel
            by_cases hml : m < ws.length
            · have hmI : (m : Int) < (ws.length : Int) := by omega
              obtain ⟨ga, exa, hga, t0⟩ := HTX.out m hml
              subst exa
              obtain ⟨q1, q2⟩ := HLS.out m hml
              have hw1 := (word_bytes (HWW.out _ (List.getElem_mem hml))).1
              rw [List.getD_eq_getElem?_getD, List.getElem?_eq_getElem hml, Option.getD_some] at t0
              obtain ⟨z, ez⟩ : ∃ z, z = ws[m].data.toList := ⟨_, rfl⟩
              have hzb : ws[m] = bs z := by rw [ez]; unfold bs; simp
              have hzl : z.length ≤ 30 := by rw [ez, show ws[m].data.toList.length = ws[m].size from Array.length_toList]; omega
              rw [hzb] at t0
              rw [← ez, ← HY.out] at q1 q2
              have hyl : y.length ≤ 3200 := by rw [HY.out]; exact HLL.out m
              clear ez hzb hw1
              by_cases hy0 : y = []
              · have e0 : ((bs y).toList == ([] : List UInt8)) = true := by rw [hy0, Lib.toList_data]; try rfl
                have hadd : ∀ W, (Op.stringOp .add (bs y) (bs z)).run Tryz.prog W = .ok (.string (bs z)) W := fun W => by
                  have h := bs_addT y z (by omega) W
                  rw [show y ++ z = z by rw [hy0]; try rfl] at h; exact h
                have HQ := Lib.hid (q1 hy0)
                clear q1 q2 hy0
                go_wp2_with fail
                go_round
                case rel => exact ⟨m + 1, z, by omega, by go_num, rfl, Lib.hid HQ.out.symm⟩
                case measure => simp [intOf]; omega
              · have e0 : ((bs y).toList == ([] : List UInt8)) = false := by rw [Lib.toList_data, bs_dataQ, beq_eq_false_iff_ne]; exact hy0
                obtain ⟨y1, ey1⟩ : ∃ y1, y1 = y ++ [32] := ⟨_, rfl⟩
                obtain ⟨y2, ey2⟩ : ∃ y2, y2 = y1 ++ z := ⟨_, rfl⟩
                have hadd : ∀ W, (Op.stringOp .add (bs y) ⟨#[32]⟩).run Tryz.prog W = .ok (.string (bs y1)) W := fun W => by rw [ey1]; exact bs_addT y [32] (by simp; omega) W
                have hadd2 : ∀ W, (Op.stringOp .add (bs y1) (bs z)).run Tryz.prog W = .ok (.string (bs y2)) W := fun W => by rw [ey2]; exact bs_addT y1 z (by rw [ey1, List.length_append]; simp; omega) W
                have HQ := Lib.hid (show ln (m + 1) = y2 by rw [q2 hy0, ey2, ey1])
                clear q1 q2 hy0 ey1 ey2
                go_wp2_with fail
                go_round
                case rel => exact ⟨m + 1, y2, by omega, by go_num, rfl, Lib.hid HQ.out.symm⟩
                case measure => simp [intOf]; omega
            · obtain rfl : ws.length = m := by omega
              have hyl : y.length ≤ 3200 := by rw [HY.out]; exact HLL.out _
              obtain ⟨v1, ev1⟩ : ∃ v1, v1 = v ++ y := ⟨_, rfl⟩
              obtain ⟨v2, ev2⟩ : ∃ v2, v2 = v1 ++ [10] := ⟨_, rfl⟩
              have hadd : ∀ W, (Op.stringOp .add (bs v) (bs y)).run Tryz.prog W = .ok (.string (bs v1)) W := fun W => by rw [ev1]; exact bs_addT v y (by omega) W
              have hadd2 : ∀ W, (Op.stringOp .add (bs v1) ⟨#[10]⟩).run Tryz.prog W = .ok (.string (bs v2)) W := fun W => by rw [ev2]; exact bs_addT v1 [10] (by rw [ev1, List.length_append]; simp; omega) W
              have HQ := Lib.hid (show pr (k + 1) = v2 by rw [HK2.out, ev2, ev1, HY.out])
              clear ev1 ev2
              go_wp2_with fail
              go_round
              case rel => exact ⟨k + 1, v2, by omega, by go_num, rfl, Lib.hid HQ.out.symm⟩
              case measure => simp [intOf]; omega
      · have hkp : 0 < k := by omega
        have hkq : (0 : Int) < (k : Int) := by omega
        have hnl : ∀ W, (Op.stringOp .add (bs u) ⟨#[10]⟩).run Tryz.prog W = .ok (.string (bs v)) W := fun W => by rw [hv]; exact bs_addT u [10] (by simp; omega) W
        clear h0 HEV hv
        rcases hkd with ⟨e2, e3, hz⟩ | ⟨e2, e3, hz⟩ | ⟨e2, e3, hz⟩
        all_goals
          have HZ0 := Lib.hid hz
          clear hz
          go_wp2_with fail
          go_loop [5, 6] (fun t j => ∃ m : Nat, ∃ y : List UInt8, m ≤ ws.length ∧ j = .int .i64 m ∧ t = .string (bs y) ∧ Hid (y = ln m)) (fun _ j => ws.length - (intOf j).toNat)
          case atStart => exact ⟨0, _, Nat.zero_le _, rfl, rfl, Lib.hid HZ0.out.symm⟩
          case round =>
            obtain ⟨m, y, hm, rfl, rfl, HY⟩ := hrel
            by_cases hml : m < ws.length
            · have hmI : (m : Int) < (ws.length : Int) := by omega
              obtain ⟨ga, exa, hga, t0⟩ := HTX.out m hml
              subst exa
              obtain ⟨q1, q2⟩ := HLS.out m hml
              have hw1 := (word_bytes (HWW.out _ (List.getElem_mem hml))).1
              rw [List.getD_eq_getElem?_getD, List.getElem?_eq_getElem hml, Option.getD_some] at t0
              obtain ⟨z, ez⟩ : ∃ z, z = ws[m].data.toList := ⟨_, rfl⟩
              have hzb : ws[m] = bs z := by rw [ez]; unfold bs; simp
              have hzl : z.length ≤ 30 := by rw [ez, show ws[m].data.toList.length = ws[m].size from Array.length_toList]; omega
              rw [hzb] at t0
              rw [← ez, ← HY.out] at q1 q2
              have hyl : y.length ≤ 3200 := by rw [HY.out]; exact HLL.out m
              clear ez hzb hw1
              by_cases hy0 : y = []
              · have e0 : ((bs y).toList == ([] : List UInt8)) = true := by rw [hy0, Lib.toList_data]; try rfl
                have hadd : ∀ W, (Op.stringOp .add (bs y) (bs z)).run Tryz.prog W = .ok (.string (bs z)) W := fun W => by
                  have h := bs_addT y z (by omega) W
                  rw [show y ++ z = z by rw [hy0]; try rfl] at h; exact h
                have HQ := Lib.hid (q1 hy0)
                clear q1 q2 hy0
                go_wp2_with fail
                go_round
                case rel => exact ⟨m + 1, z, by omega, by go_num, rfl, Lib.hid HQ.out.symm⟩
                case measure => simp [intOf]; omega
              · have e0 : ((bs y).toList == ([] : List UInt8)) = false := by rw [Lib.toList_data, bs_dataQ, beq_eq_false_iff_ne]; exact hy0
                obtain ⟨y1, ey1⟩ : ∃ y1, y1 = y ++ [32] := ⟨_, rfl⟩
                obtain ⟨y2, ey2⟩ : ∃ y2, y2 = y1 ++ z := ⟨_, rfl⟩
                have hadd : ∀ W, (Op.stringOp .add (bs y) ⟨#[32]⟩).run Tryz.prog W = .ok (.string (bs y1)) W := fun W => by rw [ey1]; exact bs_addT y [32] (by simp; omega) W
                have hadd2 : ∀ W, (Op.stringOp .add (bs y1) (bs z)).run Tryz.prog W = .ok (.string (bs y2)) W := fun W => by rw [ey2]; exact bs_addT y1 z (by rw [ey1, List.length_append]; simp; omega) W
                have HQ := Lib.hid (show ln (m + 1) = y2 by rw [q2 hy0, ey2, ey1])
                clear q1 q2 hy0 ey1 ey2
                go_wp2_with fail
                go_round
                case rel => exact ⟨m + 1, y2, by omega, by go_num, rfl, Lib.hid HQ.out.symm⟩
                case measure => simp [intOf]; omega
            · obtain rfl : ws.length = m := by omega
              have hyl : y.length ≤ 3200 := by rw [HY.out]; exact HLL.out _
              obtain ⟨v1, ev1⟩ : ∃ v1, v1 = v ++ y := ⟨_, rfl⟩
              obtain ⟨v2, ev2⟩ : ∃ v2, v2 = v1 ++ [10] := ⟨_, rfl⟩
              have hadd : ∀ W, (Op.stringOp .add (bs v) (bs y)).run Tryz.prog W = .ok (.string (bs v1)) W := fun W => by rw [ev1]; exact bs_addT v y (by omega) W
              have hadd2 : ∀ W, (Op.stringOp .add (bs v1) ⟨#[10]⟩).run Tryz.prog W = .ok (.string (bs v2)) W := fun W => by rw [ev2]; exact bs_addT v1 [10] (by rw [ev1, List.length_append]; simp; omega) W
              have HQ := Lib.hid (show pr (k + 1) = v2 by rw [HK2.out, ev2, ev1, HY.out])
              clear ev1 ev2
              go_wp2_with fail
              go_round
              case rel => exact ⟨k + 1, v2, by omega, by go_num, rfl, Lib.hid HQ.out.symm⟩
              case measure => simp [intOf]; omega
    · obtain rfl : l.length = k := by omega
      have HUE := Lib.hid (show u = R by rw [HU.out, HE.out])
      go_wp2_with fail
      go_ret
      exact ⟨by rw [HUE.out]; try rfl, rfl⟩
end Go.Proofs.YtomblajlpanmjaaGreatDoor

namespace Go.Proofs.YtomblajlpanmjaaGreatDoor
open Go.RowKit Go.Maps Go.Shelf

theorem run_eq_mark0 (d : Nat) (a b : Int) (w : World) : (Op.equalIn (d + 2) 49 (.agg #[.int .i64 a, .int .i64 b]) (.agg #[.int .i64 a, .int .i64 b])).run Tryz.prog w = .ok true w := by
  have hi := fun (x y : Int) (W : World) => run_equalIn_int (P := Tryz.prog) W d 3 .i64 .i64 x y Tryz.underlying3
  have h := run_equalIn_agg (P := Tryz.prog) w (d + 1) 49 #[.int .i64 a, .int .i64 b] #[.int .i64 a, .int .i64 b] (by kernel_rfl) (by kernel_rfl)
  rw [h]
  have hu := Tryz.underlying49
  have hr := fun W : World => run_underlying (w := W) Tryz.underlying3
  simp only [Program.fieldsOf, hu]
  simp [Op.eqFields, part, isAgg, hr, hi, go_sem]
theorem eql_mark (a b : Int) (w : World) : (binOp .eql 49 (.agg #[.int .i64 a, .int .i64 b]) (.agg #[.int .i64 a, .int .i64 b])).run Tryz.prog w = .ok (.bool true) w := by
  rw [run_eql_struct, run_eq_mark0]; try rfl
theorem light_len {l : List CP} (h : lightB l = true) : (l.length ≤ 5 ∨ 60 < l.length) ∧ l.length ≤ 62 ∧ ∀ k, k < l.length → (l.getD k noCP).l.length ≤ 102 := by
  unfold lightB at h
  split at h
  · cases h
  · rename_i hs
    have h62 : (l.length ≤ 5 ∨ 60 < l.length) ∧ l.length ≤ 62 := by unfold sizeBad at hs; omega
    refine ⟨h62.1, h62.2, fun k hk => ?_⟩
    cases hc : firstAt (darkP l) (l.length - 0) 0 with
    | some i => rw [hc] at h; cases h
    | none =>
      have h2 := firstAt_none hc k (Nat.zero_le _) (by omega)
      unfold darkP at h2
      have h3 : shortB (l.getD k noCP).l 8 100 = true := by simpa using h2
      unfold shortB at h3
      split at h3
      · cases h3
      · rename_i hs2
        unfold sizeBad at hs2; omega
theorem getD_nCP (l : List CP) (j : Nat) : (l.map nCP).getD j noCP = nCP (l.getD j noCP) := by
  rw [List.getD_eq_getElem?_getD, List.getD_eq_getElem?_getD, List.getElem?_map]
  cases l[j]? <;> rfl
theorem checkP_nCP (l : List CP) : checkP (l.map nCP) = checkP l := by
  have e : isBadP (l.map nCP) = isBadP l := by
    funext j
    unfold isBadP
    rw [getD_nCP]; try rfl
  unfold checkP
  rw [e, List.length_map]
  split
  · rfl
  · cases firstAt (isBadP l) (l.length - 0) 0 with
    | none => rfl
    | some i =>
      dsimp only
      rw [show ((l.map nCP).getD i noCP) = nCP (l.getD i noCP) from getD_nCP l i]; try rfl
theorem prL_nCP : ∀ (f : Bool) (l : List CP), prL f (l.map nCP) = prL f l
  | _, [] => rfl
  | f, x :: r => by
    show prK f (nCP x) ++ prL false (r.map nCP) = prK f x ++ prL false r
    rw [prL_nCP false r]; try rfl
theorem map_nCP {l l2 : List CP} (h1 : l2.length = l.length) (h2 : ∀ k, k < l.length → (l2.getD k noCP).kd = (l.getD k noCP).kd ∧ (l2.getD k noCP).l = (l.getD k noCP).l) : l2.map nCP = l.map nCP := by
  refine List.ext_getElem (by rw [List.length_map, List.length_map, h1]) fun k hk1 hk2 => ?_
  have hk : k < l.length := by rw [List.length_map] at hk2; exact hk2
  have hk3 : k < l2.length := by omega
  obtain ⟨e1, e2⟩ := h2 k hk
  rw [List.getD_eq_getElem?_getD, List.getD_eq_getElem?_getD, List.getElem?_eq_getElem hk, List.getElem?_eq_getElem hk3] at e1 e2
  rw [List.getElem_map, List.getElem_map]
  have e1 : l2[k].kd = l[k].kd := e1
  have e2 : l2[k].l = l[k].l := e2
  unfold nCP; rw [e1, e2]
set_option maxRecDepth 100000 in
set_option maxHeartbeats 8000000 in
theorem copies_walk (A : Option Addr) (l : List CP) (c : Nat) (w : World) (hX : PartsAt w A l) (hO : OkP l) (hcP : ∀ k, k < l.length → ((l.getD k noCP).a = none → (l.getD k noCP).c = 0)) (hT : TabOk w) (hM : ∃ m, w.cell? ⟨0, 0, none⟩ = some (.int .i64 m)) (h0 : 0 < w.heap.size) :
    Calls Tryz.prog 4 #[.slice A l.length c] w fun e w' => e = .returned (.bool true) ∧ Below w.heap.size w w' := by
  have HAW := Lib.hid (awake_any w hT)
  have HLI := Lib.hid (fun W (h : PartsAt W A l) => light_any A l c W h hO)
  have HRC := Lib.hid (fun W (h : PartsAt W A l) => refCheckParts_any A l c W h hO)
  obtain ⟨nn, er, hP⟩ : ∃ nn er, checkP l = (nn, er) := ⟨_, _, rfl⟩
  rw [hP] at HRC
  dsimp only at HRC
  have HXW := Lib.hid (fun W (hb : Below w.heap.size w W) => show PartsAt W A l from hX.below hb)
  have HMW := Lib.hid (fun W (hb : Below w.heap.size w W) => show (∃ m, W.cell? ⟨0, 0, none⟩ = some (.int .i64 m)) ∧ 0 < W.heap.size from ⟨by obtain ⟨m, hm⟩ := hM; exact ⟨m, (hb.cell (p := ⟨0, 0, none⟩) h0).trans hm⟩, Nat.lt_of_lt_of_le h0 hb.size⟩)
  have hX0 := Lib.hid hX
  cases hli : lightB l with
  | false =>
    rw [hli] at HLI
    clear hP hX hcP hM
    go_enter Tryz.func4, Tryz.ntmps4
    go_wp2_with (first
      | (go_at_call 8; refine HAW.out.mono ?_; rintro e w1 ⟨rfl, hb1⟩)
      | (go_at_call 18; refine (HLI.out _ (HXW.out _ hb1)).mono ?_; rintro e w2 ⟨rfl, rfl⟩))
    go_ret
    exact ⟨rfl, hb1⟩
  | true =>
    rw [hli] at HLI
    obtain ⟨hl5, hl62, hlw⟩ := light_len hli
    have HCO : Hid (∀ W, PartsAt W A l → Calls Tryz.prog 20 #[.slice A l.length c] W fun e w' => ∃ A4 c4 l4, e = .returned (.slice A4 l.length c4) ∧ PartsAt w' A4 l4 ∧ l4.length = l.length ∧ (∀ k, k < l.length → (l4.getD k noCP).kd = (l.getD k noCP).kd ∧ (l4.getD k noCP).l = (l.getD k noCP).l) ∧ (∀ k, k < l.length → (l4.getD k noCP).l.length ≤ (l4.getD k noCP).c ∧ ((l4.getD k noCP).l ≠ [] → ∃ g, (l4.getD k noCP).a = some ⟨g, 0, none⟩)) ∧ Below W.heap.size W w') := Lib.hid (fun W h => by
      refine (copyOf_any A l c W h (by omega) (fun k hk => ⟨by have := hlw k hk; omega, hcP k hk⟩)).mono fun e w' ⟨v, he, hc, hb⟩ => ?_
      obtain ⟨xs, q1, q2⟩ := hc
      have hpo : POwn w' W.heap.size v l.length l (.slice none 0 0) := ⟨xs, q1, fun j hj => by obtain ⟨v2, e1, e2, e3⟩ := q2 j hj; exact ⟨v2, e1, e2, e3, fun q _ e => by cases e⟩⟩
      obtain ⟨A4, c4, l4, e4, r1, r2, r3, r4⟩ := pown_parts2 hpo rfl
      subst e4
      exact ⟨A4, c4, l4, he, r1, r2, r3, r4, hb⟩)
    have HOK4 := Lib.hid (fun (l4 : List CP) (h1 : l4.length = l.length) (h2 : ∀ k, k < l.length → (l4.getD k noCP).kd = (l.getD k noCP).kd ∧ (l4.getD k noCP).l = (l.getD k noCP).l) => show OkP l4 ∧ checkP l4 = (nn, er) ∧ prL true l4 = prL true l from by
      have hm := map_nCP h1 h2
      refine ⟨⟨by rw [h1]; exact hO.1, fun k hk => ?_⟩, by rw [← checkP_nCP l4, hm, checkP_nCP, hP], by rw [← prL_nCP true l4, hm, prL_nCP]⟩
      rw [(h2 k (by omega)).2]
      exact hO.2 k (by omega))
    have HCK := Lib.hid (fun A4 (l4 : List CP) c4 W (h : PartsAt W A4 l4) (h1 : l4.length = l.length) h2 => show Calls Tryz.prog 19 #[.slice A4 l.length c4] W fun e w' => e = .returned (.tuple #[.int .i64 nn, .int .i64 er]) ∧ Below W.heap.size W w' by
      obtain ⟨q1, q2, -⟩ := HOK4.out l4 h1 h2
      have h3 := CheckParts_any A4 l4 c4 W h q1
      rw [q2, h1] at h3
      exact h3)
    obtain ⟨R, hR⟩ : ∃ R, R = prL true l := ⟨_, rfl⟩
    have HPR := Lib.hid (fun A4 (l4 : List CP) c4 W (h : PartsAt W A4 l4) (h1 : l4.length = l.length) h2 (h3 : ∀ k, k < l.length → (l4.getD k noCP).l.length ≤ (l4.getD k noCP).c ∧ ((l4.getD k noCP).l ≠ [] → ∃ g, (l4.getD k noCP).a = some ⟨g, 0, none⟩)) => show Calls Tryz.prog 21 #[.slice A4 l.length c4] W fun e w' => e = .returned (.tuple #[.string (if er = 0 then bs R else ⟨#[]⟩), .int .i64 er]) ∧ Below W.heap.size W w' by
      obtain ⟨q1, q2, q3⟩ := HOK4.out l4 h1 h2
      have h4 := textPrint_any A4 l4 c4 W h q1 (fun k hk => h3 k (by omega))
      unfold PrPost at h4
      rw [q2, h1, q3, ← hR] at h4
      exact h4)
    have hee : (er != er) = false := by simp
    have hnn : (nn != nn) = false := by simp
    by_cases he : er = 0
    · subst he
      obtain ⟨hg, hl60⟩ := check_good (l := l) (by rw [hP])
      have hlen5 : l.length ≤ 5 := by omega
      have hRl : R.length ≤ 60000 := by rw [hR]; have := prL_len true hg; omega
      have HTP := Lib.hid (fun W (h : (∃ m, W.cell? ⟨0, 0, none⟩ = some (.int .i64 m)) ∧ 0 < W.heap.size) => show Calls Tryz.prog 23 #[.string (bs R)] W fun e w' => ∃ A9 c9 l9, e = .returned (.tuple #[.slice A9 l.length c9, .agg #[.int .i64 0, .int .i64 0], .int .i64 0]) ∧ PartsAt w' A9 l9 ∧ l9.length = l.length ∧ (∀ k, k < l.length → (l9.getD k noCP).kd = (l.getD k noCP).kd ∧ (l9.getD k noCP).l = (l.getD k noCP).l) ∧ Below W.heap.size W w' by
        have h2 := textParse_any (bs R) W (by rw [bs_sizeQ]; omega) h.1 h.2
        rw [bs_dataQ, show copyP R = (l.map nCP, (0, 0), 0) by rw [hR]; exact copy_back hg (by omega) (by rw [← hR]; exact hRl)] at h2
        refine h2.mono fun e w' ⟨v, q1, q2, q3⟩ => ?_
        have q2 : POwn w' W.heap.size v (l.map nCP).length (l.map nCP) (.slice none 0 0) := q2
        obtain ⟨A9, c9, l9, e9, r1, r2, r3⟩ := pown_parts q2 rfl
        subst e9
        rw [List.length_map] at q1 r2 r3
        exact ⟨A9, c9, l9, q1, r1, r2, fun k hk => by have h9 := r3 k hk; rw [getD_nCP] at h9; exact h9, q3⟩)
      have HRP := Lib.hid (fun W (h : PartsAt W A l) => show Calls Tryz.prog 24 #[.slice A l.length c] W fun e w' => e = .returned (.string (bs R)) ∧ W = w' by rw [hR]; exact refPrint_any A l c W h hg hl60)
      have HCS := Lib.hid (fun A9 (l9 : List CP) c9 W (h : PartsAt W A9 l9) (h1 : l9.length = l.length) (h2 : ∀ k, k < l.length → (l9.getD k noCP).kd = (l.getD k noCP).kd ∧ (l9.getD k noCP).l = (l.getD k noCP).l) (h3 : PartsAt W A l) => show Calls Tryz.prog 25 #[.slice A9 l.length c9, .slice A l.length c] W fun e w' => e = .returned (.bool true) ∧ Below W.heap.size W w' by
        refine (copies_same A9 A l9 l l.length c9 c W h h3 h1 rfl (by omega) h2 (fun k hk => by rw [(h2 k hk).2]; have := hlw k hk; unfold maxLen; omega)).mono fun e w' ⟨q1, q2⟩ => ⟨q1, q2.below (Below.refl _ _)⟩)
      have hq : ((bs R).toList == (bs R).toList) = true := by simp
      have hmk := eql_mark 0 0
      clear hP hX hcP hM hR hg hRl HOK4 hli hl5 hl62 hlw hl60 hlen5
      go_enter Tryz.func4, Tryz.ntmps4
      have ST1 : True := trivial
      go_wp2_with (first
        | (go_at_call 8; refine HAW.out.mono ?_; rintro e w1 ⟨rfl, hb1⟩; have HB1 := Lib.hid hb1; clear hb1)
        | (go_at_call 18; refine (HLI.out _ (HXW.out _ HB1.out)).mono ?_; rintro e w2 ⟨rfl, rfl⟩)
        | (go_at_call 20; have ST0 := ST1; clear ST0 ST1; refine (HCO.out _ (HXW.out _ HB1.out)).mono ?_; rintro e w3 ⟨A3, c3, l3, rfl, hx3, hn3, hs3, -, hb3⟩; have HB3 := Lib.hid (HB1.out.trans (hb3.mono HB1.out.size)); have HX3 := Lib.hid hx3; have HN3 := Lib.hid hn3; have HS3 := Lib.hid hs3; clear hb3 hx3 hn3 hs3)
        | (go_at_call 19; refine (HCK.out A3 l3 c3 _ HX3.out HN3.out HS3.out).mono ?_; rintro e w4 ⟨rfl, hb4⟩; have HB4 := Lib.hid (HB3.out.trans (hb4.mono HB3.out.size)); clear hb4)
        | (go_at_call 20; refine (HCO.out _ (HXW.out _ HB4.out)).mono ?_; rintro e w5 ⟨A5, c5, l5, rfl, hx5, hn5, hs5, hc5, hb5⟩; have HB5 := Lib.hid (HB4.out.trans (hb5.mono HB4.out.size)); have HX5 := Lib.hid hx5; have HN5 := Lib.hid hn5; have HS5 := Lib.hid hs5; have HC5 := Lib.hid hc5; clear hb5 hx5 hn5 hs5 hc5)
        | (go_at_call 21; refine (HPR.out A5 l5 c5 _ HX5.out HN5.out HS5.out HC5.out).mono ?_; rintro e w6 ⟨rfl, hb6⟩; have HB6 := Lib.hid (HB5.out.trans (hb6.mono HB5.out.size)); clear hb6)
        | (go_at_call 22; refine (HRC.out _ (HXW.out _ HB6.out)).mono ?_; rintro e w7 ⟨rfl, rfl⟩)
        | (go_at_call 23; refine (HTP.out _ (HMW.out _ HB6.out)).mono ?_; rintro e w8 ⟨A8, c8, l8, rfl, hx8, hn8, hs8, hb8⟩; have HB8 := Lib.hid (HB6.out.trans (hb8.mono HB6.out.size)); have HX8 := Lib.hid hx8; have HN8 := Lib.hid hn8; have HS8 := Lib.hid hs8; clear hb8 hx8 hn8 hs8)
        | (go_at_call 24; refine (HRP.out _ (HXW.out _ (HB8.out.alloc HB8.out.size _))).mono ?_; rintro e w9 ⟨rfl, rfl⟩)
        | (go_at_call 25; refine (HCS.out A8 l8 c8 _ (HX8.out.alloc _) HN8.out HS8.out (HXW.out _ (HB8.out.alloc HB8.out.size _))).mono ?_; rintro e w10 ⟨rfl, hb10⟩; have HB10 := Lib.hid ((HB8.out.alloc HB8.out.size _).trans (hb10.mono (HB8.out.alloc HB8.out.size _).size)); clear hb10))
      go_ret
      exact ⟨rfl, HB10.out⟩
    · have heb : (er != 0) = true := by simpa using he
      have hqq : (er == er) = true := by simp
      have hif : (if er = 0 then bs R else ⟨#[]⟩) = (⟨#[]⟩ : ByteArray) := if_neg he
      rw [hif] at HPR
      clear hP hX hcP hM hR HOK4 hli hl5 hl62 hlw he hif
      go_enter Tryz.func4, Tryz.ntmps4
      have ST1 : True := trivial
      go_wp2_with (first
        | (go_at_call 8; refine HAW.out.mono ?_; rintro e w1 ⟨rfl, hb1⟩; have HB1 := Lib.hid hb1; clear hb1)
        | (go_at_call 18; refine (HLI.out _ (HXW.out _ HB1.out)).mono ?_; rintro e w2 ⟨rfl, rfl⟩)
        | (go_at_call 20; have ST0 := ST1; clear ST0 ST1; refine (HCO.out _ (HXW.out _ HB1.out)).mono ?_; rintro e w3 ⟨A3, c3, l3, rfl, hx3, hn3, hs3, -, hb3⟩; have HB3 := Lib.hid (HB1.out.trans (hb3.mono HB1.out.size)); have HX3 := Lib.hid hx3; have HN3 := Lib.hid hn3; have HS3 := Lib.hid hs3; clear hb3 hx3 hn3 hs3)
        | (go_at_call 19; refine (HCK.out A3 l3 c3 _ HX3.out HN3.out HS3.out).mono ?_; rintro e w4 ⟨rfl, hb4⟩; have HB4 := Lib.hid (HB3.out.trans (hb4.mono HB3.out.size)); clear hb4)
        | (go_at_call 20; refine (HCO.out _ (HXW.out _ HB4.out)).mono ?_; rintro e w5 ⟨A5, c5, l5, rfl, hx5, hn5, hs5, hc5, hb5⟩; have HB5 := Lib.hid (HB4.out.trans (hb5.mono HB4.out.size)); have HX5 := Lib.hid hx5; have HN5 := Lib.hid hn5; have HS5 := Lib.hid hs5; have HC5 := Lib.hid hc5; clear hb5 hx5 hn5 hs5 hc5)
        | (go_at_call 21; refine (HPR.out A5 l5 c5 _ HX5.out HN5.out HS5.out HC5.out).mono ?_; rintro e w6 ⟨rfl, hb6⟩; have HB6 := Lib.hid (HB5.out.trans (hb6.mono HB5.out.size)); clear hb6)
        | (go_at_call 22; refine (HRC.out _ (HXW.out _ HB6.out)).mono ?_; rintro e w7 ⟨rfl, rfl⟩))
      go_ret
      exact ⟨rfl, HB6.out⟩
end Go.Proofs.YtomblajlpanmjaaGreatDoor

namespace Go.Proofs.YtomblajlpanmjaaGreatDoor
open Go.ChangeShapes Go.WideShapes Go.Deep Go.Joins Go.RowKit
set_option maxRecDepth 100000
section
variable {H : Type} {enc : TypeId × Value → H} {w : World}
theorem cellsTexts : Tryz.prog.cellsOf 22 = 1 := by kernel_rfl
theorem open_texts {n : Nat} {v : Value} {x : DataW H × List MemPlace} (h : DataW.trod enc Tryz.prog w 0 (fun _ => true) true n 22 [v] = some x) :
    ∃ t : TX, v = t.val ∧ t.at_ w ∧ (t.a = none → t.c = 0) := by
  rcases open_slice1 Tryz.underlying22 cellsStr h with ⟨e, _⟩ | ⟨a, len, cap, m, k, V, D, Pl, e, _, hl, hm, hmm, _, hi⟩
  · simp only [List.cons.injEq, and_true] at e
    exact ⟨⟨none, 0, []⟩, e, ⟨fun k hk => absurd hk (Nat.not_lt_zero _), Nat.zero_le _, fun k hk => absurd hk (Nat.not_lt_zero _)⟩, fun _ => rfl⟩
  · simp only [List.cons.injEq, and_true] at e
    have hmc : m = cap := by simpa using hmm
    subst hmc
    have hlm : len ≤ m := by simpa using hl
    have hex : ∀ i, i < m → ∃ y : ByteArray, w.cell? (a.add i) = some (.string y) ∧ y.size ≤ maxLen := fun i him => by
      obtain ⟨hc', ht'⟩ := hi i him
      obtain ⟨y, ey, _, hz⟩ := DataW.trod_string Tryz.underlying9 ht'
      simp only [List.cons.injEq, and_true] at ey
      exact ⟨y, by rw [hc', ey], hz⟩
    obtain ⟨X, hX⟩ := choose_lt hex
    have hlen : ((List.range len).map X).length = len := by simp
    refine ⟨⟨some a, m, (List.range len).map X⟩, by unfold TX.val; rw [hlen]; exact e, ⟨fun k hk => ?_, ?_, fun k hk => ?_⟩, fun e => by cases e⟩
    · have hk' : k < len := by rw [← hlen]; exact hk
      rw [range_getD len X noTx hk']
      have h1 := (hX k (by omega)).1
      exact ⟨a, rfl, by have := cell_lt h1; rwa [add_block] at this, h1⟩
    · rw [hlen]; omega
    · have hk' : k < len := by rw [← hlen]; exact hk
      rw [range_getD len X noTx hk']
      exact (hX k (by omega)).2
theorem cellsPart : Tryz.prog.cellsOf 72 = 2 := by kernel_rfl
theorem open_part {n : Nat} {ad : Addr} {cs' : List Value} {x : DataW H × List MemPlace} (hc : w.cells? 0 ad 2 = some cs') (h : DataW.trod enc Tryz.prog w 0 (fun _ => true) true n 72 cs' = some x) :
    ∃ y : CP, PartAt w ad y ∧ TextsAt w y.a y.l ∧ (y.l.length ≤ maxLen ∧ SizesOk y.l) ∧ (y.a = none → y.c = 0) := by
  obtain ⟨xs, m, _, _, _, hlen, hfs⟩ := DataW.trod_struct Tryz.underlying72 h
  match xs, hlen with
  | [y0, y1], _ =>
    have h0 := hfs 0 _ rfl
    have h1 := hfs 1 _ rfl
    obtain ⟨_, hlen2, hat⟩ := World.cells?_some hc
    have k0 := hat 0 (by omega)
    have k1 := hat 1 (by omega)
    match cs', hlen2 with
    | [v0, v1], _ =>
      simp [cellsInt, cellsTexts] at h0 h1 k0 k1
      obtain ⟨i0, e0, _, _⟩ := DataW.trod_int Tryz.underlying3 h0
      obtain ⟨t1, e1, a1, n1⟩ := open_texts h1
      simp only [List.cons.injEq, and_true] at e0 e1
      subst e0 e1
      refine ⟨⟨i0, t1.a, t1.c, t1.l⟩, ⟨k0, ?_⟩, a1.1, ⟨a1.2.1, a1.2.2⟩, n1⟩
      rw [add_one (by omega)] at k1
      exact k1
theorem open_parts {r : Reach} {b0 : Nat} {v : Value} {d : DataW H} {p : List MemPlace} (hv : Value.okWide Tryz.prog w r b0 42 v) (h : DataW.Trod enc Tryz.prog w 0 (fun _ => true) true 42 v d p) :
    ∃ (a : Option Addr) (c : Nat) (l : List CP), v = .slice a l.length c ∧ l.length ≤ c ∧ PartsAt w a l ∧ OkP l ∧ (∀ k, k < l.length → ((l.getD k noCP).a = none → (l.getD k noCP).c = 0)) := by
  obtain ⟨a0, l0, c0, rfl⟩ := okWide_slice Tryz.underlying42 hv
  obtain ⟨n, hf⟩ := h
  have hf' : DataW.trod enc Tryz.prog w 0 (fun _ => true) true n 42 [.slice a0 l0 c0] = some (d, p) := by simpa [Value.cells] using hf
  rcases open_slice Tryz.underlying42 hf' with ⟨e, _⟩ | ⟨a, len, cap, m, k, D, Pl, e, _, hl, hm, hmm, _, hi⟩
  · simp only [List.cons.injEq, and_true] at e
    exact ⟨none, 0, [], e, Nat.le_refl _, fun k hk => absurd hk (Nat.not_lt_zero _), ⟨Nat.zero_le _, fun k hk => absurd hk (Nat.not_lt_zero _)⟩, fun k hk => absurd hk (Nat.not_lt_zero _)⟩
  · simp only [List.cons.injEq, and_true] at e
    have hmc : m = cap := by simpa using hmm
    subst hmc
    have hex : ∀ i, i < m → ∃ y : CP, PartAt w (a.add (i * 2)) y ∧ TextsAt w y.a y.l ∧ (y.l.length ≤ maxLen ∧ SizesOk y.l) ∧ (y.a = none → y.c = 0) := fun i him => by
      obtain ⟨cs', hc', ht'⟩ := hi i him
      rw [cellsPart] at hc'
      exact open_part hc' ht'
    haveI : Inhabited CP := ⟨noCP⟩
    obtain ⟨X, hX⟩ := choose_lt hex
    have hlen : ((List.range len).map X).length = len := by simp
    refine ⟨some a, m, (List.range len).map X, by rw [hlen]; exact e, by rw [hlen]; exact hl, fun k hk => ?_, ⟨by rw [hlen]; omega, fun k hk => ?_⟩, fun k hk => ?_⟩
    · have hk' : k < len := by rw [← hlen]; exact hk
      rw [range_getD len X noCP hk']
      obtain ⟨h1, h2, _⟩ := hX k (by omega)
      exact ⟨a, rfl, by have := cell_lt h1.1; rwa [add_block] at this, h1, h2⟩
    · have hk' : k < len := by rw [← hlen]; exact hk
      rw [range_getD len X noCP hk']
      exact (hX k (by omega)).2.2.1
    · have hk' : k < len := by rw [← hlen]; exact hk
      rw [range_getD len X noCP hk']
      exact (hX k (by omega)).2.2.2
end
end Go.Proofs.YtomblajlpanmjaaGreatDoor
