/-
  The hyphens of a word: the reference's walk.
-/
import Derived.Test.YtlkkociijfdcgaaGreatDoorLY
namespace Go.Proofs.YtlkkociijfdcgaaGreatDoor
open Go.RowKit Go.Maps Go.Shelf

theorem mk_some {m : UInt8} {L : Bool} {l : List UInt8} {x : List UInt8 × List Int} (h : refMT m L l = some x) : refMk m L true [] [] l = some x := by
  unfold refMT at h
  cases hm : refMk m L true [] [] l with
  | none => rw [hm] at h; cases h
  | some y =>
    rw [hm] at h
    dsimp only at h
    split at h
    · exact h
    · cases h
theorem checkE_some {y : Sty} {l : List ByteArray} (h : (checkE y l).2 = 0) : l.length ≤ 40 ∧ ∀ j, j < l.length → entO y (l.getD j noTx) = some (entG y l j) := by
  unfold checkE at h
  by_cases h40 : 40 < l.length
  · rw [if_pos h40] at h; exact absurd h (by decide)
  · rw [if_neg h40] at h
    refine ⟨by omega, fun j hj => ?_⟩
    cases hf : firstAt (badE y l) (l.length - 0) 0 with
    | some i =>
      rw [hf] at h
      exfalso
      have h' : (if badF y l i = true then (3 : Int) else 5) = 0 := h
      split at h' <;> exact absurd h' (by decide)
    | none =>
      have hb := firstAt_none hf j (Nat.zero_le _) (by omega)
      unfold badE at hb
      rw [Bool.or_eq_false_iff] at hb
      have hb1 := hb.1
      unfold badF at hb1
      unfold entG
      cases ho : entO y (l.getD j noTx) with
      | none => rw [ho] at hb1; cases hb1
      | some x => rfl
theorem marked_ok {y : Sty} {m : UInt8} {L : Bool} (hy : MkRel y m L) {l : List ByteArray} (h : (checkE y l).2 = 0) {j : Nat} (hj : j < l.length) : refMk m L true [] [] (l.getD j noTx).data.toList = some (entG y l j) := by
  have h1 := (checkE_some h).2 j hj
  rw [hy] at h1
  cases hm : refMT m L (l.getD j noTx).data.toList with
  | none => rw [hm] at h1; cases h1
  | some x =>
    rw [hm] at h1
    dsimp only at h1
    split at h1
    · cases h1
    · injection h1 with h1
      rw [← h1]
      exact mk_some hm
theorem checkR_exc {r : RU} (h : (checkR r).2 = 0) : (checkE excS r.es.l).2 = 0 ∧ (checkE barS r.bs.l).2 = 0 := by
  unfold checkR at h
  by_cases h1 : (checkPats r.ps.l).2 = 0
  · rw [if_neg (fun h => h h1)] at h
    by_cases h2 : (checkE excS r.es.l).2 = 0
    · rw [if_neg (fun h => h h2)] at h
      by_cases h3 : (checkE barS r.bs.l).2 = 0
      · exact ⟨h2, h3⟩
      · rw [if_pos h3] at h; exact absurd h h3
    · rw [if_pos h2] at h; exact absurd h h2
  · rw [if_pos h1] at h; exact absurd h h1
theorem hasE_succ (y : Sty) (l : List ByteArray) (k : Nat) (key : List UInt8) : hasE (entsN y l (k + 1)) key = (hasE (entsN y l k) key || decide ((entG y l k).1 = key)) := by
  rw [entsN_succ]
  unfold hasE
  rw [List.any_append]
  simp
theorem lookE_succ (y : Sty) (l : List ByteArray) (k : Nat) (key : List UInt8) : lookE (entsN y l (k + 1)) key = if (entG y l k).1 = key then (entG y l k).2 else lookE (entsN y l k) key := by
  rw [entsN_succ]
  unfold lookE
  rw [List.foldl_append]
  rfl
theorem small_low (c : UInt8) : smallB ((Lib.lowerB c).toNat : Int) = letB (c.toNat : Int) := by
  have h := low_nat c
  have hc : c.toNat < 256 := c.toNat_lt
  rw [h]
  unfold smallB letB
  rw [Bool.eq_iff_iff, decide_eq_true_eq]
  split
  · constructor
    · intro _; simp; omega
    · intro _; omega
  · constructor
    · intro h2; simp; omega
    · intro h2; simp at h2; omega
theorem allB_map (f : UInt8 → UInt8) (p q : Int → Bool) (h : ∀ c : UInt8, p ((f c).toNat : Int) = q (c.toNat : Int)) : ∀ l : List UInt8, allB p (l.map f) = allB q l := by
  intro l
  unfold allB
  rw [List.all_map]
  congr 1
  funext c
  exact h c
/-- All bytes up to a place are letters. -/
def letTo (s : ByteArray) (k : Nat) : Bool := allB letB (s.data.toList.take k)
theorem letTo_succ {s : ByteArray} {k : Nat} (h : k < s.size) : letTo s (k + 1) = (letTo s k && letB (s[k].toNat : Int)) := by
  have hl : k < s.data.toList.length := by rw [Array.length_toList]; exact h
  unfold letTo allB
  rw [List.take_succ_eq_append_getElem hl, List.all_append, List.all_cons, List.all_nil, Bool.and_true]
  rfl
theorem letTo_all (s : ByteArray) : letTo s s.size = areSmallB (lowS s) := by
  unfold letTo areSmallB lowS
  rw [List.take_of_length_le (by rw [Array.length_toList]; exact Nat.le_refl _)]
  show _ = allB smallB (Lib.toLowerA s.data.toList)
  unfold Lib.toLowerA
  exact (allB_map _ _ _ small_low _).symm
structure HyKnow (w : World) (r : RU) (wr : World) : Prop where
  box : wr.heap[w.heap.size]? = some (.cells #[.slice r.ps.a r.ps.l.length r.ps.c, .slice r.es.a r.es.l.length r.es.c, .slice r.bs.a r.bs.l.length r.bs.c, .int .i64 r.left, .int .i64 r.right] 24 (0, 0))
  low : Below w.heap.size w wr
theorem HyKnow.below {w : World} {r : RU} {wr wr' : World} (h : HyKnow w r wr) (hb : Below wr.heap.size wr wr') : HyKnow w r wr' := ⟨(hb.block _ (heap_lt h.box)).trans h.box, h.low.trans (hb.mono h.low.size)⟩
theorem HyKnow.drewN {w : World} {r : RU} {wr : World} (h : HyKnow w r wr) (n : Nat) : HyKnow w r (wr.drewN n) := ⟨h.box, below_drewN h.low n⟩
theorem HyKnow.own {w : World} {r : RU} {wr wr' : World} (h : HyKnow w r wr) (hb : Below (w.heap.size + 1) wr wr') : HyKnow w r wr' := ⟨(hb.block _ (by omega)).trans h.box, h.low.trans (hb.mono (by omega))⟩
/-- What the first loop leaves. -/
structure Lp1 (w : World) (r : RU) (key : List UInt8) (k : Nat) (v5 v6 : Value) (wr : World) : Prop where
  kn : HyKnow w r wr
  fo : v6 = .bool (hasE (entsN excS r.es.l k) key)
  at_ : ∃ A c, v5 = .slice A (lookE (entsN excS r.es.l k) key).length c ∧ IntsAt wr A (lookE (entsN excS r.es.l k) key)
  no : hasE (entsN excS r.es.l k) key = false → v5 = .slice none 0 0
def RHPost (w : World) (l : List Int) (e : Ending) (w' : World) : Prop := (∃ A c, e = .returned (.slice A l.length c) ∧ IntsAt w' A l) ∧ Below w.heap.size w w'
set_option maxRecDepth 100000 in
set_option maxHeartbeats 4000000 in
theorem refHyphens_any (r : RU) (s : ByteArray) (w : World) (hR : r.at_ w) (hS : RSmall r) (he : (checkR r).2 = 0) (hs : s.size ≤ 30) :
    Calls Tryz.prog 64 #[.agg r.cells, .string s] w (RHPost w (ruleHyph r s)) := by
  obtain ⟨hx1, hx2⟩ := checkR_exc he
  have hes := (checkE_some hx1).1
  have HR := Lib.hid hR
  have HEX := Lib.hid (fun j (hj : j < r.es.l.length) => marked_ok mkRel_exc hx1 hj)
  have HLO := Lib.hid (fun W (h : r.at_ W) => refLevelsOf_any r s W h hS.1 he (by omega))
  have HRP := Lib.hid (show rulePos r s = if hasE (entsN excS r.es.l r.es.l.length) (lowS s).data.toList = true then lookE (entsN excS r.es.l r.es.l.length) (lowS s).data.toList
    else if areSmallB (lowS s) = true then odds (lvTo (patG r.ps.l) (lowS s) r.ps.l.length) (s.size + 1) else [] from rfl)
  have HRH := Lib.hid (show ruleHyph r s = hyTo r.left r.right s.size (rulePos r s) (rulePos r s).length from rfl)
  have hPl := rulePos_len r s (by omega)
  have HPS := Lib.hid (fun j => (rulePos_srt r s).getD j)
  have HLV := Lib.hid (lvTo_ok (fn := patG r.ps.l) (s := lowS s) (m := r.ps.l.length) (fun j hj k => (((checkR_fine he).2 j hj).2.1.digs k).2) r.ps.l.length (Nat.le_refl _))
  have HLA := Lib.hid (letTo_all s)
  have HSM := Lib.hid (fun W => lowText_any s W (by omega))
  have hlss := lowS_size s
  obtain ⟨ss, hss⟩ : ∃ ss, ss = lowS s := ⟨_, rfl⟩
  rw [← hss] at HRP HLO HLV HLA hlss
  have HSZ := Lib.hid hlss
  have HSS := Lib.hid (show ss = ⟨(Lib.toLowerA s.data.toList).toArray⟩ from hss)
  obtain ⟨key, hkey⟩ : ∃ key, key = ss.data.toList := ⟨_, rfl⟩
  have HKS := Lib.hid (show ss = ⟨key.toArray⟩ by rw [hkey])
  rw [← hkey] at HRP
  have hK0 : HyKnow w r (w.alloc (.cells #[.slice r.ps.a r.ps.l.length r.ps.c, .slice r.es.a r.es.l.length r.es.c, .slice r.bs.a r.bs.l.length r.bs.c, .int .i64 r.left, .int .i64 r.right] 24)) := ⟨heap_new _ _, (Below.refl _ _).alloc (Nat.le_refl _) _⟩
  have hL0 : Lp1 w r key 0 (.slice none 0 0) (.bool false) (w.alloc (.cells #[.slice r.ps.a r.ps.l.length r.ps.c, .slice r.es.a r.es.l.length r.es.c, .slice r.bs.a r.bs.l.length r.bs.c, .int .i64 r.left, .int .i64 r.right] 24)) :=
    ⟨hK0, rfl, ⟨none, 0, rfl, fun q hq => absurd hq (Nat.not_lt_zero _)⟩, fun _ => rfl⟩
  unfold RU.cells
  clear hss hlss hkey hR he hx1 hx2 hK0
  go_enter Tryz.func64, Tryz.ntmps64
  go_wp2_with fail
  go_loopw [5, 6, 7] (fun v5 v6 v7 wr => ∃ k : Nat, k ≤ r.es.l.length ∧ v7 = .int .i64 k ∧ Lp1 w r key k v5 v6 wr) (fun _ _ v7 _ => r.es.l.length - (intOf v7).toNat)
  case atStart => exact ⟨0, Nat.zero_le _, rfl, hL0⟩
  case round =>
    obtain ⟨k, hk, rfl, hL⟩ := hrel
    clear hL0
    obtain ⟨hK, rfl, ⟨A5, c5, rfl, hI5⟩, hno⟩ := hL
    have q0 : wr.cell? ⟨w.heap.size, 1, none⟩ = some (.slice r.es.a r.es.l.length r.es.c) := cell_of_row wr _ 1 _ _ (0, 0) hK.box
    by_cases hlt : k < r.es.l.length
    · have hkl : (k : Int) < (r.es.l.length : Int) := by omega
      obtain ⟨p1, ep1, hp1', hc1⟩ := (HR.out.2.1.1.below hK.low) k hlt
      rw [ep1] at q0
      have hz := hS.2.1 k hlt
      have hex := HEX.out k hlt
      have hhs := hasE_succ excS r.es.l k key
      have hls := lookE_succ excS r.es.l k key
      obtain ⟨t, et⟩ : ∃ t, t = r.es.l.getD k noTx := ⟨_, rfl⟩
      rw [← et] at hc1 hex hz
      obtain ⟨x, ex⟩ : ∃ x, x = entG excS r.es.l k := ⟨_, rfl⟩
      rw [← ex] at hex hhs hls
      have HRM := Lib.hid (fun W => readMarked_any 45 true t W hz)
      have HX := Lib.hid hex
      have HHS := Lib.hid hhs
      have HLS := Lib.hid hls
      obtain ⟨E1, hE1⟩ : ∃ E1, E1 = hasE (entsN excS r.es.l k) key := ⟨_, rfl⟩
      obtain ⟨P1, hP1⟩ : ∃ P1, P1 = lookE (entsN excS r.es.l k) key := ⟨_, rfl⟩
      rw [← hE1] at HHS hno ⊢
      rw [← hP1] at HLS hI5 hno ⊢
      have HNO := Lib.hid hno
      have HP1 := Lib.hid hP1
      clear et ep1 ex hex hhs hls hE1 hP1 hno
      go_wp2_with fail
      refine (HRM.out _).mono ?_
      rintro e w2 ⟨hb2, hp2⟩
      rw [HX.out] at hp2
      obtain ⟨v, rfl, hIv⟩ := hp2
      obtain ⟨A2, c2, rfl, hI2, -, -⟩ := hIv.shape
      have hK2 := hK.below hb2
      have hI52 := hI5.below hb2
      clear hIv hb2 hK hI5 q0 hc1 HRM
      go_wp2_with fail
      refine (HSM.out _).mono ?_
      rintro e w3 ⟨rfl, hb3⟩
      rw [← HSS.out, HKS.out]
      have hK3 := hK2.below hb3
      have hI53 := hI52.below hb3
      have hI23 := hI2.below hb3
      clear hb3 hK2 hI52 hI2
      by_cases hq : x.1 = key
      · have hst : (x.1 == key) = true := by rw [beq_iff_eq]; exact hq
        have HHN := Lib.hid (show hasE (entsN excS r.es.l (k + 1)) key = true by rw [HHS.out, decide_eq_true hq, Bool.or_true])
        have HLN := Lib.hid (show lookE (entsN excS r.es.l (k + 1)) key = x.2 by rw [HLS.out, if_pos hq])
        clear hq
        go_wp2
        go_roundw
        case rel => exact ⟨k + 1, by omega, by go_num, hK3, by rw [HHN.out], ⟨A2, c2, by rw [HLN.out], by rw [HLN.out]; exact hI23⟩, fun h => by rw [HHN.out] at h; cases h⟩
        case measure => simp [intOf]; omega
      · have hst : (x.1 == key) = false := by rw [beq_eq_false_iff_ne]; exact hq
        have HHN := Lib.hid (show hasE (entsN excS r.es.l (k + 1)) key = E1 by rw [HHS.out, decide_eq_false hq, Bool.or_false])
        have HLN := Lib.hid (show lookE (entsN excS r.es.l (k + 1)) key = P1 by rw [HLS.out, if_neg hq])
        clear hq
        go_wp2
        go_roundw
        case rel => exact ⟨k + 1, by omega, by go_num, hK3, by rw [HHN.out], ⟨A5, c5, by rw [HLN.out], by rw [HLN.out]; exact hI53⟩, fun h => by rw [HHN.out] at h; exact HNO.out h⟩
        case measure => simp [intOf]; omega
    · obtain rfl : k = r.es.l.length := by omega
      have hkl : ¬ (r.es.l.length : Int) < (r.es.l.length : Int) := by omega
      have hsz1 := heap_lt hK.box
      cases hfd : hasE (entsN excS r.es.l r.es.l.length) key
      · have hv5 := hno hfd
        rw [hfd] at HRP
        have HRQ := Lib.hid (show rulePos r s = if areSmallB ss = true then odds (lvTo (patG r.ps.l) ss r.ps.l.length) (s.size + 1) else [] by rw [HRP.out]; try rfl)
        rw [hv5]
        clear hv5 hI5 hfd hno HRP
        go_wp2_with fail
        go_loop [11, 12] (fun v11 v12 => ∃ k : Nat, k ≤ s.size ∧ v12 = .int .i64 k ∧ v11 = .bool (letTo s k)) (fun _ v12 => s.size - (intOf v12).toNat)
        case atStart => exact ⟨0, Nat.zero_le _, rfl, rfl⟩
        case round =>
          obtain ⟨j, hj, rfl, rfl⟩ := hrel
          by_cases hlt : j < s.size
          · have hjl : (j : Int) < (s.size : Int) := by omega
            have HLT := Lib.hid (letTo_succ hlt)
            obtain ⟨b, hb⟩ : ∃ b, b = s[j] := ⟨_, rfl⟩
            have HLE := Lib.hid (fun W => refLetter_any (b.toNat : Int) W)
            rw [← hb] at HLT
            have HB := Lib.hid hb
            clear hb
            cases hlj : letTo s j
            · rw [hlj] at HLT
              clear hlj
              go_wp2_with fail
              go_round
              case rel => exact ⟨j + 1, by omega, by go_num, by rw [HLT.out]; try rfl⟩
              case measure => simp [intOf]; omega
            · rw [hlj] at HLT
              clear hlj
              go_wp2_with (go_at_call 124; rw [← HB.out]; refine (HLE.out _).mono ?_; rintro e w' ⟨rfl, rfl⟩)
              go_round
              case rel => exact ⟨j + 1, by omega, by go_num, by rw [HLT.out]; try rfl⟩
              case measure => simp [intOf]; omega
          · obtain rfl : j = s.size := by omega
            have hjl : ¬ (s.size : Int) < (s.size : Int) := by omega
            rw [HLA.out]
            have q1 : wr.cell? ⟨w.heap.size, 0, none⟩ = some (.slice r.ps.a r.ps.l.length r.ps.c) := cell_of_row wr _ 0 _ _ (0, 0) hK.box
            have q2 : wr.cell? ⟨w.heap.size, 2, none⟩ = some (.slice r.bs.a r.bs.l.length r.bs.c) := cell_of_row wr _ 2 _ _ (0, 0) hK.box
            have q3 : wr.cell? ⟨w.heap.size, 3, none⟩ = some (.int .i64 r.left) := cell_of_row wr _ 3 _ _ (0, 0) hK.box
            have q4 : wr.cell? ⟨w.heap.size, 4, none⟩ = some (.int .i64 r.right) := cell_of_row wr _ 4 _ _ (0, 0) hK.box
            go_wp2_with fail
            refine (HLO.out _ (HR.out.below hK.low)).mono ?_
            rintro e w4 ⟨h, rfl, hrow, hhb, hb4⟩
            have hK4 := hK.below hb4
            have hz4 := heap_lt hK4.box
            have hbl4 := hK4.low
            obtain ⟨LV, hLV⟩ : ∃ LV, LV = lvTo (patG r.ps.l) ss r.ps.l.length := ⟨_, rfl⟩
            rw [← hLV] at hrow HRQ HLV
            have HLVL := Lib.hid (show LV.length = s.size + 1 by rw [HLV.out.1, HSZ.out])
            obtain ⟨al, hal⟩ : ∃ al, al = areSmallB ss := ⟨_, rfl⟩
            rw [← hal] at HRQ ⊢
            clear hK hb4 hLV hal hhb HLO q0 q1 q2 q3 q4
            go_wp2_with fail
            go_loopw [5, 14] (fun v5 v14 wr => ∃ k : Nat, k ≤ s.size + 1 ∧ v14 = .int .i64 k ∧ IRow wr w4.heap.size v5 (if al = true then odds LV k else []) ∧ Below w4.heap.size w4 wr) (fun _ v14 _ => s.size + 1 - (intOf v14).toNat)
            case atStart => exact ⟨0, Nat.zero_le _, rfl, by cases al <;> exact IRow.nil _ _, Below.refl _ _⟩
            case round =>
              obtain ⟨i, hi, rfl, hI, hbr⟩ := hrel
              by_cases hil : i < s.size + 1
              · have hil' : (i : Int) < (s.size : Int) + 1 := by omega
                have hi0 : (0 : Int) ≤ (i : Int) := by omega
                cases al
                · have HRZ := Lib.hid (show rulePos r s = [] by rw [HRQ.out]; try rfl)
                  obtain ⟨A5, c5, hv5, hI5, -, -⟩ := hI.shape
                  subst hv5
                  have hKf := hK4.below hbr
                  have hP0 : (if (false : Bool) = true then odds LV i else []) = ([] : List Int) := rfl
                  rw [hP0] at hI5 ⊢
                  rw [← HRZ.out] at hI5 ⊢
                  clear hI hP0 hK4
                  go_wp2_with fail
                  obtain ⟨P, hP⟩ : ∃ P, P = rulePos r s := ⟨_, rfl⟩
                  rw [← hP] at hI5 HRH hPl HPS ⊢
                  have hzf := heap_lt hKf.box
                  obtain ⟨wo, hwo⟩ : ∃ wo : World, wo = wr := ⟨_, rfl⟩
                  rw [← hwo] at hKf hI5 hzf ⊢
                  clear hP hwo
                  go_loopw [15, 16] (fun v15 v16 wi => ∃ q : Nat, q ≤ P.length ∧ v16 = .int .i64 q ∧ IRow wi wo.heap.size v15 (hyTo r.left r.right s.size P q) ∧ Below wo.heap.size wo wi) (fun _ v16 _ => P.length - (intOf v16).toNat)
                  case atStart => exact ⟨0, Nat.zero_le _, rfl, IRow.nil _ _, Below.refl _ _⟩
                  case round =>
                    obtain ⟨q, hq, rfl, hI, hbi⟩ := hrel
                    by_cases hql : q < P.length
                    · have hql' : (q : Int) < (P.length : Int) := by omega
                      obtain ⟨ad, rfl, hal, hy⟩ := (hI5.below hbi).at_ hql
                      have hKi := hKf.below hbi
                      have c3 : wr.cell? ⟨w.heap.size, 3, none⟩ = some (.int .i64 r.left) := cell_of_row wr _ 3 _ _ (0, 0) hKi.box
                      have c4 : wr.cell? ⟨w.heap.size, 4, none⟩ = some (.int .i64 r.right) := cell_of_row wr _ 4 _ _ (0, 0) hKi.box
                      have hd := HPS.out q
                      have hol := hyTo_len r.left r.right s.size P q
                      have hst : hyTo r.left r.right s.size P (q + 1) = if nearB r.left r.right s.size (P.getD q 0) = true then hyTo r.left r.right s.size P q ++ [P.getD q 0] else hyTo r.left r.right s.size P q := rfl
                      generalize P.getD q 0 = x at hy hd hst
                      have HST := Lib.hid hst
                      have hw1 : IntKind.i64.wrap ((s.size : Int) - x) = (s.size : Int) - x := by rw [IntKind.wrap_i64]; omega
                      clear hst hKi
                      by_cases h1 : r.left ≤ x
                      · have d1 : decide (r.left ≤ x) = true := decide_eq_true h1
                        by_cases h2 : r.right ≤ (s.size : Int) - x
                        · have HN := Lib.hid (show nearB r.left r.right s.size x = true by unfold nearB; simp [h1, h2])
                          have d2 : decide (r.right ≤ (s.size : Int) - x) = true := decide_eq_true h2
                          obtain ⟨a9, d9, hv9, -, -, -⟩ := hI.shape
                          subst hv9
                          have hbl2 := hbi.size
                          have hq1 : (hyTo r.left r.right s.size P q).length ≤ 1000000 := by omega
                          go_wp2_with fail
                          go_quiet (fail)
                          go_wp2_with (at_builtin; refine wpList_app1 (wr.drewN nq) _ rfl _ _ rfl wo.heap.size _ (hyTo r.left r.right s.size P q) rfl (hI.drewN nq) rfl hq1 hbl2 ?_; intro g9 c9 w9 hrow9 hgrow9 hb9)
                          go_roundw
                          case rel => exact ⟨q + 1, by omega, by go_num, by rw [HST.out, if_pos HN.out]; simpa using hrow9, (below_drewN hbi nq).trans hb9⟩
                          case measure => simp [intOf]; omega
                        · have HN := Lib.hid (show nearB r.left r.right s.size x = false by unfold nearB; simp [h2])
                          have d2 : decide (r.right ≤ (s.size : Int) - x) = false := decide_eq_false h2
                          go_wp2_with fail
                          go_quiet (fail)
                          go_wp2
                          go_roundw
                          case rel => exact ⟨q + 1, by omega, by go_num, by rw [HST.out, if_neg (by rw [HN.out]; decide)]; exact hI.drewN nq, below_drewN hbi nq⟩
                          case measure => simp [intOf]; omega
                      · have d1 : decide (r.left ≤ x) = false := decide_eq_false h1
                        have HN := Lib.hid (show nearB r.left r.right s.size x = false by unfold nearB; simp [h1])
                        go_wp2_with fail
                        go_quiet (fail)
                        go_wp2
                        go_roundw
                        case rel => exact ⟨q + 1, by omega, by go_num, by rw [HST.out, if_neg (by rw [HN.out]; decide)]; exact hI.drewN nq, below_drewN hbi nq⟩
                        case measure => simp [intOf]; omega
                    · obtain rfl : q = P.length := by omega
                      have hql' : ¬ (P.length : Int) < (P.length : Int) := by omega
                      obtain ⟨a9, d9, hv9, hi9, -, -⟩ := hI.shape
                      subst hv9
                      have hlow := hKf.low.trans (hbi.mono (by have := hKf.low.size; omega))
                      clear hI
                      go_wp2
                      go_ret
                      exact ⟨⟨a9, d9, by rw [HRH.out]; try rfl, by rw [HRH.out]; exact hi9⟩, hlow⟩
                · have hol := odds_len LV i
                  have hrr := RowX.below hrow (by exact hbr)
                  have ca := hrr.cell (j := i) (by rw [HLVL.out]; exact hil)
                  have hd := HLV.out.2 i
                  have hst : odds LV (i + 1) = if oddB (LV.getD i 0) = true then odds LV i ++ [(i : Int)] else odds LV i := rfl
                  generalize hc : LV.getD i 0 = c at ca hd hst
                  have HC := Lib.hid hc
                  clear hc
                  have HST := Lib.hid hst
                  clear hst
                  have hI' := hI
                  rw [if_pos rfl] at hI'
                  clear hI
                  cases ho : oddB c
                  · have HO := Lib.hid ho
                    unfold oddB at ho
                    go_wp2
                    go_roundw
                    case rel => exact ⟨i + 1, by omega, by go_num, by rw [HST.out, if_neg (by rw [HO.out]; decide)]; exact hI', hbr⟩
                    case measure => simp [intOf]; omega
                  · have HO := Lib.hid ho
                    unfold oddB at ho
                    obtain ⟨a9, d9, hv9, -, -, -⟩ := hI'.shape
                    subst hv9
                    have hbl := hbr.size
                    have hql : (odds LV i).length ≤ 1000000 := by omega
                    go_wp2_with ((at_builtin; refine wpList_app1 wr _ rfl _ _ rfl w4.heap.size _ (odds LV i) rfl hI' rfl hql hbl ?_; intro g9 c9 w9 hrow9 hgrow9 hb9))
                    go_roundw
                    case rel => exact ⟨i + 1, by omega, by go_num, by rw [HST.out, if_pos HO.out]; simpa using hrow9, hbr.trans hb9⟩
                    case measure => simp [intOf]; omega
              · obtain rfl : i = s.size + 1 := by omega
                have hil' : ¬ ((s.size + 1 : Nat) : Int) < (s.size : Int) + 1 := by omega
                have hil2 : ¬ (s.size : Int) + 1 < (s.size : Int) + 1 := by omega
                have hP0 : (if al = true then odds LV (s.size + 1) else []) = rulePos r s := HRQ.out.symm
                rw [hP0] at hI
                obtain ⟨A5, c5, hv5, hI5, -, -⟩ := hI.shape
                subst hv5
                have hKf := hK4.below hbr
                clear hI hP0 hK4
                go_wp2_with fail
                obtain ⟨P, hP⟩ : ∃ P, P = rulePos r s := ⟨_, rfl⟩
                rw [← hP] at hI5 HRH hPl HPS ⊢
                have hzf := heap_lt hKf.box
                obtain ⟨wo, hwo⟩ : ∃ wo : World, wo = wr := ⟨_, rfl⟩
                rw [← hwo] at hKf hI5 hzf ⊢
                clear hP hwo
                go_loopw [15, 16] (fun v15 v16 wi => ∃ q : Nat, q ≤ P.length ∧ v16 = .int .i64 q ∧ IRow wi wo.heap.size v15 (hyTo r.left r.right s.size P q) ∧ Below wo.heap.size wo wi) (fun _ v16 _ => P.length - (intOf v16).toNat)
                case atStart => exact ⟨0, Nat.zero_le _, rfl, IRow.nil _ _, Below.refl _ _⟩
                case round =>
                  obtain ⟨q, hq, rfl, hI, hbi⟩ := hrel
                  by_cases hql : q < P.length
                  · have hql' : (q : Int) < (P.length : Int) := by omega
                    obtain ⟨ad, rfl, hal, hy⟩ := (hI5.below hbi).at_ hql
                    have hKi := hKf.below hbi
                    have c3 : wr.cell? ⟨w.heap.size, 3, none⟩ = some (.int .i64 r.left) := cell_of_row wr _ 3 _ _ (0, 0) hKi.box
                    have c4 : wr.cell? ⟨w.heap.size, 4, none⟩ = some (.int .i64 r.right) := cell_of_row wr _ 4 _ _ (0, 0) hKi.box
                    have hd := HPS.out q
                    have hol := hyTo_len r.left r.right s.size P q
                    have hst : hyTo r.left r.right s.size P (q + 1) = if nearB r.left r.right s.size (P.getD q 0) = true then hyTo r.left r.right s.size P q ++ [P.getD q 0] else hyTo r.left r.right s.size P q := rfl
                    generalize P.getD q 0 = x at hy hd hst
                    have HST := Lib.hid hst
                    have hw1 : IntKind.i64.wrap ((s.size : Int) - x) = (s.size : Int) - x := by rw [IntKind.wrap_i64]; omega
                    clear hst hKi
                    by_cases h1 : r.left ≤ x
                    · have d1 : decide (r.left ≤ x) = true := decide_eq_true h1
                      by_cases h2 : r.right ≤ (s.size : Int) - x
                      · have HN := Lib.hid (show nearB r.left r.right s.size x = true by unfold nearB; simp [h1, h2])
                        have d2 : decide (r.right ≤ (s.size : Int) - x) = true := decide_eq_true h2
                        obtain ⟨a9, d9, hv9, -, -, -⟩ := hI.shape
                        subst hv9
                        have hbl2 := hbi.size
                        have hq1 : (hyTo r.left r.right s.size P q).length ≤ 1000000 := by omega
                        go_wp2_with fail
                        go_quiet (fail)
                        go_wp2_with (at_builtin; refine wpList_app1 (wr.drewN nq) _ rfl _ _ rfl wo.heap.size _ (hyTo r.left r.right s.size P q) rfl (hI.drewN nq) rfl hq1 hbl2 ?_; intro g9 c9 w9 hrow9 hgrow9 hb9)
                        go_roundw
                        case rel => exact ⟨q + 1, by omega, by go_num, by rw [HST.out, if_pos HN.out]; simpa using hrow9, (below_drewN hbi nq).trans hb9⟩
                        case measure => simp [intOf]; omega
                      · have HN := Lib.hid (show nearB r.left r.right s.size x = false by unfold nearB; simp [h2])
                        have d2 : decide (r.right ≤ (s.size : Int) - x) = false := decide_eq_false h2
                        go_wp2_with fail
                        go_quiet (fail)
                        go_wp2
                        go_roundw
                        case rel => exact ⟨q + 1, by omega, by go_num, by rw [HST.out, if_neg (by rw [HN.out]; decide)]; exact hI.drewN nq, below_drewN hbi nq⟩
                        case measure => simp [intOf]; omega
                    · have d1 : decide (r.left ≤ x) = false := decide_eq_false h1
                      have HN := Lib.hid (show nearB r.left r.right s.size x = false by unfold nearB; simp [h1])
                      go_wp2_with fail
                      go_quiet (fail)
                      go_wp2
                      go_roundw
                      case rel => exact ⟨q + 1, by omega, by go_num, by rw [HST.out, if_neg (by rw [HN.out]; decide)]; exact hI.drewN nq, below_drewN hbi nq⟩
                      case measure => simp [intOf]; omega
                  · obtain rfl : q = P.length := by omega
                    have hql' : ¬ (P.length : Int) < (P.length : Int) := by omega
                    obtain ⟨a9, d9, hv9, hi9, -, -⟩ := hI.shape
                    subst hv9
                    have hlow := hKf.low.trans (hbi.mono (by have := hKf.low.size; omega))
                    clear hI
                    go_wp2
                    go_ret
                    exact ⟨⟨a9, d9, by rw [HRH.out]; try rfl, by rw [HRH.out]; exact hi9⟩, hlow⟩
      · have HRQ := Lib.hid (show rulePos r s = lookE (entsN excS r.es.l r.es.l.length) key by rw [HRP.out, if_pos hfd])
        have hKf := hK
        rw [← HRQ.out] at hI5 ⊢
        clear hno hfd HRP hK
        go_wp2_with fail
        obtain ⟨P, hP⟩ : ∃ P, P = rulePos r s := ⟨_, rfl⟩
        rw [← hP] at hI5 HRH hPl HPS ⊢
        have hzf := heap_lt hKf.box
        obtain ⟨wo, hwo⟩ : ∃ wo : World, wo = wr := ⟨_, rfl⟩
        rw [← hwo] at hKf hI5 hzf ⊢
        clear hP hwo
        go_loopw [15, 16] (fun v15 v16 wi => ∃ q : Nat, q ≤ P.length ∧ v16 = .int .i64 q ∧ IRow wi wo.heap.size v15 (hyTo r.left r.right s.size P q) ∧ Below wo.heap.size wo wi) (fun _ v16 _ => P.length - (intOf v16).toNat)
        case atStart => exact ⟨0, Nat.zero_le _, rfl, IRow.nil _ _, Below.refl _ _⟩
        case round =>
          obtain ⟨q, hq, rfl, hI, hbi⟩ := hrel
          by_cases hql : q < P.length
          · have hql' : (q : Int) < (P.length : Int) := by omega
            obtain ⟨ad, rfl, hal, hy⟩ := (hI5.below hbi).at_ hql
            have hKi := hKf.below hbi
            have c3 : wr.cell? ⟨w.heap.size, 3, none⟩ = some (.int .i64 r.left) := cell_of_row wr _ 3 _ _ (0, 0) hKi.box
            have c4 : wr.cell? ⟨w.heap.size, 4, none⟩ = some (.int .i64 r.right) := cell_of_row wr _ 4 _ _ (0, 0) hKi.box
            have hd := HPS.out q
            have hol := hyTo_len r.left r.right s.size P q
            have hst : hyTo r.left r.right s.size P (q + 1) = if nearB r.left r.right s.size (P.getD q 0) = true then hyTo r.left r.right s.size P q ++ [P.getD q 0] else hyTo r.left r.right s.size P q := rfl
            generalize P.getD q 0 = x at hy hd hst
            have HST := Lib.hid hst
            have hw1 : IntKind.i64.wrap ((s.size : Int) - x) = (s.size : Int) - x := by rw [IntKind.wrap_i64]; omega
            clear hst hKi
            by_cases h1 : r.left ≤ x
            · have d1 : decide (r.left ≤ x) = true := decide_eq_true h1
              by_cases h2 : r.right ≤ (s.size : Int) - x
              · have HN := Lib.hid (show nearB r.left r.right s.size x = true by unfold nearB; simp [h1, h2])
                have d2 : decide (r.right ≤ (s.size : Int) - x) = true := decide_eq_true h2
                obtain ⟨a9, d9, hv9, -, -, -⟩ := hI.shape
                subst hv9
                have hbl2 := hbi.size
                have hq1 : (hyTo r.left r.right s.size P q).length ≤ 1000000 := by omega
                go_wp2_with fail
                go_quiet (fail)
                go_wp2_with (at_builtin; refine wpList_app1 (wr.drewN nq) _ rfl _ _ rfl wo.heap.size _ (hyTo r.left r.right s.size P q) rfl (hI.drewN nq) rfl hq1 hbl2 ?_; intro g9 c9 w9 hrow9 hgrow9 hb9)
                go_roundw
                case rel => exact ⟨q + 1, by omega, by go_num, by rw [HST.out, if_pos HN.out]; simpa using hrow9, (below_drewN hbi nq).trans hb9⟩
                case measure => simp [intOf]; omega
              · have HN := Lib.hid (show nearB r.left r.right s.size x = false by unfold nearB; simp [h2])
                have d2 : decide (r.right ≤ (s.size : Int) - x) = false := decide_eq_false h2
                go_wp2_with fail
                go_quiet (fail)
                go_wp2
                go_roundw
                case rel => exact ⟨q + 1, by omega, by go_num, by rw [HST.out, if_neg (by rw [HN.out]; decide)]; exact hI.drewN nq, below_drewN hbi nq⟩
                case measure => simp [intOf]; omega
            · have d1 : decide (r.left ≤ x) = false := decide_eq_false h1
              have HN := Lib.hid (show nearB r.left r.right s.size x = false by unfold nearB; simp [h1])
              go_wp2_with fail
              go_quiet (fail)
              go_wp2
              go_roundw
              case rel => exact ⟨q + 1, by omega, by go_num, by rw [HST.out, if_neg (by rw [HN.out]; decide)]; exact hI.drewN nq, below_drewN hbi nq⟩
              case measure => simp [intOf]; omega
          · obtain rfl : q = P.length := by omega
            have hql' : ¬ (P.length : Int) < (P.length : Int) := by omega
            obtain ⟨a9, d9, hv9, hi9, -, -⟩ := hI.shape
            subst hv9
            have hlow := hKf.low.trans (hbi.mono (by have := hKf.low.size; omega))
            clear hI
            go_wp2
            go_ret
            exact ⟨⟨a9, d9, by rw [HRH.out]; try rfl, by rw [HRH.out]; exact hi9⟩, hlow⟩
end Go.Proofs.YtlkkociijfdcgaaGreatDoor
/-
  A word with its hyphens: the reference's walk.
-/
namespace Go.Proofs.YtlkkociijfdcgaaGreatDoor
open Go.RowKit Go.Maps Go.Shelf

theorem mem_getD {l : List Int} {n : Int} : n ∈ l ↔ ∃ j, j < l.length ∧ l.getD j 0 = n := by
  constructor
  · intro h
    obtain ⟨j, hj, e⟩ := List.getElem_of_mem h
    exact ⟨j, hj, by rw [List.getD_eq_getElem?_getD, List.getElem?_eq_getElem hj]; exact e⟩
  · rintro ⟨j, hj, e⟩
    rw [List.getD_eq_getElem?_getD, List.getElem?_eq_getElem hj] at e
    exact e ▸ List.getElem_mem hj
set_option maxRecDepth 100000 in
set_option maxHeartbeats 800000 in
theorem has_any (A : Option Addr) (l : List Int) (m c : Nat) (n : Int) (w : World) (hI : IntsAt w A l) (hm : m = l.length) (hl : l.length ≤ maxLen) :
    Calls Tryz.prog 77 #[.slice A m c, .int .i64 n] w fun e w' => e = .returned (.bool (decide (n ∈ l))) ∧ w = w' := by
  subst hm
  unfold maxLen at hl
  go_enter Tryz.func77, Tryz.ntmps77
  go_wp2_with fail
  go_loop [5] (fun v3 => ∃ k : Nat, k ≤ l.length ∧ v3 = .int .i64 k ∧ Hid (∀ j, j < k → l.getD j 0 ≠ n)) (fun v3 => l.length - (intOf v3).toNat)
  case atStart => exact ⟨0, Nat.zero_le _, rfl, Lib.hid fun j hj => absurd hj (Nat.not_lt_zero _)⟩
  case round =>
    obtain ⟨k, hk, rfl, HN⟩ := hrel
    by_cases hlt : k < l.length
    · have hkl : (k : Int) < (l.length : Int) := by omega
      obtain ⟨ad, rfl, hal, hy⟩ := hI.at_ hlt
      obtain ⟨x, hx⟩ : ∃ x, x = l.getD k 0 := ⟨_, rfl⟩
      rw [← hx] at hy
      have HX := Lib.hid hx
      clear hx
      by_cases he : x = n
      · have HM := Lib.hid (show n ∈ l from mem_getD.2 ⟨k, hlt, by rw [← HX.out]; exact he⟩)
        have hb : (x == n) = true := by rw [beq_iff_eq]; exact he
        clear he
        go_wp2
        go_ret
        rw [decide_eq_true HM.out]
        exact ⟨rfl, rfl⟩
      · have hb : (x == n) = false := by rw [beq_eq_false_iff_ne]; exact he
        have HN2 := Lib.hid (fun j (hj : j < k + 1) => show l.getD j 0 ≠ n by
          by_cases e : j = k
          · rw [e, ← HX.out]; exact he
          · exact HN.out j (by omega))
        clear he HN
        go_wp2
        go_round
        case rel => exact ⟨k + 1, by omega, by go_num, HN2⟩
        case measure => simp [intOf]; omega
    · obtain rfl : k = l.length := by omega
      have hkl : ¬ (l.length : Int) < (l.length : Int) := by omega
      have HM := Lib.hid (show n ∉ l from fun h => by
        obtain ⟨j, hj, e⟩ := mem_getD.1 h
        exact HN.out j hj e)
      go_wp2
      go_ret
      rw [decide_eq_false HM.out]
      exact ⟨rfl, rfl⟩
/-- The reference's word with hyphens, up to a place. -/
def hyR (s : ByteArray) (P : List Int) : Nat → List UInt8
  | 0 => []
  | k + 1 => hyR s P k ++ ((if (k : Int) ∈ P then [45] else []) ++ (s.data.toList.drop k).take 1)
theorem hyR_len (s : ByteArray) (P : List Int) : ∀ k, (hyR s P k).length ≤ 2 * k
  | 0 => Nat.le_refl _
  | k + 1 => by
    have ih := hyR_len s P k
    unfold hyR
    rw [List.length_append, List.length_append, List.length_take]
    split
    · simp only [List.length_singleton]; omega
    · simp only [List.length_nil]; omega
/-- Places strictly ascend, within the word. -/
def Str (n : Nat) (P : List Int) : Prop := P.Pairwise (· < ·) ∧ ∀ x ∈ P, 1 ≤ x ∧ x < (n : Int)
theorem seg_plain (s : ByteArray) (P : List Int) (a : Nat) : ∀ d, (∀ i : Nat, a ≤ i → i < a + d → ¬ (i : Int) ∈ P) → hyR s P (a + d) = hyR s P a ++ (s.data.toList.drop a).take d
  | 0, _ => by rw [List.take_zero, List.append_nil]; try rfl
  | d + 1, h => by
    have ih := seg_plain s P a d (fun i h1 h2 => h i h1 (by omega))
    show hyR s P (a + d) ++ ((if ((a + d : Nat) : Int) ∈ P then [45] else []) ++ (s.data.toList.drop (a + d)).take 1) = _
    rw [if_neg (h (a + d) (by omega) (by omega)), ih, List.nil_append, List.append_assoc, List.take_add, List.drop_drop]
theorem seg_one (s : ByteArray) (P : List Int) (a d : Nat) (hm : (a : Int) ∈ P) (h : ∀ i : Nat, a < i → i < a + (d + 1) → ¬ (i : Int) ∈ P) : hyR s P (a + (d + 1)) = hyR s P a ++ [45] ++ (s.data.toList.drop a).take (d + 1) := by
  have e : hyR s P (a + 1) = hyR s P a ++ ([45] ++ (s.data.toList.drop a).take 1) := by
    show hyR s P a ++ ((if (a : Int) ∈ P then [45] else []) ++ (s.data.toList.drop a).take 1) = _
    rw [if_pos hm]
  have h2 := seg_plain s P (a + 1) d (fun i h1 h2 => h i (by omega) (by omega))
  rw [show a + (d + 1) = a + 1 + d by omega, h2, e, Nat.add_comm d 1, List.take_add, List.drop_drop]
  simp [List.append_assoc]
theorem str_lt {n : Nat} {P : List Int} (h : Str n P) {i j : Nat} (hi : i < j) (hj : j < P.length) : P.getD i 0 < P.getD j 0 := by
  have h1 := List.pairwise_iff_getElem.1 h.1 i j (by omega) hj hi
  rw [List.getD_eq_getElem?_getD, List.getD_eq_getElem?_getD, List.getElem?_eq_getElem hj, List.getElem?_eq_getElem (by omega : i < P.length)]
  exact h1
theorem str_bd {n : Nat} {P : List Int} (h : Str n P) {i : Nat} (hi : i < P.length) : 1 ≤ P.getD i 0 ∧ P.getD i 0 < (n : Int) := h.2 _ (mem_getD.2 ⟨i, hi, rfl⟩)
theorem str_no {n : Nat} {P : List Int} (h : Str n P) {k : Nat} {x : Int} (h1 : ∀ j, j < k → j < P.length → P.getD j 0 < x) (h2 : k < P.length → x < P.getD k 0) : ¬ x ∈ P := by
  intro hm
  obtain ⟨j, hj, e⟩ := mem_getD.1 hm
  rcases Nat.lt_trichotomy j k with hlt | heq | hgt
  · have := h1 j hlt hj; omega
  · subst heq; have := h2 hj; omega
  · have h3 := h2 (by omega)
    have h4 := str_lt h hgt hj
    omega
theorem hyOut_ref {s : ByteArray} {P : List Int} (h : Str s.size P) : ∀ k, k < P.length → hyOut s P (k + 1) = hyR s P (P.getD k 0).toNat ++ [45]
  | 0, hk => by
    have hb := str_bd h hk
    have hs := seg_plain s P 0 (P.getD 0 0).toNat (fun i h1 h2 => str_no h (k := 0) (fun j hj => absurd hj (Nat.not_lt_zero _)) (fun _ => by omega))
    rw [Nat.zero_add] at hs
    show ([] : List UInt8) ++ ((s.extract (0 : Int).toNat (P.getD 0 0).toNat).data.toList ++ [45]) = _
    rw [hs, ext_list]
    rfl
  | k + 1, hk => by
    have ih := hyOut_ref h k (by omega)
    have hb := str_bd h hk
    have hb0 := str_bd h (show k < P.length by omega)
    have hlt := str_lt h (show k < k + 1 by omega) hk
    obtain ⟨d, hd⟩ : ∃ d : Nat, (P.getD (k + 1) 0).toNat = (P.getD k 0).toNat + (d + 1) := ⟨(P.getD (k + 1) 0).toNat - (P.getD k 0).toNat - 1, by omega⟩
    have hs := seg_one s P (P.getD k 0).toNat d (by rw [Int.toNat_of_nonneg (by omega)]; exact mem_getD.2 ⟨k, by omega, rfl⟩) (fun i h1 h2 => str_no h (k := k + 1) (fun j hj hjl => by
      rcases Nat.lt_or_ge j k with h3 | h3
      · have := str_lt h h3 (by omega); omega
      · obtain rfl : j = k := by omega
        omega) (fun _ => by omega))
    show hyOut s P (k + 1) ++ ((s.extract (P.getD k 0).toNat (P.getD (k + 1) 0).toNat).data.toList ++ [45]) = _
    rw [ih, hd, hs, ext_list, Nat.add_sub_cancel_left]
    simp [List.append_assoc]
theorem hyText_ref {s : ByteArray} {P : List Int} (h : Str s.size P) : hyText s P = ⟨(hyR s P s.size).toArray⟩ := by
  unfold hyText
  congr 2
  rw [ext_list]
  rcases Nat.eq_zero_or_pos P.length with h0 | h0
  · rw [h0]
    have hs := seg_plain s P 0 s.size (fun i _ _ => str_no h (k := 0) (fun j hj => absurd hj (Nat.not_lt_zero _)) (fun hh => by omega))
    rw [Nat.zero_add] at hs
    rw [hs]
    rfl
  · obtain ⟨k, hk⟩ : ∃ k, P.length = k + 1 := ⟨P.length - 1, by omega⟩
    have hb := str_bd h (show k < P.length by omega)
    have ih := hyOut_ref h k (by omega)
    obtain ⟨d, hd⟩ : ∃ d : Nat, s.size = (P.getD k 0).toNat + (d + 1) := ⟨s.size - (P.getD k 0).toNat - 1, by omega⟩
    have hs := seg_one s P (P.getD k 0).toNat d (by rw [Int.toNat_of_nonneg (by omega)]; exact mem_getD.2 ⟨k, by omega, rfl⟩) (fun i h1 h2 => str_no h (k := k + 1) (fun j hj hjl => by
      rcases Nat.lt_or_ge j k with h3 | h3
      · have := str_lt h h3 (by omega); omega
      · obtain rfl : j = k := by omega
        omega) (fun hh => by omega))
    rw [hk, ih]
    show hyR s P (P.getD k 0).toNat ++ [45] ++ (s.data.toList.drop (P.getD k 0).toNat).take (s.size - (P.getD k 0).toNat) = _
    rw [← hd] at hs
    rw [hs, show s.size - (P.getD k 0).toNat = d + 1 by omega]
theorem odds_strict (L : List Int) : ∀ k, (odds L k).Pairwise (· < ·) ∧ ∀ x ∈ odds L k, x < (k : Int)
  | 0 => ⟨List.Pairwise.nil, fun x hx => (by cases hx)⟩
  | k + 1 => by
    obtain ⟨h1, h2⟩ := odds_strict L k
    unfold odds
    split
    · refine ⟨List.pairwise_append.2 ⟨h1, List.pairwise_singleton _ _, fun a ha b hb => ?_⟩, fun x hx => ?_⟩
      · have := h2 a ha
        obtain rfl := List.mem_singleton.1 hb
        omega
      · rcases List.mem_append.1 hx with hx | hx
        · have := h2 x hx; omega
        · obtain rfl := List.mem_singleton.1 hx
          omega
    · exact ⟨h1, fun x hx => by have := h2 x hx; omega⟩
theorem sumL_strict {ps : List (List UInt8)} (hne : ps.any List.isEmpty = false) {i j : Nat} (h : i < j) (hj : j ≤ ps.length) : sumL ps i < sumL ps j := by
  have hm := sumL_mono ps (show i + 1 ≤ j by omega)
  have hi : i < ps.length := by omega
  have h1 : sumL ps (i + 1) = sumL ps i + (ps[i].length : Int) := by
    unfold sumL
    rw [List.take_succ_eq_append_getElem hi, List.flatten_append, List.length_append]
    simp
  have h2 : 0 < ps[i].length := by
    have := List.any_eq_false.1 hne ps[i] (List.getElem_mem hi)
    cases hp : ps[i] with
    | nil => rw [hp] at this; simp at this
    | cons a l => simp
  omega
theorem cutAt_strict {m : UInt8} {l : List UInt8} {x : List UInt8 × List Int} (h : cutAt m l = some x) : x.2.Pairwise (· < ·) := by
  unfold cutAt at h
  by_cases c1 : 59 < l.length
  · rw [if_pos c1] at h; cases h
  · rw [if_neg c1] at h
    by_cases c2 : (splitOn m l).any List.isEmpty = true
    · rw [if_pos c2] at h; cases h
    · rw [if_neg c2] at h
      injection h with h
      rw [← h]
      have c3 : (splitOn m l).any List.isEmpty = false := Bool.eq_false_iff.2 c2
      have hat : ∀ k (hk : k < (placesOf 0 (splitOn m l)).length), k + 1 ≤ (splitOn m l).length ∧ (placesOf 0 (splitOn m l))[k] = sumL (splitOn m l) (k + 1) := fun k hk => by
        have hk' := hk
        rw [placesOf_len] at hk'
        have h2 := placesOf_at (splitOn m l) 0 k (by omega)
        rw [List.getElem?_eq_getElem hk] at h2
        injection h2 with h2
        exact ⟨by omega, by rw [h2, Int.zero_add]⟩
      refine List.pairwise_iff_getElem.2 fun i j hi hj hij => ?_
      show (placesOf 0 (splitOn m l))[i] < (placesOf 0 (splitOn m l))[j]
      rw [(hat i hi).2, (hat j hj).2]
      exact sumL_strict c3 (by omega) (hat j hj).1
theorem rulePos_strict (r : RU) (s : ByteArray) : (rulePos r s).Pairwise (· < ·) := by
  unfold rulePos
  split
  · unfold lookE
    rcases lookE_mem (key := (lowS s).data.toList) (entsN excS r.es.l r.es.l.length) [] with h | ⟨p, hp, h1, h2⟩
    · rw [h]; exact List.Pairwise.nil
    · rw [h2]
      unfold entsN at hp
      obtain ⟨j, _, rfl⟩ := List.mem_map.1 hp
      unfold entG
      cases h : entO excS (r.es.l.getD j noTx) with
      | none => exact List.Pairwise.nil
      | some x =>
        unfold entO at h
        cases hc : cutAt excS.m (r.es.l.getD j noTx).data.toList with
        | none => rw [hc] at h; cases h
        | some y =>
          rw [hc] at h
          dsimp only at h
          split at h
          · injection h with h
            show List.Pairwise _ x.2
            rw [← h]
            exact cutAt_strict hc
          · cases h
  · split
    · exact (odds_strict _ _).1
    · exact List.Pairwise.nil
theorem checkR_least {r : RU} (h : (checkR r).2 = 0) : 1 ≤ r.left ∧ 1 ≤ r.right := by
  obtain ⟨h2, h3⟩ := checkR_exc h
  unfold checkR at h
  by_cases h1 : (checkPats r.ps.l).2 = 0
  · rw [if_neg (fun h => h h1), if_neg (fun h => h h2), if_neg (fun h => h h3)] at h
    by_cases h4 : r.left < 1 ∨ 10 < r.left ∨ r.right < 1 ∨ 10 < r.right
    · rw [if_pos h4] at h; exact absurd h (by decide)
    · omega
  · rw [if_pos h1] at h; exact absurd h h1
theorem ruleHyph_str {r : RU} {s : ByteArray} (h : (checkR r).2 = 0) : Str s.size (ruleHyph r s) := by
  rw [ruleHyph_eq]
  refine ⟨(rulePos_strict r s).filter _, fun x hx => ?_⟩
  obtain ⟨_, hn⟩ := List.mem_filter.1 hx
  have := checkR_least h
  unfold nearB at hn
  rw [Bool.and_eq_true, decide_eq_true_eq, decide_eq_true_eq] at hn
  omega
set_option maxRecDepth 100000 in
set_option maxHeartbeats 2000000 in
theorem refHyphened_any (r : RU) (s : ByteArray) (w : World) (hR : r.at_ w) (hS : RSmall r) (he : (checkR r).2 = 0) (hs : s.size ≤ 30) :
    Calls Tryz.prog 65 #[.agg r.cells, .string s] w fun e w' => e = .returned (.string (hyText s (ruleHyph r s))) ∧ Below w.heap.size w w' := by
  have hb0 := (Below.refl w.heap.size w).alloc (Nat.le_refl _) (.cells #[.slice r.ps.a r.ps.l.length r.ps.c, .slice r.es.a r.es.l.length r.es.c, .slice r.bs.a r.bs.l.length r.bs.c, .int .i64 r.left, .int .i64 r.right] 24)
  have HC := Lib.hid (fun W (h : r.at_ W) => refHyphens_any r s W h hS he hs)
  have hR0 := hR.below hb0
  have HT := Lib.hid (hyText_ref (ruleHyph_str (s := s) he))
  have hPl : (ruleHyph r s).length ≤ 1001 := by
    rw [ruleHyph_eq]
    exact Nat.le_trans (List.length_filter_le _ _) (rulePos_len r s (by omega))
  obtain ⟨P, hP⟩ : ∃ P, P = ruleHyph r s := ⟨_, rfl⟩
  rw [← hP] at HT hPl HC ⊢
  unfold RU.cells at *
  clear hP hR he
  go_enter Tryz.func65, Tryz.ntmps65
  go_wp2_with fail
  refine (HC.out _ hR0).mono ?_
  rintro e w2 ⟨⟨A, c, rfl, hI⟩, hb2⟩
  have hlow := hb0.trans (hb2.mono hb0.size)
  have HH := Lib.hid (fun n => has_any A P P.length c n w2 hI rfl (by unfold maxLen; omega))
  clear HC hb2 hb0 hI hR0
  go_wp2_with fail
  go_loop [5, 7] (fun v5 v7 => ∃ k : Nat, k ≤ s.size ∧ v7 = .int .i64 k ∧ v5 = .string ⟨(hyR s P k).toArray⟩) (fun _ v7 => s.size - (intOf v7).toNat)
  case atStart => exact ⟨0, Nat.zero_le _, rfl, rfl⟩
  case round =>
    obtain ⟨k, hk, rfl, rfl⟩ := hrel
    have hl := hyR_len s P k
    by_cases hlt : k < s.size
    · have hkl : (k : Int) < (s.size : Int) := by omega
      have hk1 : (k : Int) + 1 ≤ (s.size : Int) := by omega
      have hst : hyR s P (k + 1) = hyR s P k ++ ((if (k : Int) ∈ P then [45] else []) ++ (s.data.toList.drop k).take 1) := rfl
      obtain ⟨L, hL⟩ : ∃ L, L = hyR s P k := ⟨_, rfl⟩
      rw [← hL] at hst hl ⊢
      have HST := Lib.hid hst
      have hz : (⟨L.toArray⟩ : ByteArray).size ≤ 60 := by
        show L.toArray.size ≤ 60
        rw [List.size_toArray]; omega
      clear hst hL
      by_cases hm : (k : Int) ∈ P
      · have HQ := Lib.hid (show Calls Tryz.prog 77 #[.slice A P.length c, .int .i64 (k : Int)] w2 (fun e w' => e = .returned (.bool true) ∧ w2 = w') by have h := HH.out (k : Int); rw [decide_eq_true hm] at h; exact h)
        have HN := Lib.hid (show (⟨L.toArray⟩ : ByteArray) ++ ⟨#[45]⟩ ++ s.extract k (k + 1) = ⟨(hyR s P (k + 1)).toArray⟩ by
          rw [HST.out, if_pos hm]
          refine bytes_eq2 ?_
          rw [ByteArray.data_append, ByteArray.data_append, Array.toList_append, Array.toList_append, ext_list, Nat.add_sub_cancel_left]
          simp)
        clear hm HH
        go_wp2_with fail
        refine HQ.out.mono ?_
        rintro e w3 ⟨rfl, rfl⟩
        go_wp2_with fail
        rw [HN.out]
        go_round
        case rel => exact ⟨k + 1, by omega, by go_num, rfl⟩
        case measure => simp [intOf]; omega
      · have HQ := Lib.hid (show Calls Tryz.prog 77 #[.slice A P.length c, .int .i64 (k : Int)] w2 (fun e w' => e = .returned (.bool false) ∧ w2 = w') by have h := HH.out (k : Int); rw [decide_eq_false hm] at h; exact h)
        have HN := Lib.hid (show (⟨L.toArray⟩ : ByteArray) ++ s.extract k (k + 1) = ⟨(hyR s P (k + 1)).toArray⟩ by
          rw [HST.out, if_neg hm]
          refine bytes_eq2 ?_
          rw [ByteArray.data_append, Array.toList_append, ext_list, Nat.add_sub_cancel_left]
          simp)
        clear hm HH
        go_wp2_with fail
        refine HQ.out.mono ?_
        rintro e w3 ⟨rfl, rfl⟩
        go_wp2_with fail
        rw [HN.out]
        go_round
        case rel => exact ⟨k + 1, by omega, by go_num, rfl⟩
        case measure => simp [intOf]; omega
    · obtain rfl : k = s.size := by omega
      have hkl : ¬ (s.size : Int) < (s.size : Int) := by omega
      go_wp2
      go_ret
      exact ⟨by rw [HT.out]; try rfl, hlow⟩
end Go.Proofs.YtlkkociijfdcgaaGreatDoor
