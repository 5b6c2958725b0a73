/-
  Package press: copies of lists of numbers, of tables, of colours.
-/
import Derived.Test.YtpplcbpnojggcaaGF
import Derived.BigQuiet
import Derived.Test.YtpplcbpnojggcaaAM
import Derived.Test.YtpplcbpnojggcaaAD
import Derived.Deep.RegionHeld3
import Derived.StillTailTactics
import Derived.Test.YtpplcbpnojggcaaGC

namespace Go.Proofs.Ytpplcbpnojggcaa
open Go.RowKit Go.Maps Go.Shelf

def CIPost (L : List Int) (w : World) (e : Ending) (w' : World) : Prop := ∃ v, e = .returned v ∧ OwnR 1 3 intL w' w.heap.size v L ∧ Below w.heap.size w w'
set_option maxRecDepth 100000 in
set_option maxHeartbeats 1000000 in
theorem copyInts_any (a : Option Addr) (L : List Int) (n c : Nat) (w : World) (hn : n = L.length) (hL : RowsAt 1 intL w a L) (hl : L.length ≤ 1000000) (hd : a = none → c = 0) :
    Calls Try.prog 47 #[.slice a n c] w (CIPost L w) := by
  subst hn
  have hm := World.ownsRow_made (e := 3) (size := 1) (base := w.heap.size) w #[] 0 (Nat.le_refl _) (Nat.zero_le _) rfl
  have hown : OwnR 1 3 intL (w.alloc (.cells #[] 3)) w.heap.size (.slice (some ⟨w.heap.size, 0, none⟩) 0 0) [] := hm
  have hB := (Below.refl w.heap.size w).alloc (Nat.le_refl _) (.cells #[] 3)
  have HL := Lib.hid (hL.alloc (.cells #[] 3))
  clear hm hL
  go_enter Try.func47, Try.ntmps47
  go_wp2_with (at_builtin; refine wpList_appL tInt int_l _ rfl _ _ rfl w.heap.size _ [] rfl hown a L c rfl HL.out hd (by simp) hl (by simp) ?_; intro v' w' hown' hg' hB' hor')
  go_ret
  exact ⟨_, rfl, hown', hB.trans hB'⟩
theorem prV_l : ∀ x : PR, (prV x).length = 1 := fun _ => rfl
theorem prV_one : ∀ x : PR, ∀ u ∈ prV x, u.oneCell' = true := fun x u hu => by rw [List.mem_singleton.1 hu]; rfl
theorem tPR : ElG 1 24 76 75 (.slice none 0 0) := ⟨Try.underlying76, by kernel_rfl, rfl, by decide, by decide⟩
/-- The rows of a table, each of the call's own. -/
def OwnRows (w : World) (B : Nat) (T : List PR) : Prop := ∀ x ∈ T, OwnR 1 3 intL w B (.slice x.a x.l.length x.c) x.l
theorem OwnRows.below {w w' : World} {B : Nat} {T : List PR} (h : OwnRows w B T) (hb : Below w.heap.size w w') : OwnRows w' B T := fun x hx => (h x hx).below hb
theorem OwnRows.grown {w w' : World} {B B' n m : Nat} {v : Value} {T : List PR} {xs : List Value} (h : OwnRows w B T) (ho : w.ownsRow B' 75 n v m xs) (hg : w.grownBy w' v.ownBlock) : OwnRows w' B T := fun x hx =>
  (h x hx).grown hg (fun q e e' => rows_apart (h x hx) ho (by decide) q e e'.symm)
theorem RowsG.setC {α : Type} {n : Nat} {g : α → List Value} {w : World} {a : Option Addr} {L : List α} (h : RowsG n g w a L) {p : Addr} (hp : ∀ ad, a = some ad → ad.block ≠ p.block) (u : Value) : RowsG n g (w.setCell p u) a L := fun k hk => by
  obtain ⟨ad, e, hlt, hs⟩ := h k hk
  refine ⟨ad, e, by rw [World.size_setCell]; exact hlt, fun j hj => ?_⟩
  rw [World.cell?_setCell_other _ _ _ _ (fun e2 => hp ad e (by have := congrArg Addr.block e2; rw [fld_block, add_block] at this; exact this.symm))]
  exact hs j hj
/-- Where a table lies: from a block on. -/
def TabGe (B : Nat) (a : Option Addr) (T : List PR) : Prop := (∀ ad, a = some ad → B ≤ ad.block) ∧ ∀ x ∈ T, ∀ ad, x.a = some ad → B ≤ ad.block
theorem TabAt.set {w : World} {a : Option Addr} {T : List PR} {B : Nat} (h : TabAt w a T) (hg : TabGe B a T) {p : Addr} (hp : p.block < B) (u : Value) : TabAt (w.setCell p u) a T :=
  ⟨h.rows.setC (fun ad e => by have := hg.1 ad e; omega) u, fun x hx => (h.ints x hx).set (fun ad e => by have := hg.2 x hx ad e; omega) u⟩
theorem TabAt.drew {w : World} {a : Option Addr} {T : List PR} (h : TabAt w a T) : TabAt w.drew a T := ⟨h.rows, h.ints⟩
/-- A copy of a table. -/
def CLPost (T : List PR) (w : World) (e : Ending) (w' : World) : Prop := ∃ (a : Option Addr) (c : Nat) (T' : List PR), e = .returned (.slice a T'.length c) ∧ T'.map (·.l) = T.map (·.l) ∧ TabAt w' a T' ∧ (a = none → c = 0) ∧ (∀ x ∈ T', x.a = none → x.c = 0) ∧ TabGe w.heap.size a T' ∧ Below w.heap.size w w'
theorem pick_lt {w : World} {a : Option Addr} {T : List PR} (h : TabAt w a T) {k : Nat} (hk : k < T.length) : ∃ ad, a = some ad := by
  obtain ⟨ad, e, _⟩ := h.row hk; exact ⟨ad, e⟩
set_option maxRecDepth 100000 in
set_option maxHeartbeats 4000000 in
theorem copyLists_any (a : Option Addr) (T : List PR) (n c : Nat) (w : World) (hn : n = T.length) (hT : TabAt w a T) (hl : T.length ≤ 1000) (hsz : ∀ x ∈ T, x.l.length ≤ 1000000) (hd : ∀ x ∈ T, x.a = none → x.c = 0) :
    Calls Try.prog 71 #[.slice a n c] w (CLPost T w) := by
  subst hn
  have HSZ := Lib.hid hsz; have HD := Lib.hid hd
  clear hsz hd
  go_enter Try.func71, Try.ntmps71
  go_wp2_with fail
  go_loopw [3, 4] (fun v i wr => ∃ (k : Nat) (T' : List PR), k ≤ T.length ∧ i = .int .i64 k ∧ Hid (T'.map (·.l) = (T.take k).map (·.l)) ∧ Hid (T'.length = k) ∧ OwnG 1 75 prV wr w.heap.size v T' ∧ OwnRows wr w.heap.size T' ∧ Below w.heap.size w wr) (fun _ i _ => T.length - (intOf i).toNat)
  case atStart => exact ⟨0, [], Nat.zero_le _, rfl, Lib.hid rfl, Lib.hid rfl, OwnG.nil _ _, fun x hx => (by cases hx), Below.refl _ _⟩
  case round =>
    obtain ⟨k, T', hk, rfl, HM, HTL, hown, hrows, hB⟩ := hrel
    by_cases hlt : k < T.length
    · obtain ⟨ad, ra, rl, rc, rfl, had, hcell, hrow, hrr⟩ := (hT.below hB).pick hlt
      have hxl : rl.length ≤ 1000000 := by have := HSZ.out _ (List.getElem_mem hlt); rw [hrr] at this; exact this
      have hxd : ra = none → rc = 0 := by have := HD.out _ (List.getElem_mem hlt); rw [hrr] at this; exact this
      have HTK := Lib.hid (show (T.take (k + 1)).map (·.l) = (T.take k).map (·.l) ++ [rl] by rw [List.take_succ_eq_append_getElem hlt, List.map_append, hrr]; rfl)
      have hkl : (k : Int) < (T.length : Int) := by omega
      have HO := Lib.hid hown; have HRS := Lib.hid hrows; have HB := Lib.hid hB; have HRW := Lib.hid hrow
      clear hrr hown hrows hB hrow
      go_wp2_with (first
        | (go_at_call 47; refine (copyInts_any ra rl rl.length rc _ rfl HRW.out hxl hxd).mono ?_; rintro e w2 ⟨v2, rfl, hO2, hb2⟩; obtain ⟨a2, c2, e2, -⟩ := hO2.rows int_l; subst e2; have HO2 := Lib.hid (hO2.mono HB.out.size); have HOT := Lib.hid (HO.out.below hb2); have HRS2 := Lib.hid (HRS.out.below hb2); have HB2 := Lib.hid (HB.out.trans (hb2.mono HB.out.size)); clear hO2 hb2)
        | (at_builtin; refine wpList_appG1 tPR prV_l prV_one w2 (⟨a2, rl, c2⟩ : PR) _ rfl rfl _ _ rfl w.heap.size _ T' rfl HOT.out rfl (by have := HTL.out; omega) HB2.out.size ?_; intro v3 w3 hO3 hg3 hb3 hor3))
      have hrows3 : OwnRows w3 w.heap.size (T' ++ [⟨a2, rl, c2⟩]) := fun y hy => by
        rcases List.mem_append.1 hy with h | h
        · exact (HRS2.out.grown HOT.out hg3) y h
        · rw [List.mem_singleton.1 h]
          exact HO2.out.grown hg3 (fun q e e' => rows_apart HO2.out HOT.out (by decide) q e e'.symm)
      go_roundw
      case rel => exact ⟨k + 1, T' ++ [⟨a2, rl, c2⟩], by omega, by go_num, Lib.hid (by rw [List.map_append, HM.out, HTK.out]; rfl), Lib.hid (by rw [List.length_append, HTL.out]; rfl), hO3, hrows3, HB2.out.trans hb3⟩
      case measure => simp [intOf]; omega
    · have hk2 : k = T.length := by omega
      subst hk2
      obtain ⟨a2, c2, ev, hr2, hn2, hge2⟩ := hown.rows prV_l
      subst ev
      have HMM := Lib.hid (show T'.map (·.l) = T.map (·.l) by rw [HM.out, List.take_length])
      have hTA : TabAt wr a2 T' := ⟨hr2, fun x hx => by
        obtain ⟨a3, c3, e3, hr3, -⟩ := (hrows x hx).rows int_l
        injection e3 with e4
        rw [e4]; exact hr3⟩
      have hnil : ∀ x ∈ T', x.a = none → x.c = 0 := fun x hx => by
        obtain ⟨a3, c3, e3, -, -, -, hn3, -⟩ := (hrows x hx).rows int_l
        injection e3 with e4 _ e5
        rw [e4, e5]; exact hn3
      have hge : TabGe w.heap.size a2 T' := ⟨hge2, fun x hx => by
        obtain ⟨a3, c3, e3, -, -, -, -, hg3⟩ := (hrows x hx).rows int_l
        injection e3 with e4
        rw [e4]; exact hg3⟩
      have HTA := Lib.hid hTA; have HNL := Lib.hid hnil; have HGE := Lib.hid hge
      clear hTA hnil hge hge2 hrows hown hr2
      go_wp2
      go_ret
      exact ⟨a2, c2, T', rfl, HMM.out, HTA.out, hn2, HNL.out, HGE.out, hB⟩
end Go.Proofs.Ytpplcbpnojggcaa

namespace Go.Proofs.Ytpplcbpnojggcaa
open Go.RowKit Go.Maps Go.Shelf

/-- Block b holds the truths S. -/
def BBox (w : World) (b : Nat) (S : List Bool) : Prop := BoxAt w b (S.map Value.bool).toArray 4
section
variable {w w' : World} {b : Nat} {S : List Bool}
theorem BBox.lt (h : BBox w b S) : b < w.heap.size := BoxAt.lt h
theorem BBox.free (h : BBox w b S) (j : Nat) : w.frozen? ⟨b, j, none⟩ = false := BoxAt.free h j
theorem BBox.cell (h : BBox w b S) {k : Nat} (hk : k < S.length) : w.cell? ⟨b, k, none⟩ = some (.bool S[k]) := by
  rw [BoxAt.cell h k, List.getElem?_toArray, List.getElem?_map, List.getElem?_eq_getElem hk]; rfl
theorem BBox.set (h : BBox w b S) (k : Nat) (v : Bool) : BBox (w.setCell ⟨b, k, none⟩ (.bool v)) b (S.set k v) := by
  have h1 := BoxAt.set h k (.bool v)
  have e : (S.map Value.bool).toArray.setIfInBounds k (.bool v) = ((S.set k v).map Value.bool).toArray := by
    apply Array.ext'
    rw [Array.toList_setIfInBounds]; simp [List.map_set]
  rw [e] at h1; exact h1
theorem BBox.made (w : World) (n : Nat) : BBox (w.alloc (.cells (madeCells #[.bool false] n) 4)) w.heap.size (List.replicate n false) := by
  have h := BoxAt.new w (madeCells #[.bool false] n) 4
  have e : madeCells #[.bool false] n = ((List.replicate n false).map Value.bool).toArray := by
    apply Array.ext'
    rw [toList_madeCells_one]; simp
  rw [e] at h ⊢; exact h
end
theorem info_boolN : (Try.prog.info? 4).map (fun i => (i.zero, i.size, i.bytes)) = some (some (.bool false), 1, 1) := by kernel_rfl
theorem make_bool (n : Nat) (h : n ≤ 1000000) (W : World) : (Instr.makeSlice 183 (.int .i64 (n : Int)) (.int .i64 (n : Int))).run Try.prog W = .ok (.slice (some ⟨W.heap.size, 0, none⟩) n n) (W.alloc (.cells (madeCells #[.bool false] n) 4)) := by
  have h1 := run_make_rowX (t := 183) Try.underlying183 info_boolN .i64 .i64 n (by omega) (by omega) W
  rw [Nat.mul_one] at h1
  exact h1
set_option maxRecDepth 100000 in
set_option maxHeartbeats 4000000 in
theorem errorOfOrder_any (a : Option Addr) (O : List Int) (n c m : Nat) (w : World) (hn : n = O.length) (hO : RowsAt 1 intL w a O) (hl : O.length ≤ maxLen) (hm : m ≤ 1000000) :
    Calls Try.prog 107 #[.slice a n c, .int .i64 m] w (CheckPost (ordErr m O) w) := by
  unfold maxLen at hl
  subst hn
  go_enter Try.func107, Try.ntmps107
  by_cases h0 : O.length = m
  · have HE0 := Lib.hid (show ordErr m O = ordF m (O.take 0) (O.drop 0) by unfold ordErr; rw [if_neg (by simp [h0])]; rfl)
    have hmk := fun W => make_bool m hm W
    have im := BBox.made w m
    have hB0 := (Below.refl w.heap.size w).alloc (Nat.le_refl _) (.cells (madeCells #[.bool false] m) 4)
    have h0' : ((O.length : Int) != (m : Int)) = false := by simp [h0]
    have HM := Lib.hid h0
    clear h0
    go_wp2_with fail
    obtain ⟨w0, hw0⟩ : ∃ w0, w0 = w.alloc (.cells (madeCells #[.bool false] m) 4) := ⟨_, rfl⟩
    rw [← hw0] at im hB0 ⊢
    clear hw0 hmk h0'
    go_loopw [16] (fun i wr => ∃ (k : Nat) (S : List Bool), k ≤ O.length ∧ i = .int .i64 k ∧ Hid (ordErr m O = ordF m (O.take k) (O.drop k)) ∧ Hid (S.length = m ∧ ∀ j : Nat, j < m → S.getD j false = (O.take k).contains (j : Int)) ∧ BBox wr w.heap.size S ∧ Below w.heap.size w wr) (fun i _ => O.length - (intOf i).toNat)
    case atStart => exact ⟨0, _, Nat.zero_le _, rfl, HE0, Lib.hid ⟨by simp, fun j hj => by simp [List.getD_eq_getElem?_getD, hj]⟩, im, hB0⟩
    case round =>
      obtain ⟨k, S, hk, rfl, HE, HS, im, hB⟩ := hrel
      by_cases hlt : k < O.length
      · obtain ⟨ad, rfl, had, s0⟩ := (hO.below hB).int hlt
        have HAT := Lib.hid (ordF_at (n := m) hlt)
        have HTK := Lib.hid (List.take_succ_eq_append_getElem hlt)
        obtain ⟨y, ey⟩ : ∃ y, y = O[k] := ⟨_, rfl⟩
        rw [← ey] at s0 HAT HTK
        have hkl : (k : Int) < (O.length : Int) := by omega
        have hw1 : IntKind.i64.wrap ((m : Int) - 1) = (m : Int) - 1 := IntWalk.i64_in _ (by omega)
        clear ey
        cases hin : inB y 0 ((m : Int) - 1)
        · have HR := Lib.hid (show ordErr m O = 6 by rw [HE.out, HAT.out, if_pos hin])
          go_wp2_with (go_at_call 85; refine (isFrom_any _ _ _ _).mono ?_; rintro e w' ⟨rfl, rfl⟩)
          go_ret
          exact ⟨ret_int HR.out.symm, hB⟩
        · have hy := inB_iff.1 hin
          obtain ⟨yN, rfl⟩ : ∃ yN : Nat, y = yN := ⟨y.toNat, by omega⟩
          have hyS : yN < S.length := by have := HS.out.1; omega
          have hyS' : (yN : Int) < (m : Int) := by omega
          have c0 := im.cell hyS
          have hcon := HS.out.2 yN (by omega)
          have eg : S.getD yN false = S[yN] := by rw [List.getD_eq_getElem?_getD, List.getElem?_eq_getElem hyS]; rfl
          rw [eg] at hcon
          have fz := im.free yN
          have hil := im.lt
          have HIN := Lib.hid hin
          have HCON := Lib.hid hcon
          have HIM := Lib.hid im; have HB := Lib.hid hB
          obtain ⟨bb, hbb⟩ : ∃ bb, bb = S[yN] := ⟨_, rfl⟩
          rw [← hbb] at c0 HCON
          clear hcon hbb eg hin im hB hy
          cases bb
          · have HR := Lib.hid (show ordErr m O = ordF m (O.take (k + 1)) (O.drop (k + 1)) by rw [HE.out, HAT.out, if_neg (by rw [HIN.out]; decide), if_neg (by rw [← HCON.out]; decide)])
            have HSS : Hid ((S.set yN true).length = m ∧ ∀ j : Nat, j < m → (S.set yN true).getD j false = (O.take (k + 1)).contains (j : Int)) := Lib.hid ⟨by rw [List.length_set]; exact HS.out.1, fun j hj => by
              rw [HTK.out]
              have e1 : ((O.take k) ++ [(yN : Int)]).contains (j : Int) = ((O.take k).contains (j : Int) || ((j : Int) == (yN : Int))) := by
                rw [Bool.eq_iff_iff]; simp [List.mem_append]
              rw [e1, List.getD_eq_getElem?_getD, List.getElem?_set]
              by_cases e : yN = j
              · subst e; rw [if_pos rfl, if_pos hyS]; simp
              · rw [if_neg e]
                have h9 := HS.out.2 j hj
                rw [List.getD_eq_getElem?_getD] at h9
                rw [h9]
                have : ((j : Int) == (yN : Int)) = false := by rw [beq_eq_false_iff_ne]; omega
                rw [this, Bool.or_false]⟩
            have HIM2 := Lib.hid (HIM.out.set yN true)
            have HB2 := Lib.hid (HB.out.setCell (p := ⟨w.heap.size, yN, none⟩) (Nat.le_refl _) (.bool true))
            have HINr := HIN.out
            go_wp2_with (go_at_call 85; refine (isFrom_any _ _ _ _).mono ?_; rintro e w' ⟨rfl, rfl⟩; rw [HINr])
            go_roundw
            case rel => exact ⟨k + 1, _, by omega, by go_num, HR, HSS, HIM2.out, HB2.out⟩
            case measure => simp [intOf]; omega
          · have HR := Lib.hid (show ordErr m O = 28 by rw [HE.out, HAT.out, if_neg (by rw [HIN.out]; decide), if_pos HCON.out.symm])
            have HINr := HIN.out
            go_wp2_with (go_at_call 85; refine (isFrom_any _ _ _ _).mono ?_; rintro e w' ⟨rfl, rfl⟩; rw [HINr])
            go_ret
            exact ⟨ret_int HR.out.symm, HB.out⟩
      · have HR := Lib.hid (show ordErr m O = 0 by rw [HE.out, List.drop_of_length_le (by omega)]; rfl)
        go_wp2
        go_ret
        exact ⟨ret_int HR.out.symm, hB⟩
  · have HE := Lib.hid (show ordErr m O = 10 by unfold ordErr; rw [if_pos h0])
    have h0' : ((O.length : Int) != (m : Int)) = true := by simp; omega
    clear h0
    go_wp2_with fail
    go_ret
    exact ⟨ret_int HE.out.symm, Below.refl _ _⟩
set_option maxRecDepth 100000 in
set_option maxHeartbeats 1000000 in
theorem has_any (a : Option Addr) (L : List Int) (n c : Nat) (x : Int) (w : World) (hn : n = L.length) (hX : RowsAt 1 intL w a L) (hl : n ≤ maxLen) :
    Calls Try.prog 112 #[.slice a n c, .int .i64 x] w fun e w' => e = .returned (.bool (L.contains x)) ∧ w = w' := by
  unfold maxLen at hl
  have HN := Lib.hid hn
  clear hn
  have HANY := Lib.hid (show L.contains x = L.any (fun y => y == x) by
    rw [Bool.eq_iff_iff]; simp)
  go_enter Try.func112, Try.ntmps112
  go_wp2
  go_loop [5] (fun i => ∃ k : Nat, k ≤ n ∧ i = .int .i64 k ∧ Hid ((L.any fun y => y == x) = ((L.drop k).any fun y => y == x))) (fun i => n - (intOf i).toNat)
  case atStart => exact ⟨0, Nat.zero_le _, rfl, Lib.hid (by rw [List.drop_zero])⟩
  case round =>
    obtain ⟨k, hk, rfl, HR⟩ := hrel
    by_cases hlt : k < n
    · have hlt2 : k < L.length := by have := HN.out; omega
      have hkl : (k : Int) < (n : Int) := by omega
      obtain ⟨ad, rfl, had, hc⟩ := hX.int hlt2
      have HS := Lib.hid (any_step (p := fun y => y == x) hlt2)
      obtain ⟨y, ey⟩ : ∃ y, y = L[k] := ⟨_, rfl⟩
      rw [← ey] at hc HS
      clear ey
      cases hq : (y == x)
      · have HQ := Lib.hid hq
        go_wp2
        go_round
        case rel => exact ⟨k + 1, by omega, by go_num, Lib.hid (by rw [HR.out, HS.out, HQ.out]; rfl)⟩
        case measure => simp [intOf]; omega
      · have HQ := Lib.hid hq
        go_wp2
        go_ret
        exact ⟨ret_bool (by have h := HANY.out; rw [HR.out, HS.out, HQ.out] at h; simpa using h), rfl⟩
    · have HE := Lib.hid (any_stop (p := fun y => y == x) (L := L) (k := k) (by have := HN.out; omega))
      obtain rfl : k = n := by omega
      go_wp2
      go_ret
      exact ⟨ret_bool (by have h := HANY.out; rw [HR.out, HE.out] at h; simpa using h), rfl⟩
set_option maxRecDepth 100000 in
set_option maxHeartbeats 4000000 in
theorem refCheckOrder_any (a : Option Addr) (O : List Int) (n c m : Nat) (w : World) (hn : n = O.length) (hO : RowsAt 1 intL w a O) (hc : O.length ≤ c) (hl : O.length ≤ maxLen) (hm : m ≤ 1000000) :
    Calls Try.prog 50 #[.slice a n c, .int .i64 m] w (CheckPost (ordErr m O) w) := by
  unfold maxLen at hl
  subst hn
  go_enter Try.func50, Try.ntmps50
  by_cases h0 : O.length = m
  · have HE0 := Lib.hid (show ordErr m O = ordF m (O.take 0) (O.drop 0) by unfold ordErr; rw [if_neg (by simp [h0])]; rfl)
    have h0' : ((O.length : Int) != (m : Int)) = false := by simp [h0]
    have HM := Lib.hid h0
    clear h0
    go_wp2_with fail
    clear h0'
    go_loopw [5] (fun i wr => ∃ k : Nat, k ≤ m ∧ i = .int .i64 k ∧ Hid (ordErr m O = ordF m (O.take k) (O.drop k)) ∧ Drew w wr) (fun i _ => m - (intOf i).toNat)
    case atStart => exact ⟨0, Nat.zero_le _, rfl, HE0, Drew.refl _⟩
    case round =>
      obtain ⟨k, hk, rfl, HE, hdr⟩ := hrel
      have HBW := Lib.hid (hdr.below (Below.refl w.heap.size w))
      by_cases hltm : k < m
      · have hlt : k < O.length := by have := HM.out; omega
        have hOW := hdr.rows hO
        obtain ⟨ad, rfl, had, s0⟩ := hOW.int hlt
        have HAT := Lib.hid (ordF_at (n := m) hlt)
        have hCUT := cut_low (P := Try.prog) 75 ad O.length c k intsUnder 1 intSize (by omega)
        have hkl : (k : Int) < (O.length : Int) := by omega
        have hw1 : IntKind.i64.wrap ((m : Int) - 1) = (m : Int) - 1 := IntWalk.i64_in _ (by omega)
        have HHAS := Lib.hid (fun (x : Int) W (h : RowsAt 1 intL W (some ad) (O.take k)) => has_any (some ad) (O.take k) k c x W (by rw [List.length_take]; omega) h (by unfold maxLen; omega))
        have HTK := Lib.hid (hOW.take k)
        obtain ⟨y, ey⟩ : ∃ y, y = O[k] := ⟨_, rfl⟩
        rw [← ey] at s0 HAT
        clear ey hOW
        cases hin : inB y 0 ((m : Int) - 1)
        · have HR := Lib.hid (show ordErr m O = 6 by rw [HE.out, HAT.out, if_pos hin])
          go_wp2_with (go_at_call 30; refine (within_any _ _ _ _).mono ?_; rintro e w' ⟨rfl, rfl⟩)
          go_ret
          exact ⟨ret_int HR.out.symm, HBW.out⟩
        · have HIN := Lib.hid hin
          cases hcon : (O.take k).contains y
          · have HR := Lib.hid (show ordErr m O = ordF m (O.take (k + 1)) (O.drop (k + 1)) by rw [HE.out, HAT.out, if_neg (by rw [HIN.out]; decide), if_neg (by rw [hcon]; decide)])
            have HC := Lib.hid (fun W h => (HHAS.out y W h))
            rw [hcon] at HC
            clear hcon
            go_wp2_with (go_at_call 30; refine (within_any _ _ _ _).mono ?_; rintro e w' ⟨rfl, rfl⟩; rw [HIN.out])
            go_quiet ((go_at_call 112; exact Calls.quiet_of_same (flip_same (HC.out _ HTK.out))))
            go_wp2
            go_roundw
            case rel => exact ⟨k + 1, by omega, by go_num, HR, hdr.drewN _⟩
            case measure => simp [intOf]; omega
          · have HR := Lib.hid (show ordErr m O = 28 by rw [HE.out, HAT.out, if_neg (by rw [HIN.out]; decide), if_pos hcon])
            have HC := Lib.hid (fun W h => (HHAS.out y W h))
            rw [hcon] at HC
            clear hcon
            go_wp2_with (go_at_call 30; refine (within_any _ _ _ _).mono ?_; rintro e w' ⟨rfl, rfl⟩; rw [HIN.out])
            go_quiet ((go_at_call 112; exact Calls.quiet_of_same (flip_same (HC.out _ HTK.out))))
            go_wp2
            go_ret
            exact ⟨ret_int HR.out.symm, below_drewN HBW.out _⟩
      · have HR := Lib.hid (show ordErr m O = 0 by rw [HE.out, List.drop_of_length_le (by have := HM.out; omega)]; rfl)
        go_wp2
        go_ret
        exact ⟨ret_int HR.out.symm, HBW.out⟩
  · have HE := Lib.hid (show ordErr m O = 10 by unfold ordErr; rw [if_pos h0])
    have h0' : ((O.length : Int) != (m : Int)) = true := by simp; omega
    clear h0
    go_wp2_with fail
    go_ret
    exact ⟨ret_int HE.out.symm, Below.refl _ _⟩
end Go.Proofs.Ytpplcbpnojggcaa

namespace Go.Proofs.Ytpplcbpnojggcaa
open Go.RowKit Go.Maps Go.Shelf

def tabI (T : List PR) (e c : Nat) : Int := (T.getD e noPR).l.getD c 0
def mkR (T : List PR) (O : List Int) : Nat → Int
  | 0 => 0
  | k + 1 => mkR T O k + tabI T (O.getD (k - 1) 0).toNat (O.getD k 0).toNat
def mkA (T : List PR) (O : List Int) : Int := mkR T O O.length
/-- What is wrong with a table. -/
def tblErr (T : List PR) : Int := if 7 < T.length then 8 else rowsE T.length 0 T
structure TabRight (T : List PR) : Prop where
  le : T.length ≤ 7
  rows : ∀ r ∈ T, r.l.length = T.length ∧ ∀ y ∈ r.l, 0 ≤ y ∧ y ≤ 10000
theorem tab_right {T : List PR} (h : tblErr T = 0) : TabRight T := by
  unfold tblErr at h
  split at h
  · cases h
  exact ⟨by omega, rowsE_ok h⟩
theorem tabI_map {T T' : List PR} (h : T'.map (·.l) = T.map (·.l)) (e c : Nat) : tabI T' e c = tabI T e c := by
  have g : ∀ S : List PR, (S.getD e noPR).l = (S.map (·.l)).getD e [] := fun S => by
    rw [List.getD_eq_getElem?_getD, List.getD_eq_getElem?_getD, List.getElem?_map]
    cases S[e]? <;> rfl
  unfold tabI; rw [g, g, h]
theorem mkR_map {T T' : List PR} (h : T'.map (·.l) = T.map (·.l)) (O : List Int) : ∀ k, mkR T' O k = mkR T O k
  | 0 => rfl
  | k + 1 => by unfold mkR; rw [mkR_map h O k, tabI_map h]
theorem map_len {T T' : List PR} (h : T'.map (·.l) = T.map (·.l)) : T'.length = T.length := by
  have := congrArg List.length h; simpa using this
theorem rowsE_map9 {n : Nat} {least : Int} : ∀ {T T' : List PR}, T'.map (·.l) = T.map (·.l) → rowsE n least T' = rowsE n least T
  | [], [], _ => rfl
  | [], _ :: _, h => by cases h
  | _ :: _, [], h => by cases h
  | x :: T, y :: T', h => by
    have h1 : y.l = x.l := by simpa using (List.cons.inj h).1
    have h2 : T'.map (·.l) = T.map (·.l) := (List.cons.inj h).2
    unfold rowsE
    rw [h1, rowsE_map9 h2]
theorem tblErr_map {T T' : List PR} (h : T'.map (·.l) = T.map (·.l)) : tblErr T' = tblErr T := by
  unfold tblErr; rw [map_len h, rowsE_map9 h]
theorem tab_bd {T : List PR} (h : TabRight T) (e c : Nat) : 0 ≤ tabI T e c ∧ tabI T e c ≤ 10000 := by
  unfold tabI
  rcases Nat.lt_or_ge e T.length with he | he
  · have : T.getD e noPR = T[e] := by rw [List.getD_eq_getElem?_getD, List.getElem?_eq_getElem he]; rfl
    rw [this]
    exact getD_bd (h.rows _ (List.getElem_mem he)).2 (by omega) c
  · have : T.getD e noPR = noPR := by rw [List.getD_eq_getElem?_getD, List.getElem?_eq_none he]; rfl
    rw [this]
    show 0 ≤ ([] : List Int).getD c 0 ∧ ([] : List Int).getD c 0 ≤ 10000
    simp
theorem mkR_bd {T : List PR} (h : TabRight T) (O : List Int) : ∀ k, 0 ≤ mkR T O k ∧ mkR T O k ≤ 10000 * k
  | 0 => by unfold mkR; omega
  | k + 1 => by
    have h1 := mkR_bd h O k
    have h2 := tab_bd h (O.getD (k - 1) 0).toNat (O.getD k 0).toNat
    unfold mkR; omega
theorem tab_row {T : List PR} (h : TabRight T) {e c : Nat} {ra : Option Addr} {rl : List Int} {rc : Nat} (he : e < T.length) (hr : T[e] = ⟨ra, rl, rc⟩) (hc : c < T.length) :
    ∃ d, (∃ h : c < rl.length, rl[c] = d) ∧ tabI T e c = d ∧ 0 ≤ d ∧ d ≤ 10000 := by
  have h1 := (h.rows _ (List.getElem_mem he)).1
  rw [hr] at h1
  have h2 : c < rl.length := by have h1 : rl.length = T.length := h1; omega
  have h3 : T.getD e noPR = ⟨ra, rl, rc⟩ := by rw [List.getD_eq_getElem?_getD, List.getElem?_eq_getElem he, hr]; rfl
  have h4 := tab_bd h e c
  have h5 : tabI T e c = rl[c] := by unfold tabI; rw [h3]; exact getD_eqI h2
  exact ⟨rl[c], ⟨h2, rfl⟩, h5, by rw [← h5]; exact h4⟩
/-- A cell of a table, in memory. -/
theorem TabAt.at_ {w : World} {a : Option Addr} {T : List PR} (h : TabAt w a T) (hr : TabRight T) {e c : Nat} (he : e < T.length) (hc : c < T.length) :
    ∃ ad rad rn rc, a = some ad ∧ ad.block < w.heap.size ∧ rad.block < w.heap.size ∧ w.cell? (ad.add e) = some (.slice (some rad) rn rc) ∧ c < rn ∧ rn = T.length ∧ w.cell? (rad.add c) = some (.int .i64 (tabI T e c)) := by
  obtain ⟨ad, ra, rl, rc, ha, had, hcell, hrow, hrr⟩ := h.pick he
  obtain ⟨d, ⟨hcr, ed⟩, hd, -⟩ := tab_row hr he hrr hc
  obtain ⟨rad, hra, hrad, s⟩ := hrow.int hcr
  have hl : rl.length = T.length := by have := (hr.rows _ (List.getElem_mem he)).1; rw [hrr] at this; exact this
  subst hra
  exact ⟨ad, rad, rl.length, rc, ha, had, hrad, hcell, hcr, hl, by rw [hd, ← ed]; exact s⟩
set_option maxRecDepth 100000 in
set_option maxHeartbeats 1000000 in
theorem errorOfReadyTable_any (T : List PR) (a : Option Addr) (n c : Nat) (w : World) (hn : n = T.length) (hT : TabAt w a T) (hl : T.length ≤ maxLen) :
    Calls Try.prog 127 #[.slice a n c] w fun e w' => e = .returned (.int .i64 (tblErr T)) ∧ w = w' := by
  unfold maxLen at hl
  subst hn
  have HT := Lib.hid hT
  clear hT
  go_enter Try.func127, Try.ntmps127
  by_cases h7 : 7 < T.length
  · have HE := Lib.hid (show tblErr T = 8 by unfold tblErr; rw [if_pos h7])
    have h7' : (7 : Int) < (T.length : Int) := by omega
    clear h7
    go_wp2_with fail
    go_ret
    exact ⟨ret_int HE.out.symm, rfl⟩
  · have HE := Lib.hid (show tblErr T = rowsE T.length 0 T by unfold tblErr; rw [if_neg h7])
    have h7' : ¬ (7 : Int) < (T.length : Int) := by omega
    have HR := Lib.hid (errorOfRows_any T a T.length c 0 w rfl HT.out (by omega))
    clear h7
    go_wp2_with (go_at_call 111; refine HR.out.mono ?_; rintro e w' ⟨rfl, rfl⟩)
    go_ret
    exact ⟨ret_int HE.out.symm, rfl⟩
set_option maxRecDepth 100000 in
set_option maxHeartbeats 4000000 in
theorem makeReady_any (T : List PR) (ta : Option Addr) (tn tc : Nat) (O : List Int) (a : Option Addr) (n oc : Nat) (w : World) (htn : tn = T.length) (hn : n = O.length) (hT : TabAt w ta T) (hr : TabRight T) (hO : RowsAt 1 intL w a O) (hol : O.length ≤ 7) (hin : ∀ y ∈ O, 0 ≤ y ∧ y < T.length) :
    Calls Try.prog 128 #[.slice ta tn tc, .slice a n oc] w fun e w' => e = .returned (.int .i64 (mkA T O)) ∧ w = w' := by
  subst hn; subst htn
  have HT := Lib.hid hT; have HR := Lib.hid hr; have HIN := Lib.hid hin; have HO := Lib.hid hO
  clear hT hr hin hO
  go_enter Try.func128, Try.ntmps128
  go_wp2_with fail
  go_loop [5, 11] (fun s i => ∃ k : Nat, k ≤ O.length ∧ i = .int .i64 k ∧ s = .int .i64 (mkR T O k)) (fun _ i => O.length - (intOf i).toNat)
  case atStart => exact ⟨0, Nat.zero_le _, rfl, rfl⟩
  case round =>
    obtain ⟨k, hk, rfl, rfl⟩ := hrel
    by_cases hlt : k < O.length
    · have hp : k - 1 < O.length := by omega
      obtain ⟨ad, rfl, had, s0⟩ := HO.out.int hlt
      obtain ⟨ad', ea', -, s1⟩ := HO.out.int hp
      injection ea' with ea'
      subst ea'
      have hi1 := HIN.out _ (List.getElem_mem hlt)
      have hi2 := HIN.out _ (List.getElem_mem hp)
      have HG1 := Lib.hid (getD_eqI (d := 0) hlt)
      have HG2 := Lib.hid (getD_eqI (d := 0) hp)
      obtain ⟨y, ey⟩ : ∃ y, y = O[k] := ⟨_, rfl⟩
      obtain ⟨z, ez⟩ : ∃ z, z = O[k - 1] := ⟨_, rfl⟩
      rw [← ey] at s0 hi1 HG1
      rw [← ez] at s1 hi2 HG2
      obtain ⟨cN, rfl⟩ : ∃ cN : Nat, y = cN := ⟨y.toNat, by omega⟩
      obtain ⟨eN, rfl⟩ : ∃ eN : Nat, z = eN := ⟨z.toNat, by omega⟩
      obtain ⟨tad, rad, rn, rc, hta, htb, hrb, s2, hcr, hrn, s3⟩ := HT.out.at_ HR.out (e := eN) (c := cN) (by omega) (by omega)
      subst hta
      have HS := Lib.hid (show mkR T O (k + 1) = mkR T O k + tabI T (O.getD (k - 1) 0).toNat (O.getD k 0).toNat from rfl)
      rw [HG1.out, HG2.out, show ((cN : Int)).toNat = cN by omega, show ((eN : Int)).toNat = eN by omega] at HS
      have hb1 := mkR_bd HR.out O k
      have hb2 := tab_bd HR.out eN cN
      obtain ⟨d, hd⟩ : ∃ d, d = tabI T eN cN := ⟨_, rfl⟩
      rw [← hd] at s3 HS hb2
      obtain ⟨q, hq⟩ : ∃ q, q = mkR T O k := ⟨_, rfl⟩
      rw [← hq] at HS hb1 ⊢
      have hw1 : IntKind.i64.wrap (q + d) = q + d := IntWalk.i64_in _ (by omega)
      have hw2 : IntKind.i64.wrap ((k : Int) - 1) = (k : Int) - 1 := IntWalk.i64_in _ (by omega)
      have hmx : max ((k : Int) - 1) 0 = ((k - 1 : Nat) : Int) := by omega
      have hmx2 : (if (k : Int) - 1 < 0 then (0 : Int) else (k : Int) - 1) = ((k - 1 : Nat) : Int) := by split <;> omega
      have hkO : (k : Int) < (O.length : Int) := by omega
      have hpO : ((k - 1 : Nat) : Int) < (O.length : Int) := by omega
      have hcr' : (cN : Int) < (rn : Int) := by omega
      have heT : (eN : Int) < (T.length : Int) := hi2.2
      have HRN := Lib.hid hrn
      clear ey ez hd hq HG1 HG2 hi1 hi2 hrn
      go_wp2
      go_round
      case rel => exact ⟨k + 1, by omega, by go_num, by rw [HS.out]⟩
      case measure => simp [intOf]; omega
    · obtain rfl : k = O.length := by omega
      go_wp2
      go_ret
      exact ⟨rfl, rfl⟩
set_option maxRecDepth 100000 in
set_option maxHeartbeats 4000000 in
theorem refMakeReady_any (T : List PR) (ta : Option Addr) (tn tc : Nat) (O : List Int) (a : Option Addr) (n oc : Nat) (w : World) (htn : tn = T.length) (hn : n = O.length) (hT : TabAt w ta T) (hr : TabRight T) (hO : RowsAt 1 intL w a O) (hol : O.length ≤ 7) (hin : ∀ y ∈ O, 0 ≤ y ∧ y < T.length) :
    Calls Try.prog 75 #[.slice ta tn tc, .slice a n oc] w (CheckPost (mkA T O) w) := by
  subst hn; subst htn
  have HT := Lib.hid hT; have HR := Lib.hid hr; have HIN := Lib.hid hin; have HO := Lib.hid hO
  clear hT hr hin hO
  go_enter Try.func75, Try.ntmps75
  go_wp2_with fail
  go_loopw [5, 6] (fun s i wr => ∃ k : Nat, k ≤ O.length ∧ i = .int .i64 k ∧ s = .int .i64 (mkR T O k) ∧ Drew w wr) (fun _ i _ => O.length - (intOf i).toNat)
  case atStart => exact ⟨0, Nat.zero_le _, rfl, rfl, Drew.refl _⟩
  case round =>
    obtain ⟨k, hk, rfl, rfl, hdr⟩ := hrel
    by_cases hlt : k < O.length
    · have hp : k - 1 < O.length := by omega
      have hOW := hdr.rows HO.out
      have hTW := HT.out.below (hdr.below (Below.refl _ _))
      obtain ⟨ad, rfl, had, s0⟩ := hOW.int hlt
      obtain ⟨ad', ea', -, s1⟩ := hOW.int hp
      injection ea' with ea'
      subst ea'
      have hi1 := HIN.out _ (List.getElem_mem hlt)
      have hi2 := HIN.out _ (List.getElem_mem hp)
      have HG1 := Lib.hid (getD_eqI (d := 0) hlt)
      have HG2 := Lib.hid (getD_eqI (d := 0) hp)
      obtain ⟨y, ey⟩ : ∃ y, y = O[k] := ⟨_, rfl⟩
      obtain ⟨z, ez⟩ : ∃ z, z = O[k - 1] := ⟨_, rfl⟩
      rw [← ey] at s0 hi1 HG1
      rw [← ez] at s1 hi2 HG2
      obtain ⟨cN, rfl⟩ : ∃ cN : Nat, y = cN := ⟨y.toNat, by omega⟩
      obtain ⟨eN, rfl⟩ : ∃ eN : Nat, z = eN := ⟨z.toNat, by omega⟩
      obtain ⟨tad, rad, rn, rc, hta, htb, hrb, s2, hcr, hrn, s3⟩ := hTW.at_ HR.out (e := eN) (c := cN) (by omega) (by omega)
      subst hta
      have HS := Lib.hid (show mkR T O (k + 1) = mkR T O k + tabI T (O.getD (k - 1) 0).toNat (O.getD k 0).toNat from rfl)
      rw [HG1.out, HG2.out, show ((cN : Int)).toNat = cN by omega, show ((eN : Int)).toNat = eN by omega] at HS
      have hb1 := mkR_bd HR.out O k
      have hb2 := tab_bd HR.out eN cN
      obtain ⟨d, hd⟩ : ∃ d, d = tabI T eN cN := ⟨_, rfl⟩
      rw [← hd] at s3 HS hb2
      have HQ0 := Lib.hid (show k = 0 → mkR T O k = 0 from fun e => by rw [e]; rfl)
      obtain ⟨q, hq⟩ : ∃ q, q = mkR T O k := ⟨_, rfl⟩
      rw [← hq] at HS hb1 HQ0 ⊢
      have hw1 : IntKind.i64.wrap (q + d) = q + d := IntWalk.i64_in _ (by omega)
      have hw2 : IntKind.i64.wrap ((k : Int) - 1) = (k : Int) - 1 := IntWalk.i64_in _ (by omega)
      have hkO : (k : Int) < (O.length : Int) := by omega
      have hcr' : (cN : Int) < (rn : Int) := by omega
      have heT : (eN : Int) < (T.length : Int) := hi2.2
      have HRN := Lib.hid hrn
      have HYZ := Lib.hid (show k = 0 → eN = cN from fun e => by subst e; have h := ey.trans ez.symm; omega)
      clear ey ez hd hq HG1 HG2 hi1 hi2 hrn hOW hTW
      by_cases hk0 : k = 0
      · have HS1 := Lib.hid (show mkR T O 1 = d by have := HS.out; rw [hk0, Nat.zero_add] at this; have h0 := HQ0.out hk0; omega)
        have hyz := HYZ.out hk0
        subst hyz
        subst hk0
        have z0 : wr.cell? ad = some (.int .i64 (eN : Int)) := by have h := s0; rw [show ad.add 0 = ad by unfold Addr.add; rw [if_pos rfl]] at h; exact h
        go_wp2_with fail
        go_quiet (fail)
        go_wp2
        go_roundw
        case rel => exact ⟨1, by omega, by go_num, by rw [HS1.out], hdr.drewN _⟩
        case measure => simp [intOf]; omega
      · obtain ⟨p, hpk⟩ : ∃ p, p = k - 1 := ⟨_, rfl⟩
        rw [← hpk] at s1
        have hw3 : IntKind.i64.wrap ((k : Int) - 1) = (p : Int) := by rw [hw2]; omega
        have hz : ((k : Int) == 0) = false := by rw [beq_eq_false_iff_ne]; omega
        have hpO : (p : Int) < (O.length : Int) := by omega
        clear hk0 hp hw2 hpk
        go_wp2_with fail
        go_quiet (fail)
        go_wp2
        go_roundw
        case rel => exact ⟨k + 1, by omega, by go_num, by rw [HS.out], hdr.drewN _⟩
        case measure => simp [intOf]; omega
    · obtain rfl : k = O.length := by omega
      have HB := Lib.hid (hdr.below (Below.refl w.heap.size w))
      go_wp2
      go_ret
      exact ⟨rfl, HB.out⟩
set_option maxRecDepth 100000 in
set_option maxHeartbeats 4000000 in
theorem refCheckTable_any (T : List PR) (a : Option Addr) (n c : Nat) (w : World) (hn : n = T.length) (hT : TabAt w a T) (hl : T.length ≤ maxLen) (hsz : ∀ r ∈ T, r.l.length ≤ maxLen) :
    Calls Try.prog 73 #[.slice a n c] w fun e w' => e = .returned (.int .i64 (tblErr T)) ∧ w = w' := by
  unfold maxLen at hl
  subst hn
  have HT := Lib.hid hT; have HSZ := Lib.hid hsz
  clear hT hsz
  go_enter Try.func73, Try.ntmps73
  by_cases h7 : 7 < T.length
  · have HE := Lib.hid (show tblErr T = 8 by unfold tblErr; rw [if_pos h7])
    have h7' : (7 : Int) < (T.length : Int) := by omega
    clear h7
    go_wp2_with fail
    go_ret
    exact ⟨ret_int HE.out.symm, rfl⟩
  have HE0 := Lib.hid (show tblErr T = rowsE T.length 0 T by unfold tblErr; rw [if_neg h7])
  have h7' : ¬ (7 : Int) < (T.length : Int) := by omega
  clear h7
  go_wp2_with fail
  clear h7'
  go_loop [4] (fun i => ∃ k : Nat, k ≤ T.length ∧ i = .int .i64 k ∧ Hid (rowsE T.length 0 T = rowsE T.length 0 (T.drop k))) (fun i => T.length - (intOf i).toNat)
  case atStart => exact ⟨0, Nat.zero_le _, rfl, Lib.hid rfl⟩
  case round =>
    obtain ⟨k, hk, rfl, HR⟩ := hrel
    by_cases hlt : k < T.length
    · have hkT : (k : Int) < (T.length : Int) := by omega
      obtain ⟨ad, ra, rl, rc, rfl, had, s0, hrow, hrr⟩ := HT.out.pick hlt
      have HST := Lib.hid (fun h => rowsE_stop (n := T.length) (least := 0) hlt h)
      have HGO := Lib.hid (fun h => rowsE_go (n := T.length) (least := 0) hlt h)
      have hrz : rl.length ≤ maxLen := by have := HSZ.out _ (List.getElem_mem hlt); rw [hrr] at this; exact this
      rw [hrr] at HST HGO
      dsimp only at HST HGO
      have HRW := Lib.hid hrow
      unfold maxLen at hrz
      clear hrr hrow
      by_cases hx : rl.length = T.length
      · have hx' : ((rl.length : Int) != (T.length : Int)) = false := by simp [hx]
        have HX := Lib.hid hx
        clear hx
        go_wp2_with fail
        clear hx'
        go_loop [5] (fun i => ∃ j : Nat, j ≤ T.length ∧ i = .int .i64 j ∧ Hid (rl.all (fun x => inB x 0 10000) = (rl.drop j).all (fun x => inB x 0 10000))) (fun i => T.length - (intOf i).toNat)
        case atStart => exact ⟨0, Nat.zero_le _, rfl, Lib.hid rfl⟩
        case round =>
          obtain ⟨j, hj, rfl, HJ⟩ := hrel
          by_cases hjm : j < T.length
          · have hjl : j < rl.length := by have := HX.out; omega
            have hjl' : (j : Int) < (rl.length : Int) := by omega
            have hjT' : (j : Int) < (T.length : Int) := by omega
            obtain ⟨ad2, rfl, had2, s2⟩ := HRW.out.int hjl
            have HAL := Lib.hid (all_step (α := Int) (p := fun x => inB x 0 10000) hjl)
            obtain ⟨y, ey⟩ : ∃ y, y = rl[j] := ⟨_, rfl⟩
            rw [← ey] at s2 HAL
            clear ey
            cases hin : inB y 0 10000
            · have HE := Lib.hid (show tblErr T = 2 by
                have h1 : rowErr T.length 0 rl = 2 := by unfold rowErr; rw [if_neg (by have := HX.out; omega), if_neg (by rw [HJ.out, HAL.out, hin]; simp)]
                rw [HE0.out, HR.out, HST.out (by rw [h1]; decide), h1])
              go_wp2_with (go_at_call 30; refine (within_any _ _ _ _).mono ?_; rintro e w' ⟨rfl, rfl⟩)
              go_ret
              exact ⟨ret_int HE.out.symm, rfl⟩
            · have HIN := Lib.hid hin
              go_wp2_with (go_at_call 30; refine (within_any _ _ _ _).mono ?_; rintro e w' ⟨rfl, rfl⟩; rw [HIN.out])
              go_round
              case rel => exact ⟨j + 1, by omega, by go_num, Lib.hid (by rw [HJ.out, HAL.out, HIN.out]; rfl)⟩
              case measure => simp [intOf]; omega
          · have HE := Lib.hid (show rowErr T.length 0 rl = 0 by unfold rowErr; rw [if_neg (by have := HX.out; omega), if_pos (by rw [HJ.out]; exact all_stop (by have := HX.out; omega))])
            go_wp2
            go_round
            case rel => exact ⟨k + 1, by omega, by go_num, Lib.hid (by rw [HR.out, HGO.out HE.out])⟩
            case measure => simp [intOf]; omega
      · have hx' : ((rl.length : Int) != (T.length : Int)) = true := by simp; omega
        have HE := Lib.hid (show tblErr T = 10 by
          have h1 : rowErr T.length 0 rl = 10 := by unfold rowErr; rw [if_pos hx]
          rw [HE0.out, HR.out, HST.out (by rw [h1]; decide), h1])
        clear hx
        go_wp2
        go_ret
        exact ⟨ret_int HE.out.symm, rfl⟩
    · have HE := Lib.hid (show tblErr T = 0 by rw [HE0.out, HR.out, List.drop_of_length_le (by omega)]; rfl)
      go_wp2
      go_ret
      exact ⟨ret_int HE.out.symm, rfl⟩
end Go.Proofs.Ytpplcbpnojggcaa

namespace Go.Proofs.Ytpplcbpnojggcaa
open Go.RowKit Go.Maps Go.Shelf

/-- A number within rows, counted from the rows' beginning. -/
theorem fldj (ad : Addr) (q n r : Nat) : ad.add (q * n + r) = fld (ad.add (q * n)) r := by
  cases r with
  | zero => rfl
  | succ r =>
    show _ = (⟨(ad.add (q * n)).block, (ad.add (q * n)).off + (r + 1), none⟩ : Addr)
    unfold Addr.add
    by_cases hz : q * n = 0
    · rw [if_pos hz, if_neg (by omega), hz, Nat.zero_add]
    · rw [if_neg hz, if_neg (by omega)]
      show (⟨ad.block, ad.off + (q * n + (r + 1)), none⟩ : Addr) = ⟨ad.block, ad.off + q * n + (r + 1), none⟩
      rw [Nat.add_assoc]
/-- 'append(l, m...)' at a slice of the call's own, at a step of a region that draws. -/
theorem step_appL {α : Type} {n by_ : Nat} {ST E : TypeId} {z : Value} {g : α → List Int} (T : ElT n by_ ST E z) (hg : ∀ x, (g x).length = n) {ops : Array Oper} {o : Oper} {a : Act} {K : Act → World → Prop} {Q : Exit → Act → World → Prop} {E0 : Prop} (w : World) (hgd : o.guard = none) (s xo : Operand)
    (ho : o.op = .call { callee := .builtin .append, args := #[s, xo], argTypes := #[ST, ST] }) (B : Nat) (v : Value) (L : List α) (hs : a.eval s = v) (hown : OwnR n E g w B v L)
    (b : Option Addr) (M : List α) (m c : Nat) (hm : m = M.length) (hx : a.eval xo = .slice b m c) (hM : RowsAt n g w b M) (hbc : b = none → c = 0) (hl : L.length ≤ 1000000) (hl2 : M.length ≤ 1000000) (hB : B ≤ w.heap.size)
    (h : ∀ v' w', OwnR n E g w' B v' (L ++ M) → w.grownBy w' v.ownBlock → Below B w w' → (v'.ownBlock = v.ownBlock ∨ v'.ownBlock = some w.heap.size) → K (a.put o.dst v') w') :
    if Region.wanted o (yielded ops a.tmps) = true then Oper.wp Try.prog o a w K Q else E0 := by
  subst hm
  have hw : Region.wanted o (yielded ops a.tmps) = true := by simp [Region.wanted, hgd]
  rw [if_pos hw]
  obtain ⟨i0, hi0, hz0, hz1, hz2⟩ := info_parts T.info
  have hbl := T.by64
  cases b with
  | none =>
    have hM0 := hM.drop_none
    subst hM0
    have hc := hbc rfl
    subst hc
    have hrun := run_append_owned_none (P := Try.prog) (w := w) B ST o.type E i0 n T.sl hi0 v L.length (vals (L.flatMap g)) hown
    unfold Oper.wp
    simp [execOp, ho, resolve, invoke, builtin, hs, hx, hrun, Result.andThen]
    exact h v w (by rw [List.append_nil]; exact hown) ⟨rfl, rfl, rfl, Nat.le_refl _, fun _ _ _ => rfl⟩ (Below.refl _ _) (Or.inl rfl)
  | some ad =>
    obtain ⟨v', w', hr, h2, h3, h4, h5⟩ := run_append_own_at (P := Try.prog) w B ST o.type E i0 z n by_ T.sl hi0 hz0 hz1 hz2 T.zs T.pos v L.length (vals (L.flatMap g)) hown ad M.length c (vals (M.flatMap g))
      (by simp [vals, flat_len hg M]) (fun j u hj => by
        have hjl : j < M.length * n := by
          have := (List.getElem?_eq_some_iff.1 hj).1
          simpa [vals, flat_len hg M] using this
        have hn := T.pos
        have hk : j / n < M.length := Nat.div_lt_of_lt_mul (by rw [Nat.mul_comm]; exact hjl)
        have hjn : j % n < n := Nat.mod_lt _ hn
        have ej : j / n * n + j % n = j := by rw [Nat.mul_comm]; exact Nat.div_add_mod j n
        obtain ⟨ad', e, _, hs⟩ := hM (j / n) hk
        cases e
        have e1 := hs (j % n) hjn
        have e2 := flat_at hg M (j / n) (j % n) hk hjn
        rw [ej] at e2
        unfold vals at hj
        rw [List.getElem?_map, e2] at hj
        rw [← fldj, ej] at e1
        rw [e1, ← hj]; rfl) (vals_one _) (by unfold maxLen; omega) (Nat.le_trans (Nat.mul_le_mul_left _ hbl) (by omega)) hB
    unfold Oper.wp execOp
    simp only [ho, resolve, invoke, builtin, Sem.run_bind, Sem.run_pure, Result.andThen_ok, List.map_toArray, List.map_cons, List.map_nil, hs, hx, hr]
    refine h v' w' ?_ h3 ((Below.refl B w).grown h3 hB (fun k hk => (hown.lt k hk).1)) h5
    unfold OwnR
    rw [List.flatMap_append, vals_app, List.length_append]
    exact h2
/-- 'append(l, m...)' at a slice of the call's own, at a step of a region that draws. -/
theorem step_appG {α : Type} {n by_ : Nat} {ST E : TypeId} {z : Value} {g : α → List Value} (T : ElG n by_ ST E z) (hg : ∀ x, (g x).length = n) (ho1 : ∀ x, ∀ u ∈ g x, u.oneCell' = true) {ops : Array Oper} {o : Oper} {a : Act} {K : Act → World → Prop} {Q : Exit → Act → World → Prop} {E0 : Prop} (w : World) (hgd : o.guard = none) (s xo : Operand)
    (ho : o.op = .call { callee := .builtin .append, args := #[s, xo], argTypes := #[ST, ST] }) (B : Nat) (v : Value) (L : List α) (hs : a.eval s = v) (hown : OwnG n E g w B v L)
    (b : Option Addr) (M : List α) (m c : Nat) (hm : m = M.length) (hx : a.eval xo = .slice b m c) (hM : RowsG n g w b M) (hbc : b = none → c = 0) (hl : L.length ≤ 1000000) (hl2 : M.length ≤ 1000000) (hB : B ≤ w.heap.size)
    (h : ∀ v' w', OwnG n E g w' B v' (L ++ M) → w.grownBy w' v.ownBlock → Below B w w' → (v'.ownBlock = v.ownBlock ∨ v'.ownBlock = some w.heap.size) → K (a.put o.dst v') w') :
    if Region.wanted o (yielded ops a.tmps) = true then Oper.wp Try.prog o a w K Q else E0 := by
  subst hm
  have hw : Region.wanted o (yielded ops a.tmps) = true := by simp [Region.wanted, hgd]
  rw [if_pos hw]
  obtain ⟨i0, hi0, hz0, hz1, hz2⟩ := info_parts T.info
  have hbl := T.by64
  cases b with
  | none =>
    have hM0 := hM.drop_none
    subst hM0
    have hc := hbc rfl
    subst hc
    have hrun := run_append_owned_none (P := Try.prog) (w := w) B ST o.type E i0 n T.sl hi0 v L.length (L.flatMap g) hown
    unfold Oper.wp
    simp [execOp, ho, resolve, invoke, builtin, hs, hx, hrun, Result.andThen]
    exact h v w (by rw [List.append_nil]; exact hown) ⟨rfl, rfl, rfl, Nat.le_refl _, fun _ _ _ => rfl⟩ (Below.refl _ _) (Or.inl rfl)
  | some ad =>
    obtain ⟨v', w', hr, h2, h3, h4, h5⟩ := run_append_own_at (P := Try.prog) w B ST o.type E i0 z n by_ T.sl hi0 hz0 hz1 hz2 T.zs T.pos v L.length (L.flatMap g) hown ad M.length c (M.flatMap g)
      (flatG_len hg M) (fun j u hj => by
        have hjl : j < M.length * n := by
          have := (List.getElem?_eq_some_iff.1 hj).1
          simpa [flatG_len hg M] using this
        have hn := T.pos
        have hk : j / n < M.length := Nat.div_lt_of_lt_mul (by rw [Nat.mul_comm]; exact hjl)
        have hjn : j % n < n := Nat.mod_lt _ hn
        have ej : j / n * n + j % n = j := by rw [Nat.mul_comm]; exact Nat.div_add_mod j n
        obtain ⟨ad', e, _, hs⟩ := hM (j / n) hk
        cases e
        have e1 := hs (j % n) hjn
        have e2 := flatG_at hg M (j / n) (j % n) hk hjn
        rw [ej] at e2
        rw [e2] at hj
        have e3 : fld (ad.add (j / n * n)) (j % n) = ad.add j := by
          rcases Nat.eq_zero_or_pos (j % n) with h0 | h0
          · rw [h0]; show ad.add _ = _; rw [← ej, h0, Nat.add_zero, Nat.mul_div_cancel _ hn]
          · obtain ⟨q, hq⟩ : ∃ q, j % n = q + 1 := ⟨j % n - 1, by omega⟩
            rw [hq]
            show (⟨(ad.add (j / n * n)).block, (ad.add (j / n * n)).off + (q + 1), none⟩ : Addr) = ad.add j
            rw [← hq]
            unfold Addr.add
            by_cases hz : j / n * n = 0
            · rw [if_pos hz, if_neg (by omega)]
              have : j % n = j := by omega
              rw [this]
            · rw [if_neg hz, if_neg (by omega)]
              show (⟨ad.block, ad.off + j / n * n + j % n, none⟩ : Addr) = ⟨ad.block, ad.off + j, none⟩
              rw [Nat.add_assoc, ej]
        rw [← e3, e1]; exact hj) (flatG_one ho1 M) (by unfold maxLen; omega) (Nat.le_trans (Nat.mul_le_mul_left _ hbl) (by omega)) hB
    unfold Oper.wp execOp
    simp only [ho, resolve, invoke, builtin, Sem.run_bind, Sem.run_pure, Result.andThen_ok, List.map_toArray, List.map_cons, List.map_nil, hs, hx, hr]
    refine h v' w' ?_ h3 ((Below.refl B w).grown h3 hB (fun k hk => (hown.lt k hk).1)) h5
    unfold OwnG
    rw [List.flatMap_append, List.length_append]
    exact h2

set_option maxRecDepth 100000 in
set_option maxHeartbeats 2000000 in
theorem refOthers_any (a : Option Addr) (O : List Int) (m c n : Nat) (w : World) (hm : m = O.length) (hO : RowsAt 1 intL w a O) (hol : O.length ≤ 1000) (hn : n ≤ 1000) :
    Calls Try.prog 143 #[.slice a m c, .int .i64 n] w (LeftPost w (leftK O n)) := by
  subst hm
  have HO := Lib.hid hO
  clear hO
  go_enter Try.func143, Try.ntmps143
  go_wp2_with fail
  go_loopw [5, 6] (fun v i wr => ∃ k : Nat, k ≤ n ∧ i = .int .i64 k ∧ OwnR 1 3 intL wr w.heap.size v (leftK O k) ∧ Below w.heap.size w wr) (fun _ i _ => n - (intOf i).toNat)
  case atStart => exact ⟨0, Nat.zero_le _, rfl, OwnR.nil _ _, Below.refl _ _⟩
  case round =>
    obtain ⟨k, hk, rfl, hOL, hB⟩ := hrel
    by_cases hlt : k < n
    · have HC := Lib.hid (has_any a O O.length c (k : Int) wr rfl (HO.out.below hB) (by unfold maxLen; omega))
      have HL := Lib.hid (leftK_len O k)
      have HOW := Lib.hid hOL
      have HBW := Lib.hid hB
      have hkn : (k : Int) < (n : Int) := by omega
      clear hOL hB
      cases hc : O.contains (k : Int)
      · have HS := Lib.hid (show leftK O (k + 1) = leftK O k ++ [(k : Int)] by show (if _ then _ else _) = _; rw [hc]; rfl)
        rw [hc] at HC
        clear hc
        go_wp2_with (first | (go_at_call 112; refine HC.out.mono ?_; rintro e w' ⟨rfl, rfl⟩) | (at_builtin; refine wpList_appX tInt int_l _ (k : Int) _ rfl rfl _ _ rfl w.heap.size _ (leftK O k) rfl HOW.out rfl (by have := HL.out; omega) HBW.out.size ?_; intro gg cg wg hOg hgg hBg))
        go_roundw
        case rel => exact ⟨k + 1, by omega, by go_num, by rw [HS.out]; exact hOg, HBW.out.trans hBg⟩
        case measure => simp [intOf] <;> omega
      · have HS := Lib.hid (show leftK O (k + 1) = leftK O k by show (if _ then _ else _) = _; rw [hc]; rfl)
        rw [hc] at HC
        clear hc
        go_wp2_with (go_at_call 112; refine HC.out.mono ?_; rintro e w' ⟨rfl, rfl⟩)
        go_roundw
        case rel => exact ⟨k + 1, by omega, by go_num, by rw [HS.out]; exact HOW.out, HBW.out⟩
        case measure => simp [intOf] <;> omega
    · obtain rfl : k = n := by omega
      go_wp2
      go_ret
      exact ⟨_, rfl, hOL, hB⟩
/-- A list of orders, each in a row of the call's own. -/
def OrdsPost (L : List (List Int)) (w : World) (e : Ending) (w' : World) : Prop := ∃ (v : Value) (T : List PR), e = .returned v ∧ OwnG 1 75 prV w' w.heap.size v T ∧ OwnRows w' w.heap.size T ∧ T.map (·.l) = L ∧ Below w.heap.size w w'
theorem own_made1 (w : World) (B : Nat) (x : PR) (hB : B ≤ w.heap.size) : OwnG 1 75 prV (w.alloc (.cells #[.slice x.a x.l.length x.c] 75)) B (.slice (some ⟨w.heap.size, 0, none⟩) 1 1) [x] :=
  ⟨by simp [prV], .inr ⟨w.heap.size, 1, #[.slice x.a x.l.length x.c], rfl, hB, heap_alloc_new w _, Nat.le_refl _, by unfold maxLen; decide, rfl, rfl⟩⟩
theorem flat_map_take {α β : Type} (F : α → List β) {L : List α} {k : Nat} (hk : k < L.length) : (L.take (k + 1)).flatMap F = (L.take k).flatMap F ++ F L[k] := by
  rw [List.take_succ_eq_append_getElem hk, List.flatMap_append]; simp
set_option maxRecDepth 100000 in
set_option maxHeartbeats 8000000 in
theorem refOrders_any (n : Nat) (hn5 : n ≤ 5) : ∀ (f : Nat) (O : List Int) (a : Option Addr) (m c : Nat) (w : World), m = O.length → O.length + f = n → RowsAt 1 intL w a O → (a = none → c = 0) →
    Calls Try.prog 116 #[.slice a m c, .int .i64 n] w (OrdsPost (refOrds f n O) w) := by
  intro f
  induction f with
  | zero =>
    intro O a m c w hm hf hO hd
    subst hm
    have hE : ((O.length : Int) == (n : Int)) = true := by simp; omega
    have HC := Lib.hid (fun W h => copyInts_any a O O.length c W rfl h (by omega) hd)
    have HO := Lib.hid hO
    clear hO hf
    go_enter Try.func116, Try.ntmps116
    go_wp2_with (go_at_call 47; refine (HC.out _ HO.out).mono ?_; rintro e w2 ⟨v2, rfl, hO2, hb2⟩; obtain ⟨a2, c2, e2, -⟩ := hO2.rows int_l; subst e2)
    have HOW := Lib.hid (hO2.alloc (.cells #[.slice a2 O.length c2] 75))
    have HG := Lib.hid (own_made1 w2 w.heap.size ⟨a2, O, c2⟩ hb2.size)
    have HB := Lib.hid (hb2.alloc hb2.size (.cells #[.slice a2 O.length c2] 75))
    clear hO2 hb2 hE
    go_ret
    exact ⟨_, [⟨a2, O, c2⟩], rfl, HG.out, fun x hx => (by rw [List.mem_singleton.1 hx]; exact HOW.out), rfl, HB.out⟩
  | succ f ih =>
    intro O a m c w hm hf hO hd
    subst hm
    have hE : ((O.length : Int) == (n : Int)) = false := by rw [beq_eq_false_iff_ne]; omega
    have HC := Lib.hid (fun W h => copyInts_any a O O.length c W rfl h (by omega) hd)
    have HOT := Lib.hid (fun W h => refOthers_any a O O.length c n W rfl h (by omega) (by omega))
    have HO := Lib.hid hO
    have HIH := Lib.hid (fun (y : Int) (a2 : Option Addr) (m2 c2 : Nat) (W : World) (h2 : m2 = (O ++ [y]).length) (h : RowsAt 1 intL W a2 (O ++ [y])) (hd2 : a2 = none → c2 = 0) => ih (O ++ [y]) a2 m2 c2 W h2 (by simp; omega) h hd2)
    have HEQ := Lib.hid (show refOrds (f + 1) n O = (leftK O n).flatMap fun y => refOrds f n (O ++ [y]) from rfl)
    have HLL := Lib.hid (show ∀ k, (((leftK O n).take k).flatMap fun y => refOrds f n (O ++ [y])).length ≤ 100000 from fun k => by
      have h1 : ∀ L : List Int, L.length ≤ 5 → (L.flatMap fun y => refOrds f n (O ++ [y])).length ≤ L.length * 5 ^ 5 := by
        intro L
        induction L with
        | nil => intro _; simp
        | cons y L ih2 =>
          intro hl
          have h3 := refOrds_len f (O ++ [y]) (n := n)
          have h4 : n ^ f ≤ 5 ^ 5 := Nat.le_trans (Nat.pow_le_pow_left hn5 f) (Nat.pow_le_pow_right (by decide) (by omega))
          have h5 := ih2 (by simp at hl; omega)
          rw [List.flatMap_cons, List.length_append, List.length_cons, Nat.succ_mul]
          omega
      have h2 := leftK_len O n
      have h6 : ((leftK O n).take k).length ≤ 5 := by rw [List.length_take]; omega
      have h7 := h1 _ h6
      have h8 : ((leftK O n).take k).length * 5 ^ 5 ≤ 5 * 5 ^ 5 := Nat.mul_le_mul_right _ h6
      omega)
    have hol : O.length ≤ 5 := by omega
    have hf5 : f ≤ 5 := by omega
    clear hO hf ih
    go_enter Try.func116, Try.ntmps116
    go_wp2_with (go_at_call 143; refine (HOT.out _ HO.out).mono ?_; rintro e w2 ⟨v2, rfl, hO2, hb2⟩; obtain ⟨a2, c2, e2, -⟩ := hO2.rows int_l; subst e2)
    have HL2 := Lib.hid hO2; have HB2 := Lib.hid hb2
    obtain ⟨Lf, hLf⟩ : ∃ Lf, Lf = leftK O n := ⟨_, rfl⟩
    rw [← hLf] at HL2 HEQ HLL ⊢
    have hll : Lf.length ≤ 5 := by have := leftK_len O n; rw [hLf]; omega
    clear hO2 hb2 hE hLf HOT
    go_loopw [5, 7] (fun v i wr => ∃ (k : Nat) (T : List PR), k ≤ Lf.length ∧ i = .int .i64 k ∧ OwnG 1 75 prV wr w2.heap.size v T ∧ OwnRows wr w.heap.size T ∧ Hid (T.map (·.l) = (Lf.take k).flatMap fun y => refOrds f n (O ++ [y])) ∧ Below w2.heap.size w2 wr) (fun _ i _ => Lf.length - (intOf i).toNat)
    case atStart => exact ⟨0, [], Nat.zero_le _, rfl, OwnG.nil _ _, fun x hx => (by cases hx), Lib.hid rfl, Below.refl _ _⟩
    case round =>
      obtain ⟨k, T, hk, rfl, hown, hrows, HM, hB⟩ := hrel
      by_cases hlt : k < Lf.length
      · have hL := HL2.out.below hB
        obtain ⟨a3, c3, e3, hr3, -⟩ := hL.rows int_l
        injection e3 with e4 _ e5
        subst e4; subst e5
        obtain ⟨ad, rfl, had, s0⟩ := hr3.int hlt
        obtain ⟨y, ey⟩ : ∃ y, y = Lf[k] := ⟨_, rfl⟩
        have HFM := Lib.hid (flat_map_take (fun y => refOrds f n (O ++ [y])) hlt)
        rw [← ey] at s0 HFM
        have hkl : (k : Int) < (Lf.length : Int) := by omega
        have HOW := Lib.hid (HO.out.below (HB2.out.trans (hB.mono HB2.out.size)))
        have HOWN := Lib.hid hown; have HRS := Lib.hid hrows; have HB := Lib.hid hB
        have HTL := Lib.hid (show T.length ≤ 100000 by have h := congrArg List.length HM.out; rw [List.length_map] at h; rw [h]; exact HLL.out k)
        obtain ⟨va, vc, ev, -⟩ := hown.rows prV_l
        subst ev
        have hadb : (ad.add k).block < wr.heap.size := by rw [add_block]; exact had
        clear ey hr3 hL hown hrows hB
        go_wp2_with fail
        have HBW := Lib.hid (HB2.out.trans (HB.out.mono HB2.out.size))
        have hn5x := hn5
        go_region_law (first
          | (go_simp; go_at_call 47; refine Calls.mono (HC.out _ (by first | exact HOW.out.drew | exact HOW.out.drew.alloc _)) ?_; rintro e w3 ⟨v3, rfl, hO3, hb3⟩; obtain ⟨a3, c3, e3, -⟩ := hO3.rows int_l; subst e3; have HB3 : Hid (Below wr.heap.size wr w3) := Lib.hid (by first | exact (Below.refl _ wr).drew.trans hb3 | exact ((Below.refl _ wr).drew.alloc (Nat.le_refl _) _).trans (hb3.mono (by simp))); have HO3 : Hid (OwnR 1 3 intL w3 wr.heap.size (.slice a3 O.length c3) O) := Lib.hid (hO3.mono (by first | exact Nat.le_refl _ | simp)); (try have HM3 : Hid (RowsAt 1 intL w3 (some ⟨wr.heap.size, 0, none⟩) [y]) := Lib.hid ((IBox.lit wr.drew [y] _ rfl).below hb3).rows); have s0 : w3.cell? (ad.add k) = some (.int .i64 y) := (HB3.out.cell hadb).trans s0; clear hO3 hb3)
          | (refine step_appL tInt int_l _ (by rfl) _ _ (by rfl) wr.heap.size _ O (by rfl) (by first | exact HO3.out | exact HO3.out.alloc _) _ [y] 1 1 rfl (by rfl) (by first | exact (IBox.lit w3 [y] _ rfl).rows | exact (HM3.out)) (fun e => by cases e) (by omega) (by simp) (by first | exact HB3.out.size | (have := HB3.out.size; simp; omega)) ?_; intro v4 w4 hO4 hg4 hB4 hor4; obtain ⟨a4, c4, e4, hr4, -, -, hn4, -⟩ := hO4.rows int_l; subst e4; have HB4 : Hid (Below wr.heap.size wr w4) := Lib.hid (by first | exact HB3.out.trans hB4 | exact (HB3.out.alloc HB3.out.size _).trans hB4); have HR4 := Lib.hid hr4; clear hO4 hg4 hB4 hor4 hr4)
          | (go_simp; go_at_call 116; refine (HIH.out y a4 _ c4 _ (by simp) HR4.out hn4).mono ?_; rintro e w5 ⟨v5, T5, rfl, hG5, hR5, hm5, hb5⟩; obtain ⟨a5, c5, e5, hr5, hn5, -⟩ := hG5.rows prV_l; subst e5; have HB5 := Lib.hid (HB4.out.trans (hb5.mono HB4.out.size)); have HG5 := Lib.hid (hG5.mono HB4.out.size); have HR5 := Lib.hid hR5; have HM5 := Lib.hid hm5; have HRR5 := Lib.hid hr5; have HT5 := Lib.hid (show T5.length ≤ 100000 by have h := congrArg List.length hm5; rw [List.length_map] at h; rw [h]; exact Nat.le_trans (refOrds_len f _) (Nat.le_trans (Nat.pow_le_pow_left hn5x f) (Nat.le_trans (Nat.pow_le_pow_right (by decide) hf5) (by decide)))); clear hG5 hR5 hm5 hb5 hr5)
          | (refine step_appG tPR prV_l prV_one _ (by rfl) _ _ (by rfl) w2.heap.size _ T (by rfl) (HOWN.out.below HB5.out) _ T5 _ _ rfl (by rfl) HRR5.out hn5 (by have := HTL.out; omega) (by have := HT5.out; omega) (by have h1 := HB5.out.size; have h2 := HB.out.size; omega) ?_; intro v6 w6 hO6 hg6 hB6 hor6))
        all_goals
          have hRS6 : OwnRows w6 w.heap.size (T ++ T5) := fun z hz => by
            rcases List.mem_append.1 hz with h | h
            · exact ((HRS.out.below HB5.out).grown (HOWN.out.below HB5.out) hg6) z h
            · exact (OwnRows.grown (fun z hz => (HR5.out z hz).mono (Nat.le_trans HBW.out.size HB4.out.size)) (HOWN.out.below HB5.out) hg6) z h
          have HRS6 := Lib.hid hRS6; have HO6 := Lib.hid hO6
          have HB6 := Lib.hid (HB.out.trans ((HB5.out.mono HB.out.size).trans hB6))
          have HM6 := Lib.hid (show (T ++ T5).map (·.l) = (Lf.take (k + 1)).flatMap fun y => refOrds f n (O ++ [y]) by rw [List.map_append, HM.out, HM5.out, HFM.out])
          clear hRS6 hO6 hg6 hB6 hor6
          go_wp2
          go_roundw
          case rel => exact ⟨k + 1, T ++ T5, by omega, by go_num, HO6.out, HRS6.out, HM6, HB6.out⟩
          case measure => simp [intOf]; omega
      · obtain rfl : k = Lf.length := by omega
        obtain ⟨va, vc, ev, -⟩ := hown.rows prV_l
        subst ev
        have HE := Lib.hid (show T.map (·.l) = refOrds (f + 1) n O by rw [HEQ.out, HM.out, List.take_length])
        have HOWN := Lib.hid (hown.mono HB2.out.size); have HRS := Lib.hid hrows
        have HB := Lib.hid (HB2.out.trans (hB.mono HB2.out.size))
        clear hown hrows hB
        go_wp2
        go_ret
        exact ⟨_, T, rfl, HOWN.out, HRS.out, HE.out, HB.out⟩
end Go.Proofs.Ytpplcbpnojggcaa

namespace Go.Proofs.Ytpplcbpnojggcaa
open Go.RowKit Go.Maps Go.Shelf

/-- A node of a tree: its kind, the slice of its branches. -/
structure Nd where
  kind : Int
  a : Option Addr
  nx : List Int
  c : Nat
def ndV (x : Nd) : List Value := [.int .i64 x.kind, .slice x.a x.nx.length x.c]
def noNd : Nd := ⟨0, none, [], 0⟩
theorem nd_getD {T : List Nd} {k : Nat} (h : k < T.length) : T.getD k noNd = T[k] := by rw [List.getD_eq_getElem?_getD, List.getElem?_eq_getElem h]; rfl
structure NodesAt (w : World) (a : Option Addr) (T : List Nd) : Prop where
  row : RowsG 2 ndV w a T
  nxt : ∀ x ∈ T, RowsAt 1 intL w x.a x.nx
theorem NodesAt.below {w w' : World} {a : Option Addr} {T : List Nd} (h : NodesAt w a T) (hb : Below w.heap.size w w') : NodesAt w' a T := ⟨h.row.below hb, fun x hx => (h.nxt x hx).below hb⟩
theorem NodesAt.node {w : World} {a : Option Addr} {T : List Nd} (h : NodesAt w a T) {k : Nat} (hk : k < T.length) : ∃ ad, a = some ad ∧ (ad.add (k * 2)).block < w.heap.size ∧
    w.cell? (ad.add (k * 2)) = some (.int .i64 T[k].kind) ∧ w.cell? ⟨(ad.add (k * 2)).block, (ad.add (k * 2)).off + 1, none⟩ = some (.slice T[k].a T[k].nx.length T[k].c) := by
  obtain ⟨ad, e, hlt, hs⟩ := h.row k hk
  exact ⟨ad, e, by rw [add_block]; exact hlt, hs 0 (by decide), hs 1 (by decide)⟩
/-- The minutes of the colours that do not stand in an order. -/
def restI (x : Cols) (O : List Int) : Int := (leftK O x.m.length).foldl (fun s y => s + x.m.getD y.toNat 0) 0
/-- Whether a leaf holds. -/
def holdB (x : Cols) (bd kind : Int) (O : List Int) : Bool :=
  if kind = 1 then !((minsE x O).2 == 0) else ((minsE x O).2 == 0) && decide (bd ≤ (minsE x O).1 + restI x O)
theorem fold_from {α : Type} (f : α → Int) : ∀ (L : List α) (a : Int), L.foldl (fun s y => s + f y) a = a + L.foldl (fun s y => s + f y) 0
  | [], a => by simp
  | y :: L, a => by
    rw [List.foldl_cons, List.foldl_cons, fold_from f L (a + f y), fold_from f L (0 + f y)]; omega
theorem rest_bd {x : Cols} (h : ColsOk x) : ∀ (L : List Int) (a : Int), a ≤ L.foldl (fun s y => s + x.m.getD y.toNat 0) a ∧ L.foldl (fun s y => s + x.m.getD y.toNat 0) a ≤ a + 10000 * L.length
  | [], a => ⟨Int.le_refl _, by simp⟩
  | y :: L, a => by
    have h1 := getD_bd h.mins (by omega) y.toNat
    have h2 := rest_bd h L (a + x.m.getD y.toNat 0)
    rw [List.foldl_cons, List.length_cons]
    omega
theorem mins_bd {x : Cols} (h : ColsOk x) {O : List Int} (hol : O.length ≤ 6) : 0 ≤ (minsE x O).1 ∧ (minsE x O).1 ≤ 120000 := by
  have h1 := (ord_bd h O O.length).2
  unfold minsE
  split
  · exact ⟨Int.le_refl _, by decide⟩
  · dsimp only; omega
/-- The first fault of a split's branches. -/
def nxE (n at_ : Nat) : List Int → Int
  | [] => 0
  | y :: Y => if inB y 0 ((n : Int) - 1) = false then 6 else if y ≤ at_ then 9 else nxE n at_ Y
theorem nxE_at {n at_ : Nat} {Y : List Int} {k : Nat} (hk : k < Y.length) : nxE n at_ (Y.drop k) = if inB Y[k] 0 ((n : Int) - 1) = false then 6 else if Y[k] ≤ at_ then 9 else nxE n at_ (Y.drop (k + 1)) := by
  rw [List.drop_eq_getElem_cons hk]; rfl
theorem nxE_ok {n at_ : Nat} : ∀ {Y : List Int}, nxE n at_ Y = 0 → ∀ y ∈ Y, 0 ≤ y ∧ y < n ∧ (at_ : Int) < y
  | [], _, y, hy => by cases hy
  | z :: Y, h, y, hy => by
    unfold nxE at h
    split at h
    · omega
    · rename_i h1
      split at h
      · omega
      · rename_i h2
        rcases List.mem_cons.1 hy with rfl | hy
        · have h3 := inB_iff.1 (by simpa using h1); omega
        · exact nxE_ok h y hy
/-- The fault of a node. -/
def ndE (x : Cols) (bd : Int) (T : List Nd) (at_ : Nat) (O : List Int) : Int :=
  if inB (T.getD at_ noNd).kind 0 2 = false then 15
  else if (T.getD at_ noNd).kind ≠ 0 then (if holdB x bd (T.getD at_ noNd).kind O then 0 else 22)
  else if (leftK O x.m.length).length = 0 ∨ (T.getD at_ noNd).nx.length ≠ (leftK O x.m.length).length then 10
  else nxE T.length at_ (T.getD at_ noNd).nx
/-- The first of some results that is a fault. -/
def fe (g : Nat → Int × Int) : Nat → Nat → Int × Int
  | 0, _ => (0, 0)
  | n + 1, i => if (g i).2 ≠ 0 then g i else fe g n (i + 1)
/-- The first fault of a node and all below it, with its number. -/
def chk (x : Cols) (bd : Int) (T : List Nd) : Nat → Nat → List Int → Int × Int
  | 0, at_, O => if ndE x bd T at_ O ≠ 0 then ((at_ : Int), ndE x bd T at_ O) else (0, 0)
  | f + 1, at_, O => if ndE x bd T at_ O ≠ 0 then ((at_ : Int), ndE x bd T at_ O) else if (T.getD at_ noNd).kind ≠ 0 then (0, 0)
    else fe (fun i => chk x bd T f ((T.getD at_ noNd).nx.getD i 0).toNat (O ++ [(leftK O x.m.length).getD i 0])) (leftK O x.m.length).length 0
theorem chk_err {x : Cols} {bd : Int} {T : List Nd} {f at_ : Nat} {O : List Int} (h : ndE x bd T at_ O ≠ 0) : chk x bd T f at_ O = ((at_ : Int), ndE x bd T at_ O) := by
  cases f <;> (unfold chk; rw [if_pos h])
theorem chk_leaf {x : Cols} {bd : Int} {T : List Nd} {f at_ : Nat} {O : List Int} (h : ndE x bd T at_ O = 0) (hk : (T.getD at_ noNd).kind ≠ 0) : chk x bd T f at_ O = (0, 0) := by
  cases f
  · unfold chk; rw [if_neg (by simp [h])]
  · unfold chk; rw [if_neg (by simp [h]), if_pos hk]
set_option maxRecDepth 100000 in
set_option maxHeartbeats 4000000 in
theorem refHolds_any (x : Cols) (bd kind : Int) (na : Option Addr) (nn nc : Nat) (O : List Int) (a : Option Addr) (n oc : Nat) (w : World) (hn : n = O.length) (hx : ColsAt w x) (hok : ColsOk x) (hO : RowsAt 1 intL w a O) (hol : O.length ≤ 6) (hin : ∀ y ∈ O, 0 ≤ y ∧ y < x.m.length) (hnd : O.Nodup) :
    Calls Try.prog 144 #[x.v, .int .i64 bd, .agg #[.int .i64 kind, .slice na nn nc], .slice a n oc] w (AggPost (.bool (holdB x bd kind O)) w) := by
  subst hn
  have HRM := Lib.hid (fun W h1 h2 => refOrderMinutes_any x O a O.length oc W rfl h1 hok h2 hol hin hnd)
  have HOT := Lib.hid (fun W h => refOthers_any a O O.length oc x.m.length W rfl h (by omega) (by have := hok.le; omega))
  have HMB := Lib.hid (mins_bd hok hol)
  have HRB := Lib.hid (rest_bd hok)
  have HDEF := Lib.hid (show holdB x bd kind O = if kind = 1 then !((minsE x O).2 == 0) else ((minsE x O).2 == 0) && decide (bd ≤ (minsE x O).1 + restI x O) from rfl)
  have HRI := Lib.hid (show restI x O = (leftK O x.m.length).foldl (fun s y => s + x.m.getD y.toNat 0) 0 from rfl)
  have HLI := Lib.hid (fun y h => (leftK_in O x.m.length y h).1)
  have HLL := Lib.hid (leftK_len O x.m.length)
  have HM6 := Lib.hid hok.le
  obtain ⟨HB, hHB⟩ : ∃ HB, HB = holdB x bd kind O := ⟨_, rfl⟩
  rw [← hHB] at HDEF ⊢
  have HX := Lib.hid hx; have HO := Lib.hid hO
  clear hx hok hO hol hin hnd hHB
  obtain ⟨ma, m, mc, da, T, dc⟩ := x
  show Calls _ _ #[.agg #[.slice ma m.length mc, .slice da T.length dc], .int .i64 bd, .agg #[.int .i64 kind, .slice na nn nc], .slice a O.length oc] _ _
  have HRM : Hid (∀ W, ColsAt W ⟨ma, m, mc, da, T, dc⟩ → RowsAt 1 intL W a O → Calls Try.prog 51 #[.agg #[.slice ma m.length mc, .slice da T.length dc], .slice a O.length oc] W (RMPost (minsE ⟨ma, m, mc, da, T, dc⟩ O) W)) := HRM
  have bx := (BoxAt.new w #[.slice ma m.length mc, .slice da T.length dc] 78).alloc (.cells #[.int .i64 kind, .slice na nn nc] 170)
  have by_ := BoxAt.new (w.alloc (.cells #[.slice ma m.length mc, .slice da T.length dc] 78)) #[.int .i64 kind, .slice na nn nc] 170
  have hB0 := ((Below.refl w.heap.size w).alloc (Nat.le_refl _) (.cells #[.slice ma m.length mc, .slice da T.length dc] 78)).alloc (by simp) (.cells #[.int .i64 kind, .slice na nn nc] 170)
  obtain ⟨mn, hmn⟩ : ∃ mn, mn = (minsE ⟨ma, m, mc, da, T, dc⟩ O).1 := ⟨_, rfl⟩
  obtain ⟨er, her⟩ : ∃ er, er = (minsE ⟨ma, m, mc, da, T, dc⟩ O).2 := ⟨_, rfl⟩
  have HP := Lib.hid (show minsE ⟨ma, m, mc, da, T, dc⟩ O = (mn, er) by rw [hmn, her])
  rw [HP.out] at HRM HMB HDEF
  dsimp only at HMB HDEF
  clear hmn her
  go_enter Try.func144, Try.ntmps144
  go_upto_region 1 with fail
  obtain ⟨w0, hw0⟩ : ∃ w0, w0 = (w.alloc (.cells #[.slice ma m.length mc, .slice da T.length dc] 78)).alloc (.cells #[.int .i64 kind, .slice na nn nc] 170) := ⟨_, rfl⟩
  rw [show (w.alloc (.cells #[.slice ma m.length mc, .slice da T.length dc] 78)).heap.size = w.heap.size + 1 by simp] at by_
  rw [← hw0] at bx by_ hB0 ⊢
  clear hw0
  have k0 : w0.cell? ⟨w.heap.size, 0, none⟩ = some (.slice ma m.length mc) := bx.cell 0
  have k1 : w0.cell? ⟨w.heap.size, 1, none⟩ = some (.slice da T.length dc) := bx.cell 1
  have BX := Lib.hid bx; have BY := Lib.hid by_; have HB0 := Lib.hid hB0
  clear bx by_ hB0
  by_cases h1 : kind = 1
  · subst h1
    have HE := Lib.hid (show HB = !(er == 0) by rw [HDEF.out, if_pos rfl])
    go_wp2_with (go_at_call 51; refine (HRM.out _ (HX.out.below HB0.out) (HO.out.below HB0.out)).mono ?_; rintro e w8 ⟨rfl, hb8⟩; have c0 : w8.cell? ⟨w.heap.size + 1, 0, none⟩ = some (.int .i64 1) := (BY.out.below hb8).cell 0; have HB8 := Lib.hid (HB0.out.trans (hb8.mono HB0.out.size)); clear hb8)
    go_ret
    exact ⟨by rw [HE.out]; rfl, HB8.out⟩
  · have h1' : (kind == 1) = false := by simpa using h1
    have HE := Lib.hid (show HB = ((er == 0) && decide (bd ≤ mn + restI ⟨ma, m, mc, da, T, dc⟩ O)) by rw [HDEF.out, if_neg h1])
    clear h1
    go_wp2_with (first
      | (go_at_call 51; refine (HRM.out _ (HX.out.below HB0.out) (HO.out.below HB0.out)).mono ?_; rintro e w8 ⟨rfl, hb8⟩; have c0 : w8.cell? ⟨w.heap.size + 1, 0, none⟩ = some (.int .i64 kind) := (BY.out.below hb8).cell 0; have d0 : w8.cell? ⟨w.heap.size, 0, none⟩ = some (.slice ma m.length mc) := (BX.out.below hb8).cell 0; have BX8 := Lib.hid (BX.out.below hb8); have HB8 := Lib.hid (HB0.out.trans (hb8.mono HB0.out.size)); clear hb8)
      | (go_at_call 143; refine (HOT.out _ (HO.out.below HB8.out)).mono ?_; rintro e w9 ⟨v9, rfl, hO9, hb9⟩; obtain ⟨a9, c9, e9, hr9, -⟩ := hO9.rows int_l; subst e9; have HR9 := Lib.hid hr9; have BX9 := Lib.hid (BX8.out.below hb9); have HB9 := Lib.hid (HB8.out.trans (hb9.mono HB8.out.size)); clear hO9 hr9 hb9))
    have HLI : Hid (∀ y, y ∈ leftK O m.length → 0 ≤ y ∧ y < m.length) := HLI
    have HLL : Hid ((leftK O m.length).length ≤ m.length) := HLL
    have HM6 : Hid (m.length ≤ 6) := HM6
    have HRI : Hid (restI ⟨ma, m, mc, da, T, dc⟩ O = (leftK O m.length).foldl (fun s y => s + m.getD y.toNat 0) 0) := HRI
    have HRB : Hid (∀ (L : List Int) (z : Int), z ≤ L.foldl (fun s y => s + m.getD y.toNat 0) z ∧ L.foldl (fun s y => s + m.getD y.toNat 0) z ≤ z + 10000 * L.length) := HRB
    obtain ⟨Lf, hLf⟩ : ∃ Lf, Lf = leftK O m.length := ⟨_, rfl⟩
    rw [← hLf] at HLI HLL HRI HR9 ⊢
    have hl6 : Lf.length ≤ 6 := Nat.le_trans HLL.out HM6.out
    clear hLf
    obtain ⟨wo, hwo⟩ : ∃ wo, wo = w9 := ⟨_, rfl⟩
    rw [← hwo] at HR9 BX9 HB9 ⊢
    clear hwo
    go_loopw [9, 12] (fun q i wr => ∃ k : Nat, k ≤ Lf.length ∧ i = .int .i64 k ∧ q = .int .i64 ((Lf.take k).foldl (fun s y => s + m.getD y.toNat 0) mn) ∧ Drew wo wr) (fun _ i _ => Lf.length - (intOf i).toNat)
    case atStart => exact ⟨0, Nat.zero_le _, rfl, rfl, Drew.refl _⟩
    case round =>
      obtain ⟨k, hk, rfl, rfl, hdr⟩ := hrel
      by_cases hlt : k < Lf.length
      · obtain ⟨ad, rfl, had, s0⟩ := (hdr.rows HR9.out).int hlt
        have hy := HLI.out _ (List.getElem_mem hlt)
        have HST := Lib.hid (fold_step (f := fun s y => s + m.getD y.toNat 0) (b := mn) hlt)
        have hq := HRB.out (Lf.take k) mn
        have hq9 : ((Lf.take k).length : Int) ≤ 6 := by rw [List.length_take]; omega
        obtain ⟨q, hqe⟩ : ∃ q, q = (Lf.take k).foldl (fun s y => s + m.getD y.toNat 0) mn := ⟨_, rfl⟩
        rw [← hqe] at hq HST ⊢
        obtain ⟨y, ey⟩ : ∃ y, y = Lf[k] := ⟨_, rfl⟩
        rw [← ey] at s0 hy HST
        obtain ⟨cN, rfl⟩ : ∃ cN : Nat, y = cN := ⟨y.toNat, by omega⟩
        have hcm : cN < m.length := by omega
        have hcm' : (cN : Int) < (m.length : Int) := by omega
        have hk' : (k : Int) < (Lf.length : Int) := by omega
        obtain ⟨mad, ema, hmad, s1⟩ := (show RowsAt 1 intL wr ma m from ((HX.out.below HB9.out).mins.below (by obtain ⟨n9, rfl⟩ := hdr; exact below_drewN (Below.refl _ _) _))).int hcm
        have ema : ma = some mad := ema
        subst ema
        have HMD := Lib.hid (show m.getD ((cN : Int)).toNat 0 = m[cN] by rw [show ((cN : Int)).toNat = cN by omega, getD_eqI hcm])
        have hmb := (HRB.out [(cN : Int)] 0)
        have hmb : 0 ≤ 0 + m.getD ((cN : Int)).toNat 0 ∧ 0 + m.getD ((cN : Int)).toNat 0 ≤ 0 + 10000 * 1 := hmb
        rw [HMD.out] at hmb
        obtain ⟨mv, hmv⟩ : ∃ mv, mv = m[cN] := ⟨_, rfl⟩
        rw [← hmv] at s1 HMD hmb
        have d9 : wr.cell? ⟨w.heap.size, 0, none⟩ = some (.slice (some mad) m.length mc) := hdr.cell (BX9.out.cell 0)
        have hmn := HMB.out
        have hw2 : IntKind.i64.wrap (q + mv) = q + mv := IntWalk.i64_in _ (by omega)
        have HS2 : Hid ((Lf.take (k + 1)).foldl (fun s y => s + m.getD y.toNat 0) mn = q + mv) := Lib.hid (by rw [HST.out]; show q + m.getD ((cN : Int)).toNat 0 = _; rw [HMD.out])
        clear ey hmv hy hqe
        go_wp2_with fail
        (try go_quiet (fail))
        (try go_wp2)
        go_roundw
        case rel => exact ⟨k + 1, by omega, by go_num, by rw [HS2.out], by first | exact hdr.drewN _ | exact hdr⟩
        case measure => simp [intOf] <;> omega
      · obtain rfl : k = Lf.length := by omega
        rw [List.take_length]
        have HQ := Lib.hid (show Lf.foldl (fun s y => s + m.getD y.toNat 0) mn = mn + restI ⟨ma, m, mc, da, T, dc⟩ O by rw [HRI.out]; exact fold_from (fun y : Int => m.getD y.toNat 0) Lf mn)
        rw [HQ.out]
        obtain ⟨q, hq⟩ : ∃ q, q = mn + restI ⟨ma, m, mc, da, T, dc⟩ O := ⟨_, rfl⟩
        rw [← hq]
        have HBX := Lib.hid (hdr.below HB9.out)
        have HE2 := Lib.hid (show HB = ((er == 0) && decide (bd ≤ q)) by rw [HE.out, hq])
        clear hq hlt
        cases h3 : (er == 0)
        · go_wp2
          go_ret
          exact ⟨by rw [HE2.out, h3]; rfl, HBX.out⟩
        · go_wp2
          go_ret
          exact ⟨by rw [HE2.out, h3, Bool.true_and]; rfl, HBX.out⟩
end Go.Proofs.Ytpplcbpnojggcaa

namespace Go.Proofs.Ytpplcbpnojggcaa
open Go.RowKit Go.Maps Go.Shelf

theorem nxE_zero {n at_ : Nat} : ∀ {Y : List Int}, (∀ y ∈ Y, (at_ : Int) < y ∧ y < n) → nxE n at_ Y = 0
  | [], _ => rfl
  | z :: Y, h => by
    obtain ⟨h1, h2⟩ := h z List.mem_cons_self
    have h3 : inB z 0 ((n : Int) - 1) = true := inB_iff.2 ⟨by omega, by omega⟩
    unfold nxE
    rw [if_neg (by rw [h3]; decide), if_neg (by omega)]
    exact nxE_zero fun y hy => h y (List.mem_cons_of_mem _ hy)
theorem fe_iff {g : Nat → Int × Int} : ∀ (n i : Nat), (fe g n i).2 = 0 ↔ ∀ j, i ≤ j → j < i + n → (g j).2 = 0
  | 0, i => ⟨fun _ j h1 h2 => absurd h2 (by omega), fun _ => rfl⟩
  | n + 1, i => by
    unfold fe
    by_cases h : (g i).2 = 0
    · rw [if_neg (fun e => e h), fe_iff n (i + 1)]
      refine ⟨fun h1 j h2 h3 => ?_, fun h1 j h2 h3 => h1 j (by omega) (by omega)⟩
      rcases Nat.eq_or_lt_of_le h2 with rfl | h4
      · exact h
      · exact h1 j (by omega) (by omega)
    · rw [if_pos h]
      exact ⟨fun e => absurd e h, fun h1 => h1 i (Nat.le_refl _) (by omega)⟩
theorem fe_two {g : Nat → Int × Int} : ∀ (n i : Nat), (fe g n i).2 = 0 → fe g n i = (0, 0)
  | 0, _, _ => rfl
  | n + 1, i, h => by
    unfold fe at h ⊢
    by_cases h1 : (g i).2 = 0
    · rw [if_neg (fun e => e h1)] at h ⊢
      exact fe_two n (i + 1) h
    · rw [if_pos h1] at h; exact absurd h h1
section
variable {x : Cols} {bd : Int} {U U' : List Nd} {at_ : Nat} {O : List Int}
theorem chk_two : ∀ {f : Nat}, (chk x bd U f at_ O).2 = 0 → chk x bd U f at_ O = (0, 0)
  | 0, h => by
    unfold chk at h ⊢
    by_cases h1 : ndE x bd U at_ O = 0
    · rw [if_neg (fun e => e h1)]
    · rw [if_pos h1] at h; exact absurd h h1
  | f + 1, h => by
    unfold chk at h ⊢
    by_cases h1 : ndE x bd U at_ O = 0
    · rw [if_neg (fun e => e h1)] at h ⊢
      by_cases h2 : (U.getD at_ noNd).kind = 0
      · rw [if_neg (fun e => e h2)] at h ⊢
        exact fe_two _ _ h
      · rw [if_pos h2]
    · rw [if_pos h1] at h; exact absurd h h1
theorem chk_nd {f : Nat} (h : (chk x bd U f at_ O).2 = 0) : ndE x bd U at_ O = 0 := by
  by_cases h1 : ndE x bd U at_ O = 0
  · exact h1
  · rw [chk_err h1] at h; exact h
theorem chk_below {f : Nat} (h : (chk x bd U (f + 1) at_ O).2 = 0) (hk : (U.getD at_ noNd).kind = 0) {i : Nat} (hi : i < (leftK O x.m.length).length) : (chk x bd U f ((U.getD at_ noNd).nx.getD i 0).toNat (O ++ [(leftK O x.m.length).getD i 0])).2 = 0 := by
  have h1 := chk_nd h
  unfold chk at h
  rw [if_neg (fun e => e h1), if_neg (fun e => e hk)] at h
  exact (fe_iff _ _).1 h i (Nat.zero_le _) (by omega)
theorem chk_split {f : Nat} (h1 : ndE x bd U at_ O = 0) (hb : ∀ i, i < (leftK O x.m.length).length → (chk x bd U f ((U.getD at_ noNd).nx.getD i 0).toNat (O ++ [(leftK O x.m.length).getD i 0])).2 = 0) : (chk x bd U (f + 1) at_ O).2 = 0 := by
  unfold chk
  rw [if_neg (fun e => e h1)]
  by_cases hk : (U.getD at_ noNd).kind = 0
  · rw [if_neg (fun e => e hk)]
    exact (fe_iff _ _).2 fun j _ h2 => hb j (by omega)
  · rw [if_pos hk]
/-- What holds of a node of kind 0 that is right. -/
theorem nd_split (h : ndE x bd U at_ O = 0) (hk : (U.getD at_ noNd).kind = 0) : ((leftK O x.m.length).length ≠ 0 ∧ (U.getD at_ noNd).nx.length = (leftK O x.m.length).length) ∧ nxE U.length at_ (U.getD at_ noNd).nx = 0 := by
  unfold ndE at h
  split at h
  · omega
  split at h
  · rename_i h1; exact absurd hk h1
  split at h
  · omega
  · rename_i h1
    exact ⟨⟨fun e => h1 (Or.inl e), by
      by_cases e : (U.getD at_ noNd).nx.length = (leftK O x.m.length).length
      · exact e
      · exact absurd (Or.inr e) h1⟩, h⟩
theorem ndE_ext (hl : U.length ≤ U'.length) (hg : U'.getD at_ noNd = U.getD at_ noNd) (h : ndE x bd U at_ O = 0) : ndE x bd U' at_ O = 0 := by
  by_cases hk : (U.getD at_ noNd).kind = 0
  · obtain ⟨⟨h1, h2⟩, h3⟩ := nd_split h hk
    unfold ndE
    rw [hg]
    rw [if_neg (by rw [hk]; decide), if_neg (fun e => e hk), if_neg (by rintro (e | e); exact h1 e; exact e h2)]
    exact nxE_zero fun y hy => by
      have := nxE_ok h3 y hy
      omega
  · unfold ndE at h ⊢
    rw [hg]
    split at h
    · omega
    · rename_i h1
      rw [if_neg h1, if_pos hk]
      exact h
/-- What is right stays right when the tree grows, or when a node above it is turned. -/
theorem chk_ext {lo : Nat} (hl : U.length ≤ U'.length) (hg : ∀ j, lo ≤ j → j < U.length → U'.getD j noNd = U.getD j noNd) : ∀ (f at_ : Nat) (O : List Int), lo ≤ at_ → at_ < U.length → (chk x bd U f at_ O).2 = 0 → (chk x bd U' f at_ O).2 = 0
  | 0, at_, O, h1, h2, h => by
    have h3 := ndE_ext hl (hg at_ h1 h2) (chk_nd h)
    unfold chk; rw [if_neg (fun e => e h3)]
  | f + 1, at_, O, h1, h2, h => by
    have h0 := chk_nd h
    have h3 := ndE_ext hl (hg at_ h1 h2) h0
    by_cases hk : (U.getD at_ noNd).kind = 0
    · refine chk_split h3 fun i hi => ?_
      rw [hg at_ h1 h2]
      obtain ⟨⟨h5, h6⟩, h7⟩ := nd_split h0 hk
      have h4 := chk_below h hk hi
      have hin : i < (U.getD at_ noNd).nx.length := by omega
      have h8 := nxE_ok h7 ((U.getD at_ noNd).nx.getD i 0) (by rw [getD_eqI hin]; exact List.getElem_mem hin)
      exact chk_ext hl hg f _ _ (by omega) (by omega) h4
    · rw [chk_leaf h3 (by rw [hg at_ h1 h2]; exact hk)]
theorem leaf_good {kd : Int} {f : Nat} (hat : U.getD at_ noNd = ⟨kd, none, [], 0⟩) (hk : kd = 1 ∨ kd = 2) (hh : holdB x bd kd O = true) : (chk x bd U f at_ O).2 = 0 := by
  have h0 : kd ≠ 0 := by omega
  have h1 : ndE x bd U at_ O = 0 := by
    unfold ndE
    rw [hat]
    dsimp only
    rw [if_neg (by rcases hk with e | e <;> (rw [e]; decide)), if_pos h0, if_pos hh]
  rw [chk_leaf h1 (by rw [hat]; exact h0)]
theorem split_good {a : Option Addr} {S : List Int} {c f : Nat} (hat : U.getD at_ noNd = ⟨0, a, S, c⟩) (hl : S.length = (leftK O x.m.length).length) (h0 : 0 < S.length) (hS : ∀ y ∈ S, (at_ : Int) < y ∧ y < U.length)
    (hb : ∀ i, i < S.length → (chk x bd U f (S.getD i 0).toNat (O ++ [(leftK O x.m.length).getD i 0])).2 = 0) : (chk x bd U (f + 1) at_ O).2 = 0 := by
  have h1 : ndE x bd U at_ O = 0 := by
    unfold ndE
    rw [hat]
    dsimp only
    rw [if_neg (by decide), if_neg (fun e => e rfl), if_neg (by rintro (e | e); omega; exact e hl)]
    exact nxE_zero hS
  refine chk_split h1 fun i hi => ?_
  rw [hat]
  exact hb i (by omega)
end
/-- The minutes are such that an order of all colours that is not barred takes them at least. -/
def BoundOk (x : Cols) (bd : Int) : Prop := ∀ O : List Int, O.Nodup → (∀ y ∈ O, 0 ≤ y ∧ y < x.m.length) → leftK O x.m.length = [] → (minsE x O).2 = 0 → bd ≤ (minsE x O).1
theorem end_holds {x : Cols} {bd : Int} {O : List Int} (h : BoundOk x bd) (hnd : O.Nodup) (hin : ∀ y ∈ O, 0 ≤ y ∧ y < x.m.length) (h0 : leftK O x.m.length = []) (h1 : holdB x bd 1 O = false) : holdB x bd 2 O = true := by
  unfold holdB at h1 ⊢
  rw [if_pos rfl] at h1
  rw [if_neg (by decide)]
  have h2 : (minsE x O).2 = 0 := by simpa using h1
  have h3 := h O hnd hin h0 h2
  have h4 : restI x O = 0 := by unfold restI; rw [h0]; rfl
  rw [h4, h2]
  simp
  exact h3
end Go.Proofs.Ytpplcbpnojggcaa

namespace Go.Proofs.Ytpplcbpnojggcaa
open Go.RowKit Go.Maps Go.Shelf

theorem own_uni {W : World} {B B' E E' sz n : Nat} {v : Value} {xs xs' : List Value} (h : W.ownsRow B E sz v n xs) (h' : W.ownsRow B' E' sz v n xs') : xs = xs' := by
  rcases h.2 with ⟨e1, e2⟩ | ⟨g, cap, cur, e1, -, e3, -, -, -, e4⟩
  · have h1 := h.1
    have h2 := h'.1
    rw [e2, Nat.zero_mul] at h1 h2
    rw [List.length_eq_zero_iff.1 h1, List.length_eq_zero_iff.1 h2]
  · rcases h'.2 with ⟨f1, -⟩ | ⟨g', cap', cur', f1, -, f3, -, -, -, f4⟩
    · rw [e1] at f1; cases f1
    · rw [e1] at f1
      injection f1 with f1 _ _
      injection f1 with f1
      injection f1 with f1
      subst f1
      rw [e3] at f3
      injection f3 with f3
      injection f3 with f3
      subst f3
      rw [← e4, ← f4]
theorem nd_flat_set : ∀ (U : List Nd) (m : Nat) (a : Option Addr) (l : List Int) (c : Nat), m < U.length → (U.flatMap ndV).set (m * 2 + 1) (.slice a l.length c) = (U.set m ⟨(U.getD m noNd).kind, a, l, c⟩).flatMap ndV
  | [], m, _, _, _, h => absurd h (Nat.not_lt_zero _)
  | y :: U, 0, a, l, c, _ => rfl
  | y :: U, m + 1, a, l, c, h => by
    have ih := nd_flat_set U m a l c (Nat.lt_of_succ_lt_succ h)
    show (Value.int .i64 y.kind :: Value.slice y.a y.nx.length y.c :: U.flatMap ndV).set ((m + 1) * 2 + 1) _ = Value.int .i64 y.kind :: Value.slice y.a y.nx.length y.c :: (U.set m _).flatMap ndV
    rw [show (m + 1) * 2 + 1 = (m * 2 + 1) + 1 + 1 by omega, List.set_cons_succ, List.set_cons_succ, ih]
    rfl
/-- The block of a node's branches. -/
def ndB (x : Nd) : Option Nat := (Value.slice x.a x.nx.length x.c).ownBlock
/-- The branches of nodes: rows of the call's own, apart from the order's row. -/
structure NX (W : World) (B : Nat) (ov : Value) (U : List Nd) : Prop where
  row : ∀ x ∈ U, OwnR 1 3 intL W B (.slice x.a x.nx.length x.c) x.nx
  ne : ∀ x ∈ U, ∀ q, ndB x = some q → ov.ownBlock ≠ some q
section
variable {w0 W W' X Y V : World} {B b N K : Nat} {x : Cols} {bnd : Int} {O L S : List Int} {U T T2 T' : List Nd} {nv ov ov' nx : Value} {m : Nat} {xs : List Value}
theorem NX.keep (h : NX W B ov U) (hk : ∀ y ∈ U, ∀ q, ndB y = some q → W'.heap[q]? = W.heap[q]?) (ho : ∀ q, ov'.ownBlock = some q → ov.ownBlock = some q ∨ W.heap.size ≤ q) : NX W' B ov' U :=
  ⟨fun y hy => (h.row y hy).same (fun q e => hk y hy q e), fun y hy q e e2 => by
    rcases ho q e2 with h1 | h1
    · exact h.ne y hy q e h1
    · have := ((h.row y hy).lt q e).2; omega⟩
theorem NX.frame (h : NX W w0.heap.size ov U) (ht : TS w0 W b x bnd O m nv ov xs) (hk : ∀ q, q < W.heap.size → q ≠ b → ov.ownBlock ≠ some q → nv.ownBlock ≠ some q → W'.heap[q]? = W.heap[q]?) (ho : ∀ q, ov'.ownBlock = some q → ov.ownBlock = some q ∨ W.heap.size ≤ q) : NX W' w0.heap.size ov' U :=
  h.keep (fun y hy q e => hk q ((h.row y hy).lt q e).2 (fun e2 => own_ne (h.row y hy) ht.box (by decide) (show ndB y = some b by rw [e, e2])) (h.ne y hy q e) (fun e2 => rows_apart ht.nod (h.row y hy) (by decide) q e2 e)) ho
theorem NX.leaf (h : NX W B ov U) (k : Int) : NX W B ov (U ++ [⟨k, none, [], 0⟩]) :=
  ⟨fun y hy => by
    rcases List.mem_append.1 hy with h1 | h1
    · exact h.row y h1
    · rw [List.mem_singleton.1 h1]; exact OwnR.nil _ _, fun y hy q e => by
    rcases List.mem_append.1 hy with h1 | h1
    · exact h.ne y h1 q e
    · rw [List.mem_singleton.1 h1] at e; cases e⟩
/-- What grow returns and leaves. -/
def GrowT (w0 W : World) (b : Nat) (x : Cols) (bnd : Int) (O : List Int) (T : List Nd) (l : Nat) (nv ov : Value) (e : Ending) (W' : World) : Prop :=
  e = .returned (.int .i64 (T.length : Int)) ∧ ∃ nv' ov' T', TS w0 W' b x bnd O (T ++ T').length nv' ov' ((T ++ T').flatMap ndV) ∧ NX W' w0.heap.size ov' (T ++ T') ∧ (∀ y ∈ T', (∀ q, ndB y = some q → W.heap.size ≤ q) ∧ y.nx.length ≤ 6) ∧ 0 < T'.length ∧ T'.length ≤ cntN l ∧ (chk x bnd (T ++ T') l T.length O).2 = 0 ∧ KeepsFrom 0 W W' ∧
    (∀ q, q < W.heap.size → q ≠ b → ov.ownBlock ≠ some q → nv.ownBlock ≠ some q → W'.heap[q]? = W.heap[q]?) ∧
    (∀ q, ov'.ownBlock = some q → ov.ownBlock = some q ∨ W.heap.size ≤ q) ∧ (∀ q, nv'.ownBlock = some q → nv.ownBlock = some q ∨ W.heap.size ≤ q)
/-- What lies of the nodes between two rounds. -/
structure GrN (w0 W : World) (x : Cols) (bnd : Int) (O L : List Int) (T T2 : List Nd) (S : List Int) (ov nx nv : Value) (X : World) : Prop where
  nod : X.ownsRow w0.heap.size 170 2 nv (T ++ noNd :: T2).length ((T ++ noNd :: T2).flatMap ndV)
  nxs : NX X w0.heap.size ov (T ++ noNd :: T2)
  far : ∀ y ∈ T ++ noNd :: T2, ∀ q, ndB y = some q → nx.ownBlock ≠ some q
  new : ∀ y ∈ T2, (∀ q, ndB y = some q → W.heap.size ≤ q) ∧ y.nx.length ≤ 6
  nums : ∀ y ∈ S, (T.length : Int) < y ∧ y < (T ++ noNd :: T2).length
  good : ∀ i, i < S.length → (chk x bnd (T ++ noNd :: T2) (L.length - 1) (S.getD i 0).toNat (O ++ [L.getD i 0])).2 = 0
theorem GrN.keep (h : GrN w0 W x bnd O L T T2 S ov nx nv X) (hn : ∀ q, nv.ownBlock = some q → Y.heap[q]? = X.heap[q]?) (hk : ∀ y ∈ T ++ noNd :: T2, ∀ q, ndB y = some q → Y.heap[q]? = X.heap[q]?) (ho : ∀ q, ov'.ownBlock = some q → ov.ownBlock = some q ∨ X.heap.size ≤ q) : GrN w0 W x bnd O L T T2 S ov' nx nv Y :=
  ⟨own_same h.nod hn, h.nxs.keep hk ho, h.far, h.new, h.nums, h.good⟩
theorem GrN.kept (h : GrN w0 W x bnd O L T T2 S ov nx nv X) {row : Option Nat} {B : Nat} (hg : X.grownBy Y row) (hr : ∀ r, row = some r → B ≤ r ∧ ∃ o : Obj, X.heap[r]? = some o ∧ o.isCells = false) : GrN w0 W x bnd O L T T2 S ov nx nv Y := by
  have key : ∀ {B E sz n : Nat} {v : Value} {xs : List Value}, X.ownsRow B E sz v n xs → ∀ q, v.ownBlock = some q → Y.heap[q]? = X.heap[q]? := fun hw q e => hg.block q (World.ownsRow.lt hw q e).2 (fun e2 => by
    obtain ⟨o, ho, hc⟩ := (hr q e2.symm).2
    obtain ⟨cs, hcs⟩ := own_block hw q e
    rw [hcs] at ho; cases ho; cases hc)
  exact h.keep (key h.nod) (fun y hy => key (h.nxs.row y hy)) (fun q e => Or.inl e)
theorem GrN.turn {O' : List Int} (h : GrN w0 W x bnd O L T T2 S ov nx nv X) (ht : TS w0 X b x bnd O' m nv ov xs) (hy : TreeTurn b ov ov' X Y) : GrN w0 W x bnd O L T T2 S ov' nx nv Y :=
  h.keep (fun q e => hy.block q (World.ownsRow.lt h.nod q e).2 (fun e2 => box_ne_own h.nod ht.box (by decide) (by rw [e, e2])) (fun e2 => rows_apart h.nod ht.own (by decide) q e e2))
    (fun y hy2 q e => hy.block q ((h.nxs.row y hy2).lt q e).2 (fun e2 => own_ne (h.nxs.row y hy2) ht.box (by decide) (show ndB y = some b by rw [e, e2])) (h.nxs.ne y hy2 q e)) hy.row
theorem GrN.drew (h : GrN w0 W x bnd O L T T2 S ov nx nv X) : GrN w0 W x bnd O L T T2 S ov nx nv X.drew :=
  h.keep (fun _ _ => rfl) (fun _ _ _ _ => rfl) (fun _ e => Or.inl e)
theorem app_mid (T T2 T' : List Nd) : (T ++ noNd :: T2) ++ T' = T ++ noNd :: (T2 ++ T') := by simp
theorem app_get (U T' : List Nd) (j : Nat) (h : j < U.length) : (U ++ T').getD j noNd = U.getD j noNd := by
  rw [List.getD_eq_getElem?_getD, List.getD_eq_getElem?_getD, List.getElem?_append_left h]
/-- A branch has grown. -/
theorem GrN.call {nv' : Value} {O' : List Int} (h : GrN w0 W x bnd O L T T2 S ov nx nv X) (hrow : OwnR 1 3 intL X K nx S) (hWX : W.heap.size ≤ X.heap.size)
    (ht : TS w0 V b x bnd O' ((T ++ noNd :: T2) ++ T').length nv' ov' (((T ++ noNd :: T2) ++ T').flatMap ndV)) (hnx : NX V w0.heap.size ov' ((T ++ noNd :: T2) ++ T')) (hnew : ∀ y ∈ T', (∀ q, ndB y = some q → X.heap.size ≤ q) ∧ y.nx.length ≤ 6) : GrN w0 W x bnd O L T (T2 ++ T') S ov' nx nv' V := by
  refine ⟨by rw [← app_mid]; exact ht.nod, by rw [← app_mid]; exact hnx, fun y hy q e => ?_, fun y hy => ?_, fun y hy => ?_, fun i hi => ?_⟩
  · rw [← app_mid] at hy
    rcases List.mem_append.1 hy with h1 | h1
    · exact h.far y h1 q e
    · intro e2
      have h2 := (hnew y h1).1 q e
      have h3 := (hrow.lt q e2).2
      omega
  · rcases List.mem_append.1 hy with h1 | h1
    · exact h.new y h1
    · exact ⟨fun q e => Nat.le_trans hWX ((hnew y h1).1 q e), (hnew y h1).2⟩
  · have h1 := h.nums y hy
    rw [← app_mid, List.length_append]
    omega
  · have h1 := h.nums (S.getD i 0) (by rw [getD_eqI hi]; exact List.getElem_mem hi)
    have h2 := h.good i hi
    rw [← app_mid]
    exact chk_ext (lo := 0) (by simp only [List.length_append]; omega) (fun j _ hj => app_get _ T' j hj) _ _ _ (Nat.zero_le _) (by omega) h2
/-- The number of the branch is taken down. -/
theorem GrN.app {gg cg : Nat} {r : Int} {wg : World} (h : GrN w0 W x bnd O L T T2 S ov nx nv V) (hbN : BoxAt V N #[nx] 75) (hrow : OwnR 1 3 intL V K nx S) (hg : V.grownBy wg nx.ownBlock) (hat : nx.ownBlock = some gg ∨ gg = V.heap.size + 1)
    (hr : (T.length : Int) < r ∧ r < (T ++ noNd :: T2).length) (hgd : (chk x bnd (T ++ noNd :: T2) (L.length - 1) r.toNat (O ++ [L.getD S.length 0])).2 = 0) : GrN w0 W x bnd O L T T2 (S ++ [r]) ov (.slice (some ⟨gg, 0, none⟩) (S.length + 1) cg) nv (wg.setCell ⟨N, 0, none⟩ (.slice (some ⟨gg, 0, none⟩) (S.length + 1) cg)) := by
  have hkk : ∀ q, q < V.heap.size → nx.ownBlock ≠ some q → q ≠ N → (wg.setCell ⟨N, 0, none⟩ (.slice (some ⟨gg, 0, none⟩) (S.length + 1) cg)).heap[q]? = V.heap[q]? := fun q hq h1 h2 => by
    rw [Below.heap_setCell _ _ _ _ (by show q ≠ N; exact h2)]
    exact hg.block q hq (fun e => h1 e.symm)
  have h1 := h.keep (ov' := ov) (Y := wg.setCell ⟨N, 0, none⟩ (.slice (some ⟨gg, 0, none⟩) (S.length + 1) cg)) (fun q e => hkk q (World.ownsRow.lt h.nod q e).2 (fun e2 => rows_apart h.nod hrow (by decide) q e e2) (fun e2 => box_ne_own h.nod hbN (by decide) (by rw [e, e2])))
    (fun y hy q e => hkk q ((h.nxs.row y hy).lt q e).2 (h.far y hy q e) (fun e2 => own_ne (h.nxs.row y hy) hbN (by decide) (show ndB y = some N by rw [e, e2]))) (fun q e => Or.inl e)
  refine ⟨h1.nod, h1.nxs, fun y hy q e e2 => ?_, h1.new, fun y hy => ?_, fun i hi => ?_⟩
  · have e2 : gg = q := by simpa [Value.ownBlock] using e2
    subst e2
    rcases hat with h3 | h3
    · exact h.far y hy gg e h3
    · have h4 := ((h.nxs.row y hy).lt gg e).2
      omega
  · rcases List.mem_append.1 hy with h2 | h2
    · exact h.nums y h2
    · rw [List.mem_singleton.1 h2]; exact hr
  · rw [List.length_append, List.length_singleton] at hi
    rcases Nat.lt_succ_iff_lt_or_eq.1 hi with h2 | h2
    · have e : (S ++ [r]).getD i 0 = S.getD i 0 := by rw [List.getD_eq_getElem?_getD, List.getD_eq_getElem?_getD, List.getElem?_append_left h2]
      rw [e]; exact h.good i h2
    · have e : (S ++ [r]).getD i 0 = r := by rw [List.getD_eq_getElem?_getD, h2, List.getElem?_append_right (Nat.le_refl _)]; simp
      rw [e, h2]; exact hgd
theorem mid_set (T T2 : List Nd) (y z : Nd) : (T ++ y :: T2).set T.length z = T ++ z :: T2 := by
  induction T with
  | nil => rfl
  | cons t T ih => simp
theorem mid_get (T T2 : List Nd) (y : Nd) : (T ++ y :: T2).getD T.length noNd = y := by
  rw [List.getD_eq_getElem?_getD, List.getElem?_append_right (Nat.le_refl _)]; simp
/-- The split is whole: it is right. -/
theorem GrN.tree (h : GrN w0 W x bnd O L T T2 S ov nx nv X) (hL : L = leftK O x.m.length) (h0 : 0 < L.length) (hS : S.length = L.length) (a : Option Addr) (c : Nat) : (chk x bnd (T ++ ⟨0, a, S, c⟩ :: T2) L.length T.length O).2 = 0 := by
  have hlen : (T ++ (⟨0, a, S, c⟩ : Nd) :: T2).length = (T ++ noNd :: T2).length := by simp
  obtain ⟨f, hf⟩ : ∃ f, L.length = f + 1 := ⟨L.length - 1, by omega⟩
  rw [hf]
  refine split_good (mid_get T T2 _) (by rw [hS, hL]) (by omega) (fun y hy => by rw [hlen]; exact h.nums y hy) fun i hi => ?_
  have h1 := h.nums (S.getD i 0) (by rw [getD_eqI hi]; exact List.getElem_mem hi)
  have h2 := h.good i hi
  rw [hf, Nat.add_sub_cancel] at h2
  rw [← hL]
  refine chk_ext (lo := T.length + 1) (by rw [hlen]; exact Nat.le_refl _) (fun j h3 h4 => ?_) f _ _ (by omega) (by omega) h2
  rw [List.getD_eq_getElem?_getD, List.getD_eq_getElem?_getD, List.getElem?_append_right (by omega), List.getElem?_append_right (by omega)]
  obtain ⟨d, hd⟩ : ∃ d, j - T.length = d + 1 := ⟨j - T.length - 1, by omega⟩
  rw [hd]; rfl
end
theorem nodup_snoc {O : List Int} {c : Int} (h : O.Nodup) (hc : c ∉ O) : (O ++ [c]).Nodup := by
  rw [List.nodup_append]
  exact ⟨h, by simp, fun a ha b hb e => by rw [List.mem_singleton.1 hb] at e; exact hc (e ▸ ha)⟩
theorem mid_flat (T T2 : List Nd) (a : Option Addr) (l : List Int) (c : Nat) : ((T ++ noNd :: T2).flatMap ndV).set (T.length * 2 + 1) (.slice a l.length c) = (T ++ ⟨0, a, l, c⟩ :: T2).flatMap ndV := by
  rw [nd_flat_set _ _ _ _ _ (by simp), mid_get, mid_set]; rfl
theorem GrN.whole {w0 W X : World} {x : Cols} {bnd : Int} {O L S : List Int} {T T2 : List Nd} {ov nv : Value} {K : Nat} {sa : Option Addr} {sc : Nat} (h : GrN w0 W x bnd O L T T2 S ov (.slice sa S.length sc) nv X) (hrow : OwnR 1 3 intL X K (.slice sa S.length sc) S) (hne : ∀ q, (Value.slice sa S.length sc).ownBlock = some q → ov.ownBlock ≠ some q) (hK : w0.heap.size ≤ K) : NX X w0.heap.size ov (T ++ ⟨0, sa, S, sc⟩ :: T2) := by
  refine ⟨fun y hy => ?_, fun y hy => ?_⟩
  · rcases List.mem_append.1 hy with h1 | h1
    · exact h.nxs.row y (List.mem_append_left _ h1)
    · rcases List.mem_cons.1 h1 with rfl | h1
      · exact hrow.mono hK
      · exact h.nxs.row y (List.mem_append_right _ (List.mem_cons_of_mem _ h1))
  · rcases List.mem_append.1 hy with h1 | h1
    · exact h.nxs.ne y (List.mem_append_left _ h1)
    · rcases List.mem_cons.1 h1 with rfl | h1
      · exact hne
      · exact h.nxs.ne y (List.mem_append_right _ (List.mem_cons_of_mem _ h1))
end Go.Proofs.Ytpplcbpnojggcaa

namespace Go.Proofs.Ytpplcbpnojggcaa
open Go.RowKit Go.Maps Go.Shelf

set_option maxRecDepth 100000 in
set_option maxHeartbeats 4000000 in
theorem holdsV_any (t : Tree) (B b : Nat) (kind : Int) (w : World) (ht : TreeAt w B b t) (hok : ColsOk t.x) (hol : t.O.length ≤ 6) (hin : ∀ y ∈ t.O, 0 ≤ y ∧ y < t.x.m.length) :
    Calls Try.prog 141 #[.pointer (some ⟨b, 0, none⟩), .int .i64 kind] w (AggPost (.bool (holdB t.x t.bound kind t.O)) w) := by
  have HLF := Lib.hid (fun w1 h => left_any t B b w1 h (by have := hok.le; omega) (by omega))
  have HMB := Lib.hid (mins_bd hok hol)
  have HRB := Lib.hid (rest_bd hok)
  have HDEF := Lib.hid (show holdB t.x t.bound kind t.O = if kind = 1 then !((minsE t.x t.O).2 == 0) else ((minsE t.x t.O).2 == 0) && decide (t.bound ≤ (minsE t.x t.O).1 + restI t.x t.O) from rfl)
  have HRI := Lib.hid (show restI t.x t.O = (leftK t.O t.x.m.length).foldl (fun s y => s + t.x.m.getD y.toNat 0) 0 from rfl)
  obtain ⟨HB, hHB⟩ : ∃ HB, HB = holdB t.x t.bound kind t.O := ⟨_, rfl⟩
  rw [← hHB] at HDEF ⊢
  clear hHB
  obtain ⟨⟨ma, m, mc, da, T, dc⟩, bd, nv, ov, O⟩ := t
  obtain ⟨oa, oc, ev, hRS, hoc, -⟩ := ht.own.rows int_l
  have ev : ov = .slice oa O.length oc := ev
  subst ev
  have HT := Lib.hid ht
  have HMO := Lib.hid (fun W (hx : ColsAt W ⟨ma, m, mc, da, T, dc⟩) (hO : RowsAt 1 intL W oa O) => minutesOf_any ⟨ma, m, mc, da, T, dc⟩ O oa oc W hx hok hO hoc hol hin)
  unfold Cols.v at HMO
  dsimp only at HMO HMB HDEF HRI HRB
  have b0 : w.cell? ⟨b, 0, none⟩ = some (.slice ma m.length mc) := HT.out.box.cell 0
  have b1 : w.cell? ⟨b, 1, none⟩ = some (.slice da T.length dc) := HT.out.box.cell 1
  have b4 : w.cell? ⟨b, 4, none⟩ = some (.slice oa O.length oc) := HT.out.box.cell 4
  have hbl := HT.out.box.lt
  have HRS := Lib.hid hRS; have HOK := Lib.hid hok
  clear ht hok hin hRS hoc
  go_enter Try.func141, Try.ntmps141
  go_wp2_with fail
  go_region_held3 (fun w' => w'.cell? ⟨b, 0, none⟩ = some (.slice ma m.length mc) ∧ w'.cell? ⟨b, 1, none⟩ = some (.slice da T.length dc) ∧ w'.cell? ⟨b, 4, none⟩ = some (.slice oa O.length oc)) (go_keep)
    ((go_at_call 108; refine (HMO.out _ (HT.out.cols.below (Below.refl _ _).drew) HRS.out.drew).mono ?_; rintro e w8 ⟨rfl, hb8⟩; have k0 := (hb8.cell (p := ⟨b, 0, none⟩) hbl).trans b0; have k1 := (hb8.cell (p := ⟨b, 1, none⟩) hbl).trans b1; have k4 := (hb8.cell (p := ⟨b, 4, none⟩) hbl).trans b4))
  obtain ⟨mn, hmn⟩ : ∃ mn, mn = (minsE ⟨ma, m, mc, da, T, dc⟩ O).1 := ⟨_, rfl⟩
  obtain ⟨er, her⟩ : ∃ er, er = (minsE ⟨ma, m, mc, da, T, dc⟩ O).2 := ⟨_, rfl⟩
  rw [← hmn] at HMB
  rw [← hmn, ← her] at HDEF
  rw [← hmn, ← her]
  have hz8 := hb8.size
  have hB8 : Below w.heap.size w w8 := (Below.refl w.heap.size w).drew.trans hb8
  have HB8 := Lib.hid hB8
  have HT8 := Lib.hid (HT.out.below hB8)
  clear hmn her HT HMO hb8 hB8
  by_cases h1 : kind = 1
  · subst h1
    have HE := Lib.hid (show HB = !(er == 0) by rw [HDEF.out, if_pos rfl])
    go_wp2
    go_ret
    exact ⟨by rw [HE.out]; rfl, HB8.out⟩
  · have h1' : (kind == 1) = false := by simpa using h1
    have HE := Lib.hid (show HB = ((er == 0) && decide (bd ≤ mn + restI ⟨ma, m, mc, da, T, dc⟩ O)) by rw [HDEF.out, if_neg h1])
    clear h1
    go_wp2_with (go_at_call 156; refine (HLF.out _ HT8.out).mono ?_; rintro e w9 ⟨lv, rfl, hOl, hb9⟩; obtain ⟨la, lc, ev, hRL, -⟩ := hOl.rows int_l; subst ev)
    have HLI := Lib.hid (fun y h => (leftK_in O m.length y h).1)
    have HLL := Lib.hid (leftK_len O m.length)
    have HRB : Hid (∀ (L : List Int) (z : Int), z ≤ L.foldl (fun s y => s + m.getD y.toNat 0) z ∧ L.foldl (fun s y => s + m.getD y.toNat 0) z ≤ z + 10000 * L.length) := HRB
    obtain ⟨Lf, hLf⟩ : ∃ Lf, Lf = leftK O m.length := ⟨_, rfl⟩
    have HLE := Lib.hid hLf
    rw [← hLf] at HLI HLL HRI hRL ⊢
    have hLl : Lf.length ≤ m.length := HLL.out
    have hml : m.length ≤ 6 := HOK.out.le
    have HB9 := Lib.hid (HB8.out.trans (hb9.mono HB8.out.size))
    have HT9 := Lib.hid (HT8.out.below hb9)
    clear hb9 hOl hLf
    have b0 : w9.cell? ⟨b, 0, none⟩ = some (.slice ma m.length mc) := HT9.out.box.cell 0
    have b2 : w9.cell? ⟨b, 2, none⟩ = some (.int .i64 bd) := HT9.out.box.cell 2
    have hbl9 := HT9.out.box.lt
    have HMI := Lib.hid (show RowsAt 1 intL w9 ma m from HT9.out.cols.mins)
    go_loop [5, 28] (fun v i => ∃ k : Nat, k ≤ Lf.length ∧ i = .int .i64 k ∧ v = .int .i64 ((Lf.take k).foldl (fun s y => s + m.getD y.toNat 0) mn)) (fun _ i => Lf.length - (intOf i).toNat)
    case atStart => exact ⟨0, Nat.zero_le _, rfl, rfl⟩
    case round =>
      obtain ⟨k, hk, rfl, rfl⟩ := hrel
      by_cases hlt : k < Lf.length
      · obtain ⟨ad, rfl, had, s0⟩ := hRL.int hlt
        have hy := HLI.out _ (List.getElem_mem hlt)
        have HST := Lib.hid (fold_step (f := fun s y => s + m.getD y.toNat 0) (b := mn) hlt)
        have hq := HRB.out (Lf.take k) mn
        have hq9 : ((Lf.take k).length : Int) ≤ 6 := by rw [List.length_take]; omega
        obtain ⟨q, hqe⟩ : ∃ q, q = (Lf.take k).foldl (fun s y => s + m.getD y.toNat 0) mn := ⟨_, rfl⟩
        rw [← hqe] at hq HST ⊢
        obtain ⟨y, ey⟩ : ∃ y, y = Lf[k] := ⟨_, rfl⟩
        rw [← ey] at s0 hy HST
        obtain ⟨cN, rfl⟩ : ∃ cN : Nat, y = cN := ⟨y.toNat, by omega⟩
        have hcm : cN < m.length := by omega
        have hcm' : (cN : Int) < (m.length : Int) := by omega
        obtain ⟨mad, rfl, hmad, s1⟩ := HMI.out.int hcm
        have HMD := Lib.hid (show m.getD ((cN : Int)).toNat 0 = m[cN] by rw [show ((cN : Int)).toNat = cN by omega, getD_eqI hcm])
        have hmb : 0 ≤ 0 + m.getD ((cN : Int)).toNat 0 ∧ 0 + m.getD ((cN : Int)).toNat 0 ≤ 0 + 10000 * 1 := HRB.out [(cN : Int)] 0
        rw [HMD.out] at hmb
        obtain ⟨mv, hmv⟩ : ∃ mv, mv = m[cN] := ⟨_, rfl⟩
        rw [← hmv] at s1 HMD hmb
        have hmnb := HMB.out
        have hw2 : IntKind.i64.wrap (q + mv) = q + mv := IntWalk.i64_in _ (by omega)
        have HS2 : Hid ((Lf.take (k + 1)).foldl (fun s y => s + m.getD y.toNat 0) mn = q + mv) := Lib.hid (by rw [HST.out]; show q + m.getD ((cN : Int)).toNat 0 = _; rw [HMD.out])
        clear ey hmv hy hqe
        go_wp2
        go_round
        case rel => exact ⟨k + 1, by omega, by go_num, by rw [HS2.out]⟩
        case measure => simp [intOf] <;> omega
      · obtain rfl : k = Lf.length := by omega
        rw [List.take_length]
        have HQ := Lib.hid (show Lf.foldl (fun s y => s + m.getD y.toNat 0) mn = mn + restI ⟨ma, m, mc, da, T, dc⟩ O by rw [HRI.out]; exact fold_from (fun y : Int => m.getD y.toNat 0) Lf mn)
        rw [HQ.out]
        obtain ⟨q, hq⟩ : ∃ q, q = mn + restI ⟨ma, m, mc, da, T, dc⟩ O := ⟨_, rfl⟩
        rw [← hq]
        have HE2 := Lib.hid (show HB = ((er == 0) && decide (bd ≤ q)) by rw [HE.out, hq])
        clear hq hlt
        cases h3 : (er == 0)
        · go_wp2
          go_ret
          exact ⟨by rw [HE2.out, h3]; rfl, HB9.out⟩
        · go_wp2
          go_ret
          exact ⟨by rw [HE2.out, h3, Bool.true_and]; rfl, HB9.out⟩
end Go.Proofs.Ytpplcbpnojggcaa

namespace Go.Proofs.Ytpplcbpnojggcaa
open Go.RowKit Go.Maps Go.Shelf
attribute [local go_sem] Oper.semAt_some

set_option maxRecDepth 100000 in
set_option maxHeartbeats 8000000 in
theorem growN_any : ∀ (f : Nat) (w0 W : World) (b : Nat) (x : Cols) (bnd : Int) (O : List Int) (m : Nat) (nv ov : Value) (xs : List Value) (T0 : List Nd), T0.length = m → xs = T0.flatMap ndV → (leftK O x.m.length).length < f → TS w0 W b x bnd O m nv ov xs → NX W w0.heap.size ov T0 → ColsAt w0 x → ColsOk x → O.length + (leftK O x.m.length).length ≤ 6 → O.Nodup → (∀ y ∈ O, 0 ≤ y ∧ y < x.m.length) → BoundOk x bnd → m + cntN (leftK O x.m.length).length ≤ 1000000 →
    Calls Try.prog 115 #[.pointer (some ⟨b, 0, none⟩)] W (GrowT w0 W b x bnd O T0 (leftK O x.m.length).length nv ov) := by
  intro f
  induction f with
  | zero => intro w0 W b x bnd O m nv ov xs T0 _ _ hf; omega
  | succ f ih =>
    intro w0 W b x bnd O m nv ov xs T0 hTm hxs hf ht hnx0 hx hok hol hnd hin hbo hcnt
    obtain ⟨na, nc, ev⟩ : ∃ a c, nv = .slice a m c := by
      rcases ht.nod.2 with ⟨e1, e2⟩ | ⟨gg, cap, cur, e1, -⟩
      · exact ⟨none, 0, by rw [e1, e2]⟩
      · exact ⟨_, _, e1⟩
    subst ev
    have HT0 := Lib.hid ht; have HX := Lib.hid hx; have HOK := Lib.hid hok; have HIN := Lib.hid hin; have HIH := Lib.hid ih
    have HTM := Lib.hid hTm; have HXS := Lib.hid hxs; have HNX0 := Lib.hid hnx0; have HND := Lib.hid hnd; have HBO := Lib.hid hbo
    have hb0 := (Below.refl W.heap.size W).alloc (Nat.le_refl _) (.cells #[.pointer (some ⟨b, 0, none⟩)] 188)
    have HP := Lib.hid (BoxAt.new W #[.pointer (some ⟨b, 0, none⟩)] 188)
    have HT1 := Lib.hid (ht.below hb0)
    have b3 : (W.alloc (.cells #[.pointer (some ⟨b, 0, none⟩)] 188)).cell? ⟨b, 3, none⟩ = some (.slice na m nc) := HT1.out.box.cell 3
    have hbl := HT1.out.box.lt
    have hml : m ≤ 1000000 := by omega
    clear ht hx hok hin ih hb0 hTm hxs hnx0 hnd hbo
    refine (callsIn_wide (n := 9)).1 ?_
    refine callsIn_of_wp_marks Try.func115 rfl trivial ?_ rfl
    simp only [Try.ntmps115, List.size_toArray, List.length_cons, List.length_nil, Nat.reduceAdd, Nat.reduceSub, Array.replicate_succ, Array.replicate_zero, List.push_toArray, List.append_toArray, List.nil_append, List.cons_append]
    gi_wp2
    obtain ⟨V, hV⟩ : ∃ V, V = (W.alloc (.cells #[.pointer (some ⟨b, 0, none⟩)] 188)).alloc (.cells #[.int .i64 1, .int .i64 2] 3) := ⟨_, rfl⟩
    have HVB := Lib.hid (show Below W.heap.size W V by rw [hV]; exact ((Below.refl W.heap.size W).alloc (Nat.le_refl _) _).alloc (by simp) _)
    have HVP := Lib.hid (show BoxAt V W.heap.size #[.pointer (some ⟨b, 0, none⟩)] 188 by rw [hV]; exact (BoxAt.new W _ _).alloc _)
    have HVK := Lib.hid (show IBox V (W.heap.size + 1) [1, 2] by rw [hV]; have h := BoxAt.new (W.alloc (.cells #[.pointer (some ⟨b, 0, none⟩)] 188)) #[.int .i64 1, .int .i64 2] 3; rw [World.size_alloc] at h; exact h)
    have HVZ := Lib.hid (show V.heap.size = W.heap.size + 2 by rw [hV]; simp)
    rw [← hV]
    clear hV b3 hbl
    gi_loopw [14] (fun i wr => ∃ k : Nat, k ≤ 2 ∧ i = .int .i64 k ∧ Hid (1 ≤ k → holdB x bnd 1 O = false) ∧ Hid (2 ≤ k → holdB x bnd 2 O = false) ∧ Below V.heap.size V wr) (fun i _ => 2 - (intOf i).toNat)
    case atStart => exact ⟨0, by omega, rfl, Lib.hid (fun h => absurd h (by omega)), Lib.hid (fun h => absurd h (by omega)), Below.refl _ _⟩
    case round =>
      obtain ⟨k, hk, rfl, HN1, HN2, hB⟩ := hrel
      have hP := HVP.out.below hB
      have hK := IBox.below HVK.out hB
      have p0 : wr.cell? ⟨W.heap.size, 0, none⟩ = some (.pointer (some ⟨b, 0, none⟩)) := hP.cell 0
      have hpl := hP.lt
      have HB := Lib.hid hB
      have HTW := Lib.hid (HT0.out.below (HVB.out.trans (hB.mono HVB.out.size)))
      by_cases hlt : k < 2
      · obtain ⟨kd, hkd, ekd⟩ : ∃ kd : Int, wr.cell? ⟨W.heap.size + 1, k, none⟩ = some (.int .i64 kd) ∧ kd = (k : Int) + 1 := ⟨_, hK.cell (k := k) (by simpa using hlt), by
          have h9 : k = 0 ∨ k = 1 := by omega
          rcases h9 with rfl | rfl <;> rfl⟩
        have HKD := Lib.hid ekd
        obtain ⟨bb0, hbb0⟩ : ∃ bb0, bb0 = holdB x bnd kd O := ⟨_, rfl⟩
        have HHB := Lib.hid hbb0
        have hlt' : (k : Int) < 2 := by omega
        have HH : Hid (Calls Try.prog 141 #[.pointer (some ⟨b, 0, none⟩), .int .i64 kd] wr (AggPost (.bool bb0) wr)) := Lib.hid (by
          rw [hbb0]
          exact holdsV_any ⟨x, bnd, .slice na m nc, ov, O⟩ w0.heap.size b kd wr (HTW.out.tree HX.out) HOK.out (by show O.length ≤ 6; omega) HIN.out)
        clear hbb0 ekd
        clear hB hP hK
        gi_wp2_with (refine ⟨trivial, ?_⟩; refine (callsIn_wide.2 HH.out).mono ?_; rintro e w1 ⟨rfl, hb1⟩; have HB1 := Lib.hid hb1; clear hb1; cases bb0)
        · go_roundw
          case rel => exact ⟨k + 1, by omega, by go_num, Lib.hid (fun _ => by
            rcases Nat.eq_zero_or_pos k with h0 | h0
            · rw [show (1 : Int) = kd by rw [HKD.out, h0]; rfl]; exact HHB.out.symm
            · exact HN1.out h0), Lib.hid (fun h9 => by
            rw [show (2 : Int) = kd by rw [HKD.out]; omega]; exact HHB.out.symm), HB.out.trans (HB1.out.mono HB.out.size)⟩
          case measure => simp [intOf] <;> omega
        · have HT2 := Lib.hid (HTW.out.below HB1.out)
          have hP2 := (HVP.out.below HB.out).below HB1.out
          have p2 : w1.cell? ⟨W.heap.size, 0, none⟩ = some (.pointer (some ⟨b, 0, none⟩)) := hP2.cell 0
          have hpl2 := hP2.lt
          have b3 : w1.cell? ⟨b, 3, none⟩ = some (.slice na m nc) := HT2.out.box.cell 3
          have f3 : w1.frozen? ⟨b, 3, none⟩ = false := HT2.out.box.free 3
          have hbl2 := HT2.out.box.lt
          have HP2 := Lib.hid hP2
          have p3 : (w1.alloc (.cells #[.int .i64 kd, .slice none 0 0] 170)).cell? ⟨W.heap.size, 0, none⟩ = some (.pointer (some ⟨b, 0, none⟩)) := by rw [World.cell?_alloc_past _ _ _ hpl2]; exact p2
          have b5 : (w1.alloc (.cells #[.int .i64 kd, .slice none 0 0] 170)).cell? ⟨b, 3, none⟩ = some (.slice na m nc) := by rw [World.cell?_alloc_past _ _ _ hbl2]; exact b3
          clear hP2 p0 hpl hkd
          refine wpIn_wide.2 ?_
          refine Code.wp_mono (Q := fun e a' w' => match e with
            | .normal => ∃ (gg cg : Nat) (wg : World), wg.ownsRow w0.heap.size 170 2 (.slice (some ⟨gg, 0, none⟩) (m + 1) cg) (m + 1) (xs ++ [.int .i64 kd, .slice none 0 0]) ∧ w1.drew.grownBy wg (Value.slice na m nc).ownBlock ∧ Below w0.heap.size w1.drew wg ∧ ((Value.slice na m nc).ownBlock = some gg ∨ gg = w1.drew.heap.size + 1) ∧ a' = { tmps := #[.pointer (some ⟨b, 0, none⟩), .pointer (some ⟨W.heap.size, 0, none⟩), u2, .int .i64 m, undef, .int .i64 kd, undef, .pointer (some ⟨b, 0, none⟩), .pointer (some ⟨b, 0, none⟩), .pointer (some ⟨b, 3, none⟩), .slice na m nc, .int .i64 m, .slice (some ⟨W.heap.size + 1, 0, none⟩) 2 2, .int .i64 2, .int .i64 k, .bool true, .pointer (some ⟨W.heap.size + 1, k, none⟩), .int .i64 kd, .pointer (some ⟨b, 0, none⟩), .int .i64 kd, .bool true, .pointer (some ⟨b, 0, none⟩), .pointer (some ⟨b, 0, none⟩), .pointer (some ⟨b, 0, none⟩), .pointer (some ⟨b, 3, none⟩), .slice na m nc, .int .i64 kd, .agg #[.int .i64 kd, .slice none 0 0], .slice (some ⟨w1.heap.size, 0, none⟩) 1 1, .slice (some ⟨gg, 0, none⟩) (m + 1) cg, .pointer (some ⟨b, 0, none⟩), .pointer (some ⟨b, 3, none⟩), u32, u33, undef, undef, undef, undef, undef, undef, undef, undef, undef, undef, undef, undef, undef, undef, undef, undef, undef, undef, undef, undef, undef, undef, undef, undef, undef, undef, undef], defers := [] } ∧ w' = wg.setCell ⟨b, 3, none⟩ (.slice (some ⟨gg, 0, none⟩) (m + 1) cg)
            | _ => False) ?cont ?reg
          case reg =>
            go_region_law (first
              | (refine step_appN w1.drew kd (by rfl) _ _ (by rfl) w0.heap.size _ m xs (by rfl) HT2.out.nod (by rfl) hml (by have := HT2.out.low.size; exact this) ?_; intro gg cg wg hOg hgg hBg hat; have Bg := BoxAt.grown (w := w1.drew) HT2.out.box hgg (fun e => box_ne_own HT2.out.nod HT2.out.box (by decide) e.symm); have g4 : wg.cell? ⟨b, 3, none⟩ = some (.slice na m nc) := Bg.cell 3; have z4 : wg.frozen? ⟨b, 3, none⟩ = false := Bg.free 3; have lg := Bg.lt; have Pg := BoxAt.grown (w := w1.drew) HP2.out hgg (fun e => box_ne_own HT2.out.nod HP2.out (by decide) e.symm); have q0 : wg.cell? ⟨W.heap.size, 0, none⟩ = some (.pointer (some ⟨b, 0, none⟩)) := Pg.cell 0; have lq := Pg.lt))
            all_goals exact ⟨gg, cg, wg, hOg, hgg, hBg, hat, rfl, rfl⟩
          case cont =>
            rintro e a' w' hq
            cases e <;> try exact hq.elim
            obtain ⟨gg, cg, wg, hOg, hgg, hBg, hat, rfl, rfl⟩ := hq
            have hA := HT2.out.addN hOg hgg hBg hat
            have HA := Lib.hid hA
            obtain ⟨W3, hW3⟩ : ∃ W3, W3 = wg.setCell ⟨b, 3, none⟩ (.slice (some ⟨gg, 0, none⟩) (m + 1) cg) := ⟨_, rfl⟩
            rw [← hW3] at HA ⊢
            clear hA hW3 hOg hgg hBg hat p2 p3 b3 b5 f3
            gi_wp2
            have hBW : Below W.heap.size W w1 := HVB.out.trans ((HB.out.trans (HB1.out.mono HB.out.size)).mono HVB.out.size)
            have hcp := (cnt_le (leftK O x.m.length).length (by omega)).1
            obtain ⟨t1, t2, t3, t4, t5⟩ := HA.out
            have hnx1 : NX w1 w0.heap.size ov T0 := HNX0.out.keep (fun y hy q e => hBW.block q ((HNX0.out.row y hy).lt q e).2) (fun q e => Or.inl e)
            have hnx3 := (hnx1.frame HT2.out (fun q h1 h2 _ h4 => t2 q h1 h2 h4) (fun q e => Or.inl e)).leaf kd
            have hln : (T0 ++ [(⟨kd, none, [], 0⟩ : Nd)]).length = m + 1 := by rw [List.length_append, HTM.out]; rfl
            have hfl : (T0 ++ [(⟨kd, none, [], 0⟩ : Nd)]).flatMap ndV = xs ++ [.int .i64 kd, .slice none 0 0] := by rw [List.flatMap_append, ← HXS.out]; rfl
            refine ⟨.int .i64 m, by simp [results, Try.results115, go_sem], by rw [HTM.out], .slice (some ⟨gg, 0, none⟩) (m + 1) cg, ov, [⟨kd, none, [], 0⟩], by rw [hln, hfl]; exact t1, hnx3, fun y hy => by (rw [List.mem_singleton.1 hy]; exact ⟨fun q e => (by cases e), Nat.zero_le _⟩), Nat.one_pos, hcp, leaf_good (mid_get T0 [] _) (by have := HKD.out; omega) HHB.out.symm, ?_, ?_, fun q e => Or.inl e, fun q e => ?_⟩
            · exact ⟨Nat.le_trans hBW.size t3, fun q o _ h hc => t5.same q o (Nat.zero_le _) ((hBW.block q (heap_lt h)).trans h) hc⟩
            · exact fun q hq h1 _ h3 => (t2 q (Nat.lt_of_lt_of_le hq hBW.size) h1 h3).trans (hBW.block q hq)
            · rcases t4 q e with h | h
              · exact Or.inl h
              · exact Or.inr (Nat.le_trans hBW.size h)
      · obtain rfl : k = 2 := by omega
        have HPOS : Hid (0 < (leftK O x.m.length).length) := Lib.hid (by
          rcases Nat.eq_zero_or_pos (leftK O x.m.length).length with h0 | h0
          · have h1 := end_holds HBO.out HND.out HIN.out (List.length_eq_zero_iff.1 h0) (HN1.out (by omega))
            rw [HN2.out (Nat.le_refl _)] at h1; cases h1
          · exact h0)
        have HP2 := Lib.hid hP
        have b3 : wr.cell? ⟨b, 3, none⟩ = some (.slice na m nc) := HTW.out.box.cell 3
        have f3 : wr.frozen? ⟨b, 3, none⟩ = false := HTW.out.box.free 3
        have hbl2 := HTW.out.box.lt
        have p3 : (wr.alloc (.cells #[.int .i64 0, .slice none 0 0] 170)).cell? ⟨W.heap.size, 0, none⟩ = some (.pointer (some ⟨b, 0, none⟩)) := by rw [World.cell?_alloc_past _ _ _ hpl]; exact p0
        have b5 : (wr.alloc (.cells #[.int .i64 0, .slice none 0 0] 170)).cell? ⟨b, 3, none⟩ = some (.slice na m nc) := by rw [World.cell?_alloc_past _ _ _ hbl2]; exact b3
        clear hP hK hB
        gi_wp2
        refine wpIn_wide.2 ?_
        refine Code.wp_mono (Q := fun e a' w' => match e with
          | .normal => ∃ (gg cg : Nat) (wg : World), wg.ownsRow w0.heap.size 170 2 (.slice (some ⟨gg, 0, none⟩) (m + 1) cg) (m + 1) (xs ++ [.int .i64 0, .slice none 0 0]) ∧ wr.drew.grownBy wg (Value.slice na m nc).ownBlock ∧ Below w0.heap.size wr.drew wg ∧ ((Value.slice na m nc).ownBlock = some gg ∨ gg = wr.drew.heap.size + 1) ∧ a' = { tmps := #[.pointer (some ⟨b, 0, none⟩), .pointer (some ⟨W.heap.size, 0, none⟩), u2, .int .i64 m, undef, u5, undef, .pointer (some ⟨b, 0, none⟩), .pointer (some ⟨b, 0, none⟩), .pointer (some ⟨b, 3, none⟩), .slice na m nc, .int .i64 m, .slice (some ⟨W.heap.size + 1, 0, none⟩) 2 2, .int .i64 2, .int .i64 ((2 : Nat) : Int), .bool false, u16, u17, u18, u19, u20, u21, u22, u23, u24, u25, u26, u27, u28, u29, u30, u31, u32, u33, .pointer (some ⟨b, 0, none⟩), .pointer (some ⟨b, 0, none⟩), .pointer (some ⟨b, 0, none⟩), .pointer (some ⟨b, 3, none⟩), .slice na m nc, .agg #[.int .i64 0, .slice none 0 0], .slice (some ⟨wr.heap.size, 0, none⟩) 1 1, .slice (some ⟨gg, 0, none⟩) (m + 1) cg, .pointer (some ⟨b, 0, none⟩), .pointer (some ⟨b, 3, none⟩), undef, undef, undef, undef, undef, undef, undef, undef, undef, undef, undef, undef, undef, undef, undef, undef, undef], defers := [] } ∧ w' = wg.setCell ⟨b, 3, none⟩ (.slice (some ⟨gg, 0, none⟩) (m + 1) cg)
          | _ => False) ?cont ?reg
        case reg =>
          go_region_law (first
            | (refine step_appN wr.drew 0 (by rfl) _ _ (by rfl) w0.heap.size _ m xs (by rfl) HTW.out.nod (by rfl) hml (by have := HTW.out.low.size; exact this) ?_; intro gg cg wg hOg hgg hBg hat; have Bg := BoxAt.grown (w := wr.drew) HTW.out.box hgg (fun e => box_ne_own HTW.out.nod HTW.out.box (by decide) e.symm); have g4 : wg.cell? ⟨b, 3, none⟩ = some (.slice na m nc) := Bg.cell 3; have z4 : wg.frozen? ⟨b, 3, none⟩ = false := Bg.free 3; have lg := Bg.lt; have Pg := BoxAt.grown (w := wr.drew) HP2.out hgg (fun e => box_ne_own HTW.out.nod HP2.out (by decide) e.symm); have q0 : wg.cell? ⟨W.heap.size, 0, none⟩ = some (.pointer (some ⟨b, 0, none⟩)) := Pg.cell 0; have lq := Pg.lt))
          all_goals exact ⟨gg, cg, wg, hOg, hgg, hBg, hat, rfl, rfl⟩
        case cont =>
          rintro e a' w' hq
          cases e <;> try exact hq.elim
          obtain ⟨gg, cg, wg, hOg, hgg, hBg, hat, rfl, rfl⟩ := hq
          have hA := HTW.out.addN hOg hgg hBg hat
          have hP3 : BoxAt (wg.setCell ⟨b, 3, none⟩ (.slice (some ⟨gg, 0, none⟩) (m + 1) cg)) W.heap.size #[.pointer (some ⟨b, 0, none⟩)] 188 := (hA.2.1 W.heap.size HP2.out.lt (by have := HT0.out.box.lt; omega) (box_ne_own HTW.out.nod HP2.out (by decide))).trans HP2.out
          have HA := Lib.hid hA
          have HP3 := Lib.hid hP3
          obtain ⟨W3, hW3⟩ : ∃ W3, W3 = wg.setCell ⟨b, 3, none⟩ (.slice (some ⟨gg, 0, none⟩) (m + 1) cg) := ⟨_, rfl⟩
          rw [← hW3] at HA HP3 ⊢
          have p4 : (W3.alloc (.cells #[.slice none 0 0] 75)).cell? ⟨W.heap.size, 0, none⟩ = some (.pointer (some ⟨b, 0, none⟩)) := (HP3.out.alloc _).cell 0
          clear hA hP3 hW3 hOg hgg hBg hat p0 p3 b3 b5 f3
          gi_wp2_with (refine ⟨trivial, ?_⟩; refine (callsIn_wide.2 (branches_any b _)).mono ?_; rintro e W5 ⟨rfl, rfl⟩)
          clear p4
          obtain ⟨V6, hV6⟩ : ∃ V6, V6 = (W3.alloc (.cells #[.slice none 0 0] 75)).alloc (.cells #[.pointer (some ⟨b, 0, none⟩)] 188) := ⟨_, rfl⟩
          have hz6 : V6.heap.size = W3.heap.size + 2 := by rw [hV6]; simp
          have hB6 : Below W3.heap.size W3 V6 := by rw [hV6]; exact ((Below.refl _ _).alloc (Nat.le_refl _) _).alloc (by simp) _
          have hx6 : BoxAt V6 W3.heap.size #[.slice none 0 0] 75 := by rw [hV6]; exact (BoxAt.new W3 _ _).alloc _
          have hp6 : BoxAt V6 (W3.heap.size + 1) #[.pointer (some ⟨b, 0, none⟩)] 188 := by
            rw [hV6]; have h := BoxAt.new (W3.alloc (.cells #[.slice none 0 0] 75)) #[.pointer (some ⟨b, 0, none⟩)] 188; rw [World.size_alloc] at h; exact h
          change Code.wpIn _ _ _ _ _ _ ((W3.alloc (.cells #[.slice none 0 0] 75)).alloc (.cells #[.pointer (some ⟨b, 0, none⟩)] 188))
          rw [← hV6]
          clear hV6
          obtain ⟨t1, t2, t3, t4, t5⟩ := HA.out
          have hBW : Below W.heap.size W wr := HVB.out.trans (HB.out.mono HVB.out.size)
          have hts6 := t1.below hB6
          have hne6 : W3.heap.size + 1 ≠ b := by have := t1.box.lt; omega
          have hml6 : x.m.length ≤ 6 := HOK.out.le
          have hkeep6 : ∀ q, q < W.heap.size → q ≠ b → ov.ownBlock ≠ some q → (Value.slice na m nc).ownBlock ≠ some q → V6.heap[q]? = W.heap[q]? := fun q hq h1 _ h3 => (hB6.block q (by have := hBW.size; omega)).trans ((t2 q (Nat.lt_of_lt_of_le hq hBW.size) h1 h3).trans (hBW.block q hq))
          have hfrom6 : KeepsFrom 0 W V6 := ⟨by have := hBW.size; have := hB6.size; omega, fun q o _ h hc => by
            have h1 := t5.same q o (Nat.zero_le _) ((hBW.block q (heap_lt h)).trans h) hc
            exact (hB6.block q (heap_lt h1)).trans h1⟩
          have hnv6 : ∀ q, (Value.slice (some ⟨gg, 0, none⟩) (m + 1) cg).ownBlock = some q → (Value.slice na m nc).ownBlock = some q ∨ W.heap.size ≤ q := fun q e => by
            rcases t4 q e with h | h
            · exact Or.inl h
            · exact Or.inr (Nat.le_trans hBW.size h)
          have hW3 : W.heap.size < W3.heap.size := HP3.out.lt
          have hbW3 : b < W3.heap.size := t1.box.lt
          have hw03 : w0.heap.size ≤ W3.heap.size := t1.low.size
          have hGI : ∀ X, Below V6.heap.size V6 X → GrI w0 W b W3.heap.size (.slice na m nc) ov X.heap.size ov (.slice none 0 0) (.slice (some ⟨gg, 0, none⟩) (m + 1) cg) [] X := fun X hX =>
            ⟨hx6.below hX, OwnR.nil _ _, (fun q e => by cases e), (HP3.out.below hB6).below hX, hp6.below hX, ⟨_, (hts6.below hX).box, rfl⟩, hnv6, fun q e => Or.inl e, fun q hq h1 h2 h3 => (hX.block q (by have := hfrom6.size; omega)).trans (hkeep6 q hq h1 h2 h3),
              hfrom6.trans (keeps_below hX), by have := hX.size; omega⟩
          have hnx6 : NX V6 w0.heap.size ov T0 := by
            have h1 : NX wr w0.heap.size ov T0 := HNX0.out.keep (fun y hy q e => hBW.block q ((HNX0.out.row y hy).lt q e).2) (fun q e => Or.inl e)
            have h2 := h1.frame (W' := W3) (ov' := ov) HTW.out (fun q h1 h2 _ h4 => t2 q h1 h2 h4) (fun q e => Or.inl e)
            exact h2.keep (fun y hy q e => hB6.block q ((h2.row y hy).lt q e).2) (fun q e => Or.inl e)
          have hln : (T0 ++ [noNd]).length = m + 1 := by rw [List.length_append, HTM.out]; rfl
          have hfl : (T0 ++ [noNd]).flatMap ndV = xs ++ [.int .i64 0, .slice none 0 0] := by rw [List.flatMap_append, ← HXS.out]; rfl
          have hGN : ∀ X, Below V6.heap.size V6 X → GrN w0 W x bnd O (leftK O x.m.length) T0 [] [] ov (.slice none 0 0) (.slice (some ⟨gg, 0, none⟩) (m + 1) cg) X := fun X hX =>
            ⟨by rw [hln, hfl]; exact (hts6.below hX).nod, (hnx6.keep (fun y hy q e => hX.block q ((hnx6.row y hy).lt q e).2) (fun q e => Or.inl e)).leaf 0, fun y hy q e e2 => (by cases e2), fun y hy => (by cases hy), fun y hy => (by cases hy), fun i hi => absurd hi (Nat.not_lt_zero _)⟩
          have HGN := Lib.hid hGN
          have HLN := Lib.hid hln
          have HLM := Lib.hid (fun (cn : Nat) (hc : (cn : Int) ∉ O) (hlt : cn < x.m.length) => (show (leftK (O ++ [(cn : Int)]) x.m.length).length + 1 = (leftK O x.m.length).length by have h := leftK_more O cn hc x.m.length; rw [if_pos hlt] at h; exact h))
          have HLI := Lib.hid (leftK_in O x.m.length)
          obtain ⟨L, hL⟩ : ∃ L, L = leftK O x.m.length := ⟨_, rfl⟩
          have HLE := Lib.hid hL
          rw [← hL] at HLM HLI HGN HPOS hf hol hcnt ⊢
          have hbr := branches1_any w0 V6 b (W3.heap.size + 1) 8 x bnd O HX.out hml6 (by omega) hp6 hne6
          rw [← hL] at hbr
          have HGI := Lib.hid hGI; have HTS6 := Lib.hid hts6; have HFR6 := Lib.hid hfrom6
          clear hL hGI hGN hnx6 hln hfl hkeep6 hfrom6 hnv6 hx6 hp6 t1 t2 t3 t4 t5 hB6 hBW
          refine wpIn_rangeFunc_tr rfl (by omega) (gf := 157) (lb := #[.pointer (some ⟨W3.heap.size + 1, 0, none⟩)]) rfl trivial (enters_of Try.func157 (by kernel_rfl) rfl) (w0 := w0) (b := b) (pb := W3.heap.size + 1) (x := x) (bnd := bnd) (O := O) (L := L) hbr (by omega) rfl
            (fun K s X => (m + 1 ≤ s.2.2 ∧ s.2.2 ≤ m + 1 + s.1 * cntN (L.length - 1)) ∧ ∃ nx nvx S, S.length = s.1 ∧ GrI w0 W b W3.heap.size (.slice na m nc) ov K s.2.1 nx nvx S X ∧ ∃ T2, V6.heap.size ≤ K ∧ (T0 ++ noNd :: T2).length = s.2.2 ∧ GrN w0 W x bnd O L T0 T2 S s.2.1 nx nvx X)
            (fun K s X Y row hs hg hr => by obtain ⟨hm, nx, nvx, S, hS, h, T2, hKV, hT2, hN⟩ := hs; exact ⟨hm, nx, nvx, S, hS, h.kept hg hr (by omega), T2, hKV, hT2, hN.kept hg hr⟩)
            (fun K k ov1 ov2 m1 X Y hs ht hy => by obtain ⟨hm, nx, nvx, S, hS, h, T2, hKV, hT2, hN⟩ := hs; obtain ⟨nv2, xs2, xs3, O2, O3, hta, htb⟩ := ht; obtain rfl := h.nv_eq hta; exact ⟨hm, nx, nv2, S, hS, h.turn hta htb hy, T2, hKV, hT2, hN.turn hta hy⟩)
            HTS6.out (fun X hX => ⟨⟨Nat.le_refl _, Nat.le_add_right _ _⟩, _, _, [], rfl, HGI.out X hX, [], hX.size, HLN.out, HGN.out X hX⟩)
            (fun k => { tmps := #[.pointer (some ⟨b, 0, none⟩), .pointer (some ⟨W.heap.size, 0, none⟩), u2, .int .i64 m, undef, u5, .pointer (some ⟨W3.heap.size, 0, none⟩), .pointer (some ⟨b, 0, none⟩), .pointer (some ⟨b, 0, none⟩), .pointer (some ⟨b, 3, none⟩), .slice na m nc, .int .i64 m, .slice (some ⟨W.heap.size + 1, 0, none⟩) 2 2, .int .i64 2, .int .i64 2, .bool false, u16, u17, u18, u19, u20, u21, u22, u23, u24, u25, u26, u27, u28, u29, u30, u31, u32, u33, .pointer (some ⟨b, 0, none⟩), .pointer (some ⟨b, 0, none⟩), .pointer (some ⟨b, 0, none⟩), .pointer (some ⟨b, 3, none⟩), .slice na m nc, .agg #[.int .i64 0, .slice none 0 0], .slice (some ⟨wr.heap.size, 0, none⟩) 1 1, .slice (some ⟨gg, 0, none⟩) (m + 1) cg, .pointer (some ⟨b, 0, none⟩), .pointer (some ⟨b, 3, none⟩), .pointer (some ⟨b, 0, none⟩), .func (.func 157) #[] #[.pointer (some ⟨W3.heap.size + 1, 0, none⟩)], .int .i64 k, undef, undef, undef, undef, undef, undef, undef, undef, undef, undef, undef, undef, undef, undef], defers := [] }) ?assign ?body ?done
          case assign =>
            intro l k W K hK
            gi_wp2
            exact hK
          case body =>
            rintro l K k X nvk ovk xsk mk hK hKX ⟨⟨hm1, hm2⟩, nx, nvx, S, hS, hI, T2, hKV, hT2, hN⟩ hlen htk hovk hnvk
            dsimp only at hm1 hm2 hS hI hT2 hN
            obtain rfl := hI.nv_eq htk
            have hxsk : xsk = (T0 ++ noNd :: T2).flatMap ndV := own_uni htk.nod (by have h9 := hN.nod; rw [hT2] at h9; exact h9)
            obtain ⟨r, hr⟩ : ∃ r : Int, r = ((T0 ++ noNd :: T2).length : Int) := ⟨_, rfl⟩
            have HRR := Lib.hid hr
            obtain ⟨⟨hc0, hc1⟩, hc2⟩ := HLI.out (L.getD k 0) (by rw [getD_eqI hlen]; exact List.getElem_mem _)
            obtain ⟨cn, hcn⟩ : ∃ cn : Nat, L.getD k 0 = cn := ⟨(L.getD k 0).toNat, by omega⟩
            rw [hcn] at hc0 hc1 hc2 htk
            have hlm := HLM.out cn hc2 (by omega)
            have hml2 : mk + cntN (L.length - 1) ≤ m + 1 + (k + 1) * cntN (L.length - 1) := by rw [Nat.add_mul]; omega
            have hml3 : (k + 1) * cntN (L.length - 1) ≤ L.length * cntN (L.length - 1) := Nat.mul_le_mul_right _ (by omega)
            have hml4 : cntN L.length = 1 + L.length * cntN (L.length - 1) := by
              obtain ⟨j, hj⟩ : ∃ j, L.length = j + 1 := ⟨L.length - 1, by omega⟩
              rw [hj]; rfl
            have hll : (leftK (O ++ [(cn : Int)]) x.m.length).length = L.length - 1 := by omega
            have hcall := HIH.out w0 X.drew b x bnd (O ++ [(cn : Int)]) mk nvk ovk xsk (T0 ++ noNd :: T2) hT2 hxsk (by omega) htk.drew hN.drew.nxs HX.out HOK.out (by rw [hll]; simp; omega) (nodup_snoc HND.out hc2) (fun y hy => by
              rcases List.mem_append.1 hy with h | h
              · exact HIN.out y h
              · rw [List.mem_singleton.1 h]; omega) HBO.out (by rw [hll]; omega)
            rw [hll] at hcall
            have HCALL := Lib.hid hcall
            have HFIN : Hid (∀ (V : World) (nv' ov' : Value) (T' : List Nd) (gg cg : Nat) (wg : World) (a' : Act), TS w0 V b x bnd (O ++ [(cn : Int)]) ((T0 ++ noNd :: T2) ++ T').length nv' ov' (((T0 ++ noNd :: T2) ++ T').flatMap ndV) → NX V w0.heap.size ov' ((T0 ++ noNd :: T2) ++ T') → (∀ y ∈ T', (∀ q, ndB y = some q → X.heap.size ≤ q) ∧ y.nx.length ≤ 6) → 0 < T'.length → T'.length ≤ cntN (L.length - 1) → (chk x bnd ((T0 ++ noNd :: T2) ++ T') (L.length - 1) (T0 ++ noNd :: T2).length (O ++ [(cn : Int)])).2 = 0 → KeepsFrom 0 X V →
                (∀ q, q < X.heap.size → q ≠ b → ovk.ownBlock ≠ some q → nvk.ownBlock ≠ some q → V.heap[q]? = X.heap[q]?) → (∀ q, ov'.ownBlock = some q → ovk.ownBlock = some q ∨ X.heap.size ≤ q) → (∀ q, nv'.ownBlock = some q → nvk.ownBlock = some q ∨ X.heap.size ≤ q) →
                OwnR 1 3 intL wg K (.slice (some ⟨gg, 0, none⟩) (S.length + 1) cg) (S ++ [r]) → V.grownBy wg nx.ownBlock → Below K V wg → (nx.ownBlock = some gg ∨ gg = V.heap.size + 1) →
                treePost V6.heap.size (fun W' => (∃ nv' ov' xs' m', ((m + 1 ≤ m' ∧ m' ≤ m + 1 + (k + 1) * cntN (L.length - 1)) ∧ ∃ nx nvx S, S.length = k + 1 ∧ GrI w0 W b W3.heap.size (.slice na m nc) ov K ov' nx nvx S W' ∧ ∃ T2, V6.heap.size ≤ K ∧ (T0 ++ noNd :: T2).length = m' ∧ GrN w0 W x bnd O L T0 T2 S ov' nx nvx W') ∧ TS w0 W' b x bnd (O ++ [L.getD k 0]) m' nv' ov' xs' ∧ OutOf (V6.heap.size + 2) K ov' ∧ OutOf (V6.heap.size + 2) K nv') ∧ ∀ q, (q = W3.heap.size + 1 ∨ (V6.heap.size + 2 ≤ q ∧ q < K)) → W'.heap[q]? = X.heap[q]?) X .normal a' (wg.setCell ⟨W3.heap.size, 0, none⟩ (.slice (some ⟨gg, 0, none⟩) (S.length + 1) cg))) := Lib.hid (by
              intro V nv' ov' T' gg cg wg a' htV hnxV hnewV hpV hcV hchV hfV hkV hoV hnV hO hg hb hat
              have hlU : ((T0 ++ noNd :: T2) ++ T').length = mk + T'.length := by rw [List.length_append, hT2]
              have hIV := hI.move htk htV hkV hfV hoV hnV
              have hNV := hN.call hI.row hI.from_.size htV hnxV hnewV
              have hrV : (T0.length : Int) < r ∧ r < (T0 ++ noNd :: (T2 ++ T')).length := by rw [hr, ← app_mid, hlU, hT2, HTM.out]; omega
              have hNA := hNV.app (r := r) (cg := cg) hIV.box hIV.row hg hat hrV (by rw [show r.toNat = (T0 ++ noNd :: T2).length by rw [hr]; omega, hS, hcn, ← app_mid]; exact hchV)
              obtain ⟨j1, j2, j3, j4⟩ := hIV.app htV (by omega) (by have := hfV.size; omega) (by omega) hw03 hO hg hb hat
              have hzz := hfV.size
              refine ⟨⟨by have := j4.size; omega, fun q o _ h hc => (hfV.trans j4).same q o (Nat.zero_le _) h hc⟩, ⟨nv', ov', _, ((T0 ++ noNd :: T2) ++ T').length, ⟨⟨by rw [hlU]; omega, by rw [hlU]; omega⟩, _, _, _, by simp [hS], j1, T2 ++ T', hKV, by rw [← app_mid], hNA⟩, by rw [hcn]; exact j2, fun q e => ?_, fun q e => ?_⟩, fun q hq => ?_⟩
              · rcases hoV q e with h | h
                · exact hovk q h
                · right; omega
              · rcases hnV q e with h | h
                · exact hnvk q h
                · right; omega
              · have hqK : q < K := by omega
                refine (j3 q hqK (by omega)).trans (hkV q (by omega) ?_ ?_ ?_)
                · rcases hq with h | h
                  · rw [h]; exact box_ne hI.pbx htk.box (by decide)
                  · omega
                · intro e
                  rcases hq with h | h
                  · exact own_ne htk.own hI.pbx (by decide) (by rw [e, h])
                  · have := hovk q e; omega
                · intro e
                  rcases hq with h | h
                  · exact box_ne_own htk.nod hI.pbx (by decide) (by rw [e, h])
                  · have := hnvk q e; omega)
            have hMV : Hid (∀ (V : World) (nv' ov' : Value) (xs' : List Value) (m' : Nat), TS w0 V b x bnd (O ++ [(cn : Int)]) m' nv' ov' xs' → KeepsFrom 0 X V →
                (∀ q, q < X.heap.size → q ≠ b → ovk.ownBlock ≠ some q → nvk.ownBlock ≠ some q → V.heap[q]? = X.heap[q]?) → (∀ q, ov'.ownBlock = some q → ovk.ownBlock = some q ∨ X.heap.size ≤ q) → (∀ q, nv'.ownBlock = some q → nvk.ownBlock = some q ∨ X.heap.size ≤ q) → GrI w0 W b W3.heap.size (.slice na m nc) ov K ov' nx nv' S V) := Lib.hid (fun V nv' ov' xs' m' h1 h2 h3 h4 h5 => hI.move htk h1 h3 h2 h4 h5)
            obtain ⟨sa, sc, ev, -⟩ := hI.row.rows int_l
            subst ev
            have hSl : S.length ≤ 1000000 := by omega
            have c0 : X.drew.cell? ⟨W3.heap.size, 0, none⟩ = some (.slice sa S.length sc) := hI.box.cell 0
            have c1 : X.drew.cell? ⟨W.heap.size, 0, none⟩ = some (.pointer (some ⟨b, 0, none⟩)) := hI.ptr.cell 0
            clear hI htk hcall hll hlm hml2 hml3 hml4 hovk hnvk hc0 hc1 hc2 hm1 hm2 hcn hS hN hT2 hxsk hr
            refine wpIn_block ?_
            refine wpIn_round_held (S := fun Z : World => Z.cell? ⟨W.heap.size, 0, none⟩ = some (.pointer (some ⟨b, 0, none⟩))) (by kernel_rfl) (by rfl) (fun ⟨_, _, h⟩ => h) c1 (fun hSS => ?_)
            refine takeL (i := 1) (v := .pointer (some ⟨b, 0, none⟩)) rfl (by kernel_rfl) (by kernel_rfl) (by kernel_rfl) (fun _ _ _ h => h) (Or.inl ⟨by rfl, fun V9 h9 => by dsimp only at h9; go_simp⟩) (by assumption) ?_
            try simp only [Act.put, List.setIfInBounds_toArray, List.set_cons_zero, List.set_cons_succ]
            refine wpAnyH_ready (rs := [0, 2]) (by kernel_rfl) (by simp) (consL rfl (fun K9 hK9 => ?_) (consL rfl (fun K9 hK9 => ?_) (AllReadyH.nil)))
            · go_simp
              refine hK9.out _ _ (by assumption) (fun _ => ?_)
              clear hK9 K9
              try simp only [Act.put, List.setIfInBounds_toArray, List.set_cons_zero, List.set_cons_succ]
              refine wpAnyH_ready (rs := [2]) (by kernel_rfl) (by simp) (consL rfl (fun K9 hK9 => ?_) (AllReadyH.nil))
              go_simp
              refine HCALL.out.mono ?_
              rintro e V ⟨he, nv', ov', T', htV, hnxV, hnewV, hpV, hcV, hchV, hfV, hkV, hoV, hnV⟩
              rw [← HRR.out] at he
              subst he
              have hIV := hMV.out V nv' ov' _ _ htV ⟨hfV.size, hfV.same⟩ hkV hoV hnV
              have s2 : V.cell? ⟨W.heap.size, 0, none⟩ = some (.pointer (some ⟨b, 0, none⟩)) := hIV.ptr.cell 0
              have d2 : V.cell? ⟨W3.heap.size, 0, none⟩ = some (.slice sa S.length sc) := hIV.box.cell 0
              have HNXV := Lib.hid hnxV; have HNEWV := Lib.hid hnewV; have HPV := Lib.hid hpV; have HCV := Lib.hid hcV; have HCHV := Lib.hid hchV; have HTV := Lib.hid htV; have HKV := Lib.hid hkV; have HOV := Lib.hid hoV; have HNV := Lib.hid hnV; have HFV := Lib.hid hfV; have HIV := Lib.hid hIV
              clear htV hnxV hnewV hpV hcV hchV hkV hoV hnV hfV hIV
              refine hK9.out _ _ s2 (fun _ => ?_)
              clear hK9 K9
              try simp only [Act.put, List.setIfInBounds_toArray, List.set_cons_zero, List.set_cons_succ]
              refine wpAnyH_ready (rs := [3]) (by kernel_rfl) (by simp) (consL rfl (fun K9 hK9 => ?_) (AllReadyH.nil))
              go_simp
              refine hK9.out _ _ (cell_alloc_keep s2) (fun _ => ?_)
              clear hK9 K9
              try simp only [Act.put, List.setIfInBounds_toArray, List.set_cons_zero, List.set_cons_succ]
              refine wpAnyH_ready (rs := [4]) (by kernel_rfl) (by simp) (consL rfl (fun K9 hK9 => ?_) AllReadyH.nil)
              refine step_appI V r (by rfl) _ _ (by rfl) K _ S (by rfl) HIV.out.row (by rfl) hSl (by have := HFV.out.size; have : X.drew.heap.size = X.heap.size := rfl; omega) ?_
              intro g4 c4 w4 hO4 hg4 hb4 hat4
              have B4 := BoxAt.grown (w := V) HIV.out.box hg4 (fun e => own_ne HIV.out.row HIV.out.box (by decide) e.symm)
              have P4 := BoxAt.grown (w := V) HIV.out.ptr hg4 (fun e => own_ne HIV.out.row HIV.out.ptr (by decide) e.symm)
              have s4 : w4.cell? ⟨W.heap.size, 0, none⟩ = some (.pointer (some ⟨b, 0, none⟩)) := P4.cell 0
              have z4 : w4.frozen? ⟨W3.heap.size, 0, none⟩ = false := B4.free 0
              have d4 : w4.cell? ⟨W3.heap.size, 0, none⟩ = some (.slice sa S.length sc) := B4.cell 0
              refine hK9.out _ _ s4 (fun _ => ?_)
              clear hK9 K9
              try simp only [Act.put, List.setIfInBounds_toArray, List.set_cons_zero, List.set_cons_succ]
              refine wpAnyH_ready (rs := [5]) (by kernel_rfl) (by simp) (consL rfl (fun K9 hK9 => ?_) AllReadyH.nil)
              go_simp
              refine hK9.out _ _ ((((P4.set_other (by show W.heap.size ≠ W3.heap.size; omega) _).cell 0))) (fun _ => ?_)
              clear hK9 K9
              try simp only [Act.put, List.setIfInBounds_toArray, List.set_cons_zero, List.set_cons_succ]
              refine wpAnyH_done (by kernel_rfl) ?_ _
              exact HFIN.out V nv' ov' T' g4 c4 w4 { tmps := #[], defers := [] } HTV.out HNXV.out HNEWV.out HPV.out HCV.out HCHV.out ⟨HFV.out.size, HFV.out.same⟩ HKV.out HOV.out HNV.out hO4 hg4 hb4 hat4
            · go_simp
              refine HCALL.out.mono ?_
              rintro e V ⟨he, nv', ov', T', htV, hnxV, hnewV, hpV, hcV, hchV, hfV, hkV, hoV, hnV⟩
              rw [← HRR.out] at he
              subst he
              have hIV := hMV.out V nv' ov' _ _ htV ⟨hfV.size, hfV.same⟩ hkV hoV hnV
              have s2 : V.cell? ⟨W.heap.size, 0, none⟩ = some (.pointer (some ⟨b, 0, none⟩)) := hIV.ptr.cell 0
              have d2 : V.cell? ⟨W3.heap.size, 0, none⟩ = some (.slice sa S.length sc) := hIV.box.cell 0
              have HNXV := Lib.hid hnxV; have HNEWV := Lib.hid hnewV; have HPV := Lib.hid hpV; have HCV := Lib.hid hcV; have HCHV := Lib.hid hchV; have HTV := Lib.hid htV; have HKV := Lib.hid hkV; have HOV := Lib.hid hoV; have HNV := Lib.hid hnV; have HFV := Lib.hid hfV; have HIV := Lib.hid hIV
              clear htV hnxV hnewV hpV hcV hchV hkV hoV hnV hfV hIV
              refine hK9.out _ _ s2 (fun _ => ?_)
              clear hK9 K9
              try simp only [Act.put, List.setIfInBounds_toArray, List.set_cons_zero, List.set_cons_succ]
              refine wpAnyH_ready (rs := [0, 3]) (by kernel_rfl) (by simp) (consL rfl (fun K9 hK9 => ?_) (consL rfl (fun K9 hK9 => ?_) (AllReadyH.nil)))
              · go_simp
                refine hK9.out _ _ (by assumption) (fun _ => ?_)
                clear hK9 K9
                try simp only [Act.put, List.setIfInBounds_toArray, List.set_cons_zero, List.set_cons_succ]
                refine wpAnyH_ready (rs := [3]) (by kernel_rfl) (by simp) (consL rfl (fun K9 hK9 => ?_) (AllReadyH.nil))
                go_simp
                refine hK9.out _ _ (cell_alloc_keep s2) (fun _ => ?_)
                clear hK9 K9
                try simp only [Act.put, List.setIfInBounds_toArray, List.set_cons_zero, List.set_cons_succ]
                refine wpAnyH_ready (rs := [4]) (by kernel_rfl) (by simp) (consL rfl (fun K9 hK9 => ?_) AllReadyH.nil)
                refine step_appI V r (by rfl) _ _ (by rfl) K _ S (by rfl) HIV.out.row (by rfl) hSl (by have := HFV.out.size; have : X.drew.heap.size = X.heap.size := rfl; omega) ?_
                intro g4 c4 w4 hO4 hg4 hb4 hat4
                have B4 := BoxAt.grown (w := V) HIV.out.box hg4 (fun e => own_ne HIV.out.row HIV.out.box (by decide) e.symm)
                have P4 := BoxAt.grown (w := V) HIV.out.ptr hg4 (fun e => own_ne HIV.out.row HIV.out.ptr (by decide) e.symm)
                have s4 : w4.cell? ⟨W.heap.size, 0, none⟩ = some (.pointer (some ⟨b, 0, none⟩)) := P4.cell 0
                have z4 : w4.frozen? ⟨W3.heap.size, 0, none⟩ = false := B4.free 0
                have d4 : w4.cell? ⟨W3.heap.size, 0, none⟩ = some (.slice sa S.length sc) := B4.cell 0
                refine hK9.out _ _ s4 (fun _ => ?_)
                clear hK9 K9
                try simp only [Act.put, List.setIfInBounds_toArray, List.set_cons_zero, List.set_cons_succ]
                refine wpAnyH_ready (rs := [5]) (by kernel_rfl) (by simp) (consL rfl (fun K9 hK9 => ?_) AllReadyH.nil)
                go_simp
                refine hK9.out _ _ ((((P4.set_other (by show W.heap.size ≠ W3.heap.size; omega) _).cell 0))) (fun _ => ?_)
                clear hK9 K9
                try simp only [Act.put, List.setIfInBounds_toArray, List.set_cons_zero, List.set_cons_succ]
                refine wpAnyH_done (by kernel_rfl) ?_ _
                exact HFIN.out V nv' ov' T' g4 c4 w4 { tmps := #[], defers := [] } HTV.out HNXV.out HNEWV.out HPV.out HCV.out HCHV.out ⟨HFV.out.size, HFV.out.same⟩ HKV.out HOV.out HNV.out hO4 hg4 hb4 hat4
              · go_simp
                refine hK9.out _ _ (cell_alloc_keep s2) (fun _ => ?_)
                clear hK9 K9
                try simp only [Act.put, List.setIfInBounds_toArray, List.set_cons_zero, List.set_cons_succ]
                have d3 : (V.alloc (.cells #[.int .i64 r] 3)).cell? ⟨W3.heap.size, 0, none⟩ = some (.slice sa S.length sc) := cell_alloc_keep d2
                have s3 : (V.alloc (.cells #[.int .i64 r] 3)).cell? ⟨W.heap.size, 0, none⟩ = some (.pointer (some ⟨b, 0, none⟩)) := cell_alloc_keep s2
                refine wpAnyH_ready (rs := [0]) (by kernel_rfl) (by simp) (consL rfl (fun K9 hK9 => ?_) (AllReadyH.nil))
                go_simp
                refine hK9.out _ _ (by assumption) (fun _ => ?_)
                clear hK9 K9
                try simp only [Act.put, List.setIfInBounds_toArray, List.set_cons_zero, List.set_cons_succ]
                refine wpAnyH_ready (rs := [4]) (by kernel_rfl) (by simp) (consL rfl (fun K9 hK9 => ?_) AllReadyH.nil)
                refine step_appI V r (by rfl) _ _ (by rfl) K _ S (by rfl) HIV.out.row (by rfl) hSl (by have := HFV.out.size; have : X.drew.heap.size = X.heap.size := rfl; omega) ?_
                intro g4 c4 w4 hO4 hg4 hb4 hat4
                have B4 := BoxAt.grown (w := V) HIV.out.box hg4 (fun e => own_ne HIV.out.row HIV.out.box (by decide) e.symm)
                have P4 := BoxAt.grown (w := V) HIV.out.ptr hg4 (fun e => own_ne HIV.out.row HIV.out.ptr (by decide) e.symm)
                have s4 : w4.cell? ⟨W.heap.size, 0, none⟩ = some (.pointer (some ⟨b, 0, none⟩)) := P4.cell 0
                have z4 : w4.frozen? ⟨W3.heap.size, 0, none⟩ = false := B4.free 0
                have d4 : w4.cell? ⟨W3.heap.size, 0, none⟩ = some (.slice sa S.length sc) := B4.cell 0
                refine hK9.out _ _ s4 (fun _ => ?_)
                clear hK9 K9
                try simp only [Act.put, List.setIfInBounds_toArray, List.set_cons_zero, List.set_cons_succ]
                refine wpAnyH_ready (rs := [5]) (by kernel_rfl) (by simp) (consL rfl (fun K9 hK9 => ?_) AllReadyH.nil)
                go_simp
                refine hK9.out _ _ ((((P4.set_other (by show W.heap.size ≠ W3.heap.size; omega) _).cell 0))) (fun _ => ?_)
                clear hK9 K9
                try simp only [Act.put, List.setIfInBounds_toArray, List.set_cons_zero, List.set_cons_succ]
                refine wpAnyH_done (by kernel_rfl) ?_ _
                exact HFIN.out V nv' ov' T' g4 c4 w4 { tmps := #[], defers := [] } HTV.out HNXV.out HNEWV.out HPV.out HCV.out HCHV.out ⟨HFV.out.size, HFV.out.same⟩ HKV.out HOV.out HNV.out hO4 hg4 hb4 hat4
          case done =>
            rintro D K X nvf ovf xsf mf hD htf ⟨⟨hm1, hm2⟩, nx, nvx, S, hS, hI, T2, hKV, hT2, hN⟩ hKD
            dsimp only at hm1 hm2 hS hI hT2 hN
            obtain rfl := hI.nv_eq htf
            have hxsf : xsf = (T0 ++ noNd :: T2).flatMap ndV := own_uni htf.nod (by have h9 := hN.nod; rw [hT2] at h9; exact h9)
            obtain ⟨gf, cf, ev, -, -⟩ := World.ownsRow.form htf.nod (by omega)
            subst ev
            obtain ⟨sa, sc, ev, -⟩ := hI.row.rows int_l
            subst ev
            have hxl := htf.nod.1
            have e0 : X.drew.cell? ⟨W.heap.size, 0, none⟩ = some (.pointer (some ⟨b, 0, none⟩)) := hI.ptr.cell 0
            have e1 : X.drew.cell? ⟨b, 3, none⟩ = some (.slice (some ⟨gf, 0, none⟩) mf cf) := htf.box.cell 3
            have e2 : X.drew.cell? ⟨W3.heap.size, 0, none⟩ = some (.slice sa S.length sc) := hI.box.cell 0
            have e3 : X.drew.frozen? ⟨gf, m * 2 + 1, none⟩ = false := htf.nod.frozenAt _
            obtain ⟨uu, hu⟩ : ∃ uu, X.drew.cell? ⟨gf, m * 2 + 1, none⟩ = some uu := ⟨_, (htf.nod.cellAt (m * 2 + 1) (by omega)).trans (List.getElem?_eq_getElem (by omega))⟩
            have hmf : (m : Int) < (mf : Int) := by omega
            have HML : Hid (mf ≤ m + cntN L.length) := Lib.hid (by
              rcases Nat.eq_zero_or_pos L.length with h0 | h0
              · rw [h0] at hm2 ⊢; simp only [Nat.zero_mul, Nat.add_zero] at hm2; exact hm2
              · obtain ⟨j, hj⟩ : ∃ j, L.length = j + 1 := ⟨L.length - 1, by omega⟩
                rw [hj] at hm2 ⊢
                have e : cntN (j + 1) = 1 + (j + 1) * cntN j := rfl
                rw [Nat.add_sub_cancel] at hm2
                omega)
            have HI := Lib.hid hI; have HTF := Lib.hid htf; have HM1 := Lib.hid hm1; have HN := Lib.hid hN; have HT2 := Lib.hid hT2; have HXF := Lib.hid hxsf; have HSL := Lib.hid hS
            have HKK := Lib.hid (show W.heap.size ≤ K ∧ w0.heap.size ≤ K by omega)
            clear hI htf hm1 hm2 hS hxl hN hT2 hxsf
            gi_wp2
            refine wpIn_wide.2 ?_
            refine Code.wp_mono (Q := fun e a' w' => match e with
              | .normal => ∃ t52 t53 t54 t55 t56 t57 t58 t59 : Value, a' = { tmps := #[.pointer (some ⟨b, 0, none⟩), .pointer (some ⟨W.heap.size, 0, none⟩), u2, .int .i64 m, undef, u5, .pointer (some ⟨W3.heap.size, 0, none⟩), .pointer (some ⟨b, 0, none⟩), .pointer (some ⟨b, 0, none⟩), .pointer (some ⟨b, 3, none⟩), .slice na m nc, .int .i64 m, .slice (some ⟨W.heap.size + 1, 0, none⟩) 2 2, .int .i64 2, .int .i64 2, .bool false, u16, u17, u18, u19, u20, u21, u22, u23, u24, u25, u26, u27, u28, u29, u30, u31, u32, u33, .pointer (some ⟨b, 0, none⟩), .pointer (some ⟨b, 0, none⟩), .pointer (some ⟨b, 0, none⟩), .pointer (some ⟨b, 3, none⟩), .slice na m nc, .agg #[.int .i64 0, .slice none 0 0], .slice (some ⟨wr.heap.size, 0, none⟩) 1 1, .slice (some ⟨gg, 0, none⟩) (m + 1) cg, .pointer (some ⟨b, 0, none⟩), .pointer (some ⟨b, 3, none⟩), .pointer (some ⟨b, 0, none⟩), .func (.func 157) #[] #[.pointer (some ⟨W3.heap.size + 1, 0, none⟩)], undef, undef, undef, undef, undef, undef, t52, t53, t54, t55, t56, t57, t58, t59, undef], defers := [{ target := .collected D, args := #[] }] } ∧ w' = X.drew.setCell ⟨gf, m * 2 + 1, none⟩ (.slice sa S.length sc)
              | _ => False) ?cont ?reg
            case reg =>
              go_region
              all_goals exact ⟨_, _, _, _, _, _, _, _, rfl, rfl⟩
            case cont =>
              rintro e a' w' hq
              cases e <;> try exact hq.elim
              obtain ⟨t52, t53, t54, t55, t56, t57, t58, t59, rfl, rfl⟩ := hq
              clear e0 e1 e2 e3 hu
              gi_wp2
              obtain ⟨n1, n2, n3⟩ := HTF.out.drew.setN (m * 2 + 1) (.slice sa S.length sc)
              have hDg : D ≠ gf := fun e => by
                obtain ⟨cs, hcs⟩ := own_block HTF.out.nod gf rfl
                rw [← e, hKD] at hcs; cases hcs
              have hKD2 : (X.drew.setCell ⟨gf, m * 2 + 1, none⟩ (.slice sa S.length sc)).heap[D]? = some (.deferred (some [])) := (n2 D hDg).trans hKD
              refine ⟨by simp, .inl ⟨_, _, rfl, run_takeDeferred (w := X.drew.setCell ⟨gf, m * 2 + 1, none⟩ (.slice sa S.length sc)) hKD2, ?_⟩⟩
              have hWD : W.heap.size < D := by omega
              have hgW : gf < W.heap.size → (Value.slice na m nc).ownBlock = some gf := fun h => by
                rcases HI.out.nvn gf rfl with h1 | h1
                · exact h1
                · omega
              have hot : ∀ q, q < W.heap.size → ((X.drew.setCell ⟨gf, m * 2 + 1, none⟩ (.slice sa S.length sc)).putObj D (.deferred none)).heap[q]? = (X.drew.setCell ⟨gf, m * 2 + 1, none⟩ (.slice sa S.length sc)).heap[q]? := fun q hq => World.putObj_heap_other (by omega)
              rw [← HLE.out]
              have hfin : ∀ q, q ≠ gf → q ≠ D → ((X.drew.setCell ⟨gf, m * 2 + 1, none⟩ (.slice sa S.length sc)).putObj D (.deferred none)).heap[q]? = X.heap[q]? := fun q h1 h2 => (World.putObj_heap_other h2).trans (n2 q h1)
              have hwh := HN.out.whole HI.out.row HI.out.ne HKK.out.2
              have hnxf : NX ((X.drew.setCell ⟨gf, m * 2 + 1, none⟩ (.slice sa S.length sc)).putObj D (.deferred none)) w0.heap.size ovf (T0 ++ ⟨0, sa, S, sc⟩ :: T2) := hwh.keep (fun y hy q e => hfin q (fun e2 => rows_apart HTF.out.nod (hwh.row y hy) (by decide) q (by rw [e2]; rfl) e) (fun e2 => by
                obtain ⟨cs, hcs⟩ := own_block (hwh.row y hy) q e
                rw [e2, hKD] at hcs; cases hcs)) (fun q e => Or.inl e)
              have hln : (T0 ++ (⟨0, sa, S, sc⟩ : Nd) :: T2).length = mf := by rw [← HT2.out]; simp
              have hfl : (T0 ++ (⟨0, sa, S, sc⟩ : Nd) :: T2).flatMap ndV = xsf.set (m * 2 + 1) (.slice sa S.length sc) := by rw [HXF.out, ← HTM.out, mid_flat]
              have hlt2 : (T0 ++ (⟨0, sa, S, sc⟩ : Nd) :: T2).length = m + ((⟨0, sa, S, sc⟩ : Nd) :: T2).length := by rw [List.length_append, HTM.out]
              refine ⟨.int .i64 m, by simp [results, Try.results115, go_sem], by rw [HTM.out], _, ovf, ⟨0, sa, S, sc⟩ :: T2, by rw [hln, hfl]; exact n1.putD (by omega) hKD2 rfl _, hnxf, fun y hy => ?_, Nat.succ_pos _, by have := HML.out; omega, HN.out.tree HLE.out HPOS.out HSL.out sa sc, ⟨?_, fun q o _ h hc => ?_⟩, fun q hq h1 h2 h3 => ?_, HI.out.ovn, HI.out.nvn⟩
              · rcases List.mem_cons.1 hy with h9 | h9
                · rw [h9]
                  exact ⟨fun q e => Nat.le_trans HKK.out.1 (HI.out.row.lt q e).1, by show S.length ≤ 6; rw [HSL.out]; omega⟩
                · exact HN.out.new y h9
              · have h1 := HI.out.from_.size
                have h2 := n3.size
                have h3 : X.drew.heap.size = X.heap.size := rfl
                simp [World.putObj]; omega
              · exact (hot q (heap_lt h)).trans (n3.same q o (Nat.zero_le _) (HI.out.from_.same q o (Nat.zero_le _) h hc) hc)
              · refine (hot q hq).trans ((n2 q (fun e => ?_)).trans (HI.out.keep q hq h1 h2 h3))
                rw [e] at hq h3
                exact h3 (hgW hq)
end Go.Proofs.Ytpplcbpnojggcaa

namespace Go.Proofs.Ytpplcbpnojggcaa
open Go.RowKit Go.Maps Go.Shelf

/-- The minutes for which BestOrder grows its tree. -/
def bndOf (x : Cols) (c : Nat) : Int := if (bestOf x c).2.2 = 0 then (bestOf x c).2.1 else 1000000
def BestNPost (x : Cols) (c : Nat) (w : World) (e : Ending) (w' : World) : Prop :=
  (colsErr x ≠ 0 ∧ e = .returned (.tuple #[.slice none 0 0, .int .i64 0, .slice none 0 0, .int .i64 (colsErr x)]) ∧ Below w.heap.size w w') ∨
  (colsErr x = 0 ∧ ∃ v na nc T', e = .returned (.tuple #[v, .int .i64 (bestOf x c).2.1, .slice na (T' : List Nd).length nc, .int .i64 (bestOf x c).2.2]) ∧ OwnR 1 3 intL w' w.heap.size v (bestOf x c).1 ∧ NodesAt w' na T' ∧ (∀ y ∈ T', y.nx.length ≤ 6 ∧ (y.a = none → y.c = 0)) ∧ 1 ≤ T'.length ∧ T'.length ≤ 1957 ∧ (chk x (bndOf x c) T' x.m.length 0 []).2 = 0 ∧ Below w.heap.size w w')
set_option maxRecDepth 100000 in
set_option maxHeartbeats 4000000 in
theorem bestOrderN_any (x : Cols) (c : Nat) (w : World) (hx : ColsAt w x) (hm : x.m.length ≤ maxLen) (hT : x.T.length ≤ maxLen) (hE : x.m.length ≤ 6 → OrdsEnd x.m.length c) (hB : colsErr x = 0 → BoundOk x (bndOf x c)) :
    Calls Try.prog 52 #[x.v] w (BestNPost x c w) := by
  have hb0 := (Below.refl w.heap.size w).alloc (Nat.le_refl _) (.cells #[.slice x.ma x.m.length x.mc, .slice x.da x.T.length x.dc] 78)
  have bx := BoxAt.new w #[.slice x.ma x.m.length x.mc, .slice x.da x.T.length x.dc] 78
  have HCC := Lib.hid (checkColours_any x (w.alloc (.cells #[.slice x.ma x.m.length x.mc, .slice x.da x.T.length x.dc] 78)) (hx.below hb0) hm hT)
  have HX := Lib.hid hx; have HE := Lib.hid hE; have HBB := Lib.hid hB
  obtain ⟨ma, m, mc, da, T, dc⟩ := x
  unfold Cols.v at HCC ⊢
  dsimp only at HCC bx hb0 ⊢
  have HBX := Lib.hid bx; have HB0 := Lib.hid hb0
  clear hx hm hT hE hB bx hb0
  go_enter Try.func52, Try.ntmps52
  by_cases h0 : colsErr ⟨ma, m, mc, da, T, dc⟩ = 0
  · have H0 := Lib.hid h0
    have HOK := Lib.hid (cols_right h0)
    clear h0
    go_wp2_with (first | (go_at_call 49; refine HCC.out.mono ?_; rintro e w1 ⟨rfl, hb1⟩; rw [H0.out]; have b0 := (HBX.out.below hb1).cell 0; have b1 := (HBX.out.below hb1).cell 1; have hbl := (HBX.out.below hb1).lt; simp at b0 b1; have HB1 := Lib.hid (HB0.out.trans (hb1.mono HB0.out.size)); have HX1 := Lib.hid (HBX.out.below hb1); clear hb1))
    have hm6 : m.length ≤ 6 := HOK.out.le
    have HXW : Hid (∀ W, Below w1.heap.size w1 W → ColsAt W ⟨ma, m, mc, da, T, dc⟩) := Lib.hid (fun W hW => HX.out.below (HB1.out.trans (hW.mono HB1.out.size)))
    refine (leastOrder_any m.length c (minsE ⟨ma, m, mc, da, T, dc⟩) (.pointer (some ⟨w.heap.size, 0, none⟩)) w1 (HE.out hm6) (by omega) (fun O v B W hB hO hlen hin => best1_any ⟨ma, m, mc, da, T, dc⟩ w.heap.size B O v W (HX1.out.below hB) (HXW.out W hB) HOK.out hO (by omega) hin)).mono ?_
    rintro e w2 ⟨v, rfl, hO2, hb2⟩
    have HBE := Lib.hid (show bestOf ⟨ma, m, mc, da, T, dc⟩ c = lstF (minsE ⟨ma, m, mc, da, T, dc⟩) (ordsL m.length c) from rfl)
    obtain ⟨st, hst⟩ : ∃ st, st = lstF (minsE ⟨ma, m, mc, da, T, dc⟩) (ordsL m.length c) := ⟨_, rfl⟩
    rw [← hst] at hO2 HBE ⊢
    clear hst
    obtain ⟨F, le, er⟩ := st
    dsimp only at hO2 ⊢
    obtain ⟨va, vc, ev, -⟩ := hO2.rows int_l
    subst ev
    have hX2 := HX1.out.below hb2
    have d0 : w2.cell? ⟨w.heap.size, 0, none⟩ = some (.slice ma m.length mc) := hX2.cell 0
    have d1 : w2.cell? ⟨w.heap.size, 1, none⟩ = some (.slice da T.length dc) := hX2.cell 1
    have dl := hX2.lt
    have HO2 := Lib.hid hO2; have HB2 := Lib.hid hb2; have HC2 := Lib.hid (HXW.out w2 hb2)
    clear hO2 hb2 hX2 b0 b1 hbl
    have HTS := Lib.hid (fun (bnd : Int) => (⟨BoxAt.new w2 #[.slice ma m.length mc, .slice da T.length dc, .int .i64 bnd, .slice none 0 0, .slice none 0 0] 164, OwnR.nil _ _, World.ownsRow_nil _ _ _ _, (Below.refl w2.heap.size w2).alloc (Nat.le_refl _) _, Nat.le_refl _⟩ : TS w2 (w2.alloc (.cells #[.slice ma m.length mc, .slice da T.length dc, .int .i64 bnd, .slice none 0 0, .slice none 0 0] 164)) w2.heap.size ⟨ma, m, mc, da, T, dc⟩ bnd [] 0 (.slice none 0 0) (.slice none 0 0) []))
    have hcn := cnt_le m.length hm6
    have HBD := Lib.hid (show bndOf ⟨ma, m, mc, da, T, dc⟩ c = if er = 0 then le else 1000000 by unfold bndOf; rw [HBE.out])
    have HBO := Lib.hid (HBB.out H0.out)
    have HGR := Lib.hid (fun (bnd : Int) (hbo : BoundOk ⟨ma, m, mc, da, T, dc⟩ bnd) => growN_any (m.length + 1) w2 _ w2.heap.size ⟨ma, m, mc, da, T, dc⟩ bnd [] 0 (.slice none 0 0) (.slice none 0 0) [] [] rfl rfl (by rw [left_nil]; show m.length < m.length + 1; omega) (HTS.out bnd) ⟨fun y hy => (by cases hy), fun y hy => (by cases hy)⟩ HC2.out HOK.out (by rw [left_nil]; simp; exact hm6) List.nodup_nil (by simp) hbo (by rw [left_nil]; show 0 + cntN m.length ≤ 1000000; omega))
    have HFIN := Lib.hid (show ∀ (bnd : Int) (W' : World) nv' ov' (T' : List Nd), bndOf ⟨ma, m, mc, da, T, dc⟩ c = bnd → TS w2 W' w2.heap.size ⟨ma, m, mc, da, T, dc⟩ bnd [] T'.length nv' ov' (T'.flatMap ndV) → NX W' w2.heap.size ov' T' → (∀ y ∈ T', (∀ q, ndB y = some q → (w2.alloc (.cells #[.slice ma m.length mc, .slice da T.length dc, .int .i64 bnd, .slice none 0 0, .slice none 0 0] 164)).heap.size ≤ q) ∧ y.nx.length ≤ 6) → 0 < T'.length → T'.length ≤ cntN (leftK [] m.length).length → (chk ⟨ma, m, mc, da, T, dc⟩ bnd T' (leftK [] m.length).length 0 []).2 = 0 → ∀ nq, BestNPost ⟨ma, m, mc, da, T, dc⟩ c w (.returned (.tuple #[.slice va F.length vc, .int .i64 le, nv', .int .i64 er])) (W'.drewN nq) from fun bnd W' nv' ov' T' hbe ht hnx hnw hp hc hch nq => by
      obtain ⟨na, nc, ev, hrow, -⟩ := OwnG.rows (n := 2) (E := 170) (g := ndV) (w := W') (B := w2.heap.size) (v := nv') (L := T') ht.nod (fun _ => rfl)
      subst ev
      rw [left_nil] at hc hch
      have hN : NodesAt (W'.drewN nq) na T' := ⟨hrow, fun y hy => by
        obtain ⟨a3, c3, e3, hr3, -⟩ := (hnx.row y hy).rows int_l
        injection e3 with e4
        rw [e4]; exact hr3⟩
      have hz : ∀ y ∈ T', y.nx.length ≤ 6 ∧ (y.a = none → y.c = 0) := fun y hy => by
        obtain ⟨a3, c3, e3, -, -, -, hn3, -⟩ := (hnx.row y hy).rows int_l
        injection e3 with e4 _ e5
        exact ⟨(hnw y hy).2, by rw [e4, e5]; exact hn3⟩
      refine Or.inr ⟨H0.out, .slice va F.length vc, na, nc, T', by rw [HBE.out], ?_, hN, hz, hp, Nat.le_trans hc hcn.2, by rw [hbe]; exact hch, ?_⟩
      · rw [HBE.out]
        exact ((HO2.out.below ht.low).drewN nq).mono HB1.out.size
      · exact below_drewN ((HB1.out.trans (HB2.out.mono HB1.out.size)).trans (ht.low.mono (Nat.le_trans HB1.out.size HB2.out.size))) nq)
    by_cases he : er = 0
    · have he' : (er == 0) = true := by simpa using he
      have HBD1 : Hid (bndOf ⟨ma, m, mc, da, T, dc⟩ c = le) := Lib.hid (by rw [HBD.out, if_pos he])
      have HBO1 : Hid (BoundOk ⟨ma, m, mc, da, T, dc⟩ le) := Lib.hid (by rw [← HBD1.out]; exact HBO.out)
      clear he
      go_wp2_with (go_at_call 115; refine (HGR.out le HBO1.out).mono ?_; rintro e w3 ⟨rfl, nv', ov', T', ht3, hnx3, hnw3, hp3, hc3, hch3, -⟩; have g3 : w3.cell? ⟨w2.heap.size, 3, none⟩ = some nv' := ht3.box.cell 3; have gl := ht3.box.lt; have HT3 := Lib.hid ht3; have HNX3 := Lib.hid hnx3; have HNW3 := Lib.hid hnw3; have HP3 := Lib.hid hp3; have HC3 := Lib.hid hc3; have HCH3 := Lib.hid hch3; clear ht3 hnx3 hnw3 hp3 hc3 hch3)
      go_quiet (fail)
      go_wp2
      (try simp only [Exit.inBlock, Exit.then]); refine bodyPost_ret (results_tmp4 rfl _ _ _) rfl ?_
      exact HFIN.out _ _ _ _ _ HBD1.out HT3.out HNX3.out HNW3.out HP3.out HC3.out HCH3.out _
    · have he' : (er == 0) = false := by simpa using he
      have HBD1 : Hid (bndOf ⟨ma, m, mc, da, T, dc⟩ c = 1000000) := Lib.hid (by rw [HBD.out, if_neg he])
      have HBO1 : Hid (BoundOk ⟨ma, m, mc, da, T, dc⟩ 1000000) := Lib.hid (by rw [← HBD1.out]; exact HBO.out)
      clear he
      go_wp2_with (go_at_call 115; refine (HGR.out 1000000 HBO1.out).mono ?_; rintro e w3 ⟨rfl, nv', ov', T', ht3, hnx3, hnw3, hp3, hc3, hch3, -⟩; have g3 : w3.cell? ⟨w2.heap.size, 3, none⟩ = some nv' := ht3.box.cell 3; have gl := ht3.box.lt; have HT3 := Lib.hid ht3; have HNX3 := Lib.hid hnx3; have HNW3 := Lib.hid hnw3; have HP3 := Lib.hid hp3; have HC3 := Lib.hid hc3; have HCH3 := Lib.hid hch3; clear ht3 hnx3 hnw3 hp3 hc3 hch3)
      go_quiet (fail)
      go_wp2
      (try simp only [Exit.inBlock, Exit.then]); refine bodyPost_ret (results_tmp4 rfl _ _ _) rfl ?_
      exact HFIN.out _ _ _ _ _ HBD1.out HT3.out HNX3.out HNW3.out HP3.out HC3.out HCH3.out _
  · have HJ := Lib.hid h0
    have h0' : (colsErr ⟨ma, m, mc, da, T, dc⟩ == 0) = false := by simpa using h0
    clear h0
    go_wp2_with (go_at_call 49; refine HCC.out.mono ?_; rintro e w1 ⟨rfl, hb1⟩)
    (try simp only [Exit.inBlock, Exit.then]); refine bodyPost_ret (results_tmp4 rfl _ _ _) rfl ?_
    exact Or.inl ⟨HJ.out, rfl, HB0.out.trans (hb1.mono HB0.out.size)⟩
end Go.Proofs.Ytpplcbpnojggcaa
