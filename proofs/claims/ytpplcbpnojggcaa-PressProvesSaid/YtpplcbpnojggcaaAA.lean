/-
  Package press: copies of lists of numbers, of tables, of colours.
-/
import Derived.Test.YtpplcbpnojggcaaGF
namespace Go.Proofs.Ytpplcbpnojggcaa
open Go.RowKit Go.Maps Go.Shelf

def CIPost (L : List Int) (w : World) (e : Ending) (w' : World) : Prop := ∃ v, e = .returned v ∧ OwnR 1 3 intL w' w.heap.size v L ∧ Below w.heap.size w w'
set_option maxRecDepth 100000 in
set_option maxHeartbeats 1000000 in
theorem copyInts_any (a : Option Addr) (L : List Int) (n c : Nat) (w : World) (hn : n = L.length) (hL : RowsAt 1 intL w a L) (hl : L.length ≤ 1000000) (hd : a = none → c = 0) :
    Calls Try.prog 47 #[.slice a n c] w (CIPost L w) := by
  subst hn
  have hm := World.ownsRow_made (e := 3) (size := 1) (base := w.heap.size) w #[] 0 (Nat.le_refl _) (Nat.zero_le _) rfl
  have hown : OwnR 1 3 intL (w.alloc (.cells #[] 3)) w.heap.size (.slice (some ⟨w.heap.size, 0, none⟩) 0 0) [] := hm
  have hB := (Below.refl w.heap.size w).alloc (Nat.le_refl _) (.cells #[] 3)
  have HL := Lib.hid (hL.alloc (.cells #[] 3))
  clear hm hL
  go_enter Try.func47, Try.ntmps47
  go_wp2_with (at_builtin; refine wpList_appL tInt int_l _ rfl _ _ rfl w.heap.size _ [] rfl hown a L c rfl HL.out hd (by simp) hl (by simp) ?_; intro v' w' hown' hg' hB' hor')
  go_ret
  exact ⟨_, rfl, hown', hB.trans hB'⟩
theorem prV_l : ∀ x : PR, (prV x).length = 1 := fun _ => rfl
theorem prV_one : ∀ x : PR, ∀ u ∈ prV x, u.oneCell' = true := fun x u hu => by rw [List.mem_singleton.1 hu]; rfl
theorem tPR : ElG 1 24 76 75 (.slice none 0 0) := ⟨Try.underlying76, by kernel_rfl, rfl, by decide, by decide⟩
/-- The rows of a table, each of the call's own. -/
def OwnRows (w : World) (B : Nat) (T : List PR) : Prop := ∀ x ∈ T, OwnR 1 3 intL w B (.slice x.a x.l.length x.c) x.l
theorem OwnRows.below {w w' : World} {B : Nat} {T : List PR} (h : OwnRows w B T) (hb : Below w.heap.size w w') : OwnRows w' B T := fun x hx => (h x hx).below hb
theorem OwnRows.grown {w w' : World} {B B' n m : Nat} {v : Value} {T : List PR} {xs : List Value} (h : OwnRows w B T) (ho : w.ownsRow B' 75 n v m xs) (hg : w.grownBy w' v.ownBlock) : OwnRows w' B T := fun x hx =>
  (h x hx).grown hg (fun q e e' => rows_apart (h x hx) ho (by decide) q e e'.symm)
theorem RowsG.setC {α : Type} {n : Nat} {g : α → List Value} {w : World} {a : Option Addr} {L : List α} (h : RowsG n g w a L) {p : Addr} (hp : ∀ ad, a = some ad → ad.block ≠ p.block) (u : Value) : RowsG n g (w.setCell p u) a L := fun k hk => by
  obtain ⟨ad, e, hlt, hs⟩ := h k hk
  refine ⟨ad, e, by rw [World.size_setCell]; exact hlt, fun j hj => ?_⟩
  rw [World.cell?_setCell_other _ _ _ _ (fun e2 => hp ad e (by have := congrArg Addr.block e2; rw [fld_block, add_block] at this; exact this.symm))]
  exact hs j hj
/-- Where a table lies: from a block on. -/
def TabGe (B : Nat) (a : Option Addr) (T : List PR) : Prop := (∀ ad, a = some ad → B ≤ ad.block) ∧ ∀ x ∈ T, ∀ ad, x.a = some ad → B ≤ ad.block
theorem TabAt.set {w : World} {a : Option Addr} {T : List PR} {B : Nat} (h : TabAt w a T) (hg : TabGe B a T) {p : Addr} (hp : p.block < B) (u : Value) : TabAt (w.setCell p u) a T :=
  ⟨h.rows.setC (fun ad e => by have := hg.1 ad e; omega) u, fun x hx => (h.ints x hx).set (fun ad e => by have := hg.2 x hx ad e; omega) u⟩
theorem TabAt.drew {w : World} {a : Option Addr} {T : List PR} (h : TabAt w a T) : TabAt w.drew a T := ⟨h.rows, h.ints⟩
/-- A copy of a table. -/
def CLPost (T : List PR) (w : World) (e : Ending) (w' : World) : Prop := ∃ (a : Option Addr) (c : Nat) (T' : List PR), e = .returned (.slice a T'.length c) ∧ T'.map (·.l) = T.map (·.l) ∧ TabAt w' a T' ∧ (a = none → c = 0) ∧ (∀ x ∈ T', x.a = none → x.c = 0) ∧ TabGe w.heap.size a T' ∧ Below w.heap.size w w'
theorem pick_lt {w : World} {a : Option Addr} {T : List PR} (h : TabAt w a T) {k : Nat} (hk : k < T.length) : ∃ ad, a = some ad := by
  obtain ⟨ad, e, _⟩ := h.row hk; exact ⟨ad, e⟩
set_option maxRecDepth 100000 in
set_option maxHeartbeats 4000000 in
theorem copyLists_any (a : Option Addr) (T : List PR) (n c : Nat) (w : World) (hn : n = T.length) (hT : TabAt w a T) (hl : T.length ≤ 1000) (hsz : ∀ x ∈ T, x.l.length ≤ 1000000) (hd : ∀ x ∈ T, x.a = none → x.c = 0) :
    Calls Try.prog 71 #[.slice a n c] w (CLPost T w) := by
  subst hn
  have HSZ := Lib.hid hsz; have HD := Lib.hid hd
  clear hsz hd
  go_enter Try.func71, Try.ntmps71
  go_wp2_with fail
  go_loopw [3, 4] (fun v i wr => ∃ (k : Nat) (T' : List PR), k ≤ T.length ∧ i = .int .i64 k ∧ Hid (T'.map (·.l) = (T.take k).map (·.l)) ∧ Hid (T'.length = k) ∧ OwnG 1 75 prV wr w.heap.size v T' ∧ OwnRows wr w.heap.size T' ∧ Below w.heap.size w wr) (fun _ i _ => T.length - (intOf i).toNat)
  case atStart => exact ⟨0, [], Nat.zero_le _, rfl, Lib.hid rfl, Lib.hid rfl, OwnG.nil _ _, fun x hx => (by cases hx), Below.refl _ _⟩
  case round =>
    obtain ⟨k, T', hk, rfl, HM, HTL, hown, hrows, hB⟩ := hrel
    by_cases hlt : k < T.length
    · obtain ⟨ad, ra, rl, rc, rfl, had, hcell, hrow, hrr⟩ := (hT.below hB).pick hlt
      have hxl : rl.length ≤ 1000000 := by have := HSZ.out _ (List.getElem_mem hlt); rw [hrr] at this; exact this
      have hxd : ra = none → rc = 0 := by have := HD.out _ (List.getElem_mem hlt); rw [hrr] at this; exact this
      have HTK := Lib.hid (show (T.take (k + 1)).map (·.l) = (T.take k).map (·.l) ++ [rl] by rw [List.take_succ_eq_append_getElem hlt, List.map_append, hrr]; rfl)
      have hkl : (k : Int) < (T.length : Int) := by omega
      have HO := Lib.hid hown; have HRS := Lib.hid hrows; have HB := Lib.hid hB; have HRW := Lib.hid hrow
      clear hrr hown hrows hB hrow
      go_wp2_with (first
        | (go_at_call 47; refine (copyInts_any ra rl rl.length rc _ rfl HRW.out hxl hxd).mono ?_; rintro e w2 ⟨v2, rfl, hO2, hb2⟩; obtain ⟨a2, c2, e2, -⟩ := hO2.rows int_l; subst e2; have HO2 := Lib.hid (hO2.mono HB.out.size); have HOT := Lib.hid (HO.out.below hb2); have HRS2 := Lib.hid (HRS.out.below hb2); have HB2 := Lib.hid (HB.out.trans (hb2.mono HB.out.size)); clear hO2 hb2)
        | (at_builtin; refine wpList_appG1 tPR prV_l prV_one w2 (⟨a2, rl, c2⟩ : PR) _ rfl rfl _ _ rfl w.heap.size _ T' rfl HOT.out rfl (by have := HTL.out; omega) HB2.out.size ?_; intro v3 w3 hO3 hg3 hb3 hor3))
      have hrows3 : OwnRows w3 w.heap.size (T' ++ [⟨a2, rl, c2⟩]) := fun y hy => by
        rcases List.mem_append.1 hy with h | h
        · exact (HRS2.out.grown HOT.out hg3) y h
        · rw [List.mem_singleton.1 h]
          exact HO2.out.grown hg3 (fun q e e' => rows_apart HO2.out HOT.out (by decide) q e e'.symm)
      go_roundw
      case rel => exact ⟨k + 1, T' ++ [⟨a2, rl, c2⟩], by omega, by go_num, Lib.hid (by rw [List.map_append, HM.out, HTK.out]; rfl), Lib.hid (by rw [List.length_append, HTL.out]; rfl), hO3, hrows3, HB2.out.trans hb3⟩
      case measure => simp [intOf]; omega
    · have hk2 : k = T.length := by omega
      subst hk2
      obtain ⟨a2, c2, ev, hr2, hn2, hge2⟩ := hown.rows prV_l
      subst ev
      have HMM := Lib.hid (show T'.map (·.l) = T.map (·.l) by rw [HM.out, List.take_length])
      have hTA : TabAt wr a2 T' := ⟨hr2, fun x hx => by
        obtain ⟨a3, c3, e3, hr3, -⟩ := (hrows x hx).rows int_l
        injection e3 with e4
        rw [e4]; exact hr3⟩
      have hnil : ∀ x ∈ T', x.a = none → x.c = 0 := fun x hx => by
        obtain ⟨a3, c3, e3, -, -, -, hn3, -⟩ := (hrows x hx).rows int_l
        injection e3 with e4 _ e5
        rw [e4, e5]; exact hn3
      have hge : TabGe w.heap.size a2 T' := ⟨hge2, fun x hx => by
        obtain ⟨a3, c3, e3, -, -, -, -, hg3⟩ := (hrows x hx).rows int_l
        injection e3 with e4
        rw [e4]; exact hg3⟩
      have HTA := Lib.hid hTA; have HNL := Lib.hid hnil; have HGE := Lib.hid hge
      clear hTA hnil hge hge2 hrows hown hr2
      go_wp2
      go_ret
      exact ⟨a2, c2, T', rfl, HMM.out, HTA.out, hn2, HNL.out, HGE.out, hB⟩
end Go.Proofs.Ytpplcbpnojggcaa
