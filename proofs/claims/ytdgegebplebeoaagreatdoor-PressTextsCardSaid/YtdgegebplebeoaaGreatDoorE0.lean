/-
  Package press: whether a leaf holds.
-/
import Derived.Deep.RegionHeld3
import Derived.StillTailTactics
import Derived.Test.YtdgegebplebeoaaGreatDoorE8
namespace Go.Proofs.YtdgegebplebeoaaGreatDoor
open Go.RowKit Go.Maps Go.Shelf

def HoldsPost (w : World) (e : Ending) (w' : World) : Prop := (∃ bb : Bool, e = .returned (.bool bb)) ∧ Below w.heap.size w w'
set_option maxRecDepth 100000 in
set_option maxHeartbeats 4000000 in
theorem holds_any (t : Tree) (B b : Nat) (kind : Int) (w : World) (ht : TreeAt w B b t) (hok : ColsOk t.x) (hol : t.O.length ≤ 6) (hin : ∀ y ∈ t.O, 0 ≤ y ∧ y < t.x.m.length) :
    Calls Tryz.prog 68 #[.pointer (some ⟨b, 0, none⟩), .int .i64 kind] w (HoldsPost w) := by
  have HLF := Lib.hid (fun w1 h => left_any t B b w1 h (by have := hok.le; omega) (by omega))
  obtain ⟨⟨ma, m, mc, da, T, dc⟩, bd, nv, ov, O⟩ := t
  obtain ⟨oa, oc, ev, hRS, hoc, -⟩ := ht.own.rows int_l
  have ev : ov = .slice oa O.length oc := ev
  subst ev
  have HT := Lib.hid ht
  have HMO := Lib.hid (fun W (hx : ColsAt W ⟨ma, m, mc, da, T, dc⟩) (hO : RowsAt 1 intL W oa O) => minutesOf_any ⟨ma, m, mc, da, T, dc⟩ O oa oc W hx hok hO hoc hol hin)
  unfold Cols.v at HMO
  dsimp only at HMO
  have b0 : w.cell? ⟨b, 0, none⟩ = some (.slice ma m.length mc) := HT.out.box.cell 0
  have b1 : w.cell? ⟨b, 1, none⟩ = some (.slice da T.length dc) := HT.out.box.cell 1
  have b4 : w.cell? ⟨b, 4, none⟩ = some (.slice oa O.length oc) := HT.out.box.cell 4
  have hbl := HT.out.box.lt
  have HRS := Lib.hid hRS; have HOK := Lib.hid hok
  clear ht hok hin hRS hoc
  go_enter Tryz.func68, Tryz.ntmps68
  go_wp2_with fail
  go_region_held3 (fun w' => w'.cell? ⟨b, 0, none⟩ = some (.slice ma m.length mc) ∧ w'.cell? ⟨b, 1, none⟩ = some (.slice da T.length dc) ∧ w'.cell? ⟨b, 4, none⟩ = some (.slice oa O.length oc)) (go_keep)
    ((go_at_call 45; refine (HMO.out _ (HT.out.cols.below (Below.refl _ _).drew) HRS.out.drew).mono ?_; rintro e w8 ⟨rfl, hb8⟩; have k0 := (hb8.cell (p := ⟨b, 0, none⟩) hbl).trans b0; have k1 := (hb8.cell (p := ⟨b, 1, none⟩) hbl).trans b1; have k4 := (hb8.cell (p := ⟨b, 4, none⟩) hbl).trans b4))
  obtain ⟨mn, hmn⟩ : ∃ mn, mn = (minsE ⟨ma, m, mc, da, T, dc⟩ O).1 := ⟨_, rfl⟩
  obtain ⟨er, her⟩ : ∃ er, er = (minsE ⟨ma, m, mc, da, T, dc⟩ O).2 := ⟨_, rfl⟩
  rw [← hmn, ← her]
  have hz8 := hb8.size
  have hB8 : Below w.heap.size w w8 := (Below.refl w.heap.size w).drew.trans hb8
  have HB8 := Lib.hid hB8
  have HT8 := Lib.hid (HT.out.below hB8)
  clear hmn her HT HMO hb8 hB8
  by_cases h1 : kind = 1
  · subst h1
    go_wp2
    go_ret
    exact ⟨⟨_, rfl⟩, HB8.out⟩
  · have h1' : (kind == 1) = false := by simpa using h1
    clear h1
    go_wp2_with (go_at_call 95; refine (HLF.out _ HT8.out).mono ?_; rintro e w9 ⟨lv, rfl, hOl, hb9⟩; obtain ⟨la, lc, ev, hRL, -⟩ := hOl.rows int_l; subst ev)
    have HLI := Lib.hid (fun y h => (leftK_in O m.length y h).1)
    have HLL := Lib.hid (leftK_len O m.length)
    obtain ⟨Lf, hLf⟩ : ∃ Lf, Lf = leftK O m.length := ⟨_, rfl⟩
    have HLE := Lib.hid hLf
    rw [← hLf] at HLI HLL hRL ⊢
    have hLl : Lf.length ≤ m.length := HLL.out
    have hml : m.length ≤ 6 := HOK.out.le
    have HB9 := Lib.hid (HB8.out.trans (hb9.mono HB8.out.size))
    have HT9 := Lib.hid (HT8.out.below hb9)
    clear hb9 hOl hLf
    have b0 : w9.cell? ⟨b, 0, none⟩ = some (.slice ma m.length mc) := HT9.out.box.cell 0
    have b2 : w9.cell? ⟨b, 2, none⟩ = some (.int .i64 bd) := HT9.out.box.cell 2
    have hbl9 := HT9.out.box.lt
    have HMI := Lib.hid (show RowsAt 1 intL w9 ma m from HT9.out.cols.mins)
    go_loop [5, 28] (fun v i => ∃ (k : Nat) (q : Int), k ≤ Lf.length ∧ i = .int .i64 k ∧ v = .int .i64 q) (fun _ i => Lf.length - (intOf i).toNat)
    case atStart => exact ⟨0, mn, Nat.zero_le _, rfl, rfl⟩
    case round =>
      obtain ⟨k, q, hk, rfl, rfl⟩ := hrel
      by_cases hlt : k < Lf.length
      · obtain ⟨ad, rfl, had, s0⟩ := hRL.int hlt
        have hy := HLI.out _ (List.getElem_mem hlt)
        obtain ⟨y, ey⟩ : ∃ y, y = Lf[k] := ⟨_, rfl⟩
        rw [← ey] at s0 hy
        obtain ⟨cN, rfl⟩ : ∃ cN : Nat, y = cN := ⟨y.toNat, by omega⟩
        have hcm : cN < m.length := by omega
        have hcm' : (cN : Int) < (m.length : Int) := by omega
        obtain ⟨mad, rfl, hmad, s1⟩ := HMI.out.int hcm
        obtain ⟨mv, hmv⟩ : ∃ mv, mv = m[cN] := ⟨_, rfl⟩
        rw [← hmv] at s1
        clear ey hmv hy
        go_wp2
        go_round
        case rel => exact ⟨k + 1, _, by omega, by go_num, rfl⟩
        case measure => simp [intOf] <;> omega
      · cases h3 : (er == 0)
        · go_wp2
          go_ret
          exact ⟨⟨_, rfl⟩, HB9.out⟩
        · go_wp2
          go_ret
          exact ⟨⟨_, rfl⟩, HB9.out⟩
end Go.Proofs.YtdgegebplebeoaaGreatDoor
