/-
  A piece set by the longest sorts.
-/
import Derived.Test.YtomblajlpanmjaaGreatDoorVE
namespace Go.Proofs.YtomblajlpanmjaaGreatDoor
open Go.RowKit Go.Maps

theorem longF_ok (p : PC) (pl : Nat) : ∀ l : List (MayIx p pl), (longF p pl l).2 = 0 ∨ ((longF p pl l).1 < p.f.sorts.length ∧ (longF p pl l).2 = tsize p (longF p pl l).1 ∧ mayB p pl (p.f.sorts.getD (longF p pl l).1 noTS) = true) := by
  suffices h : ∀ (l : List (MayIx p pl)) (a : Nat × Nat), (a.2 = 0 ∨ (a.1 < p.f.sorts.length ∧ a.2 = tsize p a.1 ∧ mayB p pl (p.f.sorts.getD a.1 noTS) = true)) →
      ((l.foldl (fun a x => lstep p a x.1) a).2 = 0 ∨ ((l.foldl (fun a x => lstep p a x.1) a).1 < p.f.sorts.length ∧ (l.foldl (fun a x => lstep p a x.1) a).2 = tsize p (l.foldl (fun a x => lstep p a x.1) a).1 ∧ mayB p pl (p.f.sorts.getD (l.foldl (fun a x => lstep p a x.1) a).1 noTS) = true)) from fun l => h l (0, 0) (.inl rfl)
  intro l
  induction l with
  | nil => intro a h; exact h
  | cons x l ih =>
    intro a h
    rw [List.foldl_cons]
    refine ih _ ?_
    unfold lstep
    split
    · exact .inr ⟨x.2.1, rfl, x.2.2⟩
    · exact h
theorem may_fits {p : PC} {pl : Nat} {x : TS} (h : mayB p pl x = true) (hpl : pl ≤ p.t.size) : pl + x.text.size ≤ p.t.size := by
  unfold mayB at h
  rw [Bool.and_eq_true, Bool.and_eq_true] at h
  have := preB_size h.2.1
  rw [ByteArray.size_extract] at this
  omega
theorem longAt_ok (p : PC) (pl : Nat) (hpl : pl ≤ p.t.size) : (longAt p pl).2 = 0 ∨ ((longAt p pl).1 < p.f.sorts.length ∧ (longAt p pl).2 = tsize p (longAt p pl).1 ∧ pl + (longAt p pl).2 ≤ p.t.size) := by
  rcases longF_ok p pl (mays p pl p.f.sorts.length) with h | ⟨h1, h2, h3⟩
  · exact .inl h
  · refine .inr ⟨h1, h2, ?_⟩
    have := may_fits h3 hpl
    show pl + (longF p pl _).2 ≤ _
    rw [h2]; exact this
def longSet (p : PC) : Nat → Nat → List Int → Option (List Int)
  | 0, _, _ => none
  | k + 1, pl, acc => if pl < p.t.size then (if 0 < (longAt p pl).2 then longSet p k (pl + (longAt p pl).2) (acc ++ [((longAt p pl).1 : Int)]) else none) else some acc
def longP (p : PC) : Option (List Int) := longSet p (p.t.size + 1) 0 []
def SetPost (w : World) (o : Option (List Int)) (e : Ending) (w' : World) : Prop :=
  Below w.heap.size w w' ∧ match o with
  | none => e = .returned (.tuple #[.slice none 0 0, .bool false])
  | some l => ∃ v, e = .returned (.tuple #[v, .bool true]) ∧ IRow w' w.heap.size v l
def PC.Fine (p : PC) : Prop := p.t.size ≤ 1000 ∧ (∀ i, i < p.f.sorts.length → (p.f.sorts.getD i noTS).text.size ≤ 1000) ∧ p.f.sorts.length ≤ 1000

theorem Below_lo {B : Nat} {A C : World} (h : Below B A C) (hB : B ≤ A.heap.size) : B ≤ C.heap.size := Nat.le_trans hB h.size

set_option maxRecDepth 100000 in
set_option maxHeartbeats 400000 in
theorem longest_any (p : PC) (w : World) (hp : p.at_ w) (hf : p.Fine) :
    Calls Tryz.prog 93 #[.agg p.cells] w (SetPost w (longP p)) := by
  obtain ⟨hpt, hts, hns⟩ := hf
  have HTS := Lib.hid hts
  have HP := Lib.hid hp
  have hB0 : Below (w.heap.size + 1) (w.alloc (pcBox p)) (w.alloc (pcBox p)) := Below.refl _ _
  have hbx : (w.alloc (pcBox p)).heap[w.heap.size]? = some (.cells p.cells 175 (0, 0)) := heap_new w _
  unfold pcBox PC.cells at *
  clear hts hp
  go_enter Tryz.func93, Tryz.ntmps93
  go_wp2
  generalize hW1 : w.alloc (.cells #[.string p.f.name, .int .i64 p.f.body, .slice p.a p.f.sorts.length p.c, .string p.t, .slice p.ba p.bl.length p.bc] 175) = W1 at *
  have hl1 : Below w.heap.size w W1 := by rw [← hW1]; exact (Below.refl _ _).alloc (Nat.le_refl _) _
  have hz1 : W1.heap.size = w.heap.size + 1 := by rw [← hW1]; simp
  have HZ1 := Lib.hid hz1
  clear hW1 hz1
  go_loopw [4, 5] (fun v4 v5 wr => ∃ (pl k : Nat) (acc : List Int), pl ≤ p.t.size ∧ p.t.size < k + pl ∧ acc.length ≤ pl ∧ v5 = .int .i64 pl ∧ Hid (longP p = longSet p k pl acc) ∧ IRow wr (w.heap.size + 1) v4 acc ∧ Below (w.heap.size + 1) W1 wr) (fun _ v5 _ => p.t.size - (intOf v5).toNat)
  case atStart => exact ⟨0, p.t.size + 1, [], Nat.zero_le _, by omega, Nat.zero_le _, rfl, Lib.hid rfl, IRow.nil _ _, hB0⟩
  case round =>
    obtain ⟨pl, k, acc, hpl, hk, hacc, rfl, HR, hrow, hB⟩ := hrel
    have hbr : wr.heap[w.heap.size]? = _ := (hB.block w.heap.size (by omega)).trans hbx
    have p0 := cell_of_row wr _ 0 _ _ (0, 0) hbr
    have p1 := cell_of_row wr _ 1 _ _ (0, 0) hbr
    have p2 := cell_of_row wr _ 2 _ _ (0, 0) hbr
    have p3 := cell_of_row wr _ 3 _ _ (0, 0) hbr
    have p4 := cell_of_row wr _ 4 _ _ (0, 0) hbr
    have hlow : Below w.heap.size w wr := hl1.trans (hB.mono (by omega))
    have hpr := HP.out.below hlow
    have hlo := heap_lt hbr
    by_cases hlt : pl < p.t.size
    · have hlt' : (pl : Int) < (p.t.size : Int) := by omega
      obtain ⟨k, rfl⟩ : ∃ k', k = k' + 1 := ⟨k - 1, by omega⟩
      have HL := Lib.hid (longestAt_any p pl wr hpr (by omega) hpt HTS.out hns)
      have hlk := longAt_ok p pl (by omega)
      have hst : longSet p (k + 1) pl acc = if 0 < (longAt p pl).2 then longSet p k (pl + (longAt p pl).2) (acc ++ [((longAt p pl).1 : Int)]) else none := if_pos hlt
      generalize longAt p pl = la at HL hlk hst
      obtain ⟨b, n⟩ := la
      dsimp only at HL hlk hst
      unfold PC.cells at HL
      by_cases hn : 0 < n
      · have HST := Lib.hid (hst.trans (if_pos hn))
        have hd : decide (0 < n) = true := decide_eq_true hn
        rw [hd] at HL
        obtain ⟨h1, h2, h3⟩ := hlk.resolve_left (by omega)
        have HSZ := Lib.hid h2
        clear hst hd hlk h2
        go_wp2_with fail
        refine HL.out.mono ?_
        rintro e w2 ⟨rfl, hb2⟩
        have hrow2 := hrow.below hb2
        have hB2 := hB.trans (hb2.mono (by omega))
        have hlow2 := hlow.trans (hb2.mono (by omega))
        have hbr2 : w2.heap[w.heap.size]? = _ := (hb2.block w.heap.size hlo).trans hbr
        have hlo2 := heap_lt hbr2
        clear p0 p1 p2 p3 p4 HL hrow hb2
        obtain ⟨a9, d9, hv9, _⟩ := hrow2.shape
        subst hv9
        go_wp2_with (at_builtin; refine wpList_app1 w2 _ rfl _ _ rfl (w.heap.size + 1) _ acc rfl hrow2 rfl (by omega) (by omega) ?_; intro g9 c9 w9 hrow9 hgrow9 hb9; have hbr9 : w9.heap[w.heap.size]? = _ := (hb9.block w.heap.size (by omega)).trans hbr2; have q0 := cell_of_row w9 _ 0 _ _ (0, 0) hbr9; have q1 := cell_of_row w9 _ 1 _ _ (0, 0) hbr9; have q2 := cell_of_row w9 _ 2 _ _ (0, 0) hbr9; have q3 := cell_of_row w9 _ 3 _ _ (0, 0) hbr9; have q4 := cell_of_row w9 _ 4 _ _ (0, 0) hbr9)
        have hlow9 := hlow2.trans (hb9.mono (by omega))
        have HPR := Lib.hid (printed_any p b w9 (HP.out.below hlow9) h1)
        unfold pcBox PC.cells at HPR
        have htz : tsize p b = (p.f.sorts.getD b noTS).text.size := rfl
        have htx := HTS.out b h1
        generalize (p.f.sorts.getD b noTS).text = tx at HPR htz htx
        have hnt : n = tx.size := HSZ.out.trans htz
        subst hnt
        clear htz HSZ
        go_wp2_with fail
        refine HPR.out.mono ?_
        rintro e w10 ⟨rfl, hw10⟩
        have HR10 := Lib.hid (show IRow w10 (w.heap.size + 1) (.slice (some ⟨g9, 0, none⟩) (acc.length + 1) c9) (acc ++ [(b : Int)]) by rw [hw10]; exact hrow9.alloc _)
        have HB10 := Lib.hid (show Below (w.heap.size + 1) W1 w10 by rw [hw10]; exact (hB2.trans hb9).alloc (Below_lo (hB2.trans hb9) (by rw [HZ1.out]; exact Nat.le_refl _)) _)
        clear hw10 HPR
        go_wp2
        go_roundw
        case rel => exact ⟨pl + tx.size, k, acc ++ [(b : Int)], h3, by omega, by simp; omega, by go_num, Lib.hid (HR.out.trans HST.out), HR10.out, HB10.out⟩
        case measure => simp [intOf]; omega
      · have HST := Lib.hid (hst.trans (if_neg hn))
        have hd : decide (0 < n) = false := decide_eq_false hn
        rw [hd] at HL
        clear hst hd hlk
        go_wp2_with fail
        refine HL.out.mono ?_
        rintro e w2 ⟨rfl, hb2⟩
        go_wp2
        go_ret2
        exact ⟨hlow.trans (hb2.mono (by omega)), by rw [HR.out, HST.out]; exact rfl⟩
    · have hlt' : ¬ (pl : Int) < (p.t.size : Int) := by omega
      obtain ⟨k, rfl⟩ : ∃ k', k = k' + 1 := ⟨k - 1, by omega⟩
      have HST := Lib.hid (show longSet p (k + 1) pl acc = some acc from if_neg hlt)
      go_wp2
      go_ret2
      exact ⟨hlow, by rw [HR.out, HST.out]; exact ⟨_, rfl, hrow.mono (by omega)⟩⟩
end Go.Proofs.YtomblajlpanmjaaGreatDoor
