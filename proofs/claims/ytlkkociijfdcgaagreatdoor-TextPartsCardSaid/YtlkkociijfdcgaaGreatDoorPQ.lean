/-
  Parted: the program's.
-/
import Derived.Test.YtlkkociijfdcgaaGreatDoorPO
import Derived.Test.YtlkkociijfdcgaaGreatDoorPN
import Derived.Deep.AppendLies
namespace Go.Proofs.YtlkkociijfdcgaaGreatDoor
open Go.RowKit Go.Maps Go.Shelf

/-- What both Parted answer. -/
def PAns (w : World) (x : Int × List Int × List Int) (e : Ending) (w' : World) : Prop :=
  Below w.heap.size w w' ∧ ∃ A0 k0 A1 k1, e = .returned (.tuple #[.agg #[.slice A0 x.2.1.length k0, .slice A1 x.2.2.length k1], .int .i64 x.1]) ∧ IRow w' w.heap.size (.slice A0 x.2.1.length k0) x.2.1 ∧ IRow w' w.heap.size (.slice A1 x.2.2.length k1) x.2.2
theorem PAns.err {w w' : World} (E : Int) (hb : Below w.heap.size w w') : PAns w (E, [], []) (.returned (.tuple #[.agg #[.slice none 0 0, .slice none 0 0], .int .i64 E])) w' :=
  ⟨hb, none, 0, none, 0, rfl, IRow.nil _ _, IRow.nil _ _⟩
/-- The boxes of the call. -/
structure PTK (w : World) (f : FT) (a : Option Addr) (c : Nat) (r : RU) (s : ByteArray) (place : Int) (wr : World) : Prop where
  fr : FRK w f a c r wr
  tb : wr.heap[w.heap.size + 2]? = some (.cells #[.string s, .int .i64 place] 104 (0, 0))
  rb : wr.heap[w.heap.size + 3]? = some (.cells #[.slice none 0 0, .slice none 0 0] 105 (0, 0))
section
variable {w wr wr' : World} {f : FT} {a : Option Addr} {c : Nat} {r : RU} {s : ByteArray} {place : Int}
theorem PTK.below (h : PTK w f a c r s place wr) (hb : Below wr.heap.size wr wr') : PTK w f a c r s place wr' := ⟨h.fr.below hb, (hb.block _ (heap_lt h.tb)).trans h.tb, (hb.block _ (heap_lt h.rb)).trans h.rb⟩
theorem PTK.drew (h : PTK w f a c r s place wr) : PTK w f a c r s place wr.drew := ⟨⟨h.fr.fb, h.fr.rb, h.fr.low.drew⟩, h.tb, h.rb⟩
theorem PTK.start : PTK w f a c r s place ((((w.alloc (.cells #[.string f.name, .int .i64 f.body, .slice a f.sorts.length c] 59)).alloc (.cells #[.slice r.ps.a r.ps.l.length r.ps.c, .slice r.es.a r.es.l.length r.es.c, .slice r.bs.a r.bs.l.length r.bs.c, .int .i64 r.left, .int .i64 r.right] 24)).alloc (.cells #[.string s, .int .i64 place] 104)).alloc (.cells #[.slice none 0 0, .slice none 0 0] 105)) := by
  have h0 := frk_start w f a c r
  have h1 := h0.below ((Below.refl _ _).alloc (Nat.le_refl _) (.cells #[.string s, .int .i64 place] 104))
  have h2 := h1.below ((Below.refl _ _).alloc (Nat.le_refl _) (.cells #[.slice none 0 0, .slice none 0 0] 105))
  have t1 := heap_new ((w.alloc (.cells #[.string f.name, .int .i64 f.body, .slice a f.sorts.length c] 59)).alloc (.cells #[.slice r.ps.a r.ps.l.length r.ps.c, .slice r.es.a r.es.l.length r.es.c, .slice r.bs.a r.bs.l.length r.bs.c, .int .i64 r.left, .int .i64 r.right] 24)) (.cells #[.string s, .int .i64 place] 104)
  have t2 := heap_new (((w.alloc (.cells #[.string f.name, .int .i64 f.body, .slice a f.sorts.length c] 59)).alloc (.cells #[.slice r.ps.a r.ps.l.length r.ps.c, .slice r.es.a r.es.l.length r.es.c, .slice r.bs.a r.bs.l.length r.bs.c, .int .i64 r.left, .int .i64 r.right] 24)).alloc (.cells #[.string s, .int .i64 place] 104)) (.cells #[.slice none 0 0, .slice none 0 0] 105)
  rw [World.size_alloc, World.size_alloc] at t1
  rw [World.size_alloc, World.size_alloc, World.size_alloc] at t2
  exact ⟨h2, heap_keep t1, t2⟩
theorem PTK.tc (h : PTK w f a c r s place wr) : wr.cell? ⟨w.heap.size + 2, 0, none⟩ = some (.string s) ∧ wr.cell? ⟨w.heap.size + 2, 1, none⟩ = some (.int .i64 place) := ⟨cell_of_row wr _ 0 _ _ (0, 0) h.tb, cell_of_row wr _ 1 _ _ (0, 0) h.tb⟩
theorem PTK.rc (h : PTK w f a c r s place wr) : wr.cell? ⟨w.heap.size + 3, 0, none⟩ = some (.slice none 0 0) ∧ wr.cell? ⟨w.heap.size + 3, 1, none⟩ = some (.slice none 0 0) := ⟨cell_of_row wr _ 0 _ _ (0, 0) h.rb, cell_of_row wr _ 1 _ _ (0, 0) h.rb⟩
theorem part_ret (hrb : wr.heap[w.heap.size + 3]? = some (.cells #[.slice none 0 0, .slice none 0 0] 105 (0, 0))) (hl : Below w.heap.size w wr) (v0 v1 : Value) : ((wr.setCell ⟨w.heap.size + 1 + 1 + 1, 0, none⟩ v0).setCell ⟨w.heap.size + 1 + 1 + 1, 1, none⟩ v1).cell? ⟨w.heap.size + 1 + 1 + 1, 0, none⟩ = some v0 ∧ ((wr.setCell ⟨w.heap.size + 1 + 1 + 1, 0, none⟩ v0).setCell ⟨w.heap.size + 1 + 1 + 1, 1, none⟩ v1).cell? ⟨w.heap.size + 1 + 1 + 1, 1, none⟩ = some v1 ∧ Below w.heap.size w ((wr.setCell ⟨w.heap.size + 1 + 1 + 1, 0, none⟩ v0).setCell ⟨w.heap.size + 1 + 1 + 1, 1, none⟩ v1) := by
  have z := pat_set (pat_set (j := 0) (u := v0) hrb) 1 v1
  exact ⟨cell_of_row _ _ 0 _ _ (0, 0) z, cell_of_row _ _ 1 _ _ (0, 0) z, (hl.setCell (p := ⟨w.heap.size + 1 + 1 + 1, 0, none⟩) (by show w.heap.size ≤ w.heap.size + 1 + 1 + 1; omega) v0).setCell (p := ⟨w.heap.size + 1 + 1 + 1, 1, none⟩) (by show w.heap.size ≤ w.heap.size + 1 + 1 + 1; omega) v1⟩
theorem PTK.ret (h : PTK w f a c r s place wr) (v0 v1 : Value) : ((wr.setCell ⟨w.heap.size + 1 + 1 + 1, 0, none⟩ v0).setCell ⟨w.heap.size + 1 + 1 + 1, 1, none⟩ v1).cell? ⟨w.heap.size + 1 + 1 + 1, 0, none⟩ = some v0 ∧ ((wr.setCell ⟨w.heap.size + 1 + 1 + 1, 0, none⟩ v0).setCell ⟨w.heap.size + 1 + 1 + 1, 1, none⟩ v1).cell? ⟨w.heap.size + 1 + 1 + 1, 1, none⟩ = some v1 ∧ Below w.heap.size w ((wr.setCell ⟨w.heap.size + 1 + 1 + 1, 0, none⟩ v0).setCell ⟨w.heap.size + 1 + 1 + 1, 1, none⟩ v1) := part_ret h.rb h.fr.low v0 v1
theorem PTK.rf (h : PTK w f a c r s place wr) (j : Nat) : wr.frozen? ⟨w.heap.size + 3, j, none⟩ = false := by simp [World.frozen?, h.rb]
end
set_option maxRecDepth 100000 in
set_option maxHeartbeats 4000000 in
theorem parted_any (f : FT) (a : Option Addr) (c : Nat) (r : RU) (s : ByteArray) (place : Int) (w : World) (hF : FAt w a f) (hR : r.at_ w) (hs : s.size ≤ maxLen) :
    Calls Tryz.prog 68 #[.agg #[.string f.name, .int .i64 f.body, .slice a f.sorts.length c], .agg r.cells, .agg #[.string s, .int .i64 place]] w (PAns w (partErr2 f r s place)) := by
  have hK0 : PTK w f a c r s place _ := PTK.start
  have HSF := Lib.hid (setterFor_any f a c r s _ (hF.below hK0.fr.low) (hR.below hK0.fr.low) hs)
  have HFS := Lib.hid hF.at_
  have HPG := Lib.hid (fun W (h : PTK w f a c r s place W) => Printing_any f a c hyT W (by show 1 ≤ maxLen; decide) (hF.below h.fr.low))
  obtain ⟨X, hX⟩ : ∃ X, X = partErr2 f r s place := ⟨_, rfl⟩
  have HX := Lib.hid hX
  rw [← hX]
  unfold RU.cells at *
  clear hX hF hR
  by_cases h0 : setErrW f r s = 0
  · obtain ⟨hcf, hcr, hwe⟩ := setErrW_ok h0
    have HX2 := Lib.hid (show X = partR f r s place by rw [HX.out]; unfold partErr2; rw [if_neg (fun h => h h0)])
    have H0 := Lib.hid h0
    go_enter Tryz.func68, Tryz.ntmps68
    go_wp2_with fail
    refine HSF.out.mono ?_
    rintro e w1 ⟨hb1, hp1⟩
    rw [if_pos H0.out] at hp1
    obtain ⟨g, b1, b2, rfl, hbk⟩ := hp1
    unfold setV
    have hK1 := hK0.below hb1
    have hb2 := (Below.refl w1.heap.size w1).alloc (Nat.le_refl _) (.cells #[.string f.name, .int .i64 f.body, .slice a f.sorts.length c, .slice (some ⟨g, 0, none⟩) r.ps.l.length r.ps.l.length, .map (some b1), .map (some b2), .int .i64 r.left, .int .i64 r.right] 183)
    have hK2 := hK1.below hb2
    have hbk2 := hbk.below (hb2.mono (Nat.le_refl _))
    have n2 := heap_new w1 (.cells #[.string f.name, .int .i64 f.body, .slice a f.sorts.length c, .slice (some ⟨g, 0, none⟩) r.ps.l.length r.ps.l.length, .map (some b1), .map (some b2), .int .i64 r.left, .int .i64 r.right] 183)
    obtain ⟨W2, hW2⟩ : ∃ W2, W2 = w1.alloc (.cells #[.string f.name, .int .i64 f.body, .slice a f.sorts.length c, .slice (some ⟨g, 0, none⟩) r.ps.l.length r.ps.l.length, .map (some b1), .map (some b2), .int .i64 r.left, .int .i64 r.right] 183) := ⟨_, rfl⟩
    rw [← hW2] at hK2 hbk2 n2
    have HW2 := Lib.hid hW2
    have hltA : w1.heap.size < W2.heap.size := heap_lt n2
    have hltB : w.heap.size + 2 < W2.heap.size := heap_lt hK2.tb
    clear hW2 hK0 hK1 hb1 hb2 hbk HSF
    obtain ⟨hsz1, hsz⟩ := word_size hwe
    have hre := ruleErr_of hcr hwe
    obtain ⟨hn60, hok⟩ := checkR_pats hcr
    have HHY := Lib.hid (fun g b1 b2 base W (hB : BookAt W base r g b1 b2) => (show Calls Tryz.prog 121 #[.agg #[.slice (some ⟨g, 0, none⟩) r.ps.l.length r.ps.l.length, .map (some b1), .map (some b2), .int .i64 r.left, .int .i64 r.right], .string s] W (fun e w' => ∃ (a : Option Addr) (c : Nat), e = .returned (.slice a (ruleHyph r s).length c) ∧ IRow w' W.heap.size (.slice a (ruleHyph r s).length c) (ruleHyph r s) ∧ Below W.heap.size W w') from hyphens_any r base g b1 b2 s W hB hok (by omega) (by omega) (word_ascii hwe) (hyph_bounds hre).1))
    have hhl := (hyph_bounds hre).2.1
    have hfi := fount_fine hcf
    have hbp := barsOf_places r s
    obtain ⟨q0, q1, q2, q3, q4, q5, q6, q7⟩ : _ ∧ _ ∧ _ ∧ _ ∧ _ ∧ _ ∧ _ ∧ _ := ⟨cell_of_row W2 _ 0 _ _ (0, 0) n2, cell_of_row W2 _ 1 _ _ (0, 0) n2, cell_of_row W2 _ 2 _ _ (0, 0) n2, cell_of_row W2 _ 3 _ _ (0, 0) n2, cell_of_row W2 _ 4 _ _ (0, 0) n2, cell_of_row W2 _ 5 _ _ (0, 0) n2, cell_of_row W2 _ 6 _ _ (0, 0) n2, cell_of_row W2 _ 7 _ _ (0, 0) n2⟩
    obtain ⟨t0, t1⟩ := hK2.tc
    clear h0 HX hre hn60 hok
    have HPO := Lib.hid (fun (i j : Nat) (hij : i ≤ j) (hj : j ≤ s.size) base W (hB : BookAt W base r g b1 b2) => (show Calls Tryz.prog 112 #[.agg #[.string f.name, .int .i64 f.body, .slice a f.sorts.length c, .slice (some ⟨g, 0, none⟩) r.ps.l.length r.ps.l.length, .map (some b1), .map (some b2), .int .i64 r.left, .int .i64 r.right], .string s, .int .i64 i, .int .i64 j] W (fun e w' => Below W.heap.size W w' ∧ ∃ ba bc, e = .returned (.agg #[.string f.name, .int .i64 f.body, .slice a f.sorts.length c, .string (s.extract i j), .slice ba (minusL (barsOf r s) i).length bc]) ∧ IntsAt w' ba (minusL (barsOf r s) i)) from pieceOf_any f a c r g b1 b2 base s i j W hij hj hsz hB))
    have HLO := Lib.hid (fun (i j : Nat) (hi : i ≤ 30) W ba bc (hl : Below w.heap.size w W) (hI : IntsAt W ba (minusL (barsOf r s) i)) => (show Calls Tryz.prog 105 #[.agg #[.string f.name, .int .i64 f.body, .slice a f.sorts.length c, .string (s.extract i j), .slice ba (minusL (barsOf r s) i).length bc]] W (SetPost W (longP (wordP f none 0 r s i j))) by
      have h := longest_any (PC.mk f a c (s.extract i j) ba bc (minusL (barsOf r s) i)) W ⟨HFS.out.below hl, hI, places_minus hbp (by omega)⟩ ⟨by show (s.extract i j).size ≤ 1000; rw [ByteArray.size_extract]; omega, hfi.2, hfi.1⟩
      rw [show longP (PC.mk f a c (s.extract i j) ba bc (minusL (barsOf r s) i)) = longP (wordP f none 0 r s i j) from longSet_same ..] at h
      exact h))
    by_cases hin : place ∈ ruleHyph r s
    · have HCN := Lib.hid (fun A k W base (hI : IRow W base (.slice A (ruleHyph r s).length k) (ruleHyph r s)) => (show Calls Tryz.prog 125 #[.slice A (ruleHyph r s).length k, .int .i64 place] W (fun e w' => e = .returned (.bool true) ∧ W = w') by
        have h := containsI_any A k (ruleHyph r s) place W base hI (by unfold maxLen; omega)
        rw [decide_eq_true hin] at h
        exact h))
      go_wp2_with fail
      rw [← HW2.out]
      go_region_held3 (fun w' => w'.cell? ⟨w1.heap.size, 3, none⟩ = some (.slice (some ⟨g, 0, none⟩) r.ps.l.length r.ps.l.length) ∧ w'.cell? ⟨w1.heap.size, 4, none⟩ = some (.map (some b1)) ∧ w'.cell? ⟨w1.heap.size, 5, none⟩ = some (.map (some b2)) ∧ w'.cell? ⟨w1.heap.size, 6, none⟩ = some (.int .i64 r.left) ∧ w'.cell? ⟨w1.heap.size, 7, none⟩ = some (.int .i64 r.right) ∧ w'.cell? ⟨w.heap.size + 2, 0, none⟩ = some (.string s) ∧ w'.cell? ⟨w.heap.size + 2, 1, none⟩ = some (.int .i64 place)) (go_keep)
        (first
         | (go_at_call 121; refine (HHY.out g b1 b2 _ _ (by first | exact hbk2 | exact hbk2.drew)).mono ?_; rintro e w5 ⟨A5, cp5, rfl, hI5, hb5d⟩; have hb5 : Below W2.heap.size W2 w5 := (Below.refl _ _).drew.trans hb5d; have k3 := (hb5.cell (p := ⟨w1.heap.size, 3, none⟩) hltA).trans q3; have k4 := (hb5.cell (p := ⟨w1.heap.size, 4, none⟩) hltA).trans q4; have k5 := (hb5.cell (p := ⟨w1.heap.size, 5, none⟩) hltA).trans q5; have k6 := (hb5.cell (p := ⟨w1.heap.size, 6, none⟩) hltA).trans q6; have k7 := (hb5.cell (p := ⟨w1.heap.size, 7, none⟩) hltA).trans q7; have k8 := (hb5.cell (p := ⟨w.heap.size + 2, 0, none⟩) hltB).trans t0; have k9 := (hb5.cell (p := ⟨w.heap.size + 2, 1, none⟩) hltB).trans t1)
         | (go_at_call 125; refine (HCN.out _ cp5 _ _ hI5).mono ?_; rintro e w6 ⟨rfl, rfl⟩))
      obtain ⟨p, rfl, hp1, hp2⟩ := hyph_in hcr hin
      have HX3 := Lib.hid (show X = match longP (wordP f none 0 r s 0 p), hyI f, longP (wordP f none 0 r s p s.size) with
        | some l1, some h, some l2 => (0, l1 ++ [(h : Int)], l2)
        | _, _, _ => (6, [], []) by rw [HX2.out]; unfold partR; rw [if_pos hin, Int.toNat_natCast]; try rfl)
      have HP1 := Lib.hid (HPO.out 0 p (Nat.zero_le _) (by omega))
      have HP2 := Lib.hid (HPO.out p s.size (by omega) (Nat.le_refl _))
      have HL1 := Lib.hid (HLO.out 0 p (by omega))
      have HL2 := Lib.hid (HLO.out p s.size (by omega))
      have hl1b := fun l (h : longP (wordP f none 0 r s 0 p) = some l) => path_len (p := wordP f none 0 r s 0 p) (texted hcf) l 0 (longP_some h)
      have hz1 : (wordP f none 0 r s 0 p).t.size ≤ 30 := by show (s.extract 0 p).size ≤ 30; rw [ByteArray.size_extract]; omega
      have HLB := Lib.hid hl1b
      have HPR := Lib.hid (fun W (h : PTK w f a c r s p W) => (show Calls Tryz.prog 75 #[.agg #[.string f.name, .int .i64 f.body, .slice a f.sorts.length c], .string hyT] W (fun e w' => e = .returned (.tuple #[.int .i64 (numR (hyI f)).1, .int .i64 (numR (hyI f)).2]) ∧ Below W.heap.size W w') by
        have h := HPG.out W h
        rw [show findR f (sameText hyT) = numR (hyI f) by unfold findR; rw [if_neg (fun h => h hcf)]; try rfl] at h
        exact h))
      obtain ⟨oA, hoA⟩ : ∃ o, o = longP (wordP f none 0 r s 0 p) := ⟨_, rfl⟩
      obtain ⟨oB, hoB⟩ : ∃ o, o = longP (wordP f none 0 r s p s.size) := ⟨_, rfl⟩
      obtain ⟨oH, hoH⟩ : ∃ o, o = hyI f := ⟨_, rfl⟩
      rw [← hoA] at HX3 HL1 HLB
      rw [← hoB] at HX3 HL2
      rw [← hoH] at HX3 HPR
      have hK5 := hK2.below hb5
      have hbk5 := hbk2.below hb5
      have n5 := (hb5.block _ (heap_lt n2)).trans n2
      clear hl1b hoA hoB hoH HPG HPO HLO HHY HCN q0 q1 q2 q3 q4 q5 q6 q7 t0 t1 k3 k4 k5 k6 k7 k8 k9 hK2 hbk2 n2 hb5 hb5d hI5 hin hltA hltB HX2
      obtain ⟨q0, q1, q2, q3, q4, q5, q6, q7⟩ : _ ∧ _ ∧ _ ∧ _ ∧ _ ∧ _ ∧ _ ∧ _ := ⟨cell_of_row w5 _ 0 _ _ (0, 0) n5, cell_of_row w5 _ 1 _ _ (0, 0) n5, cell_of_row w5 _ 2 _ _ (0, 0) n5, cell_of_row w5 _ 3 _ _ (0, 0) n5, cell_of_row w5 _ 4 _ _ (0, 0) n5, cell_of_row w5 _ 5 _ _ (0, 0) n5, cell_of_row w5 _ 6 _ _ (0, 0) n5, cell_of_row w5 _ 7 _ _ (0, 0) n5⟩
      obtain ⟨t0, t1⟩ := hK5.tc
      obtain ⟨y0, y1⟩ := hK5.rc
      have fz := hK5.rf
      unfold hyT at HPR
      go_wp2_with fail
      refine (HP1.out _ _ hbk5).mono ?_
      rintro e w6 ⟨hb6, ba6, bc6, rfl, hI6⟩
      have hK6 := hK5.below hb6
      have HL1b := Lib.hid (HL1.out w6 ba6 bc6 hK6.fr.low hI6)
      have hbk6 := hbk5.below hb6
      have n6 := (hb6.block _ (heap_lt n5)).trans n5
      clear q0 q1 q2 q3 q4 q5 q6 q7 t0 t1 hK5 hbk5 n5 hb6 HP1 HL1 hI6
      cases oA with
      | none =>
        have HV := Lib.hid (show X = (6, [], []) from HX3.out)
        go_wp2_with fail
        refine HL1b.out.mono ?_
        intro e w7 hp7
        obtain ⟨hb7, rfl⟩ := SetPost.none hp7
        have hK7 := hK6.below hb7
        obtain ⟨y0, y1⟩ := hK7.rc
        have fz := hK7.rf
        clear hp7 hb7 hK6 hbk6 n6
        go_wp2_with fail
        refine (sortsOf_none none 0 0 _).mono ?_
        rintro e w8 ⟨rfl, rfl⟩
        go_wp2
        clear y0 y1
        obtain ⟨y0, y1, hlow⟩ := hK7.ret (.slice none 0 0) (.slice none 0 0)
        refine bodyPost_ret (v := .tuple #[.agg #[.slice none 0 0, .slice none 0 0], .int .i64 6]) ?_ rfl ?_
        · simp [results, Tryz.results68, go_sem, y0, y1]
        · rw [HV.out]; exact PAns.err _ hlow
      | some l1 =>
        have hl1 := HLB.out l1 rfl
        go_wp2_with fail
        refine HL1b.out.mono ?_
        intro e w7 hp7
        obtain ⟨hb7, A7, k7, rfl, hI7⟩ := SetPost.some hp7
        have hz7 := hb7.size
        have hz6 := heap_lt hK6.rb
        have hK7 := hK6.below hb7
        have hbk7 := hbk6.below hb7
        have n7 := (hb7.block _ (heap_lt n6)).trans n6
        clear hp7 hb7 hK6 hbk6 n6
        obtain ⟨c0, c1, c2⟩ := hK7.fr.fc
        obtain ⟨y0, y1⟩ := hK7.rc
        have fz := hK7.rf
        have HPRb := Lib.hid (HPR.out w7 hK7)
        go_wp2_with fail
        refine (sortsOf_some A7 l1.length k7 _).mono ?_
        rintro e w8 ⟨rfl, rfl⟩
        cases oH with
        | none =>
          have HV := Lib.hid (show X = (6, [], []) from HX3.out)
          go_wp2_with fail
          refine HPRb.out.mono ?_
          rintro e w9 ⟨rfl, hb9⟩
          have hK9 := hK7.below hb9
          obtain ⟨y0, y1⟩ := hK9.rc
          have fz := hK9.rf
          unfold numR
          go_wp2
          clear y0 y1
          obtain ⟨y0, y1, hlow⟩ := hK9.ret (.slice none 0 0) (.slice none 0 0)
          refine bodyPost_ret (v := .tuple #[.agg #[.slice none 0 0, .slice none 0 0], .int .i64 6]) ?_ rfl ?_
          · simp [results, Tryz.results68, go_sem, y0, y1]
          · rw [HV.out]; exact PAns.err _ hlow
        | some h =>
          go_wp2_with fail
          refine HPRb.out.mono ?_
          rintro e w9 ⟨rfl, hb9⟩
          have hK9 := hK7.below hb9
          have hbk9 := hbk7.below hb9
          have n9 := (hb9.block _ (heap_lt n7)).trans n7
          have hI9 := hI7.below hb9
          have hz9a := hb9.size
          clear hK7 hbk7 n7 hI7 c0 c1 c2 y0 y1 fz hb9 HPRb HPR
          obtain ⟨q0, q1, q2, q3, q4, q5, q6, q7⟩ : _ ∧ _ ∧ _ ∧ _ ∧ _ ∧ _ ∧ _ ∧ _ := ⟨cell_of_row w9 _ 0 _ _ (0, 0) n9, cell_of_row w9 _ 1 _ _ (0, 0) n9, cell_of_row w9 _ 2 _ _ (0, 0) n9, cell_of_row w9 _ 3 _ _ (0, 0) n9, cell_of_row w9 _ 4 _ _ (0, 0) n9, cell_of_row w9 _ 5 _ _ (0, 0) n9, cell_of_row w9 _ 6 _ _ (0, 0) n9, cell_of_row w9 _ 7 _ _ (0, 0) n9⟩
          obtain ⟨t0, t1⟩ := hK9.tc
          unfold numR
          dsimp only
          go_wp2_with fail
          refine (HP2.out _ _ hbk9).mono ?_
          rintro e w10 ⟨hb10, ba10, bc10, rfl, hI10⟩
          have hK10 := hK9.below hb10
          have HL2b := Lib.hid (HL2.out w10 ba10 bc10 hK10.fr.low hI10)
          have hI11 := hI9.below hb10
          have hz10 := hb10.size
          have hz9 := hz9a
          clear q0 q1 q2 q3 q4 q5 q6 q7 t0 t1 hK9 hbk9 n9 hb10 HP2 HL2 hI10 hI9
          cases oB with
          | none =>
            have HV := Lib.hid (show X = (6, [], []) from HX3.out)
            go_wp2_with fail
            refine HL2b.out.mono ?_
            intro e w12 hp12
            obtain ⟨hb12, rfl⟩ := SetPost.none hp12
            have hK12 := hK10.below hb12
            obtain ⟨y0, y1⟩ := hK12.rc
            have fz := hK12.rf
            clear hp12 hb12 hK10
            go_wp2_with fail
            refine (sortsOf_none none 0 0 _).mono ?_
            rintro e w13 ⟨rfl, rfl⟩
            go_wp2
            clear y0 y1
            obtain ⟨y0, y1, hlow⟩ := hK12.ret (.slice none 0 0) (.slice none 0 0)
            refine bodyPost_ret (v := .tuple #[.agg #[.slice none 0 0, .slice none 0 0], .int .i64 6]) ?_ rfl ?_
            · simp [results, Tryz.results68, go_sem, y0, y1]
            · rw [HV.out]; exact PAns.err _ hlow
          | some l2 =>
            have HV := Lib.hid (show X = (0, l1 ++ [(h : Int)], l2) from HX3.out)
            go_wp2_with fail
            refine HL2b.out.mono ?_
            intro e w12 hp12
            obtain ⟨hb12, A12, k12, rfl, hI12⟩ := SetPost.some hp12
            have hK12 := hK10.below hb12
            have hI13 := hI11.below hb12
            obtain ⟨y0, y1⟩ := hK12.rc
            have fz := hK12.rf
            go_wp2_with fail
            refine (sortsOf_some A12 l2.length k12 _).mono ?_
            rintro e w13 ⟨rfl, rfl⟩
            clear hp12 y0 y1 fz
            have hz12 := hb12.size
            have hz67 : w6.heap.size ≤ w10.heap.size := by omega
            have hl1n : l1.length ≤ 1000000 := by omega
            go_wp2_with (at_builtin; refine wpList_app1 w13 _ rfl _ _ rfl w6.heap.size _ l1 rfl hI13 rfl hl1n (by omega) ?_; intro g14 c14 w14 hrow14 hgrow14 hb14; have rb14 := (hb14.block _ (by omega)).trans hK12.rb; have y0 : w14.cell? ⟨w.heap.size + 3, 0, none⟩ = some (.slice none 0 0) := cell_of_row w14 _ 0 _ _ (0, 0) rb14; have y1 : w14.cell? ⟨w.heap.size + 3, 1, none⟩ = some (.slice none 0 0) := cell_of_row w14 _ 1 _ _ (0, 0) rb14; have fz : ∀ j, w14.frozen? ⟨w.heap.size + 3, j, none⟩ = false := (fun j => by simp [World.frozen?, rb14]))
            clear y0 y1 fz
            have hl14 : Below w.heap.size w w14 := hK12.fr.low.trans (hb14.mono (by omega))
            obtain ⟨y0, y1, hlow⟩ := part_ret rb14 hl14 (.slice (some ⟨g14, 0, none⟩) (l1.length + 1) c14) (.slice A12 l2.length k12)
            have hI14 := irow_grown hI12 hgrow14 (fun q e1 e2 => by
              have h1 := (hI12.lt q e1).1
              have h2 := (hI11.lt q e2.symm).2
              omega)
            have hj1 := ((show IRow w14 w6.heap.size (.slice (some ⟨g14, 0, none⟩) (l1.length + 1) c14) (l1 ++ [(h : Int)]) from hrow14).set (p := ⟨w.heap.size + 1 + 1 + 1, 0, none⟩) hz6 (.slice (some ⟨g14, 0, none⟩) (l1.length + 1) c14)).set (p := ⟨w.heap.size + 1 + 1 + 1, 1, none⟩) hz6 (.slice A12 l2.length k12)
            have hj2 := (hI14.set (p := ⟨w.heap.size + 1 + 1 + 1, 0, none⟩) (show w.heap.size + 1 + 1 + 1 < w10.heap.size by omega) (.slice (some ⟨g14, 0, none⟩) (l1.length + 1) c14)).set (p := ⟨w.heap.size + 1 + 1 + 1, 1, none⟩) (show w.heap.size + 1 + 1 + 1 < w10.heap.size by omega) (.slice A12 l2.length k12)
            obtain ⟨a15, c15, e15, -, hc15, -⟩ := hj1.shape
            obtain ⟨a16, c16, e16, -, hc16, -⟩ := hj2.shape
            injection e15 with _ _ e15
            injection e16 with _ _ e16
            subst e15 e16
            refine bodyPost_ret (v := .tuple #[.agg #[.slice (some ⟨g14, 0, none⟩) (l1.length + 1) c14, .slice A12 l2.length k12], .int .i64 0]) ?_ rfl ?_
            · simp [results, Tryz.results68, go_sem, y0, y1]
            · rw [HV.out]
              exact ⟨hlow, some ⟨g14, 0, none⟩, c14, A12, k12, by rw [List.length_append]; try rfl, by show IRow _ _ (.slice _ (l1 ++ [(h : Int)]).length _) _; rw [List.length_append]; exact hj1.mono (by omega), hj2.mono (by omega)⟩
    · have HCN := Lib.hid (fun A k W base (hI : IRow W base (.slice A (ruleHyph r s).length k) (ruleHyph r s)) => (show Calls Tryz.prog 125 #[.slice A (ruleHyph r s).length k, .int .i64 place] W (fun e w' => e = .returned (.bool false) ∧ W = w') by
        have h := containsI_any A k (ruleHyph r s) place W base hI (by unfold maxLen; omega)
        rw [decide_eq_false hin] at h
        exact h))
      have HV := Lib.hid (show X = (26, [], []) by rw [HX2.out]; unfold partR; rw [if_neg hin])
      go_wp2_with fail
      rw [← HW2.out]
      go_region_held3 (fun w' => w'.cell? ⟨w1.heap.size, 3, none⟩ = some (.slice (some ⟨g, 0, none⟩) r.ps.l.length r.ps.l.length) ∧ w'.cell? ⟨w1.heap.size, 4, none⟩ = some (.map (some b1)) ∧ w'.cell? ⟨w1.heap.size, 5, none⟩ = some (.map (some b2)) ∧ w'.cell? ⟨w1.heap.size, 6, none⟩ = some (.int .i64 r.left) ∧ w'.cell? ⟨w1.heap.size, 7, none⟩ = some (.int .i64 r.right) ∧ w'.cell? ⟨w.heap.size + 2, 0, none⟩ = some (.string s) ∧ w'.cell? ⟨w.heap.size + 2, 1, none⟩ = some (.int .i64 place)) (go_keep)
        (first
         | (go_at_call 121; refine (HHY.out g b1 b2 _ _ (by first | exact hbk2 | exact hbk2.drew)).mono ?_; rintro e w5 ⟨A5, cp5, rfl, hI5, hb5d⟩; have hb5 : Below W2.heap.size W2 w5 := (Below.refl _ _).drew.trans hb5d; have k3 := (hb5.cell (p := ⟨w1.heap.size, 3, none⟩) hltA).trans q3; have k4 := (hb5.cell (p := ⟨w1.heap.size, 4, none⟩) hltA).trans q4; have k5 := (hb5.cell (p := ⟨w1.heap.size, 5, none⟩) hltA).trans q5; have k6 := (hb5.cell (p := ⟨w1.heap.size, 6, none⟩) hltA).trans q6; have k7 := (hb5.cell (p := ⟨w1.heap.size, 7, none⟩) hltA).trans q7; have k8 := (hb5.cell (p := ⟨w.heap.size + 2, 0, none⟩) hltB).trans t0; have k9 := (hb5.cell (p := ⟨w.heap.size + 2, 1, none⟩) hltB).trans t1)
         | (go_at_call 125; refine (HCN.out _ cp5 _ _ hI5).mono ?_; rintro e w6 ⟨rfl, rfl⟩))
      have hK5 := hK2.below hb5
      obtain ⟨y0, y1⟩ := hK5.rc
      have fz := hK5.rf
      go_wp2
      clear y0 y1
      obtain ⟨y0, y1, hlow⟩ := hK5.ret (.slice none 0 0) (.slice none 0 0)
      refine bodyPost_ret (v := .tuple #[.agg #[.slice none 0 0, .slice none 0 0], .int .i64 26]) ?_ rfl ?_
      · simp [results, Tryz.results68, go_sem, y0, y1]
      · rw [HV.out]; exact PAns.err _ hlow
  · have HX2 := Lib.hid (show X = (setErrW f r s, [], []) by rw [HX.out]; unfold partErr2; rw [if_pos h0])
    have hb : (setErrW f r s != 0) = true := by simpa using h0
    have H0 := Lib.hid h0
    clear h0 HX HPG
    go_enter Tryz.func68, Tryz.ntmps68
    go_wp2_with fail
    refine HSF.out.mono ?_
    rintro e w1 ⟨hb1, hp1⟩
    rw [if_neg H0.out] at hp1
    obtain ⟨v, rfl, nm, bd, a1, n1, c1, a2, n2, c2, m1, m2, le, ri, rfl⟩ := hp1
    have hK1 := hK0.below hb1
    have hK2 := hK1.below ((Below.refl _ _).alloc (Nat.le_refl _) (.cells #[.string nm, .int .i64 bd, .slice a1 n1 c1, .slice a2 n2 c2, .map m1, .map m2, .int .i64 le, .int .i64 ri] 183))
    obtain ⟨y0, y1⟩ := hK2.rc
    have fz := hK2.rf
    have HV := HX2
    clear hb1 hK0 hK1 HSF
    go_wp2
    clear y0 y1
    obtain ⟨y0, y1, hlow⟩ := hK2.ret (.slice none 0 0) (.slice none 0 0)
    refine bodyPost_ret (v := .tuple #[.agg #[.slice none 0 0, .slice none 0 0], .int .i64 (setErrW f r s)]) ?_ rfl ?_
    · simp [results, Tryz.results68, go_sem, y0, y1]
    · rw [HV.out]; exact PAns.err _ hlow
end Go.Proofs.YtlkkociijfdcgaaGreatDoor

namespace Go.Proofs.YtlkkociijfdcgaaGreatDoor
open Go.RowKit Go.Maps Go.Shelf Go.Deep

theorem SetPost.uni {w : World} {o : Option (List Int)} {e : Ending} {w' : World} (h : SetPost w o e w') : Below w.heap.size w w' ∧ ∃ v, e = .returned (.tuple #[v, .bool o.isSome]) ∧ (∀ l, o = Option.some l → ∃ A k, v = .slice A l.length k ∧ IRow w' w.heap.size (.slice A l.length k) l) := by
  cases o with
  | none => exact ⟨h.none.1, _, h.none.2, fun _ e => by cases e⟩
  | some l =>
    obtain ⟨hb, A, k, e1, h2⟩ := h.some
    exact ⟨hb, _, e1, fun l' e => by cases e; exact ⟨A, k, rfl, h2⟩⟩
theorem vals_pushU (L : List Int) (k : Int) : vals (L ++ [k]) = vals L ++ [.int .i64 k] := by unfold vals; rw [List.map_append]; try rfl
theorem far_own {w : World} {base : Nat} {v : Value} {l : List Int} {q : Nat} (h : IRow w base v l) (hq : q < base) : v.ownBlock ≠ some q := fun e => by
  have := (h.lt q e).1
  omega
/-- The boxes of the call. -/
structure RTK (w : World) (f : FT) (a : Option Addr) (c : Nat) (r : RU) (s : ByteArray) (place : Int) (wr : World) : Prop where
  kn : PTK w f a c r s place wr
  b8 : wr.heap[w.heap.size + 4]? = some (.cells #[.slice none 0 0, .slice none 0 0] 105 (0, 0))
  b9 : wr.heap[w.heap.size + 5]? = some (.cells #[.slice none 0 0, .slice none 0 0] 105 (0, 0))
section
variable {w wr wr' : World} {f : FT} {a : Option Addr} {c : Nat} {r : RU} {s : ByteArray} {place : Int}
theorem RTK.below (h : RTK w f a c r s place wr) (hb : Below wr.heap.size wr wr') : RTK w f a c r s place wr' := ⟨h.kn.below hb, (hb.block _ (heap_lt h.b8)).trans h.b8, (hb.block _ (heap_lt h.b9)).trans h.b9⟩
theorem RTK.zc (h : RTK w f a c r s place wr) : wr.cell? ⟨w.heap.size + 4, 0, none⟩ = some (.slice none 0 0) ∧ wr.cell? ⟨w.heap.size + 4, 1, none⟩ = some (.slice none 0 0) := ⟨cell_of_row wr _ 0 _ _ (0, 0) h.b8, cell_of_row wr _ 1 _ _ (0, 0) h.b8⟩
theorem RTK.start : RTK w f a c r s place ((((((w.alloc (.cells #[.string f.name, .int .i64 f.body, .slice a f.sorts.length c] 59)).alloc (.cells #[.slice r.ps.a r.ps.l.length r.ps.c, .slice r.es.a r.es.l.length r.es.c, .slice r.bs.a r.bs.l.length r.bs.c, .int .i64 r.left, .int .i64 r.right] 24)).alloc (.cells #[.string s, .int .i64 place] 104)).alloc (.cells #[.slice none 0 0, .slice none 0 0] 105)).alloc (.cells #[.slice none 0 0, .slice none 0 0] 105)).alloc (.cells #[.slice none 0 0, .slice none 0 0] 105)) := by
  have h0 : PTK w f a c r s place _ := PTK.start
  obtain ⟨W, hW⟩ : ∃ W, W = ((((w.alloc (.cells #[.string f.name, .int .i64 f.body, .slice a f.sorts.length c] 59)).alloc (.cells #[.slice r.ps.a r.ps.l.length r.ps.c, .slice r.es.a r.es.l.length r.es.c, .slice r.bs.a r.bs.l.length r.bs.c, .int .i64 r.left, .int .i64 r.right] 24)).alloc (.cells #[.string s, .int .i64 place] 104)).alloc (.cells #[.slice none 0 0, .slice none 0 0] 105)) := ⟨_, rfl⟩
  have hz : W.heap.size = w.heap.size + 4 := by rw [hW]; simp
  rw [← hW] at h0 ⊢
  have t1 := heap_new W (.cells #[.slice none 0 0, .slice none 0 0] 105)
  have t2 := heap_new (W.alloc (.cells #[.slice none 0 0, .slice none 0 0] 105)) (.cells #[.slice none 0 0, .slice none 0 0] 105)
  rw [World.size_alloc, hz] at t2
  rw [hz] at t1
  exact ⟨(h0.below ((Below.refl _ _).alloc (Nat.le_refl _) _)).below ((Below.refl _ _).alloc (Nat.le_refl _) _), heap_keep t1, t2⟩
end
set_option maxRecDepth 100000 in
set_option maxHeartbeats 8000000 in
theorem refParted_any (f : FT) (a : Option Addr) (c : Nat) (r : RU) (s : ByteArray) (place : Int) (w : World) (hF : SortsAt w a f.sorts) (hR : r.at_ w) (hSm : RSmall r) (hcf : (checkF f).2 = 0) (hcr : (checkR r).2 = 0) (hwe : wordErr s = 0) :
    Calls Tryz.prog 69 #[.agg #[.string f.name, .int .i64 f.body, .slice a f.sorts.length c], .agg r.cells, .agg #[.string s, .int .i64 place]] w (PAns w (partR f r s place)) := by
  obtain ⟨hs1, hs⟩ := word_size hwe
  have hK0 : RTK w f a c r s place _ := RTK.start
  obtain ⟨W0, hW0⟩ : ∃ W0, W0 = ((((((w.alloc (.cells #[.string f.name, .int .i64 f.body, .slice a f.sorts.length c] 59)).alloc (.cells #[.slice r.ps.a r.ps.l.length r.ps.c, .slice r.es.a r.es.l.length r.es.c, .slice r.bs.a r.bs.l.length r.bs.c, .int .i64 r.left, .int .i64 r.right] 24)).alloc (.cells #[.string s, .int .i64 place] 104)).alloc (.cells #[.slice none 0 0, .slice none 0 0] 105)).alloc (.cells #[.slice none 0 0, .slice none 0 0] 105)).alloc (.cells #[.slice none 0 0, .slice none 0 0] 105)) := ⟨_, rfl⟩
  rw [← hW0] at hK0
  have HW0 := Lib.hid hW0
  have hbp := barsOf_places r s
  have hbb := bars_bounds r s
  have HHY := Lib.hid (fun W (h : Below w.heap.size w W) => show Calls Tryz.prog 64 #[.agg r.cells, .string s] W (RHPost W (ruleHyph r s)) from refHyphens_any r s W (hR.below h) hSm hcr hs)
  have HBA := Lib.hid (fun W (h : Below w.heap.size w W) => show Calls Tryz.prog 108 #[.agg r.cells, .string s] W (RHPost W (barsOf r s)) from refBars_any r s W (hR.below h) hSm hcr)
  have HHN := Lib.hid (fun W (h : Below w.heap.size w W) => refHyphen_any f a c W (hF.below h) (by have := (fount_fine hcf).1; unfold maxLen; omega))
  have HSA := Lib.hid (fun (i j : Nat) (W : World) (ba : Option Addr) (m bc : Nat) (bl : List Int) (h : Below w.heap.size w W) (hI : IntsAt W ba bl) (hb : bl.length ≤ 60 ∧ ∀ x ∈ bl, -100 ≤ x ∧ x ≤ 100) (hm : m = bl.length) (he : bl = minusL (barsOf r s) i) => show Calls Tryz.prog 107 #[.agg #[.string f.name, .int .i64 f.body, .slice a f.sorts.length c], .string (s.extract i j), .slice ba m bc] W (SetPost W (longP (wordP f none 0 r s i j))) by
    have h := refSet_any f a c (s.extract i j) ba m bc bl W ⟨hF.below h, hI, hb⟩ ⟨by show (s.extract i j).size ≤ 1000; rw [ByteArray.size_extract]; omega, (fount_fine hcf).2, (fount_fine hcf).1⟩ hm (texted hcf)
    rw [show longP ⟨f, a, c, s.extract i j, ba, bc, bl⟩ = longP (wordP f none 0 r s i j) by unfold wordP; rw [he]; exact longSet_same ..] at h
    exact h)
  have hhl := (hyph_bounds (ruleErr_of hcr hwe)).2.1
  obtain ⟨X, hX⟩ : ∃ X, X = partR f r s place := ⟨_, rfl⟩
  have HX := Lib.hid hX
  rw [← hX]
  have HHS := Lib.hid (fun f' : FT => hySI_eq f')
  unfold RU.cells at *
  have HYS := Lib.hid (show hySI f = match hyI f with | some i => (i : Int) | none => -1 from hySI_eq f)
  clear hX hW0 hF hR
  have hlF : w.heap.size < W0.heap.size := heap_lt hK0.kn.fr.fb
  have hlR : w.heap.size + 1 < W0.heap.size := heap_lt hK0.kn.fr.rb
  have hlT : w.heap.size + 2 < W0.heap.size := heap_lt hK0.kn.tb
  obtain ⟨d0, d1, d2, d3, d4⟩ := hK0.kn.fr.rc
  obtain ⟨t0, t1⟩ := hK0.kn.tc
  have hlow := hK0.kn.fr.low
  go_enter Tryz.func69, Tryz.ntmps69
  go_wp2_with fail
  rw [← HW0.out]
  by_cases hin : place ∈ ruleHyph r s
  case neg =>
    have HV := Lib.hid (show X = (26, [], []) by rw [HX.out]; unfold partR; rw [if_neg hin])
    have HCN := Lib.hid (fun A k W (hI : IntsAt W A (ruleHyph r s)) => (show Calls Tryz.prog 77 #[.slice A (ruleHyph r s).length k, .int .i64 place] W (fun e w' => e = .returned (.bool false) ∧ W = w') by
      have h := has_any A (ruleHyph r s) _ k place W hI rfl (by unfold maxLen; omega)
      rw [decide_eq_false hin] at h
      exact h))
    go_region_held3 (fun w' => w'.cell? ⟨w.heap.size + 1, 0, none⟩ = some (.slice r.ps.a r.ps.l.length r.ps.c) ∧ w'.cell? ⟨w.heap.size + 1, 1, none⟩ = some (.slice r.es.a r.es.l.length r.es.c) ∧ w'.cell? ⟨w.heap.size + 1, 2, none⟩ = some (.slice r.bs.a r.bs.l.length r.bs.c) ∧ w'.cell? ⟨w.heap.size + 1, 3, none⟩ = some (.int .i64 r.left) ∧ w'.cell? ⟨w.heap.size + 1, 4, none⟩ = some (.int .i64 r.right) ∧ w'.cell? ⟨w.heap.size + 2, 0, none⟩ = some (.string s) ∧ w'.cell? ⟨w.heap.size + 2, 1, none⟩ = some (.int .i64 place)) (go_keep)
      (first
       | (go_at_call 64; refine (HHY.out _ (by first | exact hlow | exact hlow.drew)).mono ?_; rintro e w5 ⟨⟨A5, cp5, rfl, hI5⟩, hb5d⟩; have hb5 : Below W0.heap.size W0 w5 := (Below.refl _ _).drew.trans hb5d; have k0 := (hb5.cell (p := ⟨w.heap.size + 1, 0, none⟩) hlR).trans d0; have k1 := (hb5.cell (p := ⟨w.heap.size + 1, 1, none⟩) hlR).trans d1; have k2 := (hb5.cell (p := ⟨w.heap.size + 1, 2, none⟩) hlR).trans d2; have k3 := (hb5.cell (p := ⟨w.heap.size + 1, 3, none⟩) hlR).trans d3; have k4 := (hb5.cell (p := ⟨w.heap.size + 1, 4, none⟩) hlR).trans d4; have k5 := (hb5.cell (p := ⟨w.heap.size + 2, 0, none⟩) hlT).trans t0; have k6 := (hb5.cell (p := ⟨w.heap.size + 2, 1, none⟩) hlT).trans t1)
       | (go_at_call 77; refine (HCN.out _ cp5 _ hI5).mono ?_; rintro e w6 ⟨rfl, rfl⟩))
    have hK5 := hK0.below hb5
    obtain ⟨y0, y1⟩ := hK5.kn.rc
    obtain ⟨z0, z1⟩ := hK5.zc
    have fz := hK5.kn.rf
    go_wp2
    clear y0 y1
    obtain ⟨y0, y1, hlo⟩ := hK5.kn.ret (.slice none 0 0) (.slice none 0 0)
    refine bodyPost_ret (v := .tuple #[.agg #[.slice none 0 0, .slice none 0 0], .int .i64 26]) ?_ rfl ?_
    · simp [results, Tryz.results69, go_sem, y0, y1]
    · rw [HV.out]; exact PAns.err _ hlo
  case pos =>
    have HCN := Lib.hid (fun A k W (hI : IntsAt W A (ruleHyph r s)) => (show Calls Tryz.prog 77 #[.slice A (ruleHyph r s).length k, .int .i64 place] W (fun e w' => e = .returned (.bool true) ∧ W = w') by
      have h := has_any A (ruleHyph r s) _ k place W hI rfl (by unfold maxLen; omega)
      rw [decide_eq_true hin] at h
      exact h))
    obtain ⟨p, rfl, hp1, hp2⟩ := hyph_in hcr hin
    have HX3 := Lib.hid (show X = match longP (wordP f none 0 r s 0 p), hyI f, longP (wordP f none 0 r s p s.size) with
      | some l1, some h, some l2 => (0, l1 ++ [(h : Int)], l2)
      | _, _, _ => (6, [], []) by rw [HX.out]; unfold partR; rw [if_pos hin, Int.toNat_natCast]; try rfl)
    go_region_held3 (fun w' => w'.cell? ⟨w.heap.size + 1, 0, none⟩ = some (.slice r.ps.a r.ps.l.length r.ps.c) ∧ w'.cell? ⟨w.heap.size + 1, 1, none⟩ = some (.slice r.es.a r.es.l.length r.es.c) ∧ w'.cell? ⟨w.heap.size + 1, 2, none⟩ = some (.slice r.bs.a r.bs.l.length r.bs.c) ∧ w'.cell? ⟨w.heap.size + 1, 3, none⟩ = some (.int .i64 r.left) ∧ w'.cell? ⟨w.heap.size + 1, 4, none⟩ = some (.int .i64 r.right) ∧ w'.cell? ⟨w.heap.size + 2, 0, none⟩ = some (.string s) ∧ w'.cell? ⟨w.heap.size + 2, 1, none⟩ = some (.int .i64 p)) (go_keep)
      (first
       | (go_at_call 64; refine (HHY.out _ (by first | exact hlow | exact hlow.drew)).mono ?_; rintro e w5 ⟨⟨A5, cp5, rfl, hI5⟩, hb5d⟩; have hb5 : Below W0.heap.size W0 w5 := (Below.refl _ _).drew.trans hb5d; have k0 := (hb5.cell (p := ⟨w.heap.size + 1, 0, none⟩) hlR).trans d0; have k1 := (hb5.cell (p := ⟨w.heap.size + 1, 1, none⟩) hlR).trans d1; have k2 := (hb5.cell (p := ⟨w.heap.size + 1, 2, none⟩) hlR).trans d2; have k3 := (hb5.cell (p := ⟨w.heap.size + 1, 3, none⟩) hlR).trans d3; have k4 := (hb5.cell (p := ⟨w.heap.size + 1, 4, none⟩) hlR).trans d4; have k5 := (hb5.cell (p := ⟨w.heap.size + 2, 0, none⟩) hlT).trans t0; have k6 := (hb5.cell (p := ⟨w.heap.size + 2, 1, none⟩) hlT).trans t1)
       | (go_at_call 77; refine (HCN.out _ cp5 _ hI5).mono ?_; rintro e w6 ⟨rfl, rfl⟩))
    have hK5 := hK0.below hb5
    clear d0 d1 d2 d3 d4 t0 t1 hlow hlF hlR hlT hb5d hI5 hK0 hb5 HX HHY HCN k0 k1 k2 k3 k4 k5 k6
    obtain ⟨d0, d1, d2, d3, d4⟩ := hK5.kn.fr.rc
    obtain ⟨t0, t1⟩ := hK5.kn.tc
    go_wp2_with fail
    refine (HBA.out w5 hK5.kn.fr.low).mono ?_
    rintro e w6 ⟨⟨A6, cp6, rfl, hI6⟩, hb6⟩
    have hK6 := hK5.below hb6
    clear d0 d1 d2 d3 d4 t0 t1 hK5 hb6 HBA
    obtain ⟨bl, hbl⟩ : ∃ bl, bl = barsOf r s := ⟨_, rfl⟩
    rw [← hbl] at hI6 hbb hbp HSA ⊢
    have HBL := Lib.hid hbl
    have HPM := Lib.hid (show (minusL bl p).length ≤ 60 ∧ ∀ x ∈ minusL bl p, -100 ≤ x ∧ x ≤ 100 from places_minus hbp (by omega))
    have HBB := Lib.hid hbb
    have hbl60 := hbb.1
    have hbl63 : (bl.length : Int) ≤ 60 := by omega
    have HBX := Lib.hid (fun k (hk : k < bl.length) => hbp.2 (bl.getD k 0) (by rw [List.getD_eq_getElem?_getD, List.getElem?_eq_getElem hk]; exact List.getElem_mem hk))
    clear hbl hbb hbp
    obtain ⟨i0, hi0, hz0, hz1, hz2⟩ := info_parts info3
    go_wp2_with fail
    go_loopw [11, 12] (fun v11 v12 wr => ∃ k : Nat, k ≤ bl.length ∧ v12 = .int .i64 k ∧ IRow wr w6.heap.size v11 (minusL (bl.take k) p) ∧ Below w6.heap.size w6 wr) (fun _ v12 _ => bl.length - (intOf v12).toNat)
    case atStart => exact ⟨0, Nat.zero_le _, rfl, IRow.nil _ _, Below.refl _ _⟩
    case round =>
      obtain ⟨k, hk, rfl, hrow, hB⟩ := hrel
      have hKr := hK6.below hB
      by_cases hlt : k < bl.length
      · obtain ⟨ad, e1, had, hcx⟩ := (hI6.below hB).at_ hlt
        have hadw : ad.block < w6.heap.size := by
          obtain ⟨ad', e2, h2, _⟩ := hI6.at_ hlt
          rw [e1] at e2; cases e2; exact h2
        subst e1
        have hx := HBX.out k hlt
        have hlen : (minusL (bl.take k) p).length = k := by rw [minusL_len, List.length_take]; omega
        have hstep := Lib.hid (minusL_take (d := p) hlt)
        have hkl1 : (k : Int) < (bl.length : Int) := by omega
        generalize bl.getD k 0 = x at hcx hx hstep
        have hwx : IntKind.i64.wrap (x - p) = x - p := IntWalk.i64_in _ (by omega)
        have ht1 := hKr.kn.tc.2
        have ag1 := far_own (q := (ad.add k).block) hrow (by rw [add_block]; exact hadw)
        have hlT := heap_lt hKr.kn.tb
        have hltw : w.heap.size + 2 < w6.heap.size := heap_lt hK6.kn.tb
        have ag2 := far_own (q := w.heap.size + 2) hrow hltw
        have hbw := hB.size
        have hp0 : (ad.add k).block < wr.heap.size := by rw [add_block]; omega
        have hown := hrow
        unfold IRow at hown
        rw [hlen] at hown
        have h63 : k + 1 ≤ maxLen := by unfold maxLen; omega
        have hby : (k + 1) * 8 ≤ 140737488355328 := by omega
        have HKr := Lib.hid hKr
        have HB6 := Lib.hid hB
        clear hKr hK6 hrow hlT
        go_wp2_with fail
        go_region_held3 (fun w' => w'.cell? (ad.add k) = some (.int .i64 x) ∧ w'.cell? ⟨w.heap.size + 2, 1, none⟩ = some (.int .i64 p))
          (first
            | go_keep
            | (go_split_ands
               refine ⟨?_, ?_⟩
               · (rw [hgrow.cell_far _ (by simp; omega) (Ne.symm ag1)]; assumption)
               · (rw [hgrow.cell_far _ (by simp; omega) (Ne.symm ag2)]; assumption)))
          ((refine step_append_lies _ (by rfl) _ _ _ (by rfl) w6.heap.size 3 i0 _ 1 8 Tryz.underlying63 hi0 hz0 hz1 hz2 rfl (by omega) _ k _ (by rfl) ((hown.alloc _).drew)
              ⟨wr.heap.size, 0, none⟩ 1 1 [.int .i64 (x - p)] (by rfl) (by rfl) (World.news_of_block (cs := #[.int .i64 (x - p)]) (t := 3) (fr := (0, 0)) (heap_alloc_new wr _)) (by simp [Value.oneCell'])
              (by omega) h63 hby (by simp; omega) (wr.heap.size + 1) (by simp) ?_; intro gg cap w1 hown1 hgrow hat hltg))
        have hB3 : Below w6.heap.size w6 w1 := ((HB6.out.alloc hbw _).drew).grown hgrow (by simp; omega) (fun q hq => (hown.lt q hq).1)
        have hlen2 : (minusL (bl.take (k + 1)) p).length = k + 1 := by rw [minusL_len, List.length_take]; omega
        have hrow3 : IRow w1 w6.heap.size (.slice (some ⟨gg, 0, none⟩) (k + 1) cap) (minusL (bl.take (k + 1)) p) := by unfold IRow; rw [hlen2, hstep.out, vals_pushU]; exact hown1
        go_wp2
        go_roundw
        case rel => exact ⟨k + 1, by omega, by go_num, hrow3, hB3⟩
        case measure => simp [intOf]; omega
      · have hk2 : k = bl.length := by omega
        subst hk2
        rw [List.take_of_length_le (Nat.le_refl _)] at hrow
        have hIb := hI6.below hB
        obtain ⟨A7, cp7, rfl, hI7, -, -⟩ := hrow.shape
        clear hI6 hrow hB hK6
        have hlF := heap_lt hKr.kn.fr.fb
        have hlT := heap_lt hKr.kn.tb
        obtain ⟨c0, c1, c2⟩ := hKr.kn.fr.fc
        obtain ⟨t0, t1⟩ := hKr.kn.tc
        have hlow := hKr.kn.fr.low
        have hpp : (p : Int) ≤ (s.size : Int) := by omega
        have hp0 : (0 : Int) ≤ (p : Int) := by omega
        have HS1 := Lib.hid (fun W (h : Below wr.heap.size wr W) => HSA.out 0 p W A6 bl.length cp6 bl (hlow.trans (h.mono hlow.size)) (hIb.below h) HBB.out rfl (by rw [HBL.out]; exact (minus_zero _).symm))
        have HS2 := Lib.hid (fun W (h : Below wr.heap.size wr W) => HSA.out p s.size W A7 (minusL bl p).length cp7 (minusL bl p) (hlow.trans (h.mono hlow.size)) (hI7.below h) HPM.out rfl (by rw [HBL.out]))
        have HHR := Lib.hid (fun W (h : Below wr.heap.size wr W) => HHN.out W (hlow.trans (h.mono hlow.size)))
        have hsl0 := fun W => (show (Instr.slice 9 (.string s) none (some (.int .i64 (p : Int))) none).run Tryz.prog W = .ok (.string (s.extract 0 p)) W by
          simp [Instr.slice, Instr.sliceBounds, run_underlying Tryz.underlying9, hp0, hpp, go_sem])
        have hsl1 := fun W => (show (Instr.slice 9 (.string s) (some (.int .i64 (p : Int))) none none).run Tryz.prog W = .ok (.string (s.extract p s.size)) W by
          simp [Instr.slice, Instr.sliceBounds, run_underlying Tryz.underlying9, hp0, hpp, go_sem])
        obtain ⟨oA, hoA⟩ : ∃ o, o = longP (wordP f none 0 r s 0 p) := ⟨_, rfl⟩
        obtain ⟨oB, hoB⟩ : ∃ o, o = longP (wordP f none 0 r s p s.size) := ⟨_, rfl⟩
        obtain ⟨oH, hoH⟩ : ∃ o, o = hyI f := ⟨_, rfl⟩
        have HLB := Lib.hid (fun l (h : longP (wordP f none 0 r s 0 p) = some l) => path_len (p := wordP f none 0 r s 0 p) (texted hcf) l 0 (longP_some h))
        have hz1 : (wordP f none 0 r s 0 p).t.size ≤ 30 := by show (s.extract 0 p).size ≤ 30; rw [ByteArray.size_extract]; omega
        have hsz5 := heap_lt hKr.b9
        rw [← hoA] at HX3 HS1 HLB
        rw [← hoB] at HX3 HS2
        rw [← hoH] at HX3 HYS
        clear hoA hoB hoH HSA hIb hI7 HHN
        go_wp2_with fail
        go_region_held3 (fun w' => w'.cell? ⟨w.heap.size, 0, none⟩ = some (.string f.name) ∧ w'.cell? ⟨w.heap.size, 1, none⟩ = some (.int .i64 f.body) ∧ w'.cell? ⟨w.heap.size, 2, none⟩ = some (.slice a f.sorts.length c) ∧ w'.cell? ⟨w.heap.size + 2, 0, none⟩ = some (.string s) ∧ w'.cell? ⟨w.heap.size + 2, 1, none⟩ = some (.int .i64 p)) (go_keep)
          ((go_at_call 107; refine (HS1.out _ (by first | exact Below.refl _ _ | exact (Below.refl _ _).drew)).mono ?_; intro e w8 hp8; have hu8 := hp8.uni; obtain ⟨hb8d, v8, rfl, hv8'⟩ := hu8; have hv8 := Lib.hid (show ∀ l, oA = some l → ∃ A k, v8 = .slice A l.length k ∧ IRow w8 wr.heap.size (.slice A l.length k) l from hv8'); clear hp8 hv8'; have hb8 : Below wr.heap.size wr w8 := (Below.refl _ _).drew.trans hb8d; have k0 := (hb8.cell (p := ⟨w.heap.size, 0, none⟩) hlF).trans c0; have k1 := (hb8.cell (p := ⟨w.heap.size, 1, none⟩) hlF).trans c1; have k2 := (hb8.cell (p := ⟨w.heap.size, 2, none⟩) hlF).trans c2; have k3 := (hb8.cell (p := ⟨w.heap.size + 2, 0, none⟩) hlT).trans t0; have k4 := (hb8.cell (p := ⟨w.heap.size + 2, 1, none⟩) hlT).trans t1))
        have hK8 := hKr.below hb8
        clear c0 c1 c2 t0 t1 hsl0 HS1 hlow hlF hlT k0 k1 k2 k3 k4 hb8d
        obtain ⟨c0, c1, c2⟩ := hK8.kn.fr.fc
        have HHRb := Lib.hid (HHR.out w8 hb8)
        go_wp2_with fail
        refine HHRb.out.mono ?_
        rintro e w9 ⟨rfl, hb9⟩
        have hK9 := hK8.below hb9
        have hb89 : Below wr.heap.size wr w9 := hb8.trans (hb9.mono hb8.size)
        have hz8 := hb8.size
        have hz9 := hb9.size
        clear c0 c1 c2 HHR HHRb hK8
        obtain ⟨c0, c1, c2⟩ := hK9.kn.fr.fc
        obtain ⟨t0, t1⟩ := hK9.kn.tc
        have hlF := heap_lt hK9.kn.fr.fb
        have hlT := heap_lt hK9.kn.tb
        go_wp2_with fail
        go_region_held3 (fun w' => w'.cell? ⟨w.heap.size, 0, none⟩ = some (.string f.name) ∧ w'.cell? ⟨w.heap.size, 1, none⟩ = some (.int .i64 f.body) ∧ w'.cell? ⟨w.heap.size, 2, none⟩ = some (.slice a f.sorts.length c) ∧ w'.cell? ⟨w.heap.size + 2, 0, none⟩ = some (.string s) ∧ w'.cell? ⟨w.heap.size + 2, 1, none⟩ = some (.int .i64 p)) (go_keep)
          ((go_at_call 107; refine (HS2.out _ (by first | exact hb89 | exact hb89.drew)).mono ?_; intro e w10 hp10; have hu10 := hp10.uni; obtain ⟨hb10d, v10, rfl, hv10'⟩ := hu10; have hv10 := Lib.hid (show ∀ l, oB = some l → ∃ A k, v10 = .slice A l.length k ∧ IRow w10 w9.heap.size (.slice A l.length k) l from hv10'); clear hp10 hv10'; have hb10 : Below w9.heap.size w9 w10 := (Below.refl _ _).drew.trans hb10d; have k0 := (hb10.cell (p := ⟨w.heap.size, 0, none⟩) hlF).trans c0; have k1 := (hb10.cell (p := ⟨w.heap.size, 1, none⟩) hlF).trans c1; have k2 := (hb10.cell (p := ⟨w.heap.size, 2, none⟩) hlF).trans c2; have k3 := (hb10.cell (p := ⟨w.heap.size + 2, 0, none⟩) hlT).trans t0; have k4 := (hb10.cell (p := ⟨w.heap.size + 2, 1, none⟩) hlT).trans t1))
        have hK10 := hK9.below hb10
        clear c0 c1 c2 t0 t1 hsl1 HS2 hlF hlT k0 k1 k2 k3 k4 hb10d
        obtain ⟨y0, y1⟩ := hK10.kn.rc
        obtain ⟨z0, z1⟩ := hK10.zc
        have fz := hK10.kn.rf
        cases oA with
        | none =>
          have HV := Lib.hid (show X = (6, [], []) from HX3.out)
          go_wp2
          clear y0 y1
          obtain ⟨y0, y1, hlo⟩ := hK10.kn.ret (.slice none 0 0) (.slice none 0 0)
          refine bodyPost_ret (v := .tuple #[.agg #[.slice none 0 0, .slice none 0 0], .int .i64 6]) ?_ rfl ?_
          · simp [results, Tryz.results69, go_sem, y0, y1]
          · rw [HV.out]; exact PAns.err _ hlo
        | some l1 =>
          obtain ⟨A8, k8, rfl, hI8⟩ := hv8.out l1 rfl
          cases oH with
          | none =>
            have HV := Lib.hid (show X = (6, [], []) from HX3.out)
            have hyS : hySI f = -1 := HYS.out
            rw [hyS]
            go_wp2
            clear y0 y1
            obtain ⟨y0, y1, hlo⟩ := hK10.kn.ret (.slice none 0 0) (.slice none 0 0)
            refine bodyPost_ret (v := .tuple #[.agg #[.slice none 0 0, .slice none 0 0], .int .i64 6]) ?_ rfl ?_
            · simp [results, Tryz.results69, go_sem, y0, y1]
            · rw [HV.out]; exact PAns.err _ hlo
          | some h =>
            have hyS : hySI f = (h : Int) := HYS.out
            have hh0 : ¬ ((h : Int) < 0) := by omega
            cases oB with
            | none =>
              have HV := Lib.hid (show X = (6, [], []) from HX3.out)
              rw [hyS]
              go_wp2
              clear y0 y1
              obtain ⟨y0, y1, hlo⟩ := hK10.kn.ret (.slice none 0 0) (.slice none 0 0)
              refine bodyPost_ret (v := .tuple #[.agg #[.slice none 0 0, .slice none 0 0], .int .i64 6]) ?_ rfl ?_
              · simp [results, Tryz.results69, go_sem, y0, y1]
              · rw [HV.out]; exact PAns.err _ hlo
            | some l2 =>
              obtain ⟨A10, k10, rfl, hI10⟩ := hv10.out l2 rfl
              have HV := Lib.hid (show X = (0, l1 ++ [(h : Int)], l2) from HX3.out)
              have hl1n := HLB.out l1 rfl
              have hI11 := (hI8.below hb9).below hb10
              have hz10 := hb10.size
              have hl1m : l1.length ≤ 1000000 := by omega
              have hbs : wr.heap.size ≤ w10.heap.size := by omega
              clear y0 y1 z0 z1 fz hv8 hv10
              go_wp2_with (at_builtin; refine wpList_app1 w10 _ rfl _ _ rfl wr.heap.size _ l1 rfl hI11 rfl hl1m hbs ?_; intro g14 c14 w14 hrow14 hgrow14 hb14; have rb14 := (hb14.block (w.heap.size + 3) (by omega)).trans hK10.kn.rb; have ub14 := (hb14.block (w.heap.size + 5) hsz5).trans hK10.b9; have y0 : w14.cell? ⟨w.heap.size + 3, 0, none⟩ = some (.slice none 0 0) := cell_of_row w14 _ 0 _ _ (0, 0) rb14; have y1 : w14.cell? ⟨w.heap.size + 3, 1, none⟩ = some (.slice none 0 0) := cell_of_row w14 _ 1 _ _ (0, 0) rb14; have fz : ∀ j, w14.frozen? ⟨w.heap.size + 3, j, none⟩ = false := (fun j => by simp [World.frozen?, rb14]); have u0 : w14.cell? ⟨w.heap.size + 5, 0, none⟩ = some (.slice none 0 0) := cell_of_row w14 _ 0 _ _ (0, 0) ub14; have u1 : w14.cell? ⟨w.heap.size + 5, 1, none⟩ = some (.slice none 0 0) := cell_of_row w14 _ 1 _ _ (0, 0) ub14; have uz : ∀ j, w14.frozen? ⟨w.heap.size + 5, j, none⟩ = false := (fun j => by simp [World.frozen?, ub14]))
              clear y0 y1 fz u0 u1 uz
              have hI9 := hI8.below hb9
              have hl14 : Below w.heap.size w w14 := hK10.kn.fr.low.trans (hb14.mono (by omega))
              have hI14 := irow_grown hI10 hgrow14 (fun q e1 e2 => by
                have h1 := (hI10.lt q e1).1
                have h2 := (hI9.lt q e2.symm).2
                omega)
              have g1 := ((show IRow w14 wr.heap.size (.slice (some ⟨g14, 0, none⟩) (l1.length + 1) c14) (l1 ++ [(h : Int)]) from hrow14).set (p := ⟨w.heap.size + 1 + 1 + 1 + 1 + 1, 0, none⟩) hsz5 (.slice (some ⟨g14, 0, none⟩) (l1.length + 1) c14)).set (p := ⟨w.heap.size + 1 + 1 + 1 + 1 + 1, 1, none⟩) hsz5 (.slice A10 l2.length k10)
              have g2 := (hI14.set (p := ⟨w.heap.size + 1 + 1 + 1 + 1 + 1, 0, none⟩) (show w.heap.size + 1 + 1 + 1 + 1 + 1 < w9.heap.size by omega) (.slice (some ⟨g14, 0, none⟩) (l1.length + 1) c14)).set (p := ⟨w.heap.size + 1 + 1 + 1 + 1 + 1, 1, none⟩) (show w.heap.size + 1 + 1 + 1 + 1 + 1 < w9.heap.size by omega) (.slice A10 l2.length k10)
              obtain ⟨W15, hW15⟩ : ∃ W, W = (w14.setCell ⟨w.heap.size + 1 + 1 + 1 + 1 + 1, 0, none⟩ (.slice (some ⟨g14, 0, none⟩) (l1.length + 1) c14)).setCell ⟨w.heap.size + 1 + 1 + 1 + 1 + 1, 1, none⟩ (.slice A10 l2.length k10) := ⟨_, rfl⟩
              rw [← hW15] at g1 g2 ⊢
              have rb15 : W15.heap[w.heap.size + 3]? = some (.cells #[.slice none 0 0, .slice none 0 0] 105 (0, 0)) := by
                rw [hW15]
                exact (Below.heap_setCell _ _ _ _ (by show w.heap.size + 3 ≠ w.heap.size + 1 + 1 + 1 + 1 + 1; omega)).trans ((Below.heap_setCell _ _ _ _ (by show w.heap.size + 3 ≠ w.heap.size + 1 + 1 + 1 + 1 + 1; omega)).trans rb14)
              have hl15 : Below w.heap.size w W15 := by
                rw [hW15]
                exact (hl14.setCell (p := ⟨w.heap.size + 1 + 1 + 1 + 1 + 1, 0, none⟩) (by show w.heap.size ≤ w.heap.size + 1 + 1 + 1 + 1 + 1; omega) _).setCell (p := ⟨w.heap.size + 1 + 1 + 1 + 1 + 1, 1, none⟩) (by show w.heap.size ≤ w.heap.size + 1 + 1 + 1 + 1 + 1; omega) _
              clear hW15
              obtain ⟨y0, y1, hlo⟩ := part_ret rb15 hl15 (.slice (some ⟨g14, 0, none⟩) (l1.length + 1) c14) (.slice A10 l2.length k10)
              have hj1 := (g1.set (p := ⟨w.heap.size + 1 + 1 + 1, 0, none⟩) (show w.heap.size + 1 + 1 + 1 < wr.heap.size by omega) (.slice (some ⟨g14, 0, none⟩) (l1.length + 1) c14)).set (p := ⟨w.heap.size + 1 + 1 + 1, 1, none⟩) (show w.heap.size + 1 + 1 + 1 < wr.heap.size by omega) (.slice A10 l2.length k10)
              have hj2 := (g2.set (p := ⟨w.heap.size + 1 + 1 + 1, 0, none⟩) (show w.heap.size + 1 + 1 + 1 < w9.heap.size by omega) (.slice (some ⟨g14, 0, none⟩) (l1.length + 1) c14)).set (p := ⟨w.heap.size + 1 + 1 + 1, 1, none⟩) (show w.heap.size + 1 + 1 + 1 < w9.heap.size by omega) (.slice A10 l2.length k10)
              obtain ⟨a15, c15, e15, -, hc15, -⟩ := hj1.shape
              obtain ⟨a16, c16, e16, -, hc16, -⟩ := hj2.shape
              injection e15 with _ _ e15
              injection e16 with _ _ e16
              subst e15 e16
              refine bodyPost_ret (v := .tuple #[.agg #[.slice (some ⟨g14, 0, none⟩) (l1.length + 1) c14, .slice A10 l2.length k10], .int .i64 0]) ?_ rfl ?_
              · simp [results, Tryz.results69, go_sem, y0, y1]
              · rw [HV.out]
                exact ⟨hlo, some ⟨g14, 0, none⟩, c14, A10, k10, by rw [List.length_append]; try rfl, by show IRow _ _ (.slice _ (l1 ++ [(h : Int)]).length _) _; rw [List.length_append]; exact hj1.mono (by omega), hj2.mono (by omega)⟩
end Go.Proofs.YtlkkociijfdcgaaGreatDoor
