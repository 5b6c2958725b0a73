/-
  The fount of the examples.
-/
import Derived.Test.YtomblajlpanmjaaGreatDoorW6
namespace Go.Proofs.YtomblajlpanmjaaGreatDoor
open Go.RowKit Go.Maps Go.Shelf

def faceT : List ByteArray := [⟨#[101]⟩, ⟨#[102]⟩, ⟨#[105]⟩, ⟨#[108]⟩, ⟨#[117]⟩, ⟨#[115]⟩, ⟨#[104]⟩, ⟨#[45]⟩, ⟨#[102, 102]⟩, ⟨#[102, 105]⟩, ⟨#[102, 102, 105]⟩, ⟨#[102, 108]⟩]
def faceN : ByteArray := ⟨#[102, 97, 99, 101]⟩
def faceS (i : Nat) : TS := ⟨⟨#[115]⟩ ++ decS i, faceT.getD i noTx, if 1 < (faceT.getD i noTx).size then 2 else 1, 300 + 10 * (i : Int)⟩
def faceTo (k : Nat) : List TS := (List.range k).map faceS
def midS : TS := ⟨⟨#[109, 105, 100]⟩, ⟨#[]⟩, 3, 180⟩
def faceF : FT := ⟨faceN, 12, faceTo 12 ++ [midS]⟩
theorem faceTo_succ (k : Nat) : faceTo (k + 1) = faceTo k ++ [faceS k] := by simp [faceTo, List.range_succ]
theorem sVals_push (l : List TS) (x : TS) : sVals (l ++ [x]) = sVals l ++ [.string x.name, .string x.text, .int .i64 x.kind, .int .i64 x.width] := by unfold sVals; rw [List.flatMap_append]; rfl
theorem own_low {w w' : World} {base e n size : Nat} {v : Value} {xs : List Value} (h : w.ownsRow base e size v n xs) (hb : Below w.heap.size w w') : w'.ownsRow base e size v n xs := by
  rcases h.2 with ⟨e1, e2⟩ | ⟨g, cap, cur, e1, e2, e3, e4⟩
  · exact ⟨h.1, Or.inl ⟨e1, e2⟩⟩
  · exact ⟨h.1, Or.inr ⟨g, cap, cur, e1, e2, (hb.block g (heap_lt e3)).trans e3, e4⟩⟩
structure FaceRel (w : World) (k : Nat) (wr : World) : Prop where
  loc : ∃ v, wr.heap[w.heap.size + 1]? = some (.cells #[.string faceN, .int .i64 12, v] 59 (0, 0)) ∧ wr.ownsRow w.heap.size 97 4 v k (sVals (faceTo k))
  res : wr.heap[w.heap.size]? = some (.cells #[.string ⟨#[]⟩, .int .i64 0, .slice none 0 0] 59 (0, 0))
  txt : wr.heap[w.heap.size + 2]? = some (.cells (txs faceT).toArray 9 (0, 0))
  low : Below w.heap.size w wr
def FacePost (w : World) (e : Ending) (w' : World) : Prop :=
  ∃ g cap, e = .returned (.agg #[.string faceN, .int .i64 12, .slice (some ⟨g, 0, none⟩) 13 cap]) ∧ SortsAt w' (some ⟨g, 0, none⟩) faceF.sorts ∧ 13 ≤ cap ∧ Below w.heap.size w w'

set_option maxRecDepth 100000 in
set_option maxHeartbeats 2000000 in
theorem Face_any (w : World) : Calls Tryz.prog 49 #[] w (FacePost w) := by
  obtain ⟨i0, hi0, hz0, hz1, hz2⟩ := info_parts infoTS
  have hR0 : FaceRel w 0 (((w.alloc (.cells #[.string ⟨#[]⟩, .int .i64 0, .slice none 0 0] 59)).alloc (.cells #[.string ⟨#[102, 97, 99, 101]⟩, .int .i64 12, .slice none 0 0] 59)).alloc (.cells #[.string ⟨#[101]⟩, .string ⟨#[102]⟩, .string ⟨#[105]⟩, .string ⟨#[108]⟩, .string ⟨#[117]⟩, .string ⟨#[115]⟩, .string ⟨#[104]⟩, .string ⟨#[45]⟩, .string ⟨#[102, 102]⟩, .string ⟨#[102, 105]⟩, .string ⟨#[102, 102, 105]⟩, .string ⟨#[102, 108]⟩] 9)) := by
    have hb0 := heap_new w (.cells #[.string ⟨#[]⟩, .int .i64 0, .slice none 0 0] 59)
    have hb1 := heap_new (w.alloc (.cells #[.string ⟨#[]⟩, .int .i64 0, .slice none 0 0] 59)) (.cells #[.string ⟨#[102, 97, 99, 101]⟩, .int .i64 12, .slice none 0 0] 59)
    have hb2 := heap_new ((w.alloc (.cells #[.string ⟨#[]⟩, .int .i64 0, .slice none 0 0] 59)).alloc (.cells #[.string ⟨#[102, 97, 99, 101]⟩, .int .i64 12, .slice none 0 0] 59)) (.cells #[.string ⟨#[101]⟩, .string ⟨#[102]⟩, .string ⟨#[105]⟩, .string ⟨#[108]⟩, .string ⟨#[117]⟩, .string ⟨#[115]⟩, .string ⟨#[104]⟩, .string ⟨#[45]⟩, .string ⟨#[102, 102]⟩, .string ⟨#[102, 105]⟩, .string ⟨#[102, 102, 105]⟩, .string ⟨#[102, 108]⟩] 9)
    rw [World.size_alloc] at hb1
    rw [World.size_alloc, World.size_alloc] at hb2
    exact ⟨⟨.slice none 0 0, heap_keep hb1, World.ownsRow_nil _ _ _ _⟩, heap_keep (heap_keep hb0), hb2, (((Below.refl w.heap.size w).alloc (Nat.le_refl _) _).alloc (by simp) _).alloc (by simp; omega) _⟩
  have HR0 := Lib.hid hR0
  clear hR0
  go_enter Tryz.func49, Tryz.ntmps49
  go_wp2_with fail
  go_loopw [9] (fun i wr => ∃ k : Nat, k ≤ 12 ∧ i = .int .i64 k ∧ FaceRel w k wr) (fun i _ => 12 - (intOf i).toNat)
  case atStart => exact ⟨0, Nat.zero_le _, rfl, HR0.out⟩
  case round =>
    obtain ⟨k, hk, rfl, hR⟩ := hrel
    clear HR0
    obtain ⟨v, hb, hv⟩ := hR.loc
    have hres := hR.res
    have htx := hR.txt
    have hlow := hR.low
    have hlt1 := heap_lt hb
    have hlt2 := heap_lt htx
    have hlz := hlow.size
    clear hR
    by_cases hlt : k < 12
    · have HSN := Lib.hid (faceTo_succ k)
      have hkl : (k : Int) < 12 := by omega
      have hct : wr.cell? ⟨w.heap.size + 2, k, none⟩ = some (.string (faceT.getD k noTx)) := by
        rw [cell_of_row wr _ k _ _ (0, 0) htx]
        have : (txs faceT)[k]? = some (.string (faceT.getD k noTx)) := txs_at (by show k < 12; exact hlt)
        simpa using this
      have htsz : (faceT.getD k noTx).size ≤ 3 := by
        have : ∀ j, j < 12 → (faceT.getD j noTx).size ≤ 3 := by decide
        exact this k hlt
      obtain ⟨t, ht⟩ : ∃ t, t = faceT.getD k noTx := ⟨_, rfl⟩
      have HFS := Lib.hid (show faceS k = ⟨⟨#[115]⟩ ++ decS k, t, if 1 < t.size then 2 else 1, 300 + 10 * (k : Int)⟩ by rw [ht]; rfl)
      have HDC := Lib.hid (fun W => decimal_any k (by omega) W)
      obtain ⟨nm, hnm⟩ : ∃ nm, nm = (⟨#[115]⟩ : ByteArray) ++ decS k := ⟨_, rfl⟩
      have HAD := Lib.hid (addS ⟨#[115]⟩ (decS k) (by
        have h1 := decF_len 7 k
        have h2 : (decS k).size ≤ 8 := by
          show (if k = 0 then [48] else decF 7 k).toArray.size ≤ 8
          simp only [List.size_toArray]
          split
          · simp
          · omega
        show 1 + (decS k).size ≤ _; omega))
      have hadd := HAD.out
      rw [← hnm] at hadd HFS
      rw [← ht] at hct htsz
      clear ht hnm
      obtain ⟨A, d, rfl, hkd, hAd⟩ := own_form hv
      have c2 : wr.cell? ⟨w.heap.size + 1, 2, none⟩ = some (.slice A k d) := by rw [cell_of_row wr _ 2 _ _ (0, 0) hb]; rfl
      have z2 : wr.frozen? ⟨w.heap.size + 1, 2, none⟩ = false := by simp [World.frozen?, hb]
      have a1 : (Value.slice A k d).ownBlock ≠ some (w.heap.size + 1) := own_off hv hb (by decide)
      have hw1 : IntKind.i64.wrap (10 * (k : Int)) = 10 * (k : Int) := by rw [IntKind.wrap_i64] <;> omega
      have hw2 : IntKind.i64.wrap (300 + 10 * (k : Int)) = 300 + 10 * (k : Int) := by rw [IntKind.wrap_i64] <;> omega
      have a0 := own_off hv hres (by decide)
      have a2 := own_off hv htx (by decide)
      have hlt0 := heap_lt hres
      by_cases h1 : 1 < t.size
      · have HK := Lib.hid (HFS.out.trans (by rw [if_pos h1]))
        have h1' : (1 : Int) < (t.size : Int) := by omega
        go_wp2_with fail
        go_region_law (first
          | (refine step_append_lies _ (by rfl) _ _ _ (by rfl) w.heap.size 97 i0 _ 4 48 Tryz.underlying57 hi0 hz0 hz1 hz2 rfl (by omega) _ k _ (by rfl) (hv6.alloc _)
              ⟨w6.heap.size, 0, none⟩ 1 1 [.string nm, .string t, .int .i64 2, .int .i64 (300 + 10 * (k : Int))] (by rfl) (by rfl) (World.news_of_block (cs := #[.string nm, .string t, .int .i64 2, .int .i64 (300 + 10 * (k : Int))]) (t := 97) (fr := (0, 0)) (heap_alloc_new w6 _)) (by simp [Value.oneCell'])
              (by omega) (by unfold maxLen; omega) (by omega) (by simp; omega) (w6.heap.size + 1) (by simp) ?_; intro gg cap5 w5 hown5 hgrow hat hlt5; have hb15 := (hgrow.block _ (by simp; omega) (fun e => a1 e.symm)).trans (heap_keep hb16); have x5 : w5.cell? ⟨w.heap.size + 1, 2, none⟩ = some (.slice A k d) := cell_of_row w5 _ 2 _ _ (0, 0) hb15; have z5 : w5.frozen? ⟨w.heap.size + 1, 2, none⟩ = false := (by simp [World.frozen?, hb15]))
          | (go_simp; refine (HDC.out _).mono ?_; rintro e w6 ⟨rfl, hb6⟩; have hz6 : wr.heap.size ≤ w6.heap.size := hb6.size; have hv6 := own_low hv.drew hb6; have hb16 := (hb6.block _ hlt1).trans hb; have hlt16 := heap_lt hb16; have c6 : w6.cell? ⟨w.heap.size + 1, 2, none⟩ = some (.slice A k d) := cell_of_row w6 _ 2 _ _ (0, 0) hb16))
        all_goals
          have hres5 := (hgrow.block _ (by simp; omega) (fun e => a0 e.symm)).trans (heap_keep ((hb6.block _ hlt0).trans hres))
          have htx5 := (hgrow.block _ (by simp; omega) (fun e => a2 e.symm)).trans (heap_keep ((hb6.block _ hlt2).trans htx))
          have hB5 := ((hlow.drew.trans (hb6.mono hlz)).alloc (by omega) (.cells #[.string nm, .string t, .int .i64 2, .int .i64 (300 + 10 * (k : Int))] 97)).grown hgrow (by simp; omega) (fun q hq => (hv.lt q hq).1)
          have hb7 := heap_set2 hb15 2 (.slice (some ⟨gg, 0, none⟩) (k + 1) cap5)
          have hv7 := own_put hown5 hb15 (by decide) 2 (.slice (some ⟨gg, 0, none⟩) (k + 1) cap5)
          have hR7 : FaceRel w (k + 1) (w5.setCell ⟨w.heap.size + 1, 2, none⟩ (.slice (some ⟨gg, 0, none⟩) (k + 1) cap5)) := by
            refine ⟨⟨_, hb7, ?_⟩, ?_, ?_, hB5.setCell (by show w.heap.size ≤ w.heap.size + 1; omega) _⟩
            · rw [HSN.out, HK.out, sVals_push]; exact hv7
            · rw [Below.heap_setCell _ _ _ _ (by show w.heap.size ≠ w.heap.size + 1; omega)]; exact hres5
            · rw [Below.heap_setCell _ _ _ _ (by show w.heap.size + 2 ≠ w.heap.size + 1; omega)]; exact htx5
          clear hb7 hv7 hB5 htx5 hres5 hown5 hgrow hb15 x5 z5 hat hlt5 hv6 hb16 c6 hlt16 hb6
          go_wp2
          go_roundw
          case rel => exact ⟨k + 1, by omega, by go_num, hR7⟩
          case measure => simp [intOf]; omega
      · have HK := Lib.hid (HFS.out.trans (by rw [if_neg h1]))
        have h1' : ¬ (1 : Int) < (t.size : Int) := by omega
        go_wp2_with fail
        go_region_law (first
          | (refine step_append_lies _ (by rfl) _ _ _ (by rfl) w.heap.size 97 i0 _ 4 48 Tryz.underlying57 hi0 hz0 hz1 hz2 rfl (by omega) _ k _ (by rfl) (hv6.alloc _)
              ⟨w6.heap.size, 0, none⟩ 1 1 [.string nm, .string t, .int .i64 1, .int .i64 (300 + 10 * (k : Int))] (by rfl) (by rfl) (World.news_of_block (cs := #[.string nm, .string t, .int .i64 1, .int .i64 (300 + 10 * (k : Int))]) (t := 97) (fr := (0, 0)) (heap_alloc_new w6 _)) (by simp [Value.oneCell'])
              (by omega) (by unfold maxLen; omega) (by omega) (by simp; omega) (w6.heap.size + 1) (by simp) ?_; intro gg cap5 w5 hown5 hgrow hat hlt5; have hb15 := (hgrow.block _ (by simp; omega) (fun e => a1 e.symm)).trans (heap_keep hb16); have x5 : w5.cell? ⟨w.heap.size + 1, 2, none⟩ = some (.slice A k d) := cell_of_row w5 _ 2 _ _ (0, 0) hb15; have z5 : w5.frozen? ⟨w.heap.size + 1, 2, none⟩ = false := (by simp [World.frozen?, hb15]))
          | (go_simp; refine (HDC.out _).mono ?_; rintro e w6 ⟨rfl, hb6⟩; have hz6 : wr.heap.size ≤ w6.heap.size := hb6.size; have hv6 := own_low hv.drew hb6; have hb16 := (hb6.block _ hlt1).trans hb; have hlt16 := heap_lt hb16; have c6 : w6.cell? ⟨w.heap.size + 1, 2, none⟩ = some (.slice A k d) := cell_of_row w6 _ 2 _ _ (0, 0) hb16))
        all_goals
          have hres5 := (hgrow.block _ (by simp; omega) (fun e => a0 e.symm)).trans (heap_keep ((hb6.block _ hlt0).trans hres))
          have htx5 := (hgrow.block _ (by simp; omega) (fun e => a2 e.symm)).trans (heap_keep ((hb6.block _ hlt2).trans htx))
          have hB5 := ((hlow.drew.trans (hb6.mono hlz)).alloc (by omega) (.cells #[.string nm, .string t, .int .i64 1, .int .i64 (300 + 10 * (k : Int))] 97)).grown hgrow (by simp; omega) (fun q hq => (hv.lt q hq).1)
          have hb7 := heap_set2 hb15 2 (.slice (some ⟨gg, 0, none⟩) (k + 1) cap5)
          have hv7 := own_put hown5 hb15 (by decide) 2 (.slice (some ⟨gg, 0, none⟩) (k + 1) cap5)
          have hR7 : FaceRel w (k + 1) (w5.setCell ⟨w.heap.size + 1, 2, none⟩ (.slice (some ⟨gg, 0, none⟩) (k + 1) cap5)) := by
            refine ⟨⟨_, hb7, ?_⟩, ?_, ?_, hB5.setCell (by show w.heap.size ≤ w.heap.size + 1; omega) _⟩
            · rw [HSN.out, HK.out, sVals_push]; exact hv7
            · rw [Below.heap_setCell _ _ _ _ (by show w.heap.size ≠ w.heap.size + 1; omega)]; exact hres5
            · rw [Below.heap_setCell _ _ _ _ (by show w.heap.size + 2 ≠ w.heap.size + 1; omega)]; exact htx5
          clear hb7 hv7 hB5 htx5 hres5 hown5 hgrow hb15 x5 z5 hat hlt5 hv6 hb16 c6 hlt16 hb6
          go_wp2
          go_roundw
          case rel => exact ⟨k + 1, by omega, by go_num, hR7⟩
          case measure => simp [intOf]; omega
    · obtain rfl : k = 12 := by omega
      obtain ⟨A, d, rfl, hkd, hAd⟩ := own_form hv
      have c0 : wr.cell? ⟨w.heap.size + 1, 0, none⟩ = some (.string faceN) := cell_of_row wr _ 0 _ _ (0, 0) hb
      have c1 : wr.cell? ⟨w.heap.size + 1, 1, none⟩ = some (.int .i64 12) := cell_of_row wr _ 1 _ _ (0, 0) hb
      have c2 : wr.cell? ⟨w.heap.size + 1, 2, none⟩ = some (.slice A 12 d) := cell_of_row wr _ 2 _ _ (0, 0) hb
      have a0 := own_off hv hres (by decide)
      have a1 := own_off hv hb (by decide)
      have hlt0 := heap_lt hres
      have hcap : ∀ g cap, (Value.slice (some ⟨g, 0, none⟩) 13 cap).ownBlock = some g := fun _ _ => rfl
      go_wp2_with (at_builtin; refine wpList_append_own _ rfl _ _ 57 rfl w.heap.size 97 i0 _ 4 48 Tryz.underlying57 hi0 hz0 hz1 hz2 rfl (by omega) _ 12 _ rfl (hv.alloc _) ⟨wr.heap.size, 0, none⟩ 1 1 [.string ⟨#[109, 105, 100]⟩, .string ⟨#[]⟩, .int .i64 3, .int .i64 180] rfl rfl (World.news_of_block (cs := #[.string ⟨#[109, 105, 100]⟩, .string ⟨#[]⟩, .int .i64 3, .int .i64 180]) (t := 97) (fr := (0, 0)) (heap_alloc_new wr _)) (by simp [Value.oneCell']) (by unfold maxLen; omega) (by omega) (by simp; omega) ?_; intro v5 w5 hown5 hgrow hnil; obtain ⟨gg, cap5, rfl⟩ := own_pos hown5; have hb15 := (hgrow.block _ (by simp; omega) (fun e => a1 e.symm)).trans (heap_keep hb); have hb05 := (hgrow.block _ (by simp; omega) (fun e => a0 e.symm)).trans (heap_keep hres); have d0 : w5.cell? ⟨w.heap.size + 1, 0, none⟩ = some (.string faceN) := cell_of_row w5 _ 0 _ _ (0, 0) hb15; have d1 : w5.cell? ⟨w.heap.size + 1, 1, none⟩ = some (.int .i64 12) := cell_of_row w5 _ 1 _ _ (0, 0) hb15; have d2 : w5.cell? ⟨w.heap.size + 1, 2, none⟩ = some (.slice A 12 d) := cell_of_row w5 _ 2 _ _ (0, 0) hb15; have e0 : w5.cell? ⟨w.heap.size, 0, none⟩ = some (.string ⟨#[]⟩) := cell_of_row w5 _ 0 _ _ (0, 0) hb05; have e1 : w5.cell? ⟨w.heap.size, 1, none⟩ = some (.int .i64 0) := cell_of_row w5 _ 1 _ _ (0, 0) hb05; have e2 : w5.cell? ⟨w.heap.size, 2, none⟩ = some (.slice none 0 0) := cell_of_row w5 _ 2 _ _ (0, 0) hb05; have z2 : w5.frozen? ⟨w.heap.size + 1, 2, none⟩ = false := (by simp [World.frozen?, hb15]); have y0 : w5.frozen? ⟨w.heap.size, 0, none⟩ = false := (by simp [World.frozen?, hb05]); have y1 : w5.frozen? ⟨w.heap.size, 1, none⟩ = false := (by simp [World.frozen?, hb05]); have y2 : w5.frozen? ⟨w.heap.size, 2, none⟩ = false := (by simp [World.frozen?, hb05]))
      have g1 : gg ≠ w.heap.size + 1 := fun e => own_off hown5 hb15 (by decide) (by rw [e]; rfl)
      have g0 : gg ≠ w.heap.size := fun e => own_off hown5 hb05 (by decide) (by rw [e]; rfl)
      have hso : SortsAt w5 (some ⟨gg, 0, none⟩) faceF.sorts := sorts_of_row (base := w.heap.size) (n := 13) (cap := cap5) (by show w5.ownsRow _ _ _ _ _ (sVals (faceTo 12 ++ [midS])); rw [sVals_push]; exact hown5)
      have hcp : 13 ≤ cap5 := by
        rcases hown5.2 with ⟨e, _⟩ | ⟨g, cap, cur, e, _, _, hc, _⟩
        · cases e
        · cases e; exact hc
      have hB5 := ((((((hlow.alloc (by omega) (.cells #[.string ⟨#[109, 105, 100]⟩, .string ⟨#[]⟩, .int .i64 3, .int .i64 180] 97)).grown hgrow (by simp; omega) (fun q hq => (hv.lt q hq).1)).setCell (p := ⟨w.heap.size + 1, 2, none⟩) (by show w.heap.size ≤ w.heap.size + 1; omega) (.slice (some ⟨gg, 0, none⟩) 13 cap5)).setCell (p := ⟨w.heap.size, 0, none⟩) (Nat.le_refl _) (.string faceN)).setCell (p := ⟨w.heap.size, 1, none⟩) (Nat.le_refl _) (.int .i64 12)).setCell (p := ⟨w.heap.size, 2, none⟩) (Nat.le_refl _) (.slice (some ⟨gg, 0, none⟩) 13 cap5))
      refine bodyPost_ret (v := .agg #[.string faceN, .int .i64 12, .slice (some ⟨gg, 0, none⟩) 13 cap5]) (by simp [results, Tryz.results49, go_sem, e0, e1, e2]) rfl ?_
      exact ⟨gg, cap5, rfl, (((hso.far (by show gg ≠ w.heap.size + 1; exact g1) _).far (by show gg ≠ w.heap.size; exact g0) _).far (by show gg ≠ w.heap.size; exact g0) _).far (by show gg ≠ w.heap.size; exact g0) _, hcp, hB5⟩
end Go.Proofs.YtomblajlpanmjaaGreatDoor
